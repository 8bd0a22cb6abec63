/-
  Layer 13 (record): what the laws ask of record's functions, and of file's that they call. E is what they ask of the world (or nothing).
-/
import Derived.Test.YtlnchfnmpamliaaChecked
import Derived.Test.YtlnchfnmpamliaaXJa
namespace Go.Proofs.Ytlnchfnmpamliaa
set_option maxRecDepth 10000
open Go.RowKit

/-- Of file. -/
structure FilR (E : World → Prop) : Prop where
  new : ∀ (n : Int) (w : World) (_hE : E w), Calls Try.prog 20 #[.int .i64 n] w fun e w' => e = .returned (.tuple #[.agg (filV (Fi.new n)), .int .i64 (Fi.newE n)]) ∧ Below w.heap.size w w'
  is : ∀ (f : Fil) (w : World) (_hE : E w) (_hs : Fi.small f), Calls Try.prog 27 #[.agg (filV f)] w fun e w' => e = .returned (.bool (Fi.is f)) ∧ Below w.heap.size w w'
  read : ∀ (f : Fil) (w : World) (_hE : E w) (_hs : Fi.small f), Calls Try.prog 34 #[.agg (filV f)] w fun e w' => e = .returned (.string (Fi.read f)) ∧ Below w.heap.size w w'
  sync : ∀ (f : Fil) (w : World) (_hE : E w) (_hs : Fi.small f), Calls Try.prog 29 #[.agg (filV f)] w fun e w' => e = .returned (.tuple #[.agg (filV (Fi.sync f)), .int .i64 (Fi.badE f)]) ∧ Below w.heap.size w w'
  crash : ∀ (f : Fil) (n : Int) (w : World) (_hE : E w) (_hs : Fi.small f), Calls Try.prog 31 #[.agg (filV f), .int .i64 n] w fun e w' => e = .returned (.tuple #[.agg (filV (Fi.crash f n)), .int .i64 (Fi.badE f)]) ∧ Below w.heap.size w w'
/-- Texts that stay where they are, as a fact. -/
def strsF13 (A : Option Addr) (B : Nat) (ss : List ByteArray) : Fact := ⟨fun W => StrsAt W B A ss ∧ B ≤ W.heap.size, fun _ _ h hB => ⟨h.1.below hB h.2, Nat.le_trans h.2 hB.size⟩⟩
end Go.Proofs.Ytlnchfnmpamliaa
