/-
  Layer 13 (record): what the laws ask of record's functions, and of file's that they call. E is what they ask of the world (or nothing).
  Layer 13 (record): loads under a guard; two files that are the same.
  Layer 13 (record): a row of texts of one's own, beside loads under a guard.
-/
import Derived.Test.YtlnchfnmpamliaaGreatChecked
import Derived.Test.YtlnchfnmpamliaaGreatXJa
import Derived.Test.YtlnchfnmpamliaaGreatXJb
import Derived.BigQuiet
import Derived.Deep.QuietTactic
import Derived.Test.YtlnchfnmpamliaaGreatXJd
namespace Go.Proofs.YtlnchfnmpamliaaGreat
set_option maxRecDepth 10000
open Go.RowKit

/-- Of file. -/
structure FilR (E : World → Prop) : Prop where
  new : ∀ (n : Int) (w : World) (_hE : E w), Calls Tryz.prog 46 #[.int .i64 n] w fun e w' => e = .returned (.tuple #[.agg (filV (Fi.new n)), .int .i64 (Fi.newE n)]) ∧ Below w.heap.size w w'
  is : ∀ (f : Fil) (w : World) (_hE : E w) (_hs : Fi.small f), Calls Tryz.prog 47 #[.agg (filV f)] w fun e w' => e = .returned (.bool (Fi.is f)) ∧ Below w.heap.size w w'
  read : ∀ (f : Fil) (w : World) (_hE : E w) (_hs : Fi.small f), Calls Tryz.prog 50 #[.agg (filV f)] w fun e w' => e = .returned (.string (Fi.read f)) ∧ Below w.heap.size w w'
  sync : ∀ (f : Fil) (w : World) (_hE : E w) (_hs : Fi.small f), Calls Tryz.prog 36 #[.agg (filV f)] w fun e w' => e = .returned (.tuple #[.agg (filV (Fi.sync f)), .int .i64 (Fi.badE f)]) ∧ Below w.heap.size w w'
  crash : ∀ (f : Fil) (n : Int) (w : World) (_hE : E w) (_hs : Fi.small f), Calls Tryz.prog 39 #[.agg (filV f), .int .i64 n] w fun e w' => e = .returned (.tuple #[.agg (filV (Fi.crash f n)), .int .i64 (Fi.badE f)]) ∧ Below w.heap.size w w'
/-- Texts that stay where they are, as a fact. -/
def strsF13 (A : Option Addr) (B : Nat) (ss : List ByteArray) : Fact := ⟨fun W => StrsAt W B A ss ∧ B ≤ W.heap.size, fun _ _ h hB => ⟨h.1.below hB h.2, Nat.le_trans h.2 hB.size⟩⟩
end Go.Proofs.YtlnchfnmpamliaaGreat

namespace Go.Proofs.YtlnchfnmpamliaaGreat
set_option maxRecDepth 10000
open Go.RowKit

theorem run_eql_file13 (w : World) (a : Int) (b c : ByteArray) : (binOp .eql 47 (.agg #[.int .i64 a, .string b, .string c]) (.agg #[.int .i64 a, .string b, .string c])).run Tryz.prog w = .ok (.bool true) w := by
  go_simp
theorem fil_one13 (a : Int) (b c : ByteArray) : (#[.int .i64 a, .string b, .string c] : Array Value).all (·.oneCell') = true := by simp [Value.oneCell']
theorem Rc.okAll_len {n : Int} {ls : List (List UInt8)} (h : Rc.okAll n ls) : ls.length ≤ 1000000001 := by
  rcases ((Rc.okAll_iff n ls).1 h).1 with rfl | ⟨h1, h2⟩
  · exact Nat.zero_le _
  · omega
end Go.Proofs.YtlnchfnmpamliaaGreat

namespace Go.Proofs.YtlnchfnmpamliaaGreat
set_option maxRecDepth 10000
open Go.RowKit
end Go.Proofs.YtlnchfnmpamliaaGreat
