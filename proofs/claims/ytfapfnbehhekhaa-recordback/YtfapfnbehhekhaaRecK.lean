/-
  Layer 13 (record): what the laws ask of record's functions, and of file's that they call. E is what they ask of the world (or nothing).
-/
import Derived.Test.YtfapfnbehhekhaaChecked
import Derived.Test.YtfapfnbehhekhaaRecFi
import Derived.Test.YtfapfnbehhekhaaState
namespace Go.Proofs.Ytfapfnbehhekhaa
set_option maxRecDepth 10000
open Go.RowKit

/-- Of file. -/
structure FilR (E : World → Prop) : Prop where
  new : ∀ (n : Int) (w : World) (_hE : E w), Calls Try.prog 22 #[.int .i64 n] w fun e w' => e = .returned (.tuple #[.agg (filV (Fi.new n)), .int .i64 (Fi.newE n)]) ∧ Below w.heap.size w w'
  is : ∀ (f : Fil) (w : World) (_hE : E w) (_hs : Fi.small f), Calls Try.prog 26 #[.agg (filV f)] w fun e w' => e = .returned (.bool (Fi.is f)) ∧ Below w.heap.size w w'
  read : ∀ (f : Fil) (w : World) (_hE : E w) (_hs : Fi.small f), Calls Try.prog 23 #[.agg (filV f)] w fun e w' => e = .returned (.string (Fi.read f)) ∧ Below w.heap.size w w'
  sync : ∀ (f : Fil) (w : World) (_hE : E w) (_hs : Fi.small f), Calls Try.prog 24 #[.agg (filV f)] w fun e w' => e = .returned (.tuple #[.agg (filV (Fi.sync f)), .int .i64 (Fi.badE f)]) ∧ Below w.heap.size w w'
  crash : ∀ (f : Fil) (n : Int) (w : World) (_hE : E w) (_hs : Fi.small f), Calls Try.prog 25 #[.agg (filV f), .int .i64 n] w fun e w' => e = .returned (.tuple #[.agg (filV (Fi.crash f n)), .int .i64 (Fi.badE f)]) ∧ Below w.heap.size w w'
/-- Of record. -/
structure RecK (E : World → Prop) : Prop where
  mono : ∀ (w w' : World), E w → Below w.heap.size w w' → E w'
  put : ∀ (n : Int) (s : ByteArray) (w : World) (_hE : E w) (_hs : s.size ≤ 18000), Calls Try.prog 10 #[.int .i64 n, .string s] w fun e w' => e = .returned (.tuple #[.string (strOf (Rc.putS n (bl s))), .int .i64 (Rc.putE n (bl s))]) ∧ Below w.heap.size w w'
  scan : ∀ (s : ByteArray) (n : Int) (w : World) (_hE : E w) (_hs : s.size ≤ 18000), Calls Try.prog 12 #[.string s, .int .i64 n] w fun e w' => ∃ A c, e = .returned (.tuple #[.slice A (Rc.scan (bl s) n).1.length c, .int .i64 ((Rc.scan (bl s) n).2 : Nat)]) ∧ StrsAt w' w'.heap.size A ((Rc.scan (bl s) n).1.map strOf) ∧ (Rc.scan (bl s) n).1.length ≤ c ∧ Below w.heap.size w w'
  add : ∀ (f : Fil) (n : Int) (A : Option Addr) (l c : Nat) (ss : List ByteArray) (w : World) (_hE : E w) (_hs : Fi.small f) (_hA : StrsAt w w.heap.size A ss) (_hl : l = ss.length) (_hl2 : l ≤ 1000) (_hc : l ≤ c) (_hz : ∀ s ∈ ss, s.size ≤ 9000), Calls Try.prog 14 #[.agg (filV f), .int .i64 n, .slice A l c] w fun e w' => e = .returned (.tuple #[.agg (filV (Rc.add f n ss)), .int .i64 (Rc.addE f n ss)]) ∧ Below w.heap.size w w'
  read : ∀ (f : Fil) (n : Int) (w : World) (_hE : E w) (_hs : Fi.small f), Calls Try.prog 16 #[.agg (filV f), .int .i64 n] w fun e w' => ∃ A c, e = .returned (.tuple #[.slice A (Rc.texts f n).length c, .int .i64 (Fi.badE f)]) ∧ StrsAt w' w'.heap.size A (Rc.texts f n) ∧ (Rc.texts f n).length ≤ c ∧ Below w.heap.size w w'
  mend : ∀ (f : Fil) (n : Int) (w : World) (_hE : E w) (_hs : Fi.small f), Calls Try.prog 18 #[.agg (filV f), .int .i64 n] w fun e w' => e = .returned (.tuple #[.agg (filV (Rc.mend f n)), .int .i64 ((Rc.texts f n).length : Nat), .int .i64 (Fi.badE f)]) ∧ Below w.heap.size w w'
/-- The document's rows. -/
def RecordedK (E : World → Prop) : Prop := ∀ (w : World) (_hE : E w), Calls Try.prog 20 #[] w fun e w' => e = .returned (.bool true) ∧ Below w.heap.size w w'
/-- Texts that stay where they are, as a fact. -/
def strsF13 (A : Option Addr) (B : Nat) (ss : List ByteArray) : Fact := ⟨fun W => StrsAt W B A ss ∧ B ≤ W.heap.size, fun _ _ h hB => ⟨h.1.below hB h.2, Nat.le_trans h.2 hB.size⟩⟩
/-- What is asked of the world, as a fact. -/
def eRc {E : World → Prop} (HS : Hid (RecK E)) : Fact := ⟨E, fun w w' h hb => HS.out.mono w w' h hb⟩
end Go.Proofs.Ytfapfnbehhekhaa
