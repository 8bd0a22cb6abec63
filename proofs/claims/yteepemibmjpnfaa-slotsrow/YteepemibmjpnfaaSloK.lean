/-
  Layer 15 (slots): what the laws ask of slots' functions. E is what they ask of the world (or nothing).
-/
import Derived.Test.YteepemibmjpnfaaChecked
import Derived.Test.YteepemibmjpnfaaSloM2
import Derived.Test.YteepemibmjpnfaaState
import Derived.BigQuiet
import Derived.Deep.QuietTactic
namespace Go.Proofs.Yteepemibmjpnfaa
set_option maxRecDepth 10000
open Go.RowKit

/-- As much as is looked at. -/
def Sl.small (s : Slo) : Prop := Fi.small s.a ∧ Fi.small s.b
structure SlotsK (E : World → Prop) : Prop where
  mono : ∀ (w w' : World), E w → Below w.heap.size w w' → E w'
  new : ∀ (n : Int) (w : World) (_hE : E w), Calls Try.prog 17 #[.int .i64 n] w fun e w' => e = .returned (.tuple #[.agg (Sl.v (Sl.newS n)), .int .i64 (Fi.newE n)]) ∧ Below w.heap.size w w'
  load : ∀ (s : Slo) (w : World) (_hE : E w) (_hs : Sl.small s), Calls Try.prog 9 #[.agg (Sl.v s)] w fun e w' => e = .returned (.tuple #[.string (strOf (Sl.loadT s)), .int .i64 (Sl.loadN s), .int .i64 (Sl.badE s)]) ∧ Below w.heap.size w w'
  save : ∀ (s : Slo) (t : ByteArray) (d : Int) (w : World) (_hE : E w) (_hs : Sl.small s) (_ht : t.size ≤ 9000), Calls Try.prog 11 #[.agg (Sl.v s), .string t, .int .i64 d] w fun e w' => e = .returned (.tuple #[.agg (Sl.v (Sl.save s (bl t) d)), .bool (Sl.done s (bl t) d), .int .i64 (Sl.saveE s (bl t))]) ∧ Below w.heap.size w w'
  crash : ∀ (s : Slo) (n : Int) (w : World) (_hE : E w) (_hs : Sl.small s), Calls Try.prog 13 #[.agg (Sl.v s), .int .i64 n] w fun e w' => e = .returned (.tuple #[.agg (Sl.v (Sl.crash s n)), .int .i64 (Sl.badE s)]) ∧ Below w.heap.size w w'
  better : ∀ (a b : ByteArray) (w : World) (_hE : E w) (_ha : a.size ≤ 9000) (_hb : b.size ≤ 9000), Calls Try.prog 15 #[.string a, .string b] w fun e w' => e = .returned (.tuple #[.string (strOf (Sl.better (bl a) (bl b)).1), .int .i64 (Sl.better (bl a) (bl b)).2.1, .int .i64 (Sl.better (bl a) (bl b)).2.2]) ∧ Below w.heap.size w w'
/-- The document's rows. -/
def SlottedK (E : World → Prop) : Prop := ∀ (w : World) (_hE : E w), Calls Try.prog 19 #[] w fun e w' => e = .returned (.bool true) ∧ Below w.heap.size w w'
def eSl {E : World → Prop} (HS : Hid (SlotsK E)) : Fact := ⟨E, fun w w' h hb => HS.out.mono w w' h hb⟩
theorem sl_one15 (a d : Int) (b c e f : ByteArray) : (#[.int .i64 a, .string b, .string c, .int .i64 d, .string e, .string f] : Array Value).all (·.oneCell') = true := by simp [Value.oneCell']
namespace Sl
theorem is_small {s : Slo} (h : is s = true) : small s := ⟨Rc.is_small9 (is_iff.1 h).1, Rc.is_small9 (is_iff.1 h).2.1⟩
theorem no_small : small no := ⟨⟨Nat.zero_le _, Nat.zero_le _⟩, ⟨Nat.zero_le _, Nat.zero_le _⟩⟩
end Sl
end Go.Proofs.Yteepemibmjpnfaa
