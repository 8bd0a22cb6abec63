/-
  Layer 9 (due), the reference: Own of turns.
-/
import Derived.Test.YtplpadblhjdpcaaGreatXRefDue1s
import Derived.BigQuiet
import Derived.Deep.QuietTactic
namespace Go.Proofs.YtplpadblhjdpcaaGreat
set_option maxRecDepth 10000
open Go.RowKit

set_option maxHeartbeats 400000 in
theorem RTOwn_any (A : Option Addr) (l cap : Nat) (ls : List Trn) (w : World) (hl : l = ls.length) (hA : TrnsAt w w.heap.size A ls) (hnil : A = none → cap = 0) (hf : l ≤ 1000) :
    Calls Tryz.prog 6 #[.slice A l cap] w (OwnedT w l ls) := by
  have HA := Lib.hid hA
  have Hn := Lib.hid hnil
  have Hl := Lib.hid hf
  have Hm := Lib.hid hl
  have HB := Lib.hid (Below.refl w.heap.size w)
  clear hA hnil hl hf
  go_enter Tryz.func6, Tryz.ntmps6
  go_wp2_with (at_builtin; refine wpList_append_trns rfl _ _ 27 rfl Tryz.underlying27 w.heap.size (.slice none 0 0) [] ls rfl (OwnT.nil _ _) A l cap rfl Hm.out HA.out Hn.out (Nat.le_refl _) (by have := Hl.out; have := Hm.out; simp only [List.length_nil]; omega) ?_; intro v' w1 hown' hgrow; rw [List.nil_append] at hown'; have O1 := Lib.hid hown'; have HB1 := Lib.hid (HB.out.grown hgrow (Nat.le_refl _) (fun _ e => nomatch e)); clear hown' hgrow)
  go_ret
  obtain ⟨A2, c2, rfl, _, _, _⟩ := O1.out.slice
  exact ⟨A2, c2, by rw [Hm.out]; rfl, by rw [Hm.out]; exact O1.out, HB1.out⟩
end Go.Proofs.YtplpadblhjdpcaaGreat
