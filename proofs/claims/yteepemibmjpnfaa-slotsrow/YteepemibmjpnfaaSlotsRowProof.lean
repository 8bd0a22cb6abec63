/-
  PROVED: the statement SlotsRow: for every input the law returns true, and its arguments read as they did. No condition.
-/
import Derived.Test.YteepemibmjpnfaaRows
import Derived.Test.YteepemibmjpnfaaSlotsRow
import Derived.Test.YteepemibmjpnfaaSlotsOpen
import Derived.Test.YteepemibmjpnfaaSloRung
import Derived.Test.YteepemibmjpnfaaAidStrs
import Derived.Test.YteepemibmjpnfaaSloW7
import Derived.Test.YteepemibmjpnfaaStepRow
import Derived.WalkKit
import Derived.ProofKit
import Derived.OpenShut
import Derived.ShutString
import Derived.ChangeOld
import Derived.Below
namespace Go.Proofs.Yteepemibmjpnfaa
set_option maxRecDepth 10000
open Go.ChangeShapes Go.WideShapes Go.ChangeAt Go.RowKit
open Go.ChangeMaps (open_string shut_string)

theorem slotsRow_own : ownKnob Try.prog.godebug = none := by kernel_rfl
theorem slotsRow_laidOut : laidOutB Try.prog = true := by kernel_rfl

set_option linter.unusedVariables false in
set_option maxRecDepth 100000 in
theorem slotsRow_lifted (os : Os) (started : os.Started) (H : Type) (enc : TypeId × Value → H) :
    ReturnsInHanded {} Try.checked os 6 .any (Rows.slotsRowSpec.pre6 enc Try.prog Try.f6 Rows.slotsRowRow.domain false) (Rows.slotsRowSpec.post enc Try.prog Try.f6 false true false false) := by
  refine returnsInHanded_of_change (C := Try.checked) slotsRow_own started (by kernel_rfl) Try.func6
    (ChangeSpec.witness6 (enc := enc) (C := Try.checked) false ⟨#[], #[.int .i64 0, .slice none 0 0], []⟩ 8 (by kernel_rfl) (by kernel_rfl) (by kernel_rfl) (by kernel_rfl)) ?_
  intro W base args ds gs before hval0 hW hcnd _
  have hval : ∀ (j : Nat) t v, Try.f6.params[j]? = some t → args[j]? = some v → Value.okWide Try.prog W .any base t v := hval0
  have hW' := hW
  obtain ⟨p, q, hA0, hV, rfl, hfz, hnd⟩ := hW
  have hA : DataW.TrodAll enc Try.prog W 0 (fun _ => true) true Try.f6.params.toList args.toList ds p := hA0
  rw [Try.params6] at hA hval
  obtain ⟨v0, vs0, d0, ds0, p0, q0, hargs, rfl, rfl, h0, r0⟩ := trodAll_cons hA
  obtain ⟨v1, vs1, d1, ds1, p1, q1, rfl, rfl, rfl, h1, r1⟩ := trodAll_cons r0
  obtain ⟨rfl, rfl, rfl⟩ := trodAll_nil r1
  obtain rfl : args = #[v0, v1] := by cases args; simp_all
  obtain ⟨rfl, rfl⟩ := trodVars_none hV
  obtain ⟨a0, rfl, rfl, rfl, w0⟩ := open_int Try.underlying3 (hval 0 3 v0 rfl rfl) h0
  obtain ⟨a1, len1, cap1, rfl⟩ := okWide_slice Try.underlying40 (hval 1 40 v1 rfl rfl)
  have k1 := h1
  have lt1 : ∀ x ∈ p1, x.block < W.heap.size := by obtain ⟨m, hm⟩ := k1; exact DataW.trod_lt m _ _ _ hm
  obtain ⟨z1, hlen1, w1, u1⟩ : ∃ ls : List Stp, ls.length = len1 ∧ StpsAt W W.heap.size a1 ls ∧ (ls.length ≤ maxLen ∧ ∀ f ∈ ls, f.t.size ≤ maxLen) := by
    obtain ⟨fuel, hf⟩ := h1
    obtain ⟨ls, e, h1, h2, h3, h4, h5⟩ := stps_open hf
    exact ⟨ls, e, h1, by rw [e]; exact h4, h5⟩
  subst hlen1
  clear hA0 hval0
  refine (slotsRow_walk (Lib.hid slotsK) (Lib.hid (slottedK (Lib.hid slotsK))) a0 a1 cap1 z1 W trivial w1 u1).mono fun e W' ⟨he, bel⟩ => ?_
  subst he
  exact ⟨_, rfl, _, _, _, [], _, [], hW', trodAll_mk1 (shut_bool Try.underlying4 _), (trodAll_cons_mk (shut_int Try.underlying3 w0) (trodAll_cons_mk (Below.trod slotsRow_laidOut (by kernel_rfl) (of_decide_eq_true (by kernel_rfl)) k1 bel lt1) trodAll_mk0)), rfl, bel.frame _, fun h => by cases h⟩

theorem slotsRow_holds : Rows.SlotsRowSaid :=
  OpenClaim.holds_of_wide 6 Try.f6 rfl rfl rfl rfl rfl rfl rfl ⟨rfl, rfl, rfl, rfl, rfl⟩ rfl rfl rfl rfl rfl (by kernel_rfl) Try.func6 (by kernel_rfl)
    (of_decide_eq_true (by kernel_rfl)) (by unfold Func.isWrapper; first | (rw [if_pos (by decide +kernel)]; kernel_rfl) | (rw [if_neg (by decide +kernel)]; exact ⟨rfl, rfl⟩))
    (fun os started H enc _ => slotsRow_lifted os started H enc)

#print axioms slotsRow_holds

end Go.Proofs.Yteepemibmjpnfaa
