/-
  PROVED: the statement ShowHeard, as its card says it: for every input the law returns true, and its arguments read as they did; the listed variables hold what the program's own text lays in them.
-/
import Derived.Test.YtpgichlaghhdeaaGreatDoorCards
import Derived.Test.YtpgichlaghhdeaaGreatDoorTie
import Derived.Test.YtpgichlaghhdeaaGreatDoorXShowHeard
import Derived.Test.YtpgichlaghhdeaaGreatDoorXShowLaid
import Derived.Test.YtpgichlaghhdeaaGreatDoorXWinOpen
import Derived.Test.YtpgichlaghhdeaaGreatDoorXJg
import Derived.Test.YtpgichlaghhdeaaGreatDoorXShowInst4
import Derived.WalkKit
import Derived.ProofKit
import Derived.OpenShut
import Derived.ShutString
import Derived.ChangeOld
import Derived.Below
import Derived.SevenTiedAt
namespace Go.Proofs.YtpgichlaghhdeaaGreatDoor
set_option maxRecDepth 10000
open Go.ChangeShapes Go.WideShapes Go.ChangeAt Go.RowKit
open Go.ChangeMaps (open_string shut_string)

theorem showHeard_own : ownKnob Tryz.prog.godebug = none := by kernel_rfl
theorem showHeard_laidOut : laidOutB Tryz.prog = true := by kernel_rfl

set_option linter.unusedVariables false in
set_option maxRecDepth 100000 in
theorem showHeard_lifted (os : Os) (started : os.Started) (H : Type) (enc : TypeId × Value → H) :
    ReturnsInHanded {} Tryz.checked os 5 .any (fun w args => (Rows.showHeardSpec.pre enc Tryz.prog Tryz.f5 [] false w args ∧ laidMetH Tryz.prog Rows.showHeardRow.laid w) ∧ sizedMet enc Tryz.prog Tryz.f5 (OpenSpec.ofChange Rows.showHeardSpec) false w args)
      (Rows.showHeardSpec.post enc Tryz.prog Tryz.f5 false true false false) := by
  refine step_shaped (X := fun w _ => laidMetH Tryz.prog Rows.showHeardRow.laid w) (fun _ _ _ hh h => h.of_heap hh) showHeard_own started (by kernel_rfl) Tryz.func5
    (ChangeSpec.witness_shaped (enc := enc) (C := Tryz.checked) (os := os) (X := fun w _ => laidMetH Tryz.prog Rows.showHeardRow.laid w) false (World.laidAll Tryz.prog os laidL) #[.agg #[.int .i64 0, .int .i64 0, .slice none 0 0], .slice none 0 0] 8 (World.laidAll_os _ _ _)
      (World.shaped_of_ZipB (by kernel_rfl) (by kernel_rfl)) (by kernel_rfl) (by kernel_rfl) (by kernel_rfl) (laid_met os _)) ?_
  intro W base args ds gs before hval0 hW hL hSh
  have hval : ∀ (j : Nat) t v, Tryz.f5.params[j]? = some t → args[j]? = some v → Value.okWide Tryz.prog W .any base t v := hval0
  have hLibs : Libs W := libs_of_laid hL hSh
  have hW' := hW
  obtain ⟨p, q, hA0, hV, rfl, hfz, hnd⟩ := hW
  have hA : DataW.TrodAll enc Tryz.prog W 0 (fun _ => true) true Tryz.f5.params.toList args.toList ds p := hA0
  rw [Tryz.params5] at hA hval
  obtain ⟨v0, vs0, d0, ds0, p0, q0, hargs, rfl, rfl, h0, r0⟩ := trodAll_cons hA
  obtain ⟨v1, vs1, d1, ds1, p1, q1, rfl, rfl, rfl, h1, r1⟩ := trodAll_cons r0
  obtain ⟨rfl, rfl, rfl⟩ := trodAll_nil r1
  obtain rfl : args = #[v0, v1] := by cases args; simp_all
  obtain ⟨rfl, rfl⟩ := trodVars_none hV
  have k0 := h0
  have lt0 : ∀ x ∈ p0, x.block < W.heap.size := by obtain ⟨m, hm⟩ := k0; exact DataW.trod_lt m _ _ _ hm
  obtain ⟨m0, n0, a0, cap0, z0, rfl, w0, u0⟩ := boardv_open (hval 0 28 v0 rfl rfl) h0
  obtain ⟨a1, len1, cap1, rfl⟩ := okWide_slice Tryz.underlying29 (hval 1 29 v1 rfl rfl)
  have k1 := h1
  have lt1 : ∀ x ∈ p1, x.block < W.heap.size := by obtain ⟨m, hm⟩ := k1; exact DataW.trod_lt m _ _ _ hm
  obtain ⟨z1, hlen1, w1, u1⟩ : ∃ ls : List Win, ls.length = len1 ∧ WinsAt W W.heap.size a1 ls ∧ Roomy a1 ls cap1 := by
    obtain ⟨fuel, hf⟩ := h1
    obtain ⟨ls, e, h1, h2, h3⟩ := wins_open hf
    exact ⟨ls, e, h1, h2, by rw [e]; exact h3⟩
  subst hlen1
  clear hA0 hval0
  refine (showHeard_walk (Lib.hid showK) (Lib.hid shownK) (Lib.hid cmpRK) (Lib.hid hasK) m0 n0 a0 cap0 z0 a1 cap1 z1 W hLibs w0 u0 w1 u1).mono fun e W' ⟨he, bel⟩ => ?_
  subst he
  exact ⟨_, rfl, _, _, _, [], _, [], hW', trodAll_mk1 (shut_bool Tryz.underlying4 _), (trodAll_cons_mk (Below.trod showHeard_laidOut (by kernel_rfl) (of_decide_eq_true (by kernel_rfl)) k0 bel lt0) (trodAll_cons_mk (Below.trod showHeard_laidOut (by kernel_rfl) (of_decide_eq_true (by kernel_rfl)) k1 bel lt1) trodAll_mk0)), rfl, bel.frame _, fun h => by cases h⟩

theorem showHeard_holds : Rows.ShowHeardSaid :=
  OpenClaim.holds_of_wide 5 Tryz.f5 rfl rfl rfl rfl rfl rfl rfl ⟨rfl, rfl, rfl, rfl, rfl⟩ rfl rfl rfl rfl rfl (by kernel_rfl) Tryz.func5 (by kernel_rfl)
    (of_decide_eq_true (by kernel_rfl)) (by unfold Func.isWrapper; first | (rw [if_pos (by decide +kernel)]; kernel_rfl) | (rw [if_neg (by decide +kernel)]; exact ⟨rfl, rfl⟩))
    (fun os started H enc _ => showHeard_lifted os started H enc)

theorem showHeard_plain (f : FuncId) (fn : Func) (hf : Tryz.pinned.checked.prog.funcNamed "watchman/watchmanlaw11.ShowHeard" = some f) (hfn : Tryz.pinned.checked.prog.funcs[f]? = some fn) :
    true = Tryz.pinned.checked.prog.looks [] ∧ ∀ (j : Nat) t, fn.params[j]? = some t → Tryz.pinned.checked.prog.wantsStandIn t = false := by
  obtain rfl : f = 5 := Option.some.inj ((show Tryz.prog.funcNamed "watchman/watchmanlaw11.ShowHeard" = some 5 by kernel_rfl).symm.trans hf) |>.symm
  obtain rfl : fn = Tryz.f5 := (Option.some.inj (Tryz.func5.symm.trans hfn)).symm
  refine ⟨by kernel_rfl, fun j t ht => ?_⟩
  rw [Tryz.params5] at ht
  have hm := Array.mem_of_getElem? ht
  simp only [List.mem_toArray, List.mem_cons, List.not_mem_nil, or_false] at hm
  have s_0 : Tryz.prog.wantsStandIn 28 = false := by kernel_rfl
  have s_1 : Tryz.prog.wantsStandIn 29 = false := by kernel_rfl
  rcases hm with rfl | rfl
  · exact s_0
  · exact s_1

theorem showHeard_card : Rows.ShowHeardCardSaid :=
  Claim7.holds_tied_plain_at .later [] _ _ _ _ showHeard_holds (fun _ h => by cases h) (by kernel_rfl) (fun _ h => by cases h) showHeard_row_tie rfl ⟨rfl, rfl⟩ (by kernel_rfl) rfl showHeard_plain (by kernel_rfl)

#print axioms showHeard_card

end Go.Proofs.YtpgichlaghhdeaaGreatDoor
