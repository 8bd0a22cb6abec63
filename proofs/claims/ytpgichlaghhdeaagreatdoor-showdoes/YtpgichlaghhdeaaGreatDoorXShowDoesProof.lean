/-
  PROVED: the statement ShowDoes, as its card says it: for every input the law returns true, and its arguments read as they did; the listed variables hold what the program's own text lays in them.
-/
import Derived.Test.YtpgichlaghhdeaaGreatDoorCards
import Derived.Test.YtpgichlaghhdeaaGreatDoorTie
import Derived.Test.YtpgichlaghhdeaaGreatDoorXShowDoes
import Derived.Test.YtpgichlaghhdeaaGreatDoorXShowLaid
import Derived.Test.YtpgichlaghhdeaaGreatDoorXWinOpen
import Derived.Test.YtpgichlaghhdeaaGreatDoorXJg
import Derived.Test.YtpgichlaghhdeaaGreatDoorXShowInst5
import Derived.WalkKit
import Derived.ProofKit
import Derived.OpenShut
import Derived.ShutString
import Derived.ChangeOld
import Derived.Below
import Derived.SevenTiedAt
namespace Go.Proofs.YtpgichlaghhdeaaGreatDoor
set_option maxRecDepth 10000
open Go.ChangeShapes Go.WideShapes Go.ChangeAt Go.RowKit
open Go.ChangeMaps (open_string shut_string)

theorem showDoes_own : ownKnob Tryz.prog.godebug = none := by kernel_rfl
theorem showDoes_laidOut : laidOutB Tryz.prog = true := by kernel_rfl

set_option linter.unusedVariables false in
set_option maxRecDepth 100000 in
theorem showDoes_lifted (os : Os) (started : os.Started) (H : Type) (enc : TypeId × Value → H) :
    ReturnsInHanded {} Tryz.checked os 3 .any (fun w args => (Rows.showDoesSpec.pre enc Tryz.prog Tryz.f3 [] false w args ∧ laidMetH Tryz.prog Rows.showDoesRow.laid w) ∧ sizedMet enc Tryz.prog Tryz.f3 (OpenSpec.ofChange Rows.showDoesSpec) false w args)
      (Rows.showDoesSpec.post enc Tryz.prog Tryz.f3 false true false false) := by
  refine step_shaped (X := fun w _ => laidMetH Tryz.prog Rows.showDoesRow.laid w) (fun _ _ _ hh h => h.of_heap hh) showDoes_own started (by kernel_rfl) Tryz.func3
    (ChangeSpec.witness_shaped (enc := enc) (C := Tryz.checked) (os := os) (X := fun w _ => laidMetH Tryz.prog Rows.showDoesRow.laid w) false (World.laidAll Tryz.prog os laidL) #[.agg #[.int .i64 0, .int .i64 0, .int .i64 0, .int .i64 0, .int .i64 0, .int .i64 0], .string ByteArray.empty, .agg #[.int .i64 0, .int .i64 0, .slice none 0 0], .slice none 0 0, .int .i64 0] 8 (World.laidAll_os _ _ _)
      (World.shaped_of_ZipB (by kernel_rfl) (by kernel_rfl)) (by kernel_rfl) (by kernel_rfl) (by kernel_rfl) (laid_met os _)) ?_
  intro W base args ds gs before hval0 hW hL hSh
  have hval : ∀ (j : Nat) t v, Tryz.f3.params[j]? = some t → args[j]? = some v → Value.okWide Tryz.prog W .any base t v := hval0
  have hLibs : Libs W := libs_of_laid hL hSh
  have hW' := hW
  obtain ⟨p, q, hA0, hV, rfl, hfz, hnd⟩ := hW
  have hA : DataW.TrodAll enc Tryz.prog W 0 (fun _ => true) true Tryz.f3.params.toList args.toList ds p := hA0
  rw [Tryz.params3] at hA hval
  obtain ⟨v0, vs0, d0, ds0, p0, q0, hargs, rfl, rfl, h0, r0⟩ := trodAll_cons hA
  obtain ⟨v1, vs1, d1, ds1, p1, q1, rfl, rfl, rfl, h1, r1⟩ := trodAll_cons r0
  obtain ⟨v2, vs2, d2, ds2, p2, q2, rfl, rfl, rfl, h2, r2⟩ := trodAll_cons r1
  obtain ⟨v3, vs3, d3, ds3, p3, q3, rfl, rfl, rfl, h3, r3⟩ := trodAll_cons r2
  obtain ⟨v4, vs4, d4, ds4, p4, q4, rfl, rfl, rfl, h4, r4⟩ := trodAll_cons r3
  obtain ⟨rfl, rfl, rfl⟩ := trodAll_nil r4
  obtain rfl : args = #[v0, v1, v2, v3, v4] := by cases args; simp_all
  obtain ⟨rfl, rfl⟩ := trodVars_none hV
  have k0 := h0
  have lt0 : ∀ x ∈ p0, x.block < W.heap.size := by obtain ⟨m, hm⟩ := k0; exact DataW.trod_lt m _ _ _ hm
  obtain ⟨b0, c0, ph0, pr0, si0, un0, rfl, w0⟩ := alarmv_open (hval 0 25 v0 rfl rfl) h0
  obtain ⟨a1, rfl, rfl, rfl, w1⟩ := open_string Tryz.underlying9 (hval 1 9 v1 rfl rfl) h1
  have k2 := h2
  have lt2 : ∀ x ∈ p2, x.block < W.heap.size := by obtain ⟨m, hm⟩ := k2; exact DataW.trod_lt m _ _ _ hm
  obtain ⟨m2, n2, a2, cap2, z2, rfl, w2, u2⟩ := boardv_open (hval 2 28 v2 rfl rfl) h2
  obtain ⟨a3, len3, cap3, rfl⟩ := okWide_slice Tryz.underlying29 (hval 3 29 v3 rfl rfl)
  have k3 := h3
  have lt3 : ∀ x ∈ p3, x.block < W.heap.size := by obtain ⟨m, hm⟩ := k3; exact DataW.trod_lt m _ _ _ hm
  obtain ⟨z3, hlen3, w3, u3⟩ : ∃ ls : List Win, ls.length = len3 ∧ WinsAt W W.heap.size a3 ls ∧ Roomy a3 ls cap3 := by
    obtain ⟨fuel, hf⟩ := h3
    obtain ⟨ls, e, h1, h2, h3⟩ := wins_open hf
    exact ⟨ls, e, h1, h2, by rw [e]; exact h3⟩
  subst hlen3
  obtain ⟨a4, rfl, rfl, rfl, w4⟩ := open_int Tryz.underlying3 (hval 4 3 v4 rfl rfl) h4
  clear hA0 hval0
  refine (showDoes_walk (Lib.hid showK) (Lib.hid shownK) (Lib.hid bownK) (Lib.hid refPK) (Lib.hid refHK) (Lib.hid xsameK) (Lib.hid asameK) (Lib.hid isameK) (Lib.hid rbSame) b0 c0 ph0 pr0 si0 un0 a1 m2 n2 a2 cap2 z2 a3 cap3 z3 a4 W hLibs w2 u2 w3 u3).mono fun e W' ⟨he, bel⟩ => ?_
  subst he
  exact ⟨_, rfl, _, _, _, [], _, [], hW', trodAll_mk1 (shut_bool Tryz.underlying4 _), (trodAll_cons_mk (Below.trod showDoes_laidOut (by kernel_rfl) (of_decide_eq_true (by kernel_rfl)) k0 bel lt0) (trodAll_cons_mk (shut_string Tryz.underlying9 w1) (trodAll_cons_mk (Below.trod showDoes_laidOut (by kernel_rfl) (of_decide_eq_true (by kernel_rfl)) k2 bel lt2) (trodAll_cons_mk (Below.trod showDoes_laidOut (by kernel_rfl) (of_decide_eq_true (by kernel_rfl)) k3 bel lt3) (trodAll_cons_mk (shut_int Tryz.underlying3 w4) trodAll_mk0))))), rfl, bel.frame _, fun h => by cases h⟩

theorem showDoes_holds : Rows.ShowDoesSaid :=
  OpenClaim.holds_of_wide 3 Tryz.f3 rfl rfl rfl rfl rfl rfl rfl ⟨rfl, rfl, rfl, rfl, rfl⟩ rfl rfl rfl rfl rfl (by kernel_rfl) Tryz.func3 (by kernel_rfl)
    (of_decide_eq_true (by kernel_rfl)) (by unfold Func.isWrapper; first | (rw [if_pos (by decide +kernel)]; kernel_rfl) | (rw [if_neg (by decide +kernel)]; exact ⟨rfl, rfl⟩))
    (fun os started H enc _ => showDoes_lifted os started H enc)

theorem showDoes_plain (f : FuncId) (fn : Func) (hf : Tryz.pinned.checked.prog.funcNamed "watchman/watchmanlaw11.ShowDoes" = some f) (hfn : Tryz.pinned.checked.prog.funcs[f]? = some fn) :
    true = Tryz.pinned.checked.prog.looks [] ∧ ∀ (j : Nat) t, fn.params[j]? = some t → Tryz.pinned.checked.prog.wantsStandIn t = false := by
  obtain rfl : f = 3 := Option.some.inj ((show Tryz.prog.funcNamed "watchman/watchmanlaw11.ShowDoes" = some 3 by kernel_rfl).symm.trans hf) |>.symm
  obtain rfl : fn = Tryz.f3 := (Option.some.inj (Tryz.func3.symm.trans hfn)).symm
  refine ⟨by kernel_rfl, fun j t ht => ?_⟩
  rw [Tryz.params3] at ht
  have hm := Array.mem_of_getElem? ht
  simp only [List.mem_toArray, List.mem_cons, List.not_mem_nil, or_false] at hm
  have s_0 : Tryz.prog.wantsStandIn 25 = false := by kernel_rfl
  have s_1 : Tryz.prog.wantsStandIn 9 = false := by kernel_rfl
  have s_2 : Tryz.prog.wantsStandIn 28 = false := by kernel_rfl
  have s_3 : Tryz.prog.wantsStandIn 29 = false := by kernel_rfl
  have s_4 : Tryz.prog.wantsStandIn 3 = false := by kernel_rfl
  rcases hm with rfl | rfl | rfl | rfl | rfl
  · exact s_0
  · exact s_1
  · exact s_2
  · exact s_3
  · exact s_4

theorem showDoes_card : Rows.ShowDoesCardSaid :=
  Claim7.holds_tied_plain_at .later [] _ _ _ _ showDoes_holds (fun _ h => by cases h) (by kernel_rfl) (fun _ h => by cases h) showDoes_row_tie rfl ⟨rfl, rfl⟩ (by kernel_rfl) rfl showDoes_plain (by kernel_rfl)

#print axioms showDoes_card

end Go.Proofs.YtpgichlaghhdeaaGreatDoor
