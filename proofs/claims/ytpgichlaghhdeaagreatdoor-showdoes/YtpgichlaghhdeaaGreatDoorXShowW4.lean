/-
  Layer 11 (show): first, lines.
-/
import Derived.Test.YtpgichlaghhdeaaGreatDoorXShowW3
import Derived.Test.YtpgichlaghhdeaaGreatDoorXRefShow7
namespace Go.Proofs.YtpgichlaghhdeaaGreatDoor
set_option maxRecDepth 10000
open Go.RowKit

theorem first_no (n : Int) (A : Option Addr) (l c : Nat) (hn : n < 1) (w : World) :
    Calls Tryz.prog 48 #[.int .i64 n, .slice A l c] w fun e w' => e = thr 1 ∧ w' = w := by
  have i1 : (1 ≤ n) = False := eq_false (by omega)
  have g := fun W => need_no 1 W
  clear hn
  go_enter Tryz.func48, Tryz.ntmps48
  go_wp2_with fail
  refine (g _).mono ?_
  rintro e w1 ⟨rfl, rfl⟩
  exact ⟨rfl, rfl, rfl⟩
theorem first_ok (n : Int) (A : Option Addr) (l c q : Nat) (hn : 1 ≤ n) (hq : min n (l : Int) = (q : Int)) (hc : q ≤ c) (w : World) :
    Calls Tryz.prog 48 #[.int .i64 n, .slice A l c] w fun e w' => e = .returned (.slice A q c) ∧ w' = w := by
  have i1 : (1 ≤ n) = True := eq_true hn
  have g := fun W => need_yes 1 W
  have i2 : (q : Int) ≤ (c : Int) := by omega
  have i3 : (0 : Int) ≤ (q : Int) := by omega
  clear hn
  go_enter Tryz.func48, Tryz.ntmps48
  go_wp2_with fail
  refine (g _).mono ?_
  rintro e w1 ⟨rfl, rfl⟩
  clear g i1
  go_wp2
  go_ret
  exact ⟨rfl, rfl⟩

/-- Texts in memory of their own that come back. -/
def OwnedX (w : World) (xs : List ByteArray) (e : Ending) (w' : World) : Prop := ∃ v, e = .returned v ∧ OwnX w' w.heap.size v xs ∧ Below w.heap.size w w'

set_option maxHeartbeats 4000000 in
theorem lines_any (A0 : Option Addr) (q0 c0 : Nat) (ls : List Alm) (w : World) (hA : AlmsAt w w.heap.size A0 ls) (hq : q0 = ls.length) (hl : q0 ≤ 1000) (hr : ∀ a ∈ ls, Am.right a = true) (hE : Libs w) :
    Calls Tryz.prog 47 #[.slice A0 q0 c0] w (OwnedX w (ls.map Sh.lineS)) := by
  obtain ⟨r, hrr⟩ : ∃ r, r = ls.map Sh.lineS := ⟨_, rfl⟩
  rw [← hrr]
  have Hrr := Lib.hid hrr
  have HA := Lib.hid hA
  have Hq := Lib.hid hq
  have Hl := Lib.hid hl
  have Hr := Lib.hid hr
  have HE := Lib.hid hE
  clear hrr hA hq hl hr hE
  go_enter Tryz.func47, Tryz.ntmps47
  go_wp2_with fail
  go_loopw [3, 8] (fun z i wr => ∃ (k : Nat) (out : List ByteArray), i = .int .i64 (k : Int) ∧ k ≤ q0 ∧ Hid (out = (ls.take k).map Sh.lineS) ∧ Hid (OwnX wr w.heap.size z out) ∧ Hid (Below w.heap.size w wr)) (fun _ i _ => q0 - (intOf i).toNat)
  case atStart => exact ⟨0, [], rfl, Nat.zero_le _, Lib.hid rfl, Lib.hid (OwnX.nil _ _), Lib.hid (Below.refl _ _)⟩
  case round =>
    obtain ⟨k, out, rfl, hk, Ho, HO, HB⟩ := hrel
    by_cases hlt : k < q0
    · have j2 : (k : Int) < (q0 : Int) := by omega
      have j3 : (0 : Int) ≤ (k : Int) := by omega
      have hkl : k < ls.length := by rw [← Hq.out]; exact hlt
      obtain ⟨b0', o0, hA0, hb0, h6⟩ := (HA.out.below HB.out (Nat.le_refl _)) k hkl
      subst hA0
      obtain ⟨x, hx⟩ : ∃ x, x = ls[k] := ⟨_, rfl⟩
      have Ho2 : Hid (out ++ [Sh.lineS x] = (ls.take (k + 1)).map Sh.lineS) := Lib.hid (by rw [List.take_succ_eq_append_getElem hkl, List.map_append, ← Ho.out, hx]; rfl)
      have hrx : Am.right x = true := by rw [hx]; exact Hr.out _ (List.getElem_mem hkl)
      rw [← hx] at h6
      obtain ⟨x0, x1, x2, x3, x4, x5⟩ := x
      have f0 := h6.c0
      have f1 := h6.c1
      have f2 := h6.c2
      have f3 := h6.c3
      have f4 := h6.c4
      have f5 := h6.c5
      simp only at f0 f1 f2 f3 f4 f5
      have gL := fun W h => line_ok x0 x1 x2 x3 x4 x5 hrx W h
      obtain ⟨s, hs⟩ : ∃ s, s = Sh.lineS ⟨x0, x1, x2, x3, x4, x5⟩ := ⟨_, rfl⟩
      have es : strOf (Sh.lineL ⟨x0, x1, x2, x3, x4, x5⟩) = s := by rw [hs]; unfold Sh.lineS Sh.line; rw [if_pos hrx]
      simp only [es] at gL
      rw [← hs] at Ho2
      have Ik : Hid (wrap64 ((k : Int) + 1) = (k : Int) + 1) := Lib.hid (by have := Hl.out; unfold wrap64; omega)
      have Hk := Lib.hid hlt
      have Hol : Hid (out.length + 1 ≤ 100000) := Lib.hid (by rw [Ho.out, List.length_map, List.length_take]; have := Hl.out; omega)
      have HSn := Lib.hid (((St.start wr).more libF (HE.out.below HB.out)).new #[.int .i64 x0, .int .i64 x1, .int .i64 x2, .int .i64 x3, .int .i64 x4, .int .i64 x5] 25)
      clear hkl hx hs es hlt hk h6 hb0 Ho hrx
      go_wp2_with (refine wpList_load_st rfl 25 _ rfl HSn.out 0 _ _ rfl rfl _ Tryz.underlying25 rfl (by rfl) ?_)
      refine (gL _ (HSn.out.fact 0 rfl)).mono ?_
      rintro e w5 ⟨rfl, hB⟩
      have HBr := Lib.hid (HSn.out.on hB).below
      have HO5 := Lib.hid (HO.out.below HBr.out)
      have HB5 : Hid (Below w.heap.size w w5) := Lib.hid (below2 HB.out HBr.out)
      clear hB gL f0 f1 f2 f3 f4 f5 HO HB HSn HBr
      go_wp2_with (at_builtin; refine wpList_append_strX rfl _ _ rfl w.heap.size _ out s rfl (HO5.out.below (below_new w5 (.cells #[.string s] 9))) ⟨w5.heap.size, 0, none⟩ _ rfl (StrsAt.oneX w5 s 9) (Nat.le_trans HB5.out.size (below_new w5 (.cells #[.string s] 9)).size) Hol.out ?_; intro v' w6 hown' hgrow; have HO6 := Lib.hid hown'; have HB6 : Hid (Below w.heap.size w w6) := Lib.hid ((below2 HB5.out (below_new w5 (.cells #[.string s] 9))).grown hgrow (Nat.le_trans HB5.out.size (below_new w5 (.cells #[.string s] 9)).size) (fun k hk => HO5.out.ge k hk)); clear hown' hgrow)
      go_roundw
      case rel => exact ⟨k + 1, _, by first | rfl | (rw [Ik.out]; rfl), Hk.out, Ho2, HO6, HB6⟩
      case measure => have := Hk.out; (try rw [Ik.out]); simp [intOf]; omega
    · have j1 : ((k : Int) < (q0 : Int)) = False := eq_false (by omega)
      have hkq : k = ls.length := by rw [← Hq.out]; omega
      have Ho2 : Hid (out = r) := Lib.hid (by rw [Ho.out, Hrr.out, hkq, List.take_length])
      rw [Ho2.out] at HO
      clear hk hlt hkq Ho
      go_wp2
      go_ret
      exact ⟨_, rfl, HO.out, HB.out⟩
end Go.Proofs.YtpgichlaghhdeaaGreatDoor
