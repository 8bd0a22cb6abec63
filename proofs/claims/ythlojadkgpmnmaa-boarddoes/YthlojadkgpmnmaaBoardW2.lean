/-
  Layer 8 (board): the walks of rise and right.
-/
import Derived.Test.YthlojadkgpmnmaaBoardW1
import Derived.Test.YthlojadkgpmnmaaSpotLess
import Derived.Deep.RegionHeld3
namespace Go.Proofs.Ythlojadkgpmnmaa
open Go.RowKit

theorem Bd.rise_step {ls : List Alm} {j : Nat} (h : j + 1 < ls.length) : Bd.rising (ls.drop j) = (Bd.lessA (ls[j]'(by omega)) (ls[j + 1]'h) && Bd.rising (ls.drop (j + 1))) := by
  rw [List.drop_eq_getElem_cons (by omega : j < ls.length), List.drop_eq_getElem_cons h]
  rfl
theorem Bd.rise_end {ls : List Alm} {j : Nat} (h : ls.length ≤ j + 1) : Bd.rising (ls.drop j) = true := by
  have h1 : (ls.drop j).length ≤ 1 := by rw [List.length_drop]; omega
  rcases hd : ls.drop j with _ | ⟨x, _ | ⟨y, l⟩⟩
  · rfl
  · rfl
  · rw [hd] at h1; simp at h1
theorem Bd.all_step {n : Int} {ls : List Alm} {k : Nat} (h : k < ls.length) : (ls.drop k).all (Bd.may n) = (Bd.may n ls[k] && (ls.drop (k + 1)).all (Bd.may n)) := by
  rw [List.drop_eq_getElem_cons h]; rfl

set_option maxRecDepth 10000 in
set_option maxHeartbeats 2000000 in
theorem rise_any (A : Option Addr) (l c : Nat) (ls : List Alm) (w : World) (h : Told w A l c ls) :
    Calls Try.prog 49 #[.slice A l c] w fun e w' => e = .returned (.bool (Bd.rising ls)) ∧ Below w.heap.size w w' := by
  obtain ⟨hl, hA, _, hf⟩ := h
  have Hl := Lib.hid hl
  have Hf := Lib.hid hf
  have HA0 := Lib.hid hA
  obtain ⟨r, hr⟩ : ∃ r, r = Bd.rising ls := ⟨_, rfl⟩
  have Hr := Lib.hid hr
  rw [← hr]
  clear hl hf hA hr
  go_enter Try.func49, Try.ntmps49
  go_wp2_with fail
  go_loopw [3] (fun i wr => ∃ j : Nat, i = .int .i64 ((j : Int) + 1) ∧ Hid (Bd.rising (ls.drop j) = r) ∧ Hid (Below w.heap.size w wr)) (fun i _ => l - (intOf i).toNat)
  case atStart => exact ⟨0, rfl, Lib.hid (by rw [Hr.out]; rfl), Lib.hid (Below.refl _ _)⟩
  case round =>
    obtain ⟨j, rfl, Hg, HB⟩ := hrel
    by_cases hlt : j + 1 < l
    · have kl : j + 1 < ls.length := by rw [← Hl.out]; exact hlt
      have HA := Lib.hid (HA0.out.on HB.out)
      obtain ⟨b0, o0, rfl, hb0, h6⟩ := HA.out j (by omega)
      obtain ⟨b1, o1, e1, hb1, h7⟩ := HA.out (j + 1) kl
      cases e1
      have Hs := Lib.hid (Bd.rise_step kl)
      obtain ⟨x, hx⟩ : ∃ x, x = ls[j]'(by omega) := ⟨_, rfl⟩
      obtain ⟨y, hy⟩ : ∃ y, y = ls[j + 1]'kl := ⟨_, rfl⟩
      rw [← hx] at h6 Hs
      rw [← hy] at h7 Hs
      clear hx hy
      obtain ⟨x0, x1, x2, x3, x4, x5⟩ := x
      obtain ⟨y0, y1, y2, y3, y4, y5⟩ := y
      have d0 := h6.c0
      have d1 := h6.c1
      have f0 := h7.c0
      have f1 := h7.c1
      simp only at d0 d1 f0 f1
      have i1 : (j : Int) + 1 < (l : Int) := by omega
      have i2 : (j : Int) < (l : Int) := by omega
      have i3 : (0 : Int) ≤ (j : Int) := by omega
      have i4 : (0 : Int) ≤ (j : Int) + 1 := by omega
      have i5 : ((j : Int) + 1).toNat = j + 1 := by omega
      have i6 : wrap64 ((j : Int) + 1 - 1) = (j : Int) := by have := Hf.out; unfold wrap64; omega
      have i7 : IntKind.i64.wrap ((j : Int) + 1 - 1) = (j : Int) := by have := Hf.out; rw [IntKind.wrap_i64]; omega
      have i8 : wrap64 (j : Int) = (j : Int) := by have := Hf.out; clear i6 i7; unfold wrap64; omega
      have i9 : IntKind.i64.wrap (j : Int) = (j : Int) := by have := Hf.out; clear i6 i7 i8; rw [IntKind.wrap_i64]; omega
      have Ik : Hid (wrap64 ((j : Int) + 1 + 1) = (j : Int) + 1 + 1) := Lib.hid (by have := Hf.out; clear i6 i7 i8 i9; unfold wrap64; omega)
      have Hk := Lib.hid hlt
      have g := fun W => Less_any x0 x1 y0 y1 W
      obtain ⟨z, hz⟩ : ∃ z, z = Sp.less x0 x1 y0 y1 := ⟨_, rfl⟩
      simp only [← hz] at g
      have Ha : Hid (Bd.lessA ⟨x0, x1, x2, x3, x4, x5⟩ ⟨y0, y1, y2, y3, y4, y5⟩ = z) := Lib.hid (by rw [hz]; rfl)
      clear h6 h7 kl hlt hz hb1
      cases z
      · have He : Hid (r = false) := Lib.hid (by rw [← Hg.out, Hs.out, Ha.out]; rfl)
        clear Hs Hg Ha
        go_wp2_with fail
        go_region_held3 (fun W => W.cell? ⟨b0, o0 + j * 6, none⟩ = some (.int .i64 x0) ∧ W.cell? ⟨b0, o0 + j * 6 + 1, none⟩ = some (.int .i64 x1) ∧ W.cell? ⟨b0, o0 + (j + 1) * 6, none⟩ = some (.int .i64 y0) ∧ W.cell? ⟨b0, o0 + (j + 1) * 6 + 1, none⟩ = some (.int .i64 y1)) (exact ⟨d0, d1, f0, f1⟩) ((go_at_call 50; refine (g _).mono ?_; rintro e w' ⟨rfl, hB'⟩; have hB2 : Below wr.heap.size wr w' := (by first | exact hB' | exact below_undrew hB'); replace d0 := (hB2.cell (p := ⟨b0, o0 + j * 6, none⟩) hb0).trans d0; replace d1 := (hB2.cell (p := ⟨b0, o0 + j * 6 + 1, none⟩) hb0).trans d1; replace f0 := (hB2.cell (p := ⟨b0, o0 + (j + 1) * 6, none⟩) hb0).trans f0; replace f1 := (hB2.cell (p := ⟨b0, o0 + (j + 1) * 6 + 1, none⟩) hb0).trans f1; have HB2 : Hid (Below w.heap.size w w') := Lib.hid (below2 HB.out hB2); clear hB' hB2))
        go_wp2
        go_ret
        exact ⟨by rw [He.out]; rfl, HB2.out⟩
      · have He : Hid (Bd.rising (ls.drop (j + 1)) = r) := Lib.hid (by rw [← Hg.out, Hs.out, Ha.out]; rfl)
        clear Hs Hg Ha
        go_wp2_with fail
        go_region_held3 (fun W => W.cell? ⟨b0, o0 + j * 6, none⟩ = some (.int .i64 x0) ∧ W.cell? ⟨b0, o0 + j * 6 + 1, none⟩ = some (.int .i64 x1) ∧ W.cell? ⟨b0, o0 + (j + 1) * 6, none⟩ = some (.int .i64 y0) ∧ W.cell? ⟨b0, o0 + (j + 1) * 6 + 1, none⟩ = some (.int .i64 y1)) (exact ⟨d0, d1, f0, f1⟩) ((go_at_call 50; refine (g _).mono ?_; rintro e w' ⟨rfl, hB'⟩; have hB2 : Below wr.heap.size wr w' := (by first | exact hB' | exact below_undrew hB'); replace d0 := (hB2.cell (p := ⟨b0, o0 + j * 6, none⟩) hb0).trans d0; replace d1 := (hB2.cell (p := ⟨b0, o0 + j * 6 + 1, none⟩) hb0).trans d1; replace f0 := (hB2.cell (p := ⟨b0, o0 + (j + 1) * 6, none⟩) hb0).trans f0; replace f1 := (hB2.cell (p := ⟨b0, o0 + (j + 1) * 6 + 1, none⟩) hb0).trans f1; have HB2 : Hid (Below w.heap.size w w') := Lib.hid (below2 HB.out hB2); clear hB' hB2))
        go_wp2
        go_roundw
        case rel => exact ⟨j + 1, by first | rfl | (rw [Ik.out]; rfl), He, HB2⟩
        case measure => have := Hk.out; (try rw [Ik.out]); simp [intOf]; omega
    · have ik : ((j : Int) + 1 < (l : Int)) = False := eq_false (by omega)
      have He : Hid (r = true) := Lib.hid (by rw [← Hg.out, Bd.rise_end (by have := Hl.out; omega)])
      clear hlt Hg
      go_wp2
      go_ret
      exact ⟨by rw [He.out]; rfl, HB.out⟩
end Go.Proofs.Ythlojadkgpmnmaa
