/-
  Layer 10 (mute), the reference: Is.
-/
import Derived.Test.YtpgichlaghhdeaaGreatDoorXRefMute2
namespace Go.Proofs.YtpgichlaghhdeaaGreatDoor
set_option maxRecDepth 10000
open Go.RowKit

set_option maxHeartbeats 2000000 in
theorem RMIs_any (A : Option Addr) (l c : Nat) (ls : List Win) (w : World) (hl : l = ls.length) (hA : WinsAt w w.heap.size A ls) (hf : l ≤ 1000) :
    Calls Tryz.prog 43 #[.slice A l c] w fun e w' => e = .returned (.bool (Mu.isL ls)) ∧ Below w.heap.size w w' := by
  have HA := Lib.hid hA
  have Hl := Lib.hid hl
  have Hf := Lib.hid hf
  obtain ⟨r, hr⟩ : ∃ r, r = Mu.isL ls := ⟨_, rfl⟩
  have Hr := Lib.hid hr
  rw [← hr]
  clear hA hl hf hr
  go_enter Tryz.func43, Tryz.ntmps43
  go_wp2
  go_loopw [3] (fun i wr => ∃ k : Nat, k ≤ l ∧ i = .int .i64 (k : Int) ∧ Hid (Below w.heap.size w wr) ∧ Hid (Mu.upTo ls k)) (fun i _ => l - (intOf i).toNat)
  case atStart => exact ⟨0, Nat.zero_le _, rfl, Lib.hid (Below.refl _ _), Lib.hid (fun _ _ h => absurd h (Nat.not_lt_zero _))⟩
  case round =>
    obtain ⟨k, hk, rfl, HB, Hu⟩ := hrel
    by_cases hlt : k < l
    · have kl : k < ls.length := by rw [← Hl.out]; exact hlt
      have HAr : Hid (WinsAt wr w.heap.size A ls) := Lib.hid (HA.out.below HB.out (Nat.le_refl _))
      have i1 : (k : Int) < (l : Int) := by omega
      have i3 : (0 : Int) ≤ (k : Int) := by omega
      have Ik : Hid (wrap64 ((k : Int) + 1) = (k : Int) + 1) := Lib.hid (by have := Hf.out; unfold wrap64; omega)
      have Hk := Lib.hid hlt
      have Hbad : Hid (Mu.may ls[k] = false → r = false) := Lib.hid (fun h => by rw [Hr.out]; exact Mu.upTo_may kl h)
      have Hgo : Hid (Mu.may ls[k] = true → (∀ h0 : 0 < k, Mu.before (ls[k - 1]'(by omega)) ls[k]) → Mu.upTo ls (k + 1)) := Lib.hid (fun h1 h2 => Mu.upTo_succ kl Hu.out h1 h2)
      by_cases hk0 : k = 0
      · subst hk0
        obtain ⟨b0, o0, rfl, hb0, h3⟩ := HAr.out 0 kl
        rw [show o0 + 0 * 3 = o0 by omega] at h3
        have Hgo' : Hid (Mu.may ls[0] = true → Mu.upTo ls 1) := Lib.hid (fun h => Hgo.out h (fun h0 => absurd h0 (Nat.lt_irrefl _)))
        obtain ⟨x, hx⟩ : ∃ x, x = ls[0] := ⟨_, rfl⟩
        rw [← hx] at h3 Hbad Hgo'
        clear hx
        obtain ⟨x0, x1, x2⟩ := x
        have d0 := h3.c0
        have d1 := h3.c1
        have d2 := h3.c2
        simp only at d0 d1 d2
        have g := fun W => RMay_any x0 x1 x2 W
        obtain ⟨z, hz⟩ : ∃ z, z = Mu.may ⟨x0, x1, x2⟩ := ⟨_, rfl⟩
        simp only [← hz] at g Hbad Hgo'
        clear h3 kl hk hlt hb0 hz Hgo Hu HAr
        go_wp2_with fail
        refine (g _).mono ?_
        rintro e w2 ⟨rfl, hB⟩
        have HB2 := Lib.hid (below2 HB.out hB)
        clear hB HB g d0 d1 d2
        cases z
        · have He := Lib.hid (Hbad.out rfl)
          clear Hbad Hgo'
          go_wp2
          go_ret
          exact ⟨by rw [He.out]; rfl, HB2.out⟩
        · have He := Lib.hid (Hgo'.out rfl)
          clear Hbad Hgo'
          go_wp2_with fail
          go_quiet (fail)
          go_wp2
          go_roundw
          case rel => exact ⟨1, Hk.out, by first | rfl | (rw [Ik.out]; rfl), Lib.hid (below_drew HB2.out _), He⟩
          case measure => have := Hk.out; (try rw [Ik.out]); simp [intOf]; omega
      · obtain ⟨j, rfl⟩ : ∃ j, k = j + 1 := ⟨k - 1, by omega⟩
        obtain ⟨b0, o0, rfl, hb0, h3⟩ := HAr.out (j + 1) kl
        obtain ⟨b1, o1, e1, hb1, h4⟩ := HAr.out j (by omega)
        cases e1
        have Hnot : Hid (¬ Mu.before (ls[j]'(by omega)) ls[j + 1] → r = false) := Lib.hid (fun h => by rw [Hr.out]; exact Mu.upTo_not kl h)
        have Hgo' : Hid (Mu.may ls[j + 1] = true → Mu.before (ls[j]'(by omega)) ls[j + 1] → Mu.upTo ls (j + 1 + 1)) := Lib.hid (fun h h2 => Hgo.out h (fun _ => h2))
        obtain ⟨x, hx⟩ : ∃ x, x = ls[j + 1] := ⟨_, rfl⟩
        obtain ⟨y, hy⟩ : ∃ y, y = ls[j]'(by omega) := ⟨_, rfl⟩
        rw [← hx] at h3 Hbad Hgo' Hnot
        rw [← hy] at h4 Hgo' Hnot
        clear hx hy
        obtain ⟨x0, x1, x2⟩ := x
        obtain ⟨y0, y1, y2⟩ := y
        have g := fun W => RMay_any x0 x1 x2 W
        obtain ⟨z, hz⟩ : ∃ z, z = Mu.may ⟨x0, x1, x2⟩ := ⟨_, rfl⟩
        simp only [← hz] at g Hbad Hgo'
        have d0 := h3.c0
        have d1 := h3.c1
        have d2 := h3.c2
        simp only at d0 d1 d2
        have H3 := Lib.hid h3
        have H4 := Lib.hid h4
        have Hb := Lib.hid hb0
        have Hwr : Hid (b0 < wr.heap.size) := Lib.hid (Nat.lt_of_lt_of_le hb0 HB.out.size)
        have Hj : Hid ((j : Int) < (l : Int)) := Lib.hid (by omega)
        have Ik2 : Hid (wrap64 ((j : Int) + 1 + 1) = (j : Int) + 1 + 1) := Lib.hid (by have := Hf.out; unfold wrap64; omega)
        have ij : wrap64 ((j : Int) + 1 - 1) = (j : Int) := by have := Hf.out; unfold wrap64; omega
        have ij2 : wrap64 (j : Int) = (j : Int) := by have := Hf.out; unfold wrap64; omega
        have ip : ((j : Int) + 1 > 0) = True := eq_true (by omega)
        have ip2 : (0 : Int) ≤ (j : Int) + 1 := by omega
        have ij0 : (0 : Int) ≤ (j : Int) := by omega
        have ij1 : (j : Int) < (l : Int) := by omega
        clear h3 h4 kl hk hlt hb0 hb1 hz Hgo Hu HAr hk0
        go_wp2_with fail
        refine (g _).mono ?_
        rintro e w2 ⟨rfl, hB⟩
        have HB2 := Lib.hid (below2 HB.out hB)
        have f3 := H3.out.below hB Hwr.out
        have f4 := H4.out.below hB Hwr.out
        clear hB HB g d0 d1 d2 H3 H4
        have d0 := f3.c0
        have d1 := f3.c1
        have d2 := f3.c2
        have q0 := f4.c0
        have q1 := f4.c1
        have q2 := f4.c2
        simp only at d0 d1 d2 q0 q1 q2
        clear f3 f4
        cases z
        · have He := Lib.hid (Hbad.out rfl)
          clear Hbad Hgo' Hnot
          go_wp2
          go_ret
          exact ⟨by rw [He.out]; rfl, HB2.out⟩
        · have Hgo2 : Hid (Mu.before ⟨y0, y1, y2⟩ ⟨x0, x1, x2⟩ → Mu.upTo ls (j + 1 + 1)) := Lib.hid (Hgo'.out rfl)
          clear Hbad Hgo'
          by_cases t1 : y0 > x0
          · have a1 : (x0 < y0) = True := eq_true t1
            have a1' : (y0 > x0) = True := eq_true t1
            have He := Lib.hid (Hnot.out (by unfold Mu.before; simp only; omega))
            clear Hgo2 Hnot t1
            go_wp2_with fail
            go_quiet (fail)
            go_wp2
            go_ret
            exact ⟨by rw [He.out]; rfl, below_drew HB2.out _⟩
          · have a1 : (x0 < y0) = False := eq_false t1
            have a1' : (y0 > x0) = False := eq_false t1
            by_cases t2 : y0 = x0
            · have b2 : (y0 == x0) = true := beq_iff_eq.2 t2
              have a2 : (y0 = x0) = True := eq_true t2
              by_cases t3 : x1 ≤ y2
              · have a3 : (x1 ≤ y2) = True := eq_true t3
                have a3' : (y2 ≥ x1) = True := eq_true t3
                have He := Lib.hid (Hnot.out (by unfold Mu.before; simp only; omega))
                clear Hgo2 Hnot t1 t2 t3
                go_wp2_with fail
                go_quiet (fail)
                go_wp2
                go_ret
                exact ⟨by rw [He.out]; rfl, below_drew HB2.out _⟩
              · have a3 : (x1 ≤ y2) = False := eq_false t3
                have a3' : (y2 ≥ x1) = False := eq_false t3
                have He := Lib.hid (Hgo2.out (by unfold Mu.before; simp only; omega))
                clear Hgo2 Hnot t1 t2 t3
                go_wp2_with fail
                go_quiet (fail)
                go_wp2
                go_roundw
                case rel => exact ⟨j + 1 + 1, Hk.out, by first | rfl | (rw [Ik2.out]; rfl), Lib.hid (below_drew HB2.out _), He⟩
                case measure => have := Hk.out; (try rw [Ik2.out]); simp [intOf]; omega
            · have b2 : (y0 == x0) = false := by rw [beq_eq_false_iff_ne]; exact t2
              have a2 : (y0 = x0) = False := eq_false t2
              have He := Lib.hid (Hgo2.out (by unfold Mu.before; simp only; omega))
              clear Hgo2 Hnot t1 t2
              go_wp2_with fail
              go_quiet (fail)
              go_wp2
              go_roundw
              case rel => exact ⟨j + 1 + 1, Hk.out, by first | rfl | (rw [Ik2.out]; rfl), Lib.hid (below_drew HB2.out _), He⟩
              case measure => have := Hk.out; (try rw [Ik2.out]); simp [intOf]; omega
    · have ik : ((k : Int) < (l : Int)) = False := eq_false (by omega)
      have He : Hid (r = decide (l ≤ 100)) := Lib.hid (by
        have hkl : k = ls.length := by have := Hl.out; omega
        have hu := Hu.out
        rw [hkl] at hu
        rw [Hr.out, Mu.upTo_all hu, Hl.out])
      have hd : decide ((l : Int) ≤ 100) = decide (l ≤ 100) := by congr 1; exact propext (by omega)
      clear hk hlt Hu
      go_wp2
      go_ret
      exact ⟨by rw [He.out, ← hd]; rfl, HB.out⟩
end Go.Proofs.YtpgichlaghhdeaaGreatDoor
