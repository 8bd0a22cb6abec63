/-
  Layer 7 (rank): Place.
-/
import Derived.Test.YtlkopnbkmpgafaaRankC1
import Derived.Test.YtlkopnbkmpgafaaSpotTwo
namespace Go.Proofs.Ytlkopnbkmpgafaa
open Go.RowKit

theorem korder_at (B : Nat) (A : Option Addr) (n cap : Nat) (ls : List Alm) (w : World) (hBw : B = w.heap.size) (hn : n = ls.length) (hA : AlmsAt w w.heap.size A ls) (hl : ls.length ≤ 1000) :
    Calls Try.prog 23 #[.slice (some ⟨B, 0, none⟩) 1 1] (w.alloc (.cells #[.slice A n cap] 22)) fun e w' => ∃ A1 cap1, e = .returned (.slice A1 n cap1) ∧ AlmsAt w' w'.heap.size A1 (Rk.sort ls) ∧ (A1 = none → cap1 = 0) ∧ n ≤ cap1 ∧ Below w.heap.size w w' := by
  subst hBw
  exact korder_one A n cap ls w hn hA hl

set_option maxRecDepth 10000 in
set_option maxHeartbeats 2000000 in
theorem kk_place (A : Option Addr) (n cap : Nat) (ls : List Alm) (b c : Int) (w : World) (hn : n = ls.length) (hA : AlmsAt w w.heap.size A ls) (_hnil : A = none → cap = 0) (hl : ls.length ≤ 1000) :
    Calls Try.prog 11 #[.slice A n cap, .agg #[.int .i64 b, .int .i64 c]] w fun e w' => e = .returned (.tuple #[.int .i64 (Rk.place ls b c).1, .bool (Rk.place ls b c).2]) ∧ Below w.heap.size w w' := by
  have g := korder_at (w.heap.size + 1) A n cap ls (w.alloc (.cells #[.int .i64 b, .int .i64 c] 24)) (by simp) hn (hA.on (below_new w _)) hl
  have Lo : Hid (n = (Rk.sort ls).length) := Lib.hid (by rw [Rk.sort_len]; exact hn)
  have Hl : Hid (n ≤ 1000) := Lib.hid (by omega)
  unfold Rk.place
  obtain ⟨o, ho⟩ : ∃ o, o = Rk.sort ls := ⟨_, rfl⟩
  rw [← ho] at Lo g ⊢
  obtain ⟨r, hr⟩ : ∃ r, r = Rk.fst b c o 0 := ⟨_, rfl⟩
  have Hr := Lib.hid hr
  rw [← hr]
  clear ho hA hl hn hr
  go_enter Try.func11, Try.ntmps11
  go_wp2_with fail
  refine g.mono ?_
  rintro e w1 ⟨A1, cap1, rfl, hA1, _, _, hB⟩
  have Ks := Lib.hid ((Two.new w b c 24).below hB)
  have HA1 := Lib.hid hA1
  have HB := Lib.hid (below2 (below_new w _) hB)
  clear g hA1 hB
  go_wp2_with fail
  go_loopw [12] (fun i wr => ∃ k : Nat, k ≤ n ∧ i = .int .i64 (k : Int) ∧ Below w1.heap.size w1 wr ∧ Hid (Rk.fst b c (o.drop k) k = r)) (fun i _ => n - (intOf i).toNat)
  case atStart => exact ⟨0, Nat.zero_le _, rfl, Below.refl _ _, Lib.hid (by rw [Hr.out]; rfl)⟩
  case round =>
    obtain ⟨k, hk, rfl, hBr, Hf⟩ := hrel
    have HBr := Lib.hid hBr
    clear hBr
    by_cases hlt : k < n
    · have kl : k < o.length := by rw [← Lo.out]; exact hlt
      obtain ⟨b0, o0, rfl, hb0, h6⟩ := (HA1.out.below HBr.out (Nat.le_refl _)) k kl
      have Hs := Lib.hid (Rk.fst_drop b c o k kl)
      obtain ⟨x, hx⟩ : ∃ x, x = o[k] := ⟨_, rfl⟩
      rw [← hx] at h6 Hs
      obtain ⟨x0, x1, x2, x3, x4, x5⟩ := x
      have c0 := h6.c0
      have c1 := h6.c1
      have c2 := h6.c2
      have c3 := h6.c3
      have c4 := h6.c4
      have c5 := h6.c5
      simp only at c0 c1 c2 c3 c4 c5
      have i1 : (k : Int) < (n : Int) := by omega
      have i3 : (0 : Int) ≤ (k : Int) := by omega
      have Iw : Hid (wrap64 ((k : Int) + 1) = (k : Int) + 1) := Lib.hid (by have := Hl.out; unfold wrap64; omega)
      have Hk := Lib.hid hlt
      have HZ := Lib.hid (Six.new wr 0 0 0 0 0 0 45)
      have HZB := Lib.hid (below_new wr (.cells #[.int .i64 0, .int .i64 0, .int .i64 0, .int .i64 0, .int .i64 0, .int .i64 0] 45))
      clear hx h6 kl hk hlt
      by_cases hb : x0 = b
      · by_cases hc : x1 = c
        · subst hb
          subst hc
          have He : Hid (r = ((k : Int), true)) := Lib.hid (by rw [← Hf.out, Hs.out, if_pos (by simp [Rk.isAt])])
          clear Hs Hf
          go_wp2_with (refine wpList_store_six rfl 45 _ _ rfl wr.heap.size _ ⟨x0, x1, x2, x3, x4, x5⟩ rfl rfl HZ.out (by rfl) ?_; intro w2 hw2; have K2 := HZ.out.put6 hw2; have HB2 := Lib.hid (below_put6 HZB.out (Nat.le_refl _) hw2); clear hw2 c0 c1 c2 c3 c4 c5; have c0 := K2.c0; have c1 := K2.c1; have s0 := ((Ks.out.below HBr.out).below HB2.out).c0; have s1 := ((Ks.out.below HBr.out).below HB2.out).c1; simp only at c0 c1; clear K2)
          go_ret2
          exact ⟨by rw [He.out]; rfl, below2 HB.out (below2 HBr.out HB2.out)⟩
        · have hc' : (x1 == c) = false := by rw [beq_eq_false_iff_ne]; exact hc
          have He : Hid (Rk.fst b c (o.drop (k + 1)) (k + 1) = r) := Lib.hid (by rw [← Hf.out, Hs.out, if_neg (by simp [Rk.isAt, hc])])
          subst hb
          clear Hs Hf hc
          go_wp2_with (refine wpList_store_six rfl 45 _ _ rfl wr.heap.size _ ⟨x0, x1, x2, x3, x4, x5⟩ rfl rfl HZ.out (by rfl) ?_; intro w2 hw2; have K2 := HZ.out.put6 hw2; have HB2 := Lib.hid (below_put6 HZB.out (Nat.le_refl _) hw2); clear hw2 c0 c1 c2 c3 c4 c5; have c0 := K2.c0; have c1 := K2.c1; have s0 := ((Ks.out.below HBr.out).below HB2.out).c0; have s1 := ((Ks.out.below HBr.out).below HB2.out).c1; simp only at c0 c1; clear K2)
          go_roundw
          case rel => exact ⟨k + 1, Hk.out, by first | rfl | (rw [Iw.out]; rfl), below2 HBr.out HB2.out, He⟩
          case measure => have := Hk.out; (try rw [Iw.out]); simp [intOf]; omega
      · have hb' : (x0 == b) = false := by rw [beq_eq_false_iff_ne]; exact hb
        have He : Hid (Rk.fst b c (o.drop (k + 1)) (k + 1) = r) := Lib.hid (by rw [← Hf.out, Hs.out, if_neg (by simp [Rk.isAt, hb])])
        clear Hs Hf hb
        go_wp2_with (refine wpList_store_six rfl 45 _ _ rfl wr.heap.size _ ⟨x0, x1, x2, x3, x4, x5⟩ rfl rfl HZ.out (by rfl) ?_; intro w2 hw2; have K2 := HZ.out.put6 hw2; have HB2 := Lib.hid (below_put6 HZB.out (Nat.le_refl _) hw2); clear hw2 c0 c1 c2 c3 c4 c5; have c0 := K2.c0; have c1 := K2.c1; have s0 := ((Ks.out.below HBr.out).below HB2.out).c0; have s1 := ((Ks.out.below HBr.out).below HB2.out).c1; simp only at c0 c1; clear K2)
        go_roundw
        case rel => exact ⟨k + 1, Hk.out, by first | rfl | (rw [Iw.out]; rfl), below2 HBr.out HB2.out, He⟩
        case measure => have := Hk.out; (try rw [Iw.out]); simp [intOf]; omega
    · have ik : ((k : Int) < (n : Int)) = False := eq_false (by omega)
      have He : Hid (r = (0, false)) := Lib.hid (by rw [← Hf.out, List.drop_eq_nil_of_le (by have := Lo.out; omega)]; rfl)
      clear hk hlt Hf
      go_wp2
      go_ret2
      exact ⟨by rw [He.out]; rfl, below2 HB.out HBr.out⟩
end Go.Proofs.Ytlkopnbkmpgafaa
