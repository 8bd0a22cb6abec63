/-
  Layer 7 (rank), the reference: Top, Place, Merge.
-/
import Derived.Test.YtlkopnbkmpgafaaRefRank3
import Derived.Test.YtlkopnbkmpgafaaSpotTwo
namespace Go.Proofs.Ytlkopnbkmpgafaa
open Go.RowKit

theorem RAOwn_n (A : Option Addr) (n cap : Nat) (ls : List Alm) (w : World) (hn : n = ls.length) (hA : AlmsAt w w.heap.size A ls) (hnil : A = none → cap = 0) (hl : ls.length ≤ 1000) :
    Calls Try.prog 8 #[.slice A n cap] w (OwnedA w ls) := by subst hn; exact RAOwn_any A cap ls w hA hnil hl
theorem RASort_n (A : Option Addr) (n cap : Nat) (ls : List Alm) (w : World) (hn : n = ls.length) (hA : AlmsAt w w.heap.size A ls) (hl : ls.length ≤ 1000) :
    Calls Try.prog 15 #[.slice A n cap] w (OwnedA w (Rk.sort ls)) := by subst hn; exact RASort_any A cap ls w hA hl

set_option maxHeartbeats 1000000 in
theorem RTop_zero (n : Int) (A : Option Addr) (m cap : Nat) (ls : List Alm) (w : World) (hn : n < 1) :
    Calls Try.prog 16 #[.int .i64 n, .slice A m cap] w (OwnedA w (Rk.top n ls)) := by
  have He : Hid (Rk.top n ls = []) := Lib.hid (by unfold Rk.top; rw [show n.toNat = 0 by omega]; rfl)
  go_enter Try.func16, Try.ntmps16
  go_wp2
  go_ret
  exact ⟨_, rfl, by rw [He.out]; exact OwnA.nil _ _, Below.refl _ _⟩

set_option maxHeartbeats 1000000 in
theorem RTop_some (j : Nat) (A : Option Addr) (m cap : Nat) (ls : List Alm) (w : World) (hj : 1 ≤ j) (hm : m = ls.length) (hA : AlmsAt w w.heap.size A ls) (hl : ls.length ≤ 1000) :
    Calls Try.prog 16 #[.int .i64 (j : Int), .slice A m cap] w (OwnedA w (Rk.top (j : Int) ls)) := by
  have g1 := fun cap => RASort_n A m cap ls w hm hA hl
  have i1 : ((j : Int) < 1) = False := eq_false (by omega)
  have Lo : Hid (m = (Rk.sort ls).length) := Lib.hid (by rw [Rk.sort_len]; exact hm)
  have Hl : Hid (m ≤ 1000) := Lib.hid (by omega)
  have HT : Hid (Rk.top (j : Int) ls = (Rk.sort ls).take j) := Lib.hid (by unfold Rk.top; rw [Int.toNat_natCast])
  obtain ⟨o, ho⟩ : ∃ o, o = Rk.sort ls := ⟨_, rfl⟩
  rw [← ho] at Lo HT g1
  rw [HT.out]
  clear ho hA hl hm hj HT
  go_enter Try.func16, Try.ntmps16
  go_wp2_with fail
  refine (g1 _).mono ?_
  rintro e w1 ⟨v, rfl, hown, hB⟩
  obtain ⟨A1, cap1, rfl, hA1, hn1, hc1⟩ := hown.slice
  rw [← Lo.out] at hc1 ⊢
  have HA1 := Lib.hid hA1
  have Hn1 := Lib.hid hn1
  have Hc1 := Lib.hid hc1
  have HB := Lib.hid hB
  clear hown hA1 hn1 hc1 hB g1
  rcases Nat.lt_or_ge j m with hlt | hge
  · have i2 : ((j : Int) < (m : Int)) = True := eq_true (by omega)
    have i3 : ((m : Int) < (j : Int)) = False := eq_false (by omega)
    have Hj := Lib.hid hlt
    have HO := fun W A n c h1 h2 h3 => Lib.hid (RAOwn_n A n c (o.take j) W h1 h2 h3 (by have := Lo.out; have := Hl.out; rw [List.length_take]; omega))
    clear hlt
    go_wp2_with (refine wpList_slice_to rfl _ _ rfl _ _ _ j _ o rfl rfl HA1.out Hn1.out Hc1.out Lo.out (by have := Hj.out; omega) ?_; intro A2 hA2 hn2; have HA2 := Lib.hid hA2; have Hn2 := Lib.hid hn2; clear hA2 hn2)
    refine (HO _ _ _ _ (by have := Lo.out; have := Hj.out; rw [List.length_take]; omega) HA2.out Hn2.out).out.mono ?_
    rintro e w2 ⟨v, rfl, hown, hB⟩
    have h1 := Lib.hid (hown.lower HB.out.size)
    have h2 := Lib.hid (below2 HB.out hB)
    clear hown hB
    go_wp2
    go_ret
    exact ⟨_, rfl, h1.out, h2.out⟩
  · rcases Nat.lt_or_ge m j with hlt | hle
    · have i2 : ((j : Int) < (m : Int)) = False := eq_false (by omega)
      have i3 : ((m : Int) < (j : Int)) = True := eq_true (by omega)
      have He : Hid (o.take j = o.take m) := Lib.hid (by rw [List.take_of_length_le (by have := Lo.out; omega), List.take_of_length_le (by have := Lo.out; omega)])
      rw [He.out]
      have HO := fun W A n c h1 h2 h3 => Lib.hid (RAOwn_n A n c (o.take m) W h1 h2 h3 (by have := Lo.out; have := Hl.out; rw [List.length_take]; omega))
      clear hge hlt
      go_wp2_with (refine wpList_slice_to rfl _ _ rfl _ _ _ m _ o rfl rfl HA1.out Hn1.out Hc1.out Lo.out (Nat.le_refl _) ?_; intro A2 hA2 hn2; have HA2 := Lib.hid hA2; have Hn2 := Lib.hid hn2; clear hA2 hn2)
      refine (HO _ _ _ _ (by have := Lo.out; rw [List.length_take]; omega) HA2.out Hn2.out).out.mono ?_
      rintro e w2 ⟨v, rfl, hown, hB⟩
      have h1 := Lib.hid (hown.lower HB.out.size)
      have h2 := Lib.hid (below2 HB.out hB)
      clear hown hB
      go_wp2
      go_ret
      exact ⟨_, rfl, by rw [He.out]; exact h1.out, h2.out⟩
    · obtain rfl : j = m := by omega
      have HO := fun W A n c h1 h2 h3 => Lib.hid (RAOwn_n A n c (o.take j) W h1 h2 h3 (by have := Lo.out; have := Hl.out; rw [List.length_take]; omega))
      clear hge hle
      go_wp2_with (refine wpList_slice_to rfl _ _ rfl _ _ _ j _ o rfl rfl HA1.out Hn1.out Hc1.out Lo.out (Nat.le_refl _) ?_; intro A2 hA2 hn2; have HA2 := Lib.hid hA2; have Hn2 := Lib.hid hn2; clear hA2 hn2)
      refine (HO _ _ _ _ (by have := Lo.out; rw [List.length_take]; omega) HA2.out Hn2.out).out.mono ?_
      rintro e w2 ⟨v, rfl, hown, hB⟩
      have h1 := Lib.hid (hown.lower HB.out.size)
      have h2 := Lib.hid (below2 HB.out hB)
      clear hown hB
      go_wp2
      go_ret
      exact ⟨_, rfl, h1.out, h2.out⟩
theorem RTop_any (n : Int) (A : Option Addr) (m cap : Nat) (ls : List Alm) (w : World) (hm : m = ls.length) (hA : AlmsAt w w.heap.size A ls) (hl : ls.length ≤ 1000) :
    Calls Try.prog 16 #[.int .i64 n, .slice A m cap] w (OwnedA w (Rk.top n ls)) := by
  by_cases hn : n < 1
  · exact RTop_zero n A m cap ls w hn
  · obtain ⟨j, rfl⟩ : ∃ j : Nat, n = (j : Int) := ⟨n.toNat, by omega⟩
    exact RTop_some j A m cap ls w (by omega) hm hA hl

set_option maxHeartbeats 1000000 in
theorem RPlace_any (A : Option Addr) (m cap : Nat) (ls : List Alm) (b c : Int) (w : World) (hm : m = ls.length) (hA : AlmsAt w w.heap.size A ls) (hl : ls.length ≤ 1000) :
    Calls Try.prog 12 #[.slice A m cap, .agg #[.int .i64 b, .int .i64 c]] w fun e w' => e = .returned (.tuple #[.int .i64 (Rk.place ls b c).1, .bool (Rk.place ls b c).2]) ∧ Below w.heap.size w w' := by
  have g1 := RASort_n A m cap ls (w.alloc (.cells #[.int .i64 b, .int .i64 c] 24)) hm ((hA.below (below_new w _) (Nat.le_refl _)).more (below_new w _).size) hl
  have Lo : Hid (m = (Rk.sort ls).length) := Lib.hid (by rw [Rk.sort_len]; exact hm)
  have Hl : Hid (m ≤ 1000) := Lib.hid (by omega)
  unfold Rk.place
  obtain ⟨o, ho⟩ : ∃ o, o = Rk.sort ls := ⟨_, rfl⟩
  rw [← ho] at Lo g1 ⊢
  obtain ⟨r, hr⟩ : ∃ r, r = Rk.fst b c o 0 := ⟨_, rfl⟩
  have Hr := Lib.hid hr
  rw [← hr]
  clear ho hA hl hm hr
  go_enter Try.func12, Try.ntmps12
  go_wp2_with fail
  refine g1.mono ?_
  rintro e w1 ⟨v, rfl, hown, hB⟩
  obtain ⟨A1, cap1, rfl, hA1, hn1, hc1⟩ := hown.slice
  rw [← Lo.out]
  have ks := (Two.new w b c 24).below hB
  have e0 := ks.c0
  have e1 := ks.c1
  have HA1 := Lib.hid hA1
  have HB := Lib.hid (below2 (below_new w _) hB)
  clear hown hA1 hn1 hc1 hB g1 ks
  go_wp2_with fail
  go_loopw [7] (fun i wr => ∃ k q : Nat, k ≤ m ∧ i = .int .i64 (k : Int) ∧ wr = w1.drewN q ∧ Hid (Rk.fst b c (o.drop k) k = r)) (fun i _ => m - (intOf i).toNat)
  case atStart => exact ⟨0, 0, Nat.zero_le _, rfl, rfl, Lib.hid (by rw [Hr.out]; rfl)⟩
  case round =>
    obtain ⟨k, q, hk, rfl, rfl, Hf⟩ := hrel
    by_cases hlt : k < m
    · have kl : k < o.length := by rw [← Lo.out]; exact hlt
      obtain ⟨b0, o0, rfl, hb0, h6⟩ := HA1.out k kl
      have Hs := Lib.hid (Rk.fst_drop b c o k kl)
      obtain ⟨x, hx⟩ : ∃ x, x = o[k] := ⟨_, rfl⟩
      rw [← hx] at h6 Hs
      obtain ⟨x0, x1, x2, x3, x4, x5⟩ := x
      have c0 := h6.c0
      have c1 := h6.c1
      simp only at c0 c1
      have i1 : (k : Int) < (m : Int) := by omega
      have i3 : (0 : Int) ≤ (k : Int) := by omega
      have Iw : Hid (wrap64 ((k : Int) + 1) = (k : Int) + 1) := Lib.hid (by have := Hl.out; unfold wrap64; omega)
      have Hk := Lib.hid hlt
      clear hx h6 kl hk hlt
      by_cases hb : x0 = b
      · by_cases hc : x1 = c
        · subst hb
          subst hc
          have He : Hid (r = ((k : Int), true)) := Lib.hid (by rw [← Hf.out, Hs.out, if_pos (by simp [Rk.isAt])])
          clear Hs Hf
          go_wp2
          go_quiet (fail)
          go_wp2
          go_ret2
          exact ⟨by rw [He.out]; rfl, by first | exact below_drew HB.out _ | exact below_drew (below_drew HB.out _) _⟩
        · have hc' : (x1 == c) = false := by rw [beq_eq_false_iff_ne]; exact hc
          have He : Hid (Rk.fst b c (o.drop (k + 1)) (k + 1) = r) := Lib.hid (by rw [← Hf.out, Hs.out, if_neg (by simp [Rk.isAt, hc])])
          subst hb
          clear Hs Hf hc
          go_wp2
          go_quiet (fail)
          go_wp2
          go_roundw
          case rel => exact ⟨k + 1, _, Hk.out, by first | rfl | (rw [Iw.out]; rfl), rfl, He⟩
          case measure => have := Hk.out; (try rw [Iw.out]); simp [intOf]; omega
      · have hb' : (x0 == b) = false := by rw [beq_eq_false_iff_ne]; exact hb
        have He : Hid (Rk.fst b c (o.drop (k + 1)) (k + 1) = r) := Lib.hid (by rw [← Hf.out, Hs.out, if_neg (by simp [Rk.isAt, hb])])
        clear Hs Hf hb
        go_wp2
        go_quiet (fail)
        go_wp2
        go_roundw
        case rel => exact ⟨k + 1, _, Hk.out, by first | rfl | (rw [Iw.out]; rfl), rfl, He⟩
        case measure => have := Hk.out; (try rw [Iw.out]); simp [intOf]; omega
    · have ik : ((k : Int) < (m : Int)) = False := eq_false (by omega)
      have He : Hid (r = (0, false)) := Lib.hid (by rw [← Hf.out, List.drop_eq_nil_of_le (by have := Lo.out; omega)]; rfl)
      clear hk hlt Hf
      go_wp2
      go_ret2
      exact ⟨by rw [He.out]; rfl, below_drew HB.out _⟩

set_option maxHeartbeats 1000000 in
theorem RMerge_any (A B : Option Addr) (m n ca cb : Nat) (ls ms : List Alm) (w : World) (hm : m = ls.length) (hn : n = ms.length) (hA : AlmsAt w w.heap.size A ls) (hB : AlmsAt w w.heap.size B ms) (ha : A = none → ca = 0) (hb : B = none → cb = 0) (hl : ls.length ≤ 400) (hl2 : ms.length ≤ 400) :
    Calls Try.prog 17 #[.slice A m ca, .slice B n cb] w (OwnedA w (Rk.merge ls ms)) := by
  have HA := Lib.hid hA
  have HB := Lib.hid hB
  have Ha := Lib.hid ha
  have Hb := Lib.hid hb
  have Hm := Lib.hid hm
  have Hn := Lib.hid hn
  have Hl : Hid (ls.length + ms.length ≤ 1000) := Lib.hid (by omega)
  unfold Rk.merge
  obtain ⟨z, hz⟩ : ∃ z, z = ls ++ ms := ⟨_, rfl⟩
  have Hz := Lib.hid hz
  rw [← hz]
  clear hA hB ha hb hm hn hl hl2 hz
  go_enter Try.func17, Try.ntmps17
  go_wp2_with (first
    | (at_builtin; refine wpList_append_alms rfl _ _ rfl w.heap.size _ ls ms rfl O1.out B _ _ rfl Hn.out HB2.out Hb.out H1.out.size (by have := Hl.out; omega) ?_; intro v2 w2 hown2 hgrow2; rw [← Hz.out] at hown2; have O2 := Lib.hid hown2; have H2 : Hid (Below w.heap.size w w2) := Lib.hid (H1.out.grown hgrow2 H1.out.size O1.out.ge); clear hown2 hgrow2; obtain ⟨A3, cap3, rfl, hA3, hn3, hc3⟩ := O2.out.slice)
    | (at_builtin; refine wpList_append_alms rfl _ _ rfl w.heap.size _ [] ls rfl (OwnA.nil _ _) A _ _ rfl Hm.out HA.out Ha.out (Nat.le_refl _) (by have := Hl.out; simp; omega) ?_; intro v1 w1 hown1 hgrow1; rw [List.nil_append] at hown1; have O1 := Lib.hid hown1; have H1 : Hid (Below w.heap.size w w1) := Lib.hid ((Below.refl _ w).grown hgrow1 (Nat.le_refl _) (fun k hk => nomatch hk)); have HB2 := Lib.hid ((HB.out.below H1.out (Nat.le_refl _)).more H1.out.size); clear hown1 hgrow1))
  refine (RASort_n _ _ _ z _ rfl hA3 (by have := Hl.out; rw [Hz.out, List.length_append]; omega)).mono ?_
  rintro e w3 ⟨v, rfl, hown, hB⟩
  have h1 := Lib.hid (hown.lower H2.out.size)
  have h2 := Lib.hid (below2 H2.out hB)
  clear hown hB hA3 hn3 hc3
  go_wp2
  go_ret
  exact ⟨_, rfl, h1.out, h2.out⟩
end Go.Proofs.Ytlkopnbkmpgafaa
