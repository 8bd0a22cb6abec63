/-
  Layer 7 (rank): the law RankPlace, over the contracts.
-/
import Derived.Test.YtlkopnbkmpgafaaRankRung
namespace Go.Proofs.Ytlkopnbkmpgafaa
open Go.RowKit

/-- Is a spot among the first ones? -/
def anyAt (b c : Int) (ls : List Alm) (k : Nat) : Bool := (ls.take k).any (Rk.isAt b c)
theorem anyAt_succ (b c : Int) (ls : List Alm) (k : Nat) (h : k < ls.length) : anyAt b c ls (k + 1) = (anyAt b c ls k || Rk.isAt b c ls[k]) := by
  unfold anyAt
  rw [List.take_succ_eq_append_getElem h, List.any_append]
  simp
theorem anyAt_all (b c : Int) (ls : List Alm) : anyAt b c ls ls.length = ls.any (Rk.isAt b c) := by unfold anyAt; rw [List.take_length]

/-- What holds ahead of each round of the first loop. -/
def PlRel (w1 : World) (b c : Int) (ls : List Alm) (m : Nat) (x i : Value) (wr : World) : Prop :=
  ∃ k n : Nat, k ≤ m ∧ i = .int .i64 (k : Int) ∧ x = .bool (anyAt b c ls k) ∧ wr = w1.drewN n

set_option maxRecDepth 10000 in
set_option maxHeartbeats 4000000 in
theorem rankPlace_go (HK : Hid RankK) (A : Option Addr) (ca : Nat) (ls : List Alm) (b c : Int) (w : World) (hA : AlmsAt w w.heap.size A ls) (ha : A = none → ca = 0) (hl : ls.length ≤ 60) (q : Bool) (p : Int) (hq : Rk.place ls b c = (p, q)) :
    Calls Try.prog 7 #[.slice A ls.length ca, .agg #[.int .i64 b, .int .i64 c]] w fun e w' => e = .returned (.bool true) ∧ Below w.heap.size w w' := by
  obtain ⟨m, hm⟩ : ∃ x, x = ls.length := ⟨_, rfl⟩
  rw [← hm]
  have i60 : ((60 : Int) < (m : Int)) = False := eq_false (by omega)
  obtain ⟨X, hX⟩ : ∃ X, X = Rk.sort ls := ⟨_, rfl⟩
  have lenX : X.length = ls.length := by rw [hX, Rk.sort_len]
  have G1 := fun (W : World) (h : AlmsAt W W.heap.size A ls) => Lib.hid (KPlace_n HK A m ca ls b c W hm h ha (by omega))
  rw [hq] at G1
  have G2 := fun (W : World) (h : AlmsAt W W.heap.size A ls) => Lib.hid ((KSort_n HK A m ca ls W hm h ha (by omega)).mono fun _ _ h => (by rw [← hX] at h; exact h.gives (by omega) : GivesA W m X _ _))
  have HN : Hid (q = false → anyAt b c ls m = false ∧ p = 0) := Lib.hid (fun e => by
    have h := Rk.place_none (l := ls) (b := b) (c := c) (by rw [hq]; exact e)
    rw [hq] at h
    refine ⟨?_, h.2⟩
    rw [hm, anyAt_all, List.any_eq_false]
    intro x hx
    rw [h.1 x hx]
    decide)
  have HS : Hid (q = true → anyAt b c ls m = true ∧ ∃ j : Nat, ∃ hj : j < X.length, p = (j : Int) ∧ Rk.isAt b c X[j] = true ∧ ∀ i (hi : i < j), Rk.isAt b c (X[i]'(by omega)) = false) := Lib.hid (fun e => by
    obtain ⟨j, hj, e1, h1, h2⟩ := Rk.place_some (l := ls) (b := b) (c := c) (by rw [hq]; exact e)
    rw [hq] at e1
    subst hX
    refine ⟨?_, j, hj, e1, h1, h2⟩
    rw [hm, anyAt_all, List.any_eq_true]
    exact ⟨(Rk.sort ls)[j], (Rk.sort_perm ls).mem_iff.1 (List.getElem_mem hj), h1⟩)
  have Hm := Lib.hid hm
  have HlX : Hid (X.length = m) := Lib.hid (by omega)
  have Hm60 : Hid (m ≤ 60) := Lib.hid (by omega)
  have ks := Two.new w b c 24
  have hBB := below_new w (.cells #[.int .i64 b, .int .i64 c] 24)
  replace hA := hA.on hBB
  clear hq hX lenX ha hl hm
  have k0 := ks.c0
  have k1 := ks.c1
  go_enter Try.func7, Try.ntmps7
  go_wp2_with fail
  refine (G1 _ hA).out.mono ?_
  rintro e w1 ⟨rfl, hB'⟩
  replace hA := hA.on hB'
  replace ks := ks.below hB'
  replace hBB := below2 hBB hB'
  clear hB' G1 k0 k1
  have HA := Lib.hid hA
  have Ks := Lib.hid ks
  have HBB := Lib.hid hBB
  clear hA ks hBB
  go_wp2_with fail
  go_loopw [7, 8] (fun x i wr => PlRel w1 b c ls m x i wr) (fun _ i _ => m - (intOf i).toNat)
  case atStart => exact ⟨0, 0, Nat.zero_le _, rfl, rfl, rfl⟩
  case round =>
    obtain ⟨k, n, hk, rfl, rfl, rfl⟩ := hrel
    by_cases hlt : k < m
    · have kl : k < ls.length := by rw [← Hm.out]; exact hlt
      have Hs := Lib.hid (anyAt_succ b c ls k kl)
      have Hk := Lib.hid hlt
      obtain ⟨b0, o0, rfl, hb0, h6⟩ := HA.out k kl
      obtain ⟨x, hx⟩ : ∃ x, x = ls[k] := ⟨_, rfl⟩
      rw [← hx] at h6 Hs
      obtain ⟨x0, x1, x2, x3, x4, x5⟩ := x
      have c0 := h6.c0
      have c1 := h6.c1
      have k0 := Ks.out.c0
      have k1 := Ks.out.c1
      simp only at c0 c1
      have i1 : (k : Int) < (m : Int) := by omega
      have i3 : (0 : Int) ≤ (k : Int) := by omega
      have Iw : Hid (wrap64 ((k : Int) + 1) = (k : Int) + 1) := Lib.hid (by have := Hm60.out; unfold wrap64; omega)
      clear hx h6 kl hk hlt hb0
      obtain ⟨z, hz⟩ : ∃ z, z = anyAt b c ls k := ⟨_, rfl⟩
      rw [← hz] at Hs ⊢
      clear hz
      cases z
      · by_cases hb : x0 = b
        · by_cases hc : x1 = c
          · subst hb
            subst hc
            have He : Hid (anyAt x0 x1 ls (k + 1) = true) := Lib.hid (by rw [Hs.out]; simp [Rk.isAt])
            clear Hs
            go_wp2
            go_quiet (fail)
            go_wp2
            go_roundw
            case rel => exact ⟨k + 1, _, Hk.out, by first | rfl | (rw [Iw.out]; rfl), by rw [He.out], rfl⟩
            case measure => have := Hk.out; (try rw [Iw.out]); simp [intOf]; omega
          · have hc' : (x1 == c) = false := by rw [beq_eq_false_iff_ne]; exact hc
            have He : Hid (anyAt b c ls (k + 1) = false) := Lib.hid (by rw [Hs.out]; simp [Rk.isAt, hc])
            subst hb
            clear Hs hc
            go_wp2
            go_quiet (fail)
            go_wp2
            go_roundw
            case rel => exact ⟨k + 1, _, Hk.out, by first | rfl | (rw [Iw.out]; rfl), by rw [He.out], rfl⟩
            case measure => have := Hk.out; (try rw [Iw.out]); simp [intOf]; omega
        · have hb' : (x0 == b) = false := by rw [beq_eq_false_iff_ne]; exact hb
          have He : Hid (anyAt b c ls (k + 1) = false) := Lib.hid (by rw [Hs.out]; simp [Rk.isAt, hb])
          clear Hs hb
          go_wp2
          go_quiet (fail)
          go_wp2
          go_roundw
          case rel => exact ⟨k + 1, _, Hk.out, by first | rfl | (rw [Iw.out]; rfl), by rw [He.out], rfl⟩
          case measure => have := Hk.out; (try rw [Iw.out]); simp [intOf]; omega
      · have He : Hid (anyAt b c ls (k + 1) = true) := Lib.hid (by rw [Hs.out, Bool.true_or])
        clear Hs
        go_wp2
        go_quiet (fail)
        go_wp2
        go_roundw
        case rel => exact ⟨k + 1, _, Hk.out, by first | rfl | (rw [Iw.out]; rfl), by rw [He.out], rfl⟩
        case measure => have := Hk.out; (try rw [Iw.out]); simp [intOf]; omega
    · obtain rfl : k = m := by omega
      have ik : ((k : Int) < (k : Int)) = False := eq_false (by omega)
      obtain ⟨w2, hw2⟩ : ∃ W, W = w1.drewN n := ⟨_, rfl⟩
      have hD : Below w1.heap.size w1 w2 := by rw [hw2]; exact below_drew (Below.refl _ _) _
      have hA := HA.out.on hD
      have ks := Ks.out.below hD
      have hBB := below2 HBB.out hD
      rw [← hw2]
      clear hw2 hD HA Ks HBB hk hlt
      obtain ⟨z, hz⟩ : ∃ z, z = anyAt b c ls k := ⟨_, rfl⟩
      rw [← hz] at HN HS ⊢
      clear hz
      go_wp2_with fail
      refine (G2 _ hA).out.mono ?_
      rintro e w3 ⟨Am, cm, rfl, hXr, hB'⟩
      replace ks := ks.below hB'
      replace hBB := below2 hBB hB'
      clear hB' G2 hA
      cases q
      · obtain ⟨rfl, rfl⟩ := HN.out rfl
        clear HN HS ks hXr
        have HBB := Lib.hid hBB
        clear hBB
        go_wp2_with fail
        refine (ranked_any HK _).mono ?_
        rintro e w4 ⟨rfl, hB'⟩
        have HF := Lib.hid (below2 HBB.out hB')
        clear hB'
        go_wp2
        go_ret
        exact ⟨rfl, HF.out⟩
      · obtain ⟨rfl, j, hj, rfl, h1, h2⟩ := HS.out rfl
        have H2 : Hid (∀ i (_ : i < j) (hx : i < X.length), Rk.isAt b c (X[i]'hx) = false) := Lib.hid (fun i hi _ => h2 i hi)
        have Hj := Lib.hid hj
        obtain ⟨b0, o0, rfl, hb0, h6⟩ := hXr j hj
        have HX := Lib.hid hXr
        obtain ⟨x, hx⟩ : ∃ x, x = X[j]'hj := ⟨_, rfl⟩
        rw [← hx] at h6 h1
        obtain ⟨x0, x1, x2, x3, x4, x5⟩ := x
        have hxb : x0 = b ∧ x1 = c := by simpa [Rk.isAt] using h1
        obtain ⟨rfl, rfl⟩ := hxb
        have c0 := h6.c0
        have c1 := h6.c1
        simp only at c0 c1
        have k0 := ks.c0
        have k1 := ks.c1
        have j1 : (j : Int) < (k : Int) := by have := HlX.out; omega
        have j0 : ((j : Int) < 0) = False := eq_false (by omega)
        have j2 : (0 : Int) ≤ (j : Int) := by omega
        have j3 : ((k : Int) ≤ (j : Int)) = False := eq_false (by omega)
        have Ks := Lib.hid ks
        have HBB := Lib.hid hBB
        clear HN HS hx h6 h1 h2 hXr hb0 hj ks hBB
        go_wp2
        go_quiet (fail)
        clear c0 c1 k0 k1
        go_wp2_with fail
        go_loopw [10] (fun i wr => ∃ t n : Nat, t ≤ j ∧ i = .int .i64 (t : Int) ∧ wr = w3.drewN n) (fun i _ => j - (intOf i).toNat)
        case atStart => exact ⟨0, _, Nat.zero_le _, rfl, rfl⟩
        case round =>
          obtain ⟨t, n, ht, rfl, rfl⟩ := hrel
          by_cases hlt : t < j
          · have tl : t < X.length := Nat.lt_trans hlt Hj.out
            obtain ⟨b1, o1, e1, hb1, h6⟩ := HX.out t tl
            cases e1
            have Hf := Lib.hid (H2.out t hlt tl)
            obtain ⟨y, hy⟩ : ∃ y, y = X[t]'tl := ⟨_, rfl⟩
            rw [← hy] at h6 Hf
            obtain ⟨y0, y1, y2, y3, y4, y5⟩ := y
            have c0 := h6.c0
            have c1 := h6.c1
            simp only at c0 c1
            have k0 := Ks.out.c0
            have k1 := Ks.out.c1
            have i1 : (t : Int) < (j : Int) := by omega
            have i2 : (t : Int) < (k : Int) := by omega
            have i3 : (0 : Int) ≤ (t : Int) := by omega
            have Ht := Lib.hid hlt
            have Iw : Hid (wrap64 ((t : Int) + 1) = (t : Int) + 1) := Lib.hid (by have := Hm60.out; unfold wrap64; omega)
            clear hy h6 tl hb1 ht hlt
            by_cases hb : y0 = x0
            · have hc : (y1 == x1) = false := by
                have h := Hf.out
                subst hb
                simpa [Rk.isAt] using h
              subst hb
              clear Hf
              go_wp2
              go_quiet (fail)
              go_wp2
              go_roundw
              case rel => exact ⟨t + 1, _, Ht.out, by first | rfl | (rw [Iw.out]; rfl), rfl⟩
              case measure => have := Ht.out; (try rw [Iw.out]); simp [intOf]; omega
            · have hb' : (y0 == x0) = false := by rw [beq_eq_false_iff_ne]; exact hb
              clear Hf hb
              go_wp2
              go_quiet (fail)
              go_wp2
              go_roundw
              case rel => exact ⟨t + 1, _, Ht.out, by first | rfl | (rw [Iw.out]; rfl), rfl⟩
              case measure => have := Ht.out; (try rw [Iw.out]); simp [intOf]; omega
          · have it : ((t : Int) < (j : Int)) = False := eq_false (by omega)
            clear ht hlt
            go_wp2_with fail
            refine (ranked_any HK _).mono ?_
            rintro e w5 ⟨rfl, hB'⟩
            have HF := Lib.hid (below2 (below_drew HBB.out n) hB')
            clear hB'
            go_wp2
            go_ret
            exact ⟨rfl, HF.out⟩

set_option maxHeartbeats 1000000 in
theorem rankPlace_walk (HK : Hid RankK) (A : Option Addr) (ca : Nat) (ls : List Alm) (b c : Int) (w : World) (hA : AlmsAt w w.heap.size A ls) (ha : A = none → ca = 0) :
    Calls Try.prog 7 #[.slice A ls.length ca, .agg #[.int .i64 b, .int .i64 c]] w fun e w' => e = .returned (.bool true) ∧ Below w.heap.size w w' := by
  rcases Nat.lt_or_ge 60 ls.length with h1 | h1
  · have i1 : (60 : Int) < (ls.length : Int) := by omega
    clear hA ha
    go_enter Try.func7, Try.ntmps7
    go_wp2
    go_ret
    exact ⟨rfl, below_new _ _⟩
  · exact rankPlace_go HK A ca ls b c w hA ha h1 _ _ rfl
end Go.Proofs.Ytlkopnbkmpgafaa
