/-
  Layer 3 (frame): what Put and Get hand back.
-/
import Derived.Test.YteepemibmjpnfaaFrameRd
namespace Go.Proofs.Yteepemibmjpnfaa
set_option maxRecDepth 10000
open Go.RowKit

/-- A length that no text here comes to. -/
def big : Nat := 100000000
theorem big_lt {n : Nat} (h : n ≤ big) : (n : Int) < 1000000000 := by unfold big at h; omega
theorem big_max {n : Nat} (h : n ≤ big) : n ≤ maxLen := by unfold big at h; unfold maxLen; omega

theorem lay_short5 {k : Int} (h : Fm.kindOk k = true) : (Wm.lay k).length ≤ 6 := lay_short k (Fm.fits_kind h)
theorem textL_short {t : List UInt8} (h : t.length ≤ 3000) : (Fm.textL t).length ≤ t.length + 6 := by
  have := lay_short (t.length : Int) (Wm.fits_iff.2 (by omega))
  simp [Fm.textL]; omega
theorem ahead_short {k : Int} {t : List UInt8} (h : Fm.kindOk k = true) (h2 : t.length ≤ 3000) : (Fm.ahead k t).length ≤ t.length + 12 := by
  have := lay_short5 h; have := textL_short h2
  simp [Fm.ahead]; omega
theorem frame_short {k : Int} {t : List UInt8} (h : Fm.kindOk k = true) (h2 : t.length ≤ 3000) : (Fm.frame k t).length ≤ t.length + 18 := by
  have := ahead_short h h2; have := lay_short _ (Fm.fits_sum (Fm.ahead k t))
  simp [Fm.frame]; omega

theorem Text_yes (s : ByteArray) (w : World) (h : s.size ≤ 3000) :
    Calls Try.prog 60 #[.string s] w fun e w' => e = .returned (.tuple #[.string (strOf (Fm.textL (bl s))), .int .i64 0]) ∧ Below w.heap.size w w' := by
  have := Text_any s w (by unfold maxLen; omega)
  rw [textS, textE, if_pos h, if_pos h] at this
  exact this
theorem Text_no (s : ByteArray) (w : World) (hs : s.size ≤ maxLen) (h : ¬ s.size ≤ 3000) :
    Calls Try.prog 60 #[.string s] w fun e w' => e = .returned (.tuple #[.string (strOf []), .int .i64 2]) ∧ Below w.heap.size w w' := by
  have := Text_any s w hs
  rw [textS, textE, if_neg h, if_neg h] at this
  exact this

set_option maxHeartbeats 1000000 in
theorem Put_any (k : Int) (s : ByteArray) (w : World) (hs : s.size ≤ maxLen) :
    Calls Try.prog 46 #[.int .i64 k, .string s] w fun x w' => x = .returned (.tuple #[.string (strOf (Fm.putS k (bl s))), .int .i64 (Fm.putE k (bl s))]) ∧ Below w.heap.size w w' := by
  by_cases hk : Fm.kindOk k = true
  · by_cases hl : s.size ≤ 3000
    · obtain ⟨e1, e2⟩ := Fm.put_yes hk (t := bl s) hl
      rw [e1, e2]
      have Hk := Lib.hid hk
      have Hl := Lib.hid hl
      have Ha : Hid ((strOf (Fm.ahead k (bl s))).size ≤ 4000) := Lib.hid (by rw [strOf_size]; have := ahead_short hk (t := bl s) hl; rw [bl_length] at this; omega)
      have ea : strOf (Wm.lay k) ++ strOf (Fm.textL (bl s)) = strOf (Fm.ahead k (bl s)) := strs_append _ _
      have ef : strOf (Fm.ahead k (bl s)) ++ strOf (Wm.lay (Sm.ofL (Fm.ahead k (bl s)) : Int)) = strOf (Fm.frame k (bl s)) := strs_append _ _
      have hc1 : ¬ 9223372036854775807 < (strOf (Wm.lay k)).size + (strOf (Fm.textL (bl s))).size := by
        rw [strOf_size, strOf_size]; have := lay_short5 hk; have := textL_short (t := bl s) hl; rw [bl_length] at this; omega
      have hc2 : ¬ 9223372036854775807 < (strOf (Fm.ahead k (bl s))).size + (strOf (Wm.lay (Sm.ofL (Fm.ahead k (bl s)) : Int))).size := by
        have := Ha.out; have := lay_short _ (Fm.fits_sum (Fm.ahead k (bl s))); rw [strOf_size (Wm.lay _)]; omega
      clear hk hl
      go_enter Try.func46, Try.ntmps46
      go_wp2_with fail
      refine (isKind_any k w).mono ?_
      rintro x w1 ⟨rfl, rfl⟩
      rw [Hk.out]
      go_wp2_with fail
      refine (Text_yes s w Hl.out).mono ?_
      rintro x w1 ⟨rfl, hB1⟩
      go_wp2_with fail
      refine (small_any k w1 (Fm.fits_kind Hk.out)).mono ?_
      rintro x w2 ⟨rfl, hB2⟩
      go_wp2_with fail
      refine (Of_any (strOf (Fm.ahead k (bl s))) w2 (by have := Ha.out; omega)).mono ?_
      rintro x w3 ⟨rfl, hB3⟩
      rw [bl_strOf]
      go_wp2_with fail
      refine (small_any _ w3 (Fm.fits_sum _)).mono ?_
      rintro x w4 ⟨rfl, hB4⟩
      go_wp2
      go_ret2
      exact ⟨rfl, below2 (below2 (below2 hB1 hB2) hB3) hB4⟩
    · obtain ⟨e1, e2⟩ := Fm.put_long hk (t := bl s) hl
      rw [e1, e2]
      have Hk := Lib.hid hk
      have Hl := Lib.hid hl
      clear hk hl
      go_enter Try.func46, Try.ntmps46
      go_wp2_with fail
      refine (isKind_any k w).mono ?_
      rintro x w1 ⟨rfl, rfl⟩
      rw [Hk.out]
      go_wp2_with fail
      refine (Text_no s w hs Hl.out).mono ?_
      rintro x w1 ⟨rfl, hB1⟩
      go_wp2
      go_ret2
      exact ⟨rfl, hB1⟩
  · have hk' : Fm.kindOk k = false := by simpa using hk
    obtain ⟨e1, e2⟩ := Fm.put_kind hk' (t := bl s)
    rw [e1, e2]
    have Hk := Lib.hid hk'
    clear hk hk'
    go_enter Try.func46, Try.ntmps46
    go_wp2_with fail
    refine (isKind_any k w).mono ?_
    rintro x w1 ⟨rfl, rfl⟩
    rw [Hk.out]
    go_wp2
    go_ret2
    exact ⟨rfl, Below.refl _ _⟩

theorem ret4 {a b : Int} {x y x' y' : ByteArray} {n m : Int} (h : a = b) (h1 : x = y) (h2 : x' = y') (h3 : n = m) : Ending.returned (.tuple #[.int .i64 a, .string x, .string x', .int .i64 n]) = .returned (.tuple #[.int .i64 b, .string y, .string y', .int .i64 m]) := by rw [h, h1, h2, h3]

/-- Four results of Get. -/
def got4 (x : Int × List UInt8 × List UInt8 × Int) : Ending := .returned (.tuple #[.int .i64 x.1, .string (strOf x.2.1), .string (strOf x.2.2.1), .int .i64 x.2.2.2])

set_option maxRecDepth 10000 in
set_option maxHeartbeats 1000000 in
theorem Get_any (s : ByteArray) (w : World) (hs : s.size ≤ big) :
    Calls Try.prog 52 #[.string s] w fun x w' => x = got4 (Fm.get (bl s)) ∧ Below w.heap.size w w' := by
  obtain ⟨k, a, e1, h1⟩ : ∃ k a e1, Fm.rdI (bl s) 0 = (k, a, e1) := ⟨_, _, _, rfl⟩
  obtain ⟨t, b, e2, h2⟩ : ∃ t b e2, Fm.rdT a e1 = (t, b, e2) := ⟨_, _, _, rfl⟩
  obtain ⟨c, r, e3, h3⟩ : ∃ c r e3, Fm.rdI b e2 = (c, r, e3) := ⟨_, _, _, rfl⟩
  have H1 := Lib.hid h1
  have H2 := Lib.hid h2
  have H3 := Lib.hid h3
  have hab : a.length ≤ s.size := by have := rdI_len h1; rwa [bl_length] at this
  have hbb : b.length ≤ s.size := by have := rdT_len h2; omega
  have Hl1 : Hid (s.size ≤ maxLen) := Lib.hid (big_max hs)
  have Hl2 : Hid ((strOf a).size ≤ maxLen) := Lib.hid (by rw [strOf_size]; exact Nat.le_trans hab (big_max hs))
  have Hl3 : Hid ((strOf b).size ≤ maxLen) := Lib.hid (by rw [strOf_size]; exact Nat.le_trans hbb (big_max hs))
  have Hs := Lib.hid hs
  have Hb := Lib.hid hbb
  clear h1 h2 h3 hs hab hbb
  go_enter Try.func52, Try.ntmps52
  go_wp2_with fail
  refine (reader_any s w).mono ?_
  rintro x w1 ⟨rfl, hR1, hB1⟩
  go_wp2_with fail
  refine (number_any _ _ w.heap.size s 0 k a e1 w1 hR1 Hl1.out (Nat.le_refl _) (Nat.le_succ _) H1.out).mono ?_
  rintro x w2 ⟨rfl, hR2, hB2⟩
  have hB02 := hB1.trans hB2
  clear hR1 hB1 hB2
  go_wp2_with fail
  refine (text_any _ _ w.heap.size (w.heap.size + 2) (strOf a) e1 t b e2 w2 hR2 Hl2.out (Nat.le_refl _) (Nat.le_succ _) (by omega) (by omega) H2.out).mono ?_
  rintro x w3 ⟨rfl, hR3, hB3, _⟩
  have hB03 := hB02.trans hB3
  clear hR2 hB02 hB3
  go_wp2_with fail
  refine (left_any _ _ _ _ w3 hR3).mono ?_
  rintro x w4 ⟨rfl, n4, rfl⟩
  have hR4 := hR3.drew n4
  have hB04 := below_drew hB03 n4
  obtain ⟨w4, hw4⟩ : ∃ w4, w4 = w3.drewN n4 := ⟨_, rfl⟩
  rw [← hw4] at hR4 hB04 ⊢
  clear hw4 hR3 hB03
  go_wp2_with fail
  refine (number_any _ _ w.heap.size (strOf b) e2 c r e3 w4 hR4 Hl3.out (Nat.le_refl _) (Nat.le_succ _) H3.out).mono ?_
  rintro x w5 ⟨rfl, hR5, hB5⟩
  have hB05 := hB04.trans hB5
  clear hR4 hB04 hB5
  go_wp2_with fail
  refine (left_any _ _ _ _ w5 hR5).mono ?_
  rintro x w6 ⟨rfl, n6, rfl⟩
  have hB06 := below_drew hB05 n6
  obtain ⟨w6, hw6⟩ : ∃ w6, w6 = w5.drewN n6 := ⟨_, rfl⟩
  rw [← hw6] at hB06 ⊢
  clear hw6 hR5 hB05
  by_cases he : e3 = 0
  · subst he
    obtain ⟨he2, g3⟩ := Fm.rdI_zero H3.out
    subst he2
    obtain ⟨he1, g2⟩ := Fm.rdT_zero H2.out
    subst he1
    have g1 := (Fm.rdI_zero H1.out).2
    by_cases hk : Fm.kindOk k = true
    · by_cases hc0 : c < 0
      · have Hr := Lib.hid (Fm.get_form g1 g2 g3 (fun hh => by omega))
        have Hk := Lib.hid hk
        clear g1 g2 g3 hk
        go_wp2_with fail
        refine (isKind_any k w6).mono ?_
        rintro x w7 ⟨rfl, rfl⟩
        rw [Hk.out]
        go_wp2
        (try simp only [Exit.inBlock, Exit.then]); refine bodyPost_ret (results_tmp4 rfl _ _ _) rfl ?_
        exact ⟨by rw [Hr.out]; rfl, hB06⟩
      · by_cases hc1 : 65535 < c
        · have Hr := Lib.hid (Fm.get_form g1 g2 g3 (fun hh => by omega))
          have Hk := Lib.hid hk
          clear g1 g2 g3 hk
          go_wp2_with fail
          refine (isKind_any k w6).mono ?_
          rintro x w7 ⟨rfl, rfl⟩
          rw [Hk.out]
          go_wp2
          (try simp only [Exit.inBlock, Exit.then]); refine bodyPost_ret (results_tmp4 rfl _ _ _) rfl ?_
          exact ⟨by rw [Hr.out]; rfl, hB06⟩
        · have Hk := Lib.hid hk
          have G1 := Lib.hid g1
          have G2 := Lib.hid g2
          have G3 := Lib.hid g3
          have Hc : Hid (0 ≤ c ∧ c ≤ 65535) := Lib.hid ⟨by omega, by omega⟩
          have hd0 : decide (c < 0) = false := decide_eq_false hc0
          have hd1 : decide (65535 < c) = false := decide_eq_false hc1
          clear g1 g2 g3 hk hc0 hc1
          obtain ⟨d, hd⟩ : ∃ d, s.size = d + (strOf b).size := ⟨s.size - (strOf b).size, by have := Hb.out; rw [strOf_size]; omega⟩
          have hd2 : (s.size : Int) - ((strOf b).size : Int) = (d : Int) := by omega
          have Hd := Lib.hid hd
          have hd3 : d ≤ s.size := by omega
          have hd4 : wrap64 (d : Int) = (d : Int) := by have := Hs.out; unfold big at this; unfold wrap64; omega
          clear hd
          go_wp2_with fail
          refine (isKind_any k w6).mono ?_
          rintro x w7 ⟨rfl, rfl⟩
          rw [Hk.out]
          go_wp2_with fail
          have hx : bl (s.extract 0 d) = (bl s).take ((bl s).length - b.length) := by
            rw [bl_extract_to s d hd3, bl_length]
            have := Hd.out
            rw [strOf_size] at this
            rw [show s.size - b.length = d by omega]
          refine (Of_any (s.extract 0 d) w6 (big_lt (Nat.le_trans (by rw [← bl_length, hx, List.length_take]; rw [bl_length]; omega) Hs.out))).mono ?_
          rintro x w7 ⟨rfl, hB7⟩
          rw [hx]
          have hB07 : Below w.heap.size w w7 := hB06.trans (hB7.mono hB06.size)
          clear hx hd2 hd3 hd4 Hd
          obtain ⟨v, hv⟩ : ∃ v : Int, v = (Sm.ofL ((bl s).take ((bl s).length - b.length)) : Int) := ⟨_, rfl⟩
          rw [← hv]
          have Hv := Lib.hid hv
          clear hv
          by_cases hcv : c = v
          · subst hcv
            have Hr := Lib.hid (Fm.get_yes G1.out G2.out G3.out ⟨Hk.out, Hc.out⟩ Hv.out)
            go_wp2
            (try simp only [Exit.inBlock, Exit.then]); refine bodyPost_ret (results_tmp4 rfl _ _ _) rfl ?_
            exact ⟨by rw [Hr.out]; rfl, hB07⟩
          · have Hr := Lib.hid (Fm.get_sum G1.out G2.out G3.out ⟨Hk.out, Hc.out⟩ (fun hh => hcv (hh.trans Hv.out.symm)))
            have hcv' : (c != v) = true := by rw [bne_iff_ne]; exact hcv
            clear hcv
            go_wp2
            (try simp only [Exit.inBlock, Exit.then]); refine bodyPost_ret (results_tmp4 rfl _ _ _) rfl ?_
            exact ⟨by rw [Hr.out]; rfl, hB07⟩
    · have hk' : Fm.kindOk k = false := by simpa using hk
      have Hk := Lib.hid hk'
      have Hr := Lib.hid (Fm.get_form g1 g2 g3 (fun hh => hk hh.1))
      clear g1 g2 g3 hk hk'
      go_wp2_with fail
      refine (isKind_any k w6).mono ?_
      rintro x w7 ⟨rfl, rfl⟩
      rw [Hk.out]
      go_wp2
      (try simp only [Exit.inBlock, Exit.then]); refine bodyPost_ret (results_tmp4 rfl _ _ _) rfl ?_
      exact ⟨by rw [Hr.out]; rfl, hB06⟩
  · have Hr : Hid (Fm.get (bl s) = (0, [], [], e3)) := Lib.hid (by
      by_cases he1 : e1 = 0
      · subst he1
        by_cases he2 : e2 = 0
        · subst he2
          exact Fm.get_e3 H1.out H2.out H3.out he
        · have h3 := H3.out
          rw [Fm.rdI_stop he2] at h3
          simp only [Prod.mk.injEq] at h3
          rw [← h3.2.2]
          exact Fm.get_e2 H1.out H2.out he2
      · have h2 := H2.out
        rw [Fm.rdT_stop he1] at h2
        simp only [Prod.mk.injEq] at h2
        have h3 := H3.out
        rw [← h2.2.2, Fm.rdI_stop he1] at h3
        simp only [Prod.mk.injEq] at h3
        rw [← h3.2.2]
        exact Fm.get_e1 H1.out he1)
    have he' : (e3 != 0) = true := by rw [bne_iff_ne]; exact he
    clear he
    go_wp2
    (try simp only [Exit.inBlock, Exit.then]); refine bodyPost_ret (results_tmp4 rfl _ _ _) rfl ?_
    exact ⟨by rw [Hr.out]; rfl, hB06⟩

end Go.Proofs.Yteepemibmjpnfaa
