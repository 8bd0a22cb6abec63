/-
  Layer 1 (wire): the walk of the law WireBack.
-/
import Derived.Test.YtchcnfkobljmnaaWireSame
import Derived.Test.YtchcnfkobljmnaaRefShort
import Derived.Test.YtchcnfkobljmnaaRefSame
namespace Go.Proofs.Ytchcnfkobljmnaa
open Go.RowKit

theorem Short_two (a b : ByteArray) (w : World) (ha : a.size ≤ maxLen) (hb : b.size ≤ maxLen) :
    Calls Try.prog 23 #[.slice (some ⟨w.heap.size, 0, none⟩) 2 2] (w.alloc (.cells #[.string a, .string b] 9)) fun e w' => e = .returned (.bool (decide (a.size ≤ 300) && decide (b.size ≤ 300))) ∧ w.alloc (.cells #[.string a, .string b] 9) = w' := by
  have h := Short_any (some ⟨w.heap.size, 0, none⟩) 2 [a, b] (w.alloc (.cells #[.string a, .string b] 9)) ((StrsAt.new w [a, b] 9).more (by simp)) (by simp) (by simp [ha, hb])
  refine h.mono ?_
  rintro e w' ⟨rfl, hw⟩
  exact ⟨by simp [shortB], hw⟩

theorem getsL_lays (zs : List Int) (h : zs.all Wm.fits = true) (hl : zs.length ≤ 100) (r : List UInt8) : getsL (Wm.lays zs ++ r) zs.length = (zs, r, 0) := by
  unfold getsL
  rw [if_neg (by omega), Int.toNat_natCast, Wm.getInts_lays zs h r]

theorem Ints_no (A : Option Addr) (cap : Nat) (zs : List Int) (w : World) (hA : IntsAt w w.heap.size A zs) (hl : zs.length ≤ 100000000) (h : zs.all Wm.fits = false) :
    Calls Try.prog 11 #[.slice A zs.length cap] w fun e w' => e = .returned (.tuple #[.string (strOf []), .int .i64 1]) ∧ Below w.heap.size w w' := by
  have := Ints_any A cap zs w hA hl
  rw [intsS, intsE, if_neg (by simp only [h]; decide), if_neg (by simp only [h]; decide)] at this
  exact this

theorem Text_s (s : ByteArray) (w : World) (hs : s.size ≤ maxLen) (h : s.size ≤ 3000) :
    Calls Try.prog 13 #[.string s] w fun e w' => e = .returned (.tuple #[.string (strOf (Wm.lay (bl s).length ++ bl s)), .int .i64 0]) ∧ Below w.heap.size w w' := by
  have := Text_any s w hs
  rw [textS, textE, if_pos h, if_pos h] at this
  exact this

set_option maxRecDepth 100000 in
set_option maxHeartbeats 2000000 in
theorem wireBack_main (A : Option Addr) (cap : Nat) (zs : List Int) (s r : ByteArray) (w : World) (hA : IntsAt w w.heap.size A zs) (hl : zs.length ≤ maxLen) (hs : s.size ≤ maxLen) (hr : r.size ≤ maxLen) :
    Calls Try.prog 5 #[.slice A zs.length cap, .string s, .string r] w fun e w' => e = .returned (.bool true) ∧ Below w.heap.size w w' := by
  have Hs := Lib.hid hs; have Hr := Lib.hid hr
  unfold maxLen at hl hs hr
  by_cases hlong : 100 < zs.length
  · have hd : decide (100 < (zs.length : Int)) = true := decide_eq_true (by omega)
    go_enter Try.func5, Try.ntmps5
    go_wp2
    go_ret
    exact ⟨rfl, Below.refl _ _⟩
  · have hd : decide (100 < (zs.length : Int)) = false := decide_eq_false (by omega)
    have hz : zs.length ≤ 100 := by omega
    clear hlong
    by_cases hsh : (decide (s.size ≤ 300) && decide (r.size ≤ 300)) = true
    · have hs3 : s.size ≤ 300 := by simp at hsh; exact hsh.1
      have hr3 : r.size ≤ 300 := by simp at hsh; exact hsh.2
      have Hsh := Lib.hid hsh
      clear hsh
      go_enter Try.func5, Try.ntmps5
      go_wp2_with fail
      refine (Short_two s r w Hs.out Hr.out).mono ?_
      rintro e w1 ⟨rfl, hw1⟩
      rw [Hsh.out]
      have hB1 : Below w.heap.size w w1 := by rw [← hw1]; exact (Below.refl _ w).alloc (Nat.le_refl _) _
      clear hw1
      have hcat2 : ¬ 9223372036854775807 < (strOf (Wm.lay (bl s).length ++ bl s)).size + r.size := by
        rw [strOf_size, List.length_append]; have := lay_short ((bl s).length : Int) (Wm.fits_iff.2 (by rw [bl_length]; omega)); rw [bl_length] at this ⊢; omega
      have Hct : Hid ((strOf (Wm.lay (bl s).length ++ bl s) ++ r).size ≤ maxLen) := Lib.hid (by rw [← bl_length, bl_append, List.length_append, bl_strOf, bl_length r]; rw [strOf_size] at hcat2; unfold maxLen; omega)
      by_cases hfit : zs.all Wm.fits = true
      · have hsh := lays_short zs hfit
        have hcat : ¬ 9223372036854775807 < (strOf (Wm.lays zs)).size + r.size := by rw [strOf_size]; omega
        have Hcm : Hid ((strOf (Wm.lays zs) ++ r).size ≤ maxLen) := Lib.hid (by rw [← bl_length, bl_append, List.length_append, bl_strOf, bl_length]; unfold maxLen; omega)
        have Hfit := Lib.hid hfit
        clear hfit hsh
        go_wp2_with fail
        refine (Ints_yes A cap zs w1 ((hA.below hB1 (Nat.le_refl _)).more hB1.size) (by omega) Hfit.out).mono ?_
        rintro e w2 ⟨rfl, hB2⟩
        have hB12 := below2 hB1 hB2
        go_wp2_with fail
        refine (GetInts_at _ _ zs (bl r) 0 w2 Hcm.out (by rw [bl_append, bl_strOf]; exact getsL_lays zs Hfit.out hz (bl r))).mono ?_
        rintro e w3 ⟨A', cap', rfl, hA', hB3⟩
        have hB13 := below2 hB12 hB3
        rw [strOf_bl]
        go_wp2_with fail
        refine (Same_any A' A cap' cap zs zs w3 hA' ((hA.below hB13 (Nat.le_refl _)).more hB13.size) (by omega) (by omega)).mono ?_
        rintro e w4 ⟨rfl, k4, rfl⟩
        rw [decide_eq_true (rfl : zs = zs)]
        have hBW := below_drew hB13 k4
        obtain ⟨W, hW⟩ : ∃ W, W = w3.drewN k4 := ⟨_, rfl⟩
        rw [← hW] at hBW ⊢
        clear hW hB13 hB12 hB1 hB2 hB3 hA'
        go_wp2_with fail
        refine (Text_s s W Hs.out (by omega)).mono ?_
        rintro e w4 ⟨rfl, hB4⟩
        go_wp2_with fail
        refine (GetText_at _ (bl s) (bl r) 0 w4 Hct.out (by rw [bl_append, bl_strOf]; exact Wm.getText_lay (bl s) (bl r) (by rw [bl_length]; omega))).mono ?_
        rintro e w5 ⟨rfl, k5, rfl⟩
        rw [strOf_bl, strOf_bl]
        go_wp2_with fail
        refine (wired_any _).mono ?_
        rintro e w6 ⟨rfl, hB6⟩
        go_wp2
        go_ret
        exact ⟨rfl, below2 (below_drew (below2 hBW hB4) k5) hB6⟩
      · have hfit' : zs.all Wm.fits = false := by simpa using hfit
        have Hfit := Lib.hid hfit'
        clear hfit hfit'
        have hcat : ¬ 9223372036854775807 < (strOf []).size + r.size := by rw [strOf_size]; simp; omega
        have Hcm : Hid ((strOf [] ++ r).size ≤ maxLen) := Lib.hid (by rw [← bl_length, bl_append, List.length_append, bl_strOf, bl_length]; unfold maxLen; simp; omega)
        go_wp2_with fail
        refine (Ints_no A cap zs w1 ((hA.below hB1 (Nat.le_refl _)).more hB1.size) (by omega) Hfit.out).mono ?_
        rintro e w2 ⟨rfl, hB2⟩
        have hB12 := below2 hB1 hB2
        obtain ⟨ns, rr, c, hgg⟩ : ∃ ns rr c, getsL (bl (strOf [] ++ r)) zs.length = (ns, rr, c) := ⟨_, _, _, rfl⟩
        have Hgg := Lib.hid hgg
        clear hgg
        go_wp2_with fail
        refine (GetInts_at _ _ ns rr c w2 Hcm.out Hgg.out).mono ?_
        rintro e W ⟨A', cap', rfl, hA', hB3⟩
        have hBW := below2 hB12 hB3
        clear hB12 hB1 hB2 hB3 hA'
        go_wp2_with fail
        refine (Text_s s W Hs.out (by omega)).mono ?_
        rintro e w4 ⟨rfl, hB4⟩
        go_wp2_with fail
        refine (GetText_at _ (bl s) (bl r) 0 w4 Hct.out (by rw [bl_append, bl_strOf]; exact Wm.getText_lay (bl s) (bl r) (by rw [bl_length]; omega))).mono ?_
        rintro e w5 ⟨rfl, k5, rfl⟩
        rw [strOf_bl, strOf_bl]
        go_wp2_with fail
        refine (wired_any _).mono ?_
        rintro e w6 ⟨rfl, hB6⟩
        go_wp2
        go_ret
        exact ⟨rfl, below2 (below_drew (below2 hBW hB4) k5) hB6⟩
    · have Hsh : Hid ((decide (s.size ≤ 300) && decide (r.size ≤ 300)) = false) := Lib.hid (by simpa using hsh)
      clear hsh
      go_enter Try.func5, Try.ntmps5
      go_wp2_with fail
      refine (Short_two s r w Hs.out Hr.out).mono ?_
      rintro e w1 ⟨rfl, hw1⟩
      rw [Hsh.out]
      have hB1 : Below w.heap.size w w1 := by rw [← hw1]; exact (Below.refl _ w).alloc (Nat.le_refl _) _
      clear hw1
      go_wp2
      go_ret
      exact ⟨rfl, hB1⟩

theorem wireBack_walk (a0 : Option Addr) (len0 cap0 : Nat) (z0 : List Int) (a1 a2 : ByteArray) (w : World) (w0 : IsRow .i64 w a0 len0 cap0 z0) (w1 : a1.size ≤ maxLen) (w2 : a2.size ≤ maxLen) :
    Calls Try.prog 5 #[.slice a0 len0 cap0, .string a1, .string a2] w fun e w' => e = .returned (.bool true) ∧ Below w.heap.size w w' := by
  obtain ⟨h1, h2, h3, _⟩ := w0.ints
  have h := wireBack_main a0 cap0 (z0.take len0) a1 a2 w h3 (by omega) w1 w2
  rw [← h1] at h
  exact h

end Go.Proofs.Ytchcnfkobljmnaa
