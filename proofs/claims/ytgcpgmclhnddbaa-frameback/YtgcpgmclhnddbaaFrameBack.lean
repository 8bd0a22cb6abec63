/-
  Layer 3 (frame): the walk of the law FrameBack.
-/
import Derived.Test.YtgcpgmclhnddbaaFrameSame
import Derived.Test.YtgcpgmclhnddbaaRefShort
namespace Go.Proofs.Ytgcpgmclhnddbaa
open Go.RowKit

theorem map_bl_strV (ss : List ByteArray) : (ss.map bl).map strV = ss.map Value.string := by rw [List.map_map]; rfl
theorem rowS_bad {k : Int} {ls : List (List UInt8)} (h : Fm.rowE k ls ≠ 0) : Fm.rowS k ls = [] := by
  unfold Fm.rowE at h
  unfold Fm.rowS
  split
  · rename_i h1
    rw [if_pos h1] at h
    split
    · rename_i h2
      rw [if_pos h2] at h
      unfold Fm.putE at h
      unfold Fm.putS
      rw [if_pos h1] at h ⊢
      split
      · rename_i h3; rw [if_pos h3] at h; exact absurd rfl h
      · rfl
    · rfl
  · rfl

theorem shortB_iff {ss : List ByteArray} : shortB ss = true ↔ (∀ s ∈ ss, s.size ≤ 300) ∧ ss.length ≤ 60 := by simp [shortB]

set_option maxRecDepth 10000 in
set_option maxHeartbeats 2000000 in
theorem frameBack_main (k : Int) (s : ByteArray) (A : Option Addr) (cap : Nat) (ss : List ByteArray) (r : ByteArray) (w : World) (hs : s.size ≤ maxLen) (hA : StrsAt w w.heap.size A ss) (hl : ss.length ≤ maxLen) (hsz : ∀ s ∈ ss, s.size ≤ maxLen) (hr : r.size ≤ maxLen) :
    Calls Try.prog 5 #[.int .i64 k, .string s, .slice A ss.length cap, .string r] w fun e w' => e = .returned (.bool true) ∧ Below w.heap.size w w' := by
  have h2 := Short_two s r w hs hr
  by_cases hsh : (decide (s.size ≤ 300) && decide (r.size ≤ 300)) = true
  · have Hss := Lib.hid (show s.size ≤ 300 by simp at hsh; exact hsh.1)
    have Hrr := Lib.hid (show r.size ≤ 300 by simp at hsh; exact hsh.2)
    rw [hsh] at h2
    have hB1 : Below w.heap.size w (w.alloc (.cells #[.string s, .string r] 9)) := (Below.refl _ w).alloc (Nat.le_refl _) _
    have h3 := Short_any A cap ss (w.alloc (.cells #[.string s, .string r] 9)) ((hA.below hB1 (Nat.le_refl _)).more hB1.size) hl hsz
    have Hsz := Lib.hid hsz
    clear hsh hs hr hsz
    by_cases hll : shortB ss = true
    · rw [hll] at h3
      obtain ⟨q1, q2⟩ := shortB_iff.1 hll
      have Hq := Lib.hid q1
      have Hq2 := Lib.hid q2
      clear hll q1 q2 hl
      by_cases hk : Fm.kindOk k = true
      have Hp := Lib.hid (Fm.put_yes (t := bl s) hk (by rw [bl_length]; have := Hss.out; omega))
      have hcat : strOf (Fm.frame k (bl s)) ++ r = strOf (Fm.frame k (bl s) ++ bl r) := strOf_append _ _
      have Hg := Lib.hid (Fm.get_frame (t := bl s) hk (by rw [bl_length]; have := Hss.out; omega) (bl r))
      have hfs : (Fm.frame k (bl s)).length ≤ 400 := by
        have h1 := frame_short (t := bl s) hk (by rw [bl_length]; have := Hss.out; omega)
        rw [bl_length] at h1; have := Hss.out; omega
      have hsum : ¬ 9223372036854775807 < (strOf (Fm.frame k (bl s))).size + r.size := by
        rw [strOf_size]; have := Hrr.out; omega
      have Hbig : Hid ((strOf (Fm.frame k (bl s) ++ bl r)).size ≤ big) := Lib.hid (by rw [strOf_size, List.length_append, bl_length]; have := Hrr.out; unfold big; omega)
      clear hfs hk
      go_enter Try.func5, Try.ntmps5
      go_wp2_with fail
      refine h2.mono ?_
      rintro x w1 ⟨rfl, rfl⟩
      clear h2
      go_wp2_with fail
      refine h3.mono ?_
      rintro x w1 ⟨rfl, rfl⟩
      clear h3
      obtain ⟨w1, hw1⟩ : ∃ w1, w1 = w.alloc (.cells #[.string s, .string r] 9) := ⟨_, rfl⟩
      rw [← hw1] at hB1 ⊢
      clear hw1
      go_wp2_with fail
      have hp := Put_any k s w1 (by have := Hss.out; unfold maxLen; omega)
      rw [Hp.out.1, Hp.out.2] at hp
      refine hp.mono ?_
      rintro x w2 ⟨rfl, hB2⟩
      have hB02 := below2 hB1 hB2
      clear hp hB1 hB2
      go_wp2_with fail
      have hg := Get_any (strOf (Fm.frame k (bl s) ++ bl r)) w2 Hbig.out
      rw [bl_strOf, Hg.out] at hg
      unfold got4 at hg
      rw [strOf_bl, strOf_bl] at hg
      refine hg.mono ?_
      rintro x w3 ⟨rfl, hB3⟩
      have hB03 := below2 hB02 hB3
      clear hg hB02 hB3 hcat hsum
      go_wp2_with fail
      rotate_left
      have hk' : Fm.kindOk k = false := by simpa using hk
      have Hp := Lib.hid (Fm.put_kind (t := bl s) hk')
      have hsum : ¬ 9223372036854775807 < (strOf []).size + r.size := by
        rw [strOf_size]; have := Hrr.out; simp; omega
      have hcat : strOf [] ++ r = r := bl_inj (by rw [bl_append, bl_strOf]; rfl)
      have Hbig : Hid (r.size ≤ big) := Lib.hid (by have := Hrr.out; unfold big; omega)
      clear hk hk'
      go_enter Try.func5, Try.ntmps5
      go_wp2_with fail
      refine h2.mono ?_
      rintro x w1 ⟨rfl, rfl⟩
      clear h2
      go_wp2_with fail
      refine h3.mono ?_
      rintro x w1 ⟨rfl, rfl⟩
      clear h3
      obtain ⟨w1, hw1⟩ : ∃ w1, w1 = w.alloc (.cells #[.string s, .string r] 9) := ⟨_, rfl⟩
      rw [← hw1] at hB1 ⊢
      clear hw1
      go_wp2_with fail
      have hp := Put_any k s w1 (by have := Hss.out; unfold maxLen; omega)
      rw [Hp.out.1, Hp.out.2] at hp
      refine hp.mono ?_
      rintro x w2 ⟨rfl, hB2⟩
      have hB02 := below2 hB1 hB2
      clear hp hB1 hB2
      go_wp2_with fail
      refine (Get_any r w2 Hbig.out).mono ?_
      rintro x w3 ⟨rfl, hB3⟩
      have hB03 := below2 hB02 hB3
      clear hB02 hB3 hcat hsum
      unfold got4
      go_wp2_with fail
      all_goals
        have hw := Row_any k A cap ss w3 ((hA.below hB03 (Nat.le_refl _)).more hB03.size) Hsz.out
        by_cases he : Fm.rowE k (ss.map bl) = 0
        · have Hgr := Lib.hid (Fm.getRow_row he (bl r))
          obtain ⟨e1, _, e3, e4⟩ := Fm.rowE_zero he
          have hfs := frame_short e1 e3
          rw [← e4] at hfs
          have hsum : ¬ 9223372036854775807 < (strOf (Fm.rowS k (ss.map bl))).size + r.size := by
            rw [strOf_size]; have := Hrr.out; omega
          have hcat : strOf (Fm.rowS k (ss.map bl)) ++ r = strOf (Fm.rowS k (ss.map bl) ++ bl r) := strOf_append _ _
          have Hb2 : Hid ((strOf (Fm.rowS k (ss.map bl) ++ bl r)).size ≤ big) := Lib.hid (by rw [strOf_size, List.length_append, bl_length]; have := Hrr.out; unfold big; omega)
          rw [he] at hw
          clear e1 e3 e4 hfs he
          refine hw.mono ?_
          rintro x w4 ⟨rfl, hB4⟩
          have hB04 := below2 hB03 hB4
          clear hw hB03 hB4
          go_wp2_with fail
          have hg2 := GetRow_any (strOf (Fm.rowS k (ss.map bl) ++ bl r)) w4 Hb2.out
          rw [bl_strOf, Hgr.out] at hg2
          refine hg2.mono ?_
          rintro x w5 ⟨v, rfl, hown, hB5⟩
          simp only [strOf_bl]
          rw [List.length_map, map_bl_strV] at hown
          obtain ⟨A', c, rfl⟩ := ownsRow_slice hown
          have hA' := StrsAt.of_own hown
          have hB05 := below2 hB04 hB5
          clear hg2 hown hB04 hB5
          go_wp2_with fail
          refine (framed_any w5).mono ?_
          rintro x w6 ⟨rfl, hB6⟩
          have hB06 := below2 hB05 hB6
          go_wp2_with fail
          have ht := Texts_any A' A c cap ss ss w6 ((hA'.below hB6 (Nat.le_refl _)).more hB6.size) ((hA.below hB06 (Nat.le_refl _)).more hB06.size) (by have := Hq2.out; unfold maxLen; omega)
          rw [decide_eq_true (rfl : ss = ss)] at ht
          refine ht.mono ?_
          rintro x w7 ⟨rfl, n7, rfl⟩
          go_wp2
          go_ret
          exact ⟨rfl, below_drew hB06 n7⟩
        · rw [rowS_bad he] at hw
          obtain ⟨q, hq⟩ : ∃ q, q = Fm.rowE k (ss.map bl) := ⟨_, rfl⟩
          rw [← hq] at hw he
          have he' : (q != 0) = true := by rw [bne_iff_ne]; exact he
          have hsum : ¬ 9223372036854775807 < (strOf []).size + r.size := by
            rw [strOf_size]; have := Hrr.out; simp; omega
          have hcat : strOf [] ++ r = r := bl_inj (by rw [bl_append, bl_strOf]; rfl)
          clear hq he
          refine hw.mono ?_
          rintro x w4 ⟨rfl, hB4⟩
          have hB04 := below2 hB03 hB4
          clear hw hB03 hB4
          go_wp2_with fail
          refine (GetRow_any r w4 (by have := Hrr.out; unfold big; omega)).mono ?_
          rintro x w5 ⟨v, rfl, hown, hB5⟩
          have hB05 := below2 hB04 hB5
          go_wp2_with fail
          refine (framed_any w5).mono ?_
          rintro x w6 ⟨rfl, hB6⟩
          have hB06 := below2 hB05 hB6
          go_wp2
          go_ret
          exact ⟨rfl, hB06⟩
    · have hll' : shortB ss = false := by simpa using hll
      rw [hll'] at h3
      clear hll hll' hl
      go_enter Try.func5, Try.ntmps5
      go_wp2_with fail
      refine h2.mono ?_
      rintro x w1 ⟨rfl, rfl⟩
      go_wp2_with fail
      refine h3.mono ?_
      rintro x w1 ⟨rfl, rfl⟩
      go_wp2
      go_ret
      exact ⟨rfl, hB1⟩
  · have hsh' : (decide (s.size ≤ 300) && decide (r.size ≤ 300)) = false := by simpa using hsh
    rw [hsh'] at h2
    clear hsh hsh' hs hr hl
    go_enter Try.func5, Try.ntmps5
    go_wp2_with fail
    refine h2.mono ?_
    rintro x w1 ⟨rfl, rfl⟩
    go_wp2
    go_ret
    exact ⟨rfl, (Below.refl _ w).alloc (Nat.le_refl _) _⟩

theorem frameBack_walk (a0 : Int) (a1 : ByteArray) (a2 : Option Addr) (len2 cap2 : Nat) (z2 : List ByteArray) (a3 : ByteArray) (w : World) (_w0 : (Lit.int .i64 a0).wf = true) (w1 : a1.size ≤ maxLen) (w2 : IsStrs w a2 len2 cap2 z2) (w3 : a3.size ≤ maxLen) :
    Calls Try.prog 5 #[.int .i64 a0, .string a1, .slice a2 len2 cap2, .string a3] w fun e w' => e = .returned (.bool true) ∧ Below w.heap.size w w' := by
  obtain ⟨h1, h2, h3, h4⟩ := w2.strs
  have h := frameBack_main a0 a1 a2 cap2 z2 a3 w w1 h3 (by omega) h4 w3
  rw [← h1] at h
  exact h

end Go.Proofs.Ytgcpgmclhnddbaa
