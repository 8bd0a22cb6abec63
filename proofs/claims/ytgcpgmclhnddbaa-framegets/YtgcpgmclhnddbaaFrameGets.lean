/-
  Layer 3 (frame): the walk of the law FrameGets.
-/
import Derived.Test.YtgcpgmclhnddbaaRefFrame2
import Derived.Test.YtgcpgmclhnddbaaFrameSame
namespace Go.Proofs.Ytgcpgmclhnddbaa
open Go.RowKit

theorem owns_len {w : World} {base : Nat} {e : TypeId} {v : Value} {n : Nat} {xs : List Value} (h : w.ownsRow base e 1 v n xs) : n ≤ maxLen := by
  rcases h.2 with ⟨_, h0⟩ | ⟨g, cap', cur, hv, _, _, h1, h2, _⟩
  · rw [h0]; exact Nat.zero_le _
  · exact Nat.le_trans h1 h2

set_option maxRecDepth 10000 in
set_option maxHeartbeats 2000000 in
theorem frameGets_walk (s : ByteArray) (w : World) (_hs : s.size ≤ maxLen) :
    Calls Try.prog 4 #[.string s] w fun e w' => e = .returned (.bool true) ∧ Below w.heap.size w w' := by
  by_cases hl : 600 < s.size
  · have hd : decide (600 < (s.size : Int)) = true := decide_eq_true (by omega)
    clear hl _hs
    go_enter Try.func4, Try.ntmps4
    go_wp2
    go_ret
    exact ⟨rfl, Below.refl _ _⟩
  · have hd : decide (600 < (s.size : Int)) = false := decide_eq_false (by omega)
    have Hb : Hid (s.size ≤ big) := Lib.hid (by unfold big; omega)
    obtain ⟨a, b, c, e, hg⟩ : ∃ a b c e, Fm.get (bl s) = (a, b, c, e) := ⟨_, _, _, _, rfl⟩
    obtain ⟨i, ls, r, l, hr⟩ : ∃ i ls r l, Fm.getRow (bl s) = (i, ls, r, l) := ⟨_, _, _, _, rfl⟩
    obtain ⟨ts, y, z, ha⟩ : ∃ ts y z, Fm.all (bl s) = (ts, y, z) := ⟨_, _, _, rfl⟩
    have Hg := Lib.hid hg; have Hr := Lib.hid hr; have Ha := Lib.hid ha
    have Hn1 : Hid (ls.length ≤ maxLen) := Lib.hid (by
      rcases Fm.getRow_cases (bl s) with ⟨k', ls', r', h'⟩ | ⟨e', _, h'⟩
      · rw [hr] at h'; simp only [Prod.mk.injEq] at h'
        obtain ⟨rfl, rfl, rfl, rfl⟩ := h'
        have := (Fm.layOk_iff.1 (Fm.rowE_zero (Fm.getRow_ok hr).1).2.1).1
        unfold maxLen; omega
      · rw [hr] at h'; simp only [Prod.mk.injEq] at h'
        rw [h'.2.1]; unfold maxLen; simp)
    clear hl _hs hg hr ha
    go_enter Try.func4, Try.ntmps4
    go_wp2_with fail
    have h1 := Get_any s w Hb.out
    rw [Hg.out] at h1
    refine h1.mono ?_
    rintro x w1 ⟨rfl, hB1⟩
    clear h1
    unfold got4
    go_wp2_with fail
    have h2 := RGet_any s w1 Hb.out
    rw [Hg.out] at h2
    refine h2.mono ?_
    rintro x w2 ⟨rfl, hB2⟩
    have hB02 := below2 hB1 hB2
    clear h2 hB1 hB2
    unfold got4
    go_wp2_with fail
    have h3 := GetRow_any s w2 Hb.out
    rw [Hr.out] at h3
    refine h3.mono ?_
    rintro x w3 ⟨v, rfl, hown, hB3⟩
    obtain ⟨A1, c1, rfl⟩ := ownsRow_slice hown
    have hA1 := StrsAt.of_ownV hown
    have hB03 := below2 hB02 hB3
    clear h3 hB02 hB3 hown
    go_wp2_with fail
    have h4 := RGetRow_any s w3 Hb.out
    rw [Hr.out] at h4
    refine h4.mono ?_
    rintro x w4 ⟨v, rfl, hown, hB4⟩
    obtain ⟨A2, c2, rfl⟩ := ownsRow_slice hown
    have hA2 := StrsAt.of_ownV hown
    replace hA1 := (hA1.below hB4 (Nat.le_refl _)).more hB4.size
    have hB04 := below2 hB03 hB4
    clear h4 hB03 hB4 hown
    go_wp2_with fail
    have h5 := All_any s w4 Hb.out
    rw [Ha.out] at h5
    refine h5.mono ?_
    rintro x w5 ⟨v, rfl, hown, hB5⟩
    obtain ⟨A3, c3, rfl⟩ := ownsRow_slice hown
    have hA3 := StrsAt.of_ownV hown
    replace hA1 := (hA1.below hB5 (Nat.le_refl _)).more hB5.size
    replace hA2 := (hA2.below hB5 (Nat.le_refl _)).more hB5.size
    have hB05 := below2 hB04 hB5
    clear h5 hB04 hB5 hown
    go_wp2_with fail
    have h6 := RAll_any s w5 Hb.out
    rw [Ha.out] at h6
    refine h6.mono ?_
    rintro x w6 ⟨v, rfl, hown, hB6⟩
    obtain ⟨A4, c4, rfl⟩ := ownsRow_slice hown
    have Hm4 : Hid (ts.length ≤ maxLen) := Lib.hid (owns_len hown)
    have hA4 := StrsAt.of_ownV hown
    replace hA1 := (hA1.below hB6 (Nat.le_refl _)).more hB6.size
    replace hA2 := (hA2.below hB6 (Nat.le_refl _)).more hB6.size
    replace hA3 := (hA3.below hB6 (Nat.le_refl _)).more hB6.size
    have hB06 := below2 hB05 hB6
    clear h6 hB05 hB6 hown
    go_wp2_with fail
    refine (framed_any w6).mono ?_
    rintro x w7 ⟨rfl, hB7⟩
    replace hA1 := (hA1.below hB7 (Nat.le_refl _)).more hB7.size
    replace hA2 := (hA2.below hB7 (Nat.le_refl _)).more hB7.size
    replace hA3 := (hA3.below hB7 (Nat.le_refl _)).more hB7.size
    replace hA4 := (hA4.below hB7 (Nat.le_refl _)).more hB7.size
    have hB07 := below2 hB06 hB7
    clear hB06 hB7
    have t1 := Texts_any A1 A2 c1 c2 (ls.map strOf) (ls.map strOf) w7 hA1 hA2 (by rw [List.length_map]; exact Hn1.out)
    rw [List.length_map, decide_eq_true (rfl : ls.map strOf = ls.map strOf)] at t1
    go_wp2_with fail
    refine t1.mono ?_
    rintro x w8 ⟨rfl, n8, rfl⟩
    have hA3' : StrsAt (w7.drewN n8) (w7.drewN n8).heap.size A3 (ts.map strOf) := hA3
    have hA4' : StrsAt (w7.drewN n8) (w7.drewN n8).heap.size A4 (ts.map strOf) := hA4
    have hB08 := below_drew hB07 n8
    have t2 := Texts_any A3 A4 c3 c4 (ts.map strOf) (ts.map strOf) (w7.drewN n8) hA3' hA4' (by rw [List.length_map]; exact Hm4.out)
    rw [List.length_map, decide_eq_true (rfl : ts.map strOf = ts.map strOf)] at t2
    clear t1
    go_wp2_with fail
    refine t2.mono ?_
    rintro x w9 ⟨rfl, n9, rfl⟩
    have hB09 := below_drew hB08 n9
    go_wp2
    go_ret
    exact ⟨rfl, by rw [← World.drewN_drewN]; exact hB09⟩

end Go.Proofs.Ytgcpgmclhnddbaa
