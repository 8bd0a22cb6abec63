/-
  The document's answers for layer 3: what the reference's Put and Get hand back: what frame's do.
-/
import Derived.Test.YteepemibmjpnfaaXFrameFramed
import Derived.Test.YteepemibmjpnfaaXRefGet
import Derived.Test.YteepemibmjpnfaaXSumRef
namespace Go.Proofs.Yteepemibmjpnfaa
set_option maxRecDepth 10000
open Go.RowKit

theorem RText_yes (s : ByteArray) (w : World) (h : s.size ≤ 3000) :
    Calls Try.prog 65 #[.string s] w fun e w' => e = .returned (.tuple #[.string (strOf (Fm.textL (bl s))), .int .i64 0]) ∧ Below w.heap.size w w' := by
  have := RText_any s w (by unfold maxLen; omega)
  rw [textS, textE, if_pos h, if_pos h] at this
  exact this
theorem RText_no (s : ByteArray) (w : World) (hs : s.size ≤ maxLen) (h : ¬ s.size ≤ 3000) :
    Calls Try.prog 65 #[.string s] w fun e w' => e = .returned (.tuple #[.string (strOf []), .int .i64 2]) ∧ Below w.heap.size w w' := by
  have := RText_any s w hs
  rw [textS, textE, if_neg h, if_neg h] at this
  exact this
theorem RInt_at (n : Int) (w : World) (h : Wm.fits n = true) :
    Calls Try.prog 48 #[.int .i64 n] w fun e w' => e = .returned (.tuple #[.string (strOf (Wm.lay n)), .int .i64 0]) ∧ Below w.heap.size w w' := by
  have := RInt_any n w
  rw [intsS_one h, intsE_one h] at this
  exact this

set_option maxHeartbeats 1000000 in
theorem RPut_any (k : Int) (s : ByteArray) (w : World) (hs : s.size ≤ maxLen) :
    Calls Try.prog 49 #[.int .i64 k, .string s] w fun x w' => x = .returned (.tuple #[.string (strOf (Fm.putS k (bl s))), .int .i64 (Fm.putE k (bl s))]) ∧ Below w.heap.size w w' := by
  by_cases hk : Fm.kindOk k = true
  · have hk0 : decide (k < 0) = false := decide_eq_false (by have := Fm.kindOk_iff.1 hk; omega)
    have hk1 : decide (99 < k) = false := decide_eq_false (by have := Fm.kindOk_iff.1 hk; omega)
    by_cases hl : s.size ≤ 3000
    · obtain ⟨e1, e2⟩ := Fm.put_yes hk (t := bl s) hl
      rw [e1, e2]
      have Hk := Lib.hid hk
      have Hl := Lib.hid hl
      have Ha : Hid ((strOf (Fm.ahead k (bl s))).size ≤ 4000) := Lib.hid (by rw [strOf_size]; have := ahead_short hk (t := bl s) hl; rw [bl_length] at this; omega)
      have ea : strOf (Wm.lay k) ++ strOf (Fm.textL (bl s)) = strOf (Fm.ahead k (bl s)) := strs_append _ _
      have ef : strOf (Fm.ahead k (bl s)) ++ strOf (Wm.lay (Sm.ofL (Fm.ahead k (bl s)) : Int)) = strOf (Fm.frame k (bl s)) := strs_append _ _
      have hc1 : ¬ 9223372036854775807 < (strOf (Wm.lay k)).size + (strOf (Fm.textL (bl s))).size := by
        rw [strOf_size, strOf_size]; have := lay_short5 hk; have := textL_short (t := bl s) hl; rw [bl_length] at this; omega
      have hc2 : ¬ 9223372036854775807 < (strOf (Fm.ahead k (bl s))).size + (strOf (Wm.lay (Sm.ofL (Fm.ahead k (bl s)) : Int))).size := by
        have := Ha.out; have := lay_short _ (Fm.fits_sum (Fm.ahead k (bl s))); rw [strOf_size (Wm.lay _)]; omega
      clear hk hl
      go_enter Try.func49, Try.ntmps49
      go_wp2_with fail
      refine (RText_yes s w Hl.out).mono ?_
      rintro x w1 ⟨rfl, hB1⟩
      go_wp2_with fail
      refine (RInt_at k w1 (Fm.fits_kind Hk.out)).mono ?_
      rintro x w2 ⟨rfl, hB2⟩
      go_wp2_with fail
      refine (rOf_any (strOf (Fm.ahead k (bl s))) w2 (by have := Ha.out; omega)).mono ?_
      rintro x w3 ⟨rfl, n3, rfl⟩
      rw [bl_strOf]
      have hB03 := below_drew (below2 hB1 hB2) n3
      obtain ⟨w3, hw3⟩ : ∃ w3, w3 = w2.drewN n3 := ⟨_, rfl⟩
      rw [← hw3] at hB03 ⊢
      clear hw3 hB1 hB2
      go_wp2_with fail
      refine (RInt_at _ w3 (Fm.fits_sum _)).mono ?_
      rintro x w4 ⟨rfl, hB4⟩
      go_wp2
      go_ret2
      exact ⟨rfl, below2 hB03 hB4⟩
    · obtain ⟨e1, e2⟩ := Fm.put_long hk (t := bl s) hl
      rw [e1, e2]
      have Hl := Lib.hid hl
      clear hk hl
      go_enter Try.func49, Try.ntmps49
      go_wp2_with fail
      refine (RText_no s w hs Hl.out).mono ?_
      rintro x w1 ⟨rfl, hB1⟩
      go_wp2
      go_ret2
      exact ⟨rfl, hB1⟩
  · have hk' : Fm.kindOk k = false := by simpa using hk
    obtain ⟨e1, e2⟩ := Fm.put_kind hk' (t := bl s)
    rw [e1, e2]
    rcases Fm.kindOk_not.1 hk' with hk0 | hk0
    · clear hk hk'
      go_enter Try.func49, Try.ntmps49
      go_wp2
      go_ret2
      exact ⟨rfl, Below.refl _ _⟩
    · have hk1 : ¬ k < 0 := by omega
      clear hk hk'
      go_enter Try.func49, Try.ntmps49
      go_wp2
      go_ret2
      exact ⟨rfl, Below.refl _ _⟩

theorem RGetText_at (s : ByteArray) (t r : List UInt8) (c : Int) (w : World) (hs : s.size ≤ maxLen) (h : Wm.getText (bl s) = (t, r, c)) :
    Calls Try.prog 70 #[.string s] w fun e w' => e = .returned (.tuple #[.string (strOf t), .string (strOf r), .int .i64 c]) ∧ Below w.heap.size w w' := by
  have := RGetText_any s w hs
  rw [h] at this
  exact this

set_option maxRecDepth 10000 in
set_option maxHeartbeats 1000000 in
theorem RGet_any (s : ByteArray) (w : World) (hs : s.size ≤ big) :
    Calls Try.prog 54 #[.string s] w fun x w' => x = got4 (Fm.get (bl s)) ∧ Below w.heap.size w w' := by
  have Hl1 : Hid (s.size ≤ maxLen) := Lib.hid (big_max hs)
  have Hs := Lib.hid hs
  rcases Fm.getInt_cases (bl s) with ⟨k, a, h1⟩ | ⟨e, he, h1⟩
  · have H1 := Lib.hid h1
    have hab : a.length ≤ s.size := by have := getInt_len h1; rwa [bl_length] at this
    have Hl2 : Hid ((strOf a).size ≤ maxLen) := Lib.hid (by rw [strOf_size]; exact Nat.le_trans hab (big_max hs))
    rcases Wm.getText_err a with ⟨t, b, h2⟩ | ⟨e, he, h2⟩
    · have H2 := Lib.hid h2
      have hbb : b.length ≤ s.size := by have := getText_len h2; omega
      have Hl3 : Hid ((strOf b).size ≤ maxLen) := Lib.hid (by rw [strOf_size]; exact Nat.le_trans hbb (big_max hs))
      rcases Fm.getInt_cases b with ⟨c, r, h3⟩ | ⟨e, he, h3⟩
      · have H3 := Lib.hid h3
        have Hb := Lib.hid hbb
        clear h1 h2 h3 hs hab hbb
        go_enter Try.func54, Try.ntmps54
        go_wp2_with fail
        refine (RGetInt_at s k a 0 w Hl1.out H1.out).mono ?_
        rintro x w1 ⟨rfl, hB1⟩
        go_wp2_with fail
        refine (RGetText_at (strOf a) t b 0 w1 Hl2.out H2.out).mono ?_
        rintro x w2 ⟨rfl, hB2⟩
        go_wp2_with fail
        refine (RGetInt_at (strOf b) c r 0 w2 Hl3.out H3.out).mono ?_
        rintro x w6 ⟨rfl, hB6⟩
        have hB06 := below2 (below2 hB1 hB2) hB6
        clear hB1 hB2 hB6
        by_cases hk : Fm.kindOk k = true
        · have hk0 : decide (k < 0) = false := decide_eq_false (by have := Fm.kindOk_iff.1 hk; omega)
          have hk1 : decide (99 < k) = false := decide_eq_false (by have := Fm.kindOk_iff.1 hk; omega)
          have Hk := Lib.hid hk
          clear hk
          by_cases hc0 : c < 0
          · have Hr := Lib.hid (Fm.get_form H1.out H2.out H3.out (fun hh => by omega))
            go_wp2
            (try simp only [Exit.inBlock, Exit.then]); refine bodyPost_ret (results_tmp4 rfl _ _ _) rfl ?_
            exact ⟨by rw [Hr.out]; rfl, hB06⟩
          · by_cases hc1 : 65535 < c
            · have Hr := Lib.hid (Fm.get_form H1.out H2.out H3.out (fun hh => by omega))
              go_wp2
              (try simp only [Exit.inBlock, Exit.then]); refine bodyPost_ret (results_tmp4 rfl _ _ _) rfl ?_
              exact ⟨by rw [Hr.out]; rfl, hB06⟩
            · have Hc : Hid (0 ≤ c ∧ c ≤ 65535) := Lib.hid ⟨by omega, by omega⟩
              have hd0 : decide (c < 0) = false := decide_eq_false hc0
              have hd1 : decide (65535 < c) = false := decide_eq_false hc1
              clear hc0 hc1
              obtain ⟨d, hd⟩ : ∃ d, s.size = d + (strOf b).size := ⟨s.size - (strOf b).size, by have := Hb.out; rw [strOf_size]; omega⟩
              have hd2 : (s.size : Int) - ((strOf b).size : Int) = (d : Int) := by omega
              have Hd := Lib.hid hd
              have hd3 : d ≤ s.size := by omega
              have hd4 : wrap64 (d : Int) = (d : Int) := wrap_big (Nat.le_trans hd3 Hs.out)
              clear hd
              go_wp2_with fail
              have hx : bl (s.extract 0 d) = (bl s).take ((bl s).length - b.length) := by
                rw [bl_extract_to s d hd3, bl_length]
                have := Hd.out
                rw [strOf_size] at this
                clear hd2 hd4
                rw [show s.size - b.length = d by omega]
              refine (rOf_any (s.extract 0 d) w6 (big_lt (Nat.le_trans (by rw [← bl_length, hx, List.length_take]; rw [bl_length]; clear hd2 hd4; omega) Hs.out))).mono ?_
              rintro x w7 ⟨rfl, n7, rfl⟩
              rw [hx]
              have hB07 := below_drew hB06 n7
              obtain ⟨w7, hw7⟩ : ∃ w7, w7 = w6.drewN n7 := ⟨_, rfl⟩
              rw [← hw7] at hB07 ⊢
              clear hx hd2 hd3 hd4 Hd hw7 hB06
              obtain ⟨v, hv⟩ : ∃ v : Int, v = (Sm.ofL ((bl s).take ((bl s).length - b.length)) : Int) := ⟨_, rfl⟩
              rw [← hv]
              have Hv := Lib.hid hv
              clear hv
              by_cases hcv : c = v
              · subst hcv
                have Hr := Lib.hid (Fm.get_yes H1.out H2.out H3.out ⟨Hk.out, Hc.out⟩ Hv.out)
                go_wp2
                (try simp only [Exit.inBlock, Exit.then]); refine bodyPost_ret (results_tmp4 rfl _ _ _) rfl ?_
                exact ⟨by rw [Hr.out]; rfl, hB07⟩
              · have Hr := Lib.hid (Fm.get_sum H1.out H2.out H3.out ⟨Hk.out, Hc.out⟩ (fun hh => hcv (hh.trans Hv.out.symm)))
                have hcv' : (v != c) = true := by rw [bne_iff_ne]; exact fun hh => hcv hh.symm
                clear hcv
                go_wp2
                (try simp only [Exit.inBlock, Exit.then]); refine bodyPost_ret (results_tmp4 rfl _ _ _) rfl ?_
                exact ⟨by rw [Hr.out]; rfl, hB07⟩
        · have Hr := Lib.hid (Fm.get_form H1.out H2.out H3.out (fun hh => hk hh.1))
          rcases Fm.kindOk_not.1 (show Fm.kindOk k = false by simpa using hk) with hk0 | hk0
          · clear hk
            go_wp2
            (try simp only [Exit.inBlock, Exit.then]); refine bodyPost_ret (results_tmp4 rfl _ _ _) rfl ?_
            exact ⟨by rw [Hr.out]; rfl, hB06⟩
          · have hk1 : ¬ k < 0 := by omega
            clear hk
            go_wp2
            (try simp only [Exit.inBlock, Exit.then]); refine bodyPost_ret (results_tmp4 rfl _ _ _) rfl ?_
            exact ⟨by rw [Hr.out]; rfl, hB06⟩
      · have H3 := Lib.hid h3
        have Hr := Lib.hid (Fm.get_e3 h1 h2 h3 he)
        have he' : (e != 0) = true := by rw [bne_iff_ne]; exact he
        clear h1 h2 h3 hs hab hbb he
        go_enter Try.func54, Try.ntmps54
        go_wp2_with fail
        refine (RGetInt_at s k a 0 w Hl1.out H1.out).mono ?_
        rintro x w1 ⟨rfl, hB1⟩
        go_wp2_with fail
        refine (RGetText_at (strOf a) t b 0 w1 Hl2.out H2.out).mono ?_
        rintro x w2 ⟨rfl, hB2⟩
        go_wp2_with fail
        refine (RGetInt_at (strOf b) 0 [] e w2 Hl3.out H3.out).mono ?_
        rintro x w6 ⟨rfl, hB6⟩
        go_wp2
        (try simp only [Exit.inBlock, Exit.then]); refine bodyPost_ret (results_tmp4 rfl _ _ _) rfl ?_
        exact ⟨by rw [Hr.out]; rfl, below2 (below2 hB1 hB2) hB6⟩
    · have H2 := Lib.hid h2
      have Hr := Lib.hid (Fm.get_e2 h1 h2 he)
      have he' : (e != 0) = true := by rw [bne_iff_ne]; exact he
      clear h1 h2 hs hab he
      go_enter Try.func54, Try.ntmps54
      go_wp2_with fail
      refine (RGetInt_at s k a 0 w Hl1.out H1.out).mono ?_
      rintro x w1 ⟨rfl, hB1⟩
      go_wp2_with fail
      refine (RGetText_at (strOf a) [] [] e w1 Hl2.out H2.out).mono ?_
      rintro x w2 ⟨rfl, hB2⟩
      go_wp2
      (try simp only [Exit.inBlock, Exit.then]); refine bodyPost_ret (results_tmp4 rfl _ _ _) rfl ?_
      exact ⟨by rw [Hr.out]; rfl, below2 hB1 hB2⟩
  · have H1 := Lib.hid h1
    have Hr := Lib.hid (Fm.get_e1 h1 he)
    have he' : (e != 0) = true := by rw [bne_iff_ne]; exact he
    clear h1 hs he
    go_enter Try.func54, Try.ntmps54
    go_wp2_with fail
    refine (RGetInt_at s 0 [] e w Hl1.out H1.out).mono ?_
    rintro x w1 ⟨rfl, hB1⟩
    go_wp2
    (try simp only [Exit.inBlock, Exit.then]); refine bodyPost_ret (results_tmp4 rfl _ _ _) rfl ?_
    exact ⟨by rw [Hr.out]; rfl, hB1⟩

end Go.Proofs.Yteepemibmjpnfaa
