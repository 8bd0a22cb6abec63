/-
  Layer 13 (record): the landed code: get, slices.ContainsFunc at isLong.
-/
import Derived.Test.YtfapfnbehhekhaaXRecW1
import Derived.Test.YtfapfnbehhekhaaXWireGet
import Derived.Test.YtfapfnbehhekhaaXStrApp
namespace Go.Proofs.Ytfapfnbehhekhaa
set_option maxRecDepth 10000
open Go.RowKit

namespace Rc
theorem one_of {l t r t2 : List UInt8} {k e z f n : Int} (hg : Fm.get l = (k, t, r, e)) (hi : Wm.getInt t = (z, t2, f)) :
    one l n = if e = 0 ∧ k = 1 ∧ f = 0 ∧ z = n ∧ nOk n = true ∧ t2.length ≤ 1000 then some (t2, r) else none := by
  by_cases h : e = 0 ∧ k = 1 ∧ f = 0 ∧ z = n ∧ nOk n = true ∧ t2.length ≤ 1000
  · rw [if_pos h]
    obtain ⟨rfl, rfl, rfl, rfl, h5, h6⟩ := h
    refine one_iff.2 ⟨h5, h6, ?_⟩
    have h1 := (Fm.get_ok hg).2.2
    have h2 := (Wm.getInt_ok hi).2
    rw [h1, h2]; rfl
  · rw [if_neg h]
    cases ho : one l n with
    | none => rfl
    | some x =>
      obtain ⟨t', r'⟩ := x
      obtain ⟨h1, h2, h3⟩ := one_ok ho
      have g := get_rec h1 h2 r'
      rw [← h3, hg] at g
      simp only [Prod.mk.injEq] at g
      obtain ⟨rfl, rfl, rfl, rfl⟩ := g
      have g2 := Wm.getInt_lay (fits_n h1) t'
      rw [hi] at g2
      simp only [Prod.mk.injEq] at g2
      obtain ⟨rfl, rfl, rfl⟩ := g2
      exact absurd ⟨rfl, rfl, rfl, rfl, h1, h2⟩ h
theorem get_text_le (l : List UInt8) : (Fm.get l).2.1.length ≤ 3000 := by
  rcases Fm.get_cases l with ⟨k, t, r, h⟩ | ⟨e, _, h⟩
  · rw [h]; exact (Fm.get_ok h).2.1
  · rw [h]; exact Nat.zero_le _
end Rc
/-- What get hands back. -/
def gotRec (x : Option (List UInt8 × List UInt8)) : Ending := match x with
  | some (t, r) => .returned (.tuple #[.string (strOf t), .string (strOf r), .bool true])
  | none => .returned (.tuple #[.string ⟨#[]⟩, .string ⟨#[]⟩, .bool false])

set_option maxRecDepth 10000 in
set_option maxHeartbeats 1000000 in
theorem rget_any (s : ByteArray) (n : Int) (w : World) (hs : s.size ≤ 18000) :
    Calls Try.prog 56 #[.string s, .int .i64 n] w fun e w' => e = gotRec (Rc.one (bl s) n) ∧ Below w.heap.size w w' := by
  have p1 := Get_any s w (Nat.le_trans hs (by unfold big; decide))
  have htl := Rc.get_text_le (bl s)
  obtain ⟨k, t, r, e, hg⟩ : ∃ k t r e, Fm.get (bl s) = (k, t, r, e) := ⟨_, _, _, _, rfl⟩
  obtain ⟨z, t2, f, hi⟩ : ∃ z t2 f, Wm.getInt t = (z, t2, f) := ⟨_, _, _, rfl⟩
  have Ho := Lib.hid (Rc.one_of (n := n) hg hi)
  rw [hg] at p1 htl
  unfold got4 at p1
  simp only at p1 htl
  have p3 := fun W => GetInt_any (strOf t) W (by rw [strOf_size]; unfold maxLen; omega)
  rw [bl_strOf, hi] at p3
  simp only at p3
  have p4 := fun W => rnum_any n W
  have p5 := fun W => rlong_any (strOf t2) W
  rw [strOf_size] at p5
  obtain ⟨T, hT⟩ : ∃ T, T = strOf t := ⟨_, rfl⟩
  obtain ⟨T2, hT2⟩ : ∃ T, T = strOf t2 := ⟨_, rfl⟩
  obtain ⟨R, hR⟩ : ∃ T, T = strOf r := ⟨_, rfl⟩
  rw [← hT] at p3
  simp only [← hT2] at p3 p5
  rw [← hT, ← hR] at p1
  have HT2 := Lib.hid hT2
  have HR := Lib.hid hR
  obtain ⟨y, hy⟩ : ∃ y, y = Rc.one (bl s) n := ⟨_, rfl⟩
  rw [← hy] at Ho
  rw [← hy]
  clear hg hi htl hT hT2 hR hs hy
  go_enter Try.func56, Try.ntmps56
  go_wp2_with fail
  refine p1.mono ?_
  rintro x w1 ⟨rfl, hB⟩
  have Hb := Lib.hid hB
  clear hB p1
  by_cases he : e = 0
  case neg =>
    have j : (e != 0) = true := by rw [bne_iff_ne]; exact he
    have Hn : Hid (y = none) := Lib.hid (by rw [Ho.out, if_neg (fun h => he h.1)])
    clear he
    go_wp2
    go_ret3
    exact ⟨by rw [Hn.out]; rfl, Hb.out⟩
  subst he
  by_cases hk : k = 1
  case neg =>
    have j : (k != 1) = true := by rw [bne_iff_ne]; exact hk
    have Hn : Hid (y = none) := Lib.hid (by rw [Ho.out, if_neg (fun h => hk h.2.1)])
    clear hk
    go_wp2
    go_ret3
    exact ⟨by rw [Hn.out]; rfl, Hb.out⟩
  subst hk
  go_wp2_with fail
  refine (p3 _).mono ?_
  rintro x w2 ⟨rfl, m, rfl⟩
  have Hb2 := Lib.hid (below_drew Hb.out m)
  clear p3 Hb
  by_cases hf : f = 0
  case neg =>
    have j : (f != 0) = true := by rw [bne_iff_ne]; exact hf
    have Hn : Hid (y = none) := Lib.hid (by rw [Ho.out, if_neg (fun h => hf h.2.2.1)])
    clear hf
    go_wp2
    go_ret3
    exact ⟨by rw [Hn.out]; rfl, Hb2.out⟩
  subst hf
  by_cases hz : z = n
  case neg =>
    have j : (z != n) = true := by rw [bne_iff_ne]; exact hz
    have Hn : Hid (y = none) := Lib.hid (by rw [Ho.out, if_neg (fun h => hz h.2.2.2.1)])
    clear hz
    go_wp2
    go_ret3
    exact ⟨by rw [Hn.out]; rfl, Hb2.out⟩
  have j : (z != n) = false := by rw [bne_eq_false_iff_eq]; exact hz
  have Hz := Lib.hid hz
  clear hz
  cases hn : Rc.nOk n
  · rw [hn] at p4
    have Hn : Hid (y = none) := Lib.hid (by rw [Ho.out, if_neg (fun h => by have := h.2.2.2.2.1; rw [hn] at this; cases this)])
    clear hn
    go_wp2_with fail
    refine (p4 _).mono ?_
    rintro x w3 ⟨rfl, rfl⟩
    clear p4
    go_wp2
    go_ret3
    exact ⟨by rw [Hn.out]; rfl, Hb2.out⟩
  rw [hn] at p4
  by_cases hl : 1000 < t2.length
  · rw [decide_eq_true hl] at p5
    have Hn : Hid (y = none) := Lib.hid (by rw [Ho.out, if_neg (fun h => by have := h.2.2.2.2.2; omega)])
    clear hn hl
    go_wp2_with fail
    refine (p4 _).mono ?_
    rintro x w3 ⟨rfl, rfl⟩
    clear p4
    go_wp2_with fail
    refine (p5 _).mono ?_
    rintro x w3 ⟨rfl, rfl⟩
    clear p5
    go_wp2
    go_ret3
    exact ⟨by rw [Hn.out]; rfl, Hb2.out⟩
  · rw [decide_eq_false hl] at p5
    have Hn : Hid (y = some (t2, r)) := Lib.hid (by rw [Ho.out, if_pos ⟨by trivial, by trivial, by trivial, Hz.out, hn, by omega⟩])
    clear hn hl
    go_wp2_with fail
    refine (p4 _).mono ?_
    rintro x w3 ⟨rfl, rfl⟩
    clear p4
    go_wp2_with fail
    refine (p5 _).mono ?_
    rintro x w3 ⟨rfl, rfl⟩
    clear p5
    go_wp2
    go_ret3
    exact ⟨by rw [Hn.out]; unfold gotRec; rw [HT2.out, HR.out]; rfl, Hb2.out⟩

/-! ### is one of them too long? -/
set_option maxHeartbeats 1000000 in
theorem rindex_any (A : Option Addr) (cap : Nat) (ss : List ByteArray) (w : World) (hA : StrsAt w w.heap.size A ss) (hl : ss.length ≤ 1000) :
    Calls Try.prog 58 #[.slice A ss.length cap, .func (.func 29) #[] #[]] w fun e w' => ∃ i : Int, e = .returned (.int .i64 i) ∧ (Rc.shorts ss = true → i = -1) ∧ (Rc.shorts ss = false → 0 ≤ i) ∧ w' = w := by
  have HA := Lib.hid hA
  clear hA
  go_enter Try.func58, Try.ntmps58
  go_wp2_with fail
  go_loopw [8] (fun i wr => ∃ j : Nat, j ≤ ss.length ∧ i = .int .i64 (j : Int) ∧ Hid (Rc.shorts (ss.take j) = true) ∧ Hid (wr = w)) (fun i _ => ss.length - (intOf i).toNat)
  case atStart => exact ⟨0, Nat.zero_le _, rfl, Lib.hid rfl, Lib.hid rfl⟩
  case round =>
    obtain ⟨j, hj, rfl, Hs, Hw⟩ := hrel
    obtain rfl := Hw.out.symm
    by_cases hlt : j < ss.length
    · obtain ⟨b, off, rfl, hb, hc⟩ := HA.out j hlt
      have hsn : Rc.shorts (ss.take (j + 1)) = (Rc.shorts (ss.take j) && decide (ss[j].size ≤ 1000)) := by
        unfold Rc.shorts; rw [List.take_succ_eq_append_getElem hlt, List.all_append]; simp
      have hmem : Rc.shorts ss = true → ss[j].size ≤ 1000 := fun h => of_decide_eq_true (List.all_eq_true.1 h _ (List.getElem_mem hlt))
      obtain ⟨s, hs⟩ : ∃ s, s = ss[j] := ⟨_, rfl⟩
      rw [← hs] at hc hsn hmem
      have p := fun W => rlong_any s W
      have Hmem := Lib.hid hmem
      have Hsn := Lib.hid hsn
      have wj : wrap64 ((j : Int) + 1) = (j : Int) + 1 := by unfold wrap64; omega
      clear hs hb hmem hsn
      by_cases hz : 1000 < s.size
      · rw [decide_eq_true hz] at p
        have Hz := Lib.hid hz
        clear hz
        go_wp2_with fail
        refine (p _).mono ?_
        rintro e w1 ⟨rfl, rfl⟩
        clear p
        go_wp2
        go_ret
        exact ⟨_, rfl, fun h => absurd (Hmem.out h) (by have := Hz.out; omega), fun _ => by omega, rfl⟩
      · rw [decide_eq_false hz] at p
        have Hz := Lib.hid hz
        clear hz
        go_wp2_with fail
        refine (p _).mono ?_
        rintro e w1 ⟨rfl, rfl⟩
        clear p
        go_wp2
        go_roundw
        case rel => exact ⟨j + 1, by omega, by go_num, Lib.hid (by rw [Hsn.out, Hs.out, decide_eq_true (by have := Hz.out; omega)]; rfl), Hw⟩
        case measure => simp [intOf]; omega
    · obtain rfl : j = ss.length := by omega
      rw [List.take_length] at Hs
      go_wp2
      go_ret
      exact ⟨_, rfl, fun _ => rfl, fun h => (by rw [Hs.out] at h; cases h), rfl⟩

set_option maxHeartbeats 1000000 in
theorem rcontains_any (A : Option Addr) (cap : Nat) (ss : List ByteArray) (w : World) (hA : StrsAt w w.heap.size A ss) (hl : ss.length ≤ 1000) :
    Calls Try.prog 37 #[.slice A ss.length cap, .func (.func 29) #[] #[]] w fun e w' => e = .returned (.bool (!Rc.shorts ss)) ∧ w' = w := by
  have p := rindex_any A cap ss w hA hl
  obtain ⟨b, hb⟩ : ∃ b, b = Rc.shorts ss := ⟨_, rfl⟩
  rw [← hb] at p
  rw [← hb]
  clear hA hl hb
  cases b
  · go_enter Try.func37, Try.ntmps37
    go_wp2_with fail
    refine p.mono ?_
    rintro e w1 ⟨i, rfl, h1, h2, rfl⟩
    have hi := eq_true (h2 trivial)
    clear h1 h2 p
    go_wp2
    go_ret
    exact ⟨rfl, rfl⟩
  · go_enter Try.func37, Try.ntmps37
    go_wp2_with fail
    refine p.mono ?_
    rintro e w1 ⟨i, rfl, h1, h2, rfl⟩
    obtain rfl := h1 trivial
    clear h1 h2 p
    go_wp2
    go_ret
    exact ⟨rfl, rfl⟩
end Go.Proofs.Ytfapfnbehhekhaa
