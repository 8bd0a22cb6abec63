/-
  Layer 13 (record): the landed code: get, slices.ContainsFunc at isLong.
-/
import Derived.Test.YtlnchfnmpamliaaGreatXRecW1
import Derived.Test.YtlnchfnmpamliaaGreatXJc
import Derived.Test.YtlnchfnmpamliaaGreatXJd
namespace Go.Proofs.YtlnchfnmpamliaaGreat
set_option maxRecDepth 10000
open Go.RowKit

namespace Rc
theorem one_of {l t r t2 : List UInt8} {k e z f n : Int} (hg : Fm.get l = (k, t, r, e)) (hi : Wm.getInt t = (z, t2, f)) :
    one l n = if e = 0 ∧ k = 1 ∧ f = 0 ∧ z = n ∧ nOk n = true ∧ t2.length ≤ 1000 then some (t2, r) else none := by
  by_cases h : e = 0 ∧ k = 1 ∧ f = 0 ∧ z = n ∧ nOk n = true ∧ t2.length ≤ 1000
  · rw [if_pos h]
    obtain ⟨rfl, rfl, rfl, rfl, h5, h6⟩ := h
    refine one_iff.2 ⟨h5, h6, ?_⟩
    have h1 := (Fm.get_ok hg).2.2
    have h2 := (Wm.getInt_ok hi).2
    rw [h1, h2]; rfl
  · rw [if_neg h]
    cases ho : one l n with
    | none => rfl
    | some x =>
      obtain ⟨t', r'⟩ := x
      obtain ⟨h1, h2, h3⟩ := one_ok ho
      have g := get_rec h1 h2 r'
      rw [← h3, hg] at g
      simp only [Prod.mk.injEq] at g
      obtain ⟨rfl, rfl, rfl, rfl⟩ := g
      have g2 := Wm.getInt_lay (fits_n h1) t'
      rw [hi] at g2
      simp only [Prod.mk.injEq] at g2
      obtain ⟨rfl, rfl, rfl⟩ := g2
      exact absurd ⟨rfl, rfl, rfl, rfl, h1, h2⟩ h
theorem get_text_le (l : List UInt8) : (Fm.get l).2.1.length ≤ 3000 := by
  rcases Fm.get_cases l with ⟨k, t, r, h⟩ | ⟨e, _, h⟩
  · rw [h]; exact (Fm.get_ok h).2.1
  · rw [h]; exact Nat.zero_le _
end Rc
/-- What get hands back. -/
def gotRec (x : Option (List UInt8 × List UInt8)) : Ending := match x with
  | some (t, r) => .returned (.tuple #[.string (strOf t), .string (strOf r), .bool true])
  | none => .returned (.tuple #[.string ⟨#[]⟩, .string ⟨#[]⟩, .bool false])

set_option maxRecDepth 10000 in
set_option maxHeartbeats 1000000 in
theorem rget_any (s : ByteArray) (n : Int) (w : World) (hs : s.size ≤ 18000) :
    Calls Tryz.prog 73 #[.string s, .int .i64 n] w fun e w' => e = gotRec (Rc.one (bl s) n) ∧ Below w.heap.size w w' := by
  have p1 := Get_any s w (Nat.le_trans hs (by unfold big; decide))
  have htl := Rc.get_text_le (bl s)
  obtain ⟨k, t, r, e, hg⟩ : ∃ k t r e, Fm.get (bl s) = (k, t, r, e) := ⟨_, _, _, _, rfl⟩
  obtain ⟨z, t2, f, hi⟩ : ∃ z t2 f, Wm.getInt t = (z, t2, f) := ⟨_, _, _, rfl⟩
  have Ho := Lib.hid (Rc.one_of (n := n) hg hi)
  rw [hg] at p1 htl
  unfold got4 at p1
  simp only at p1 htl
  have p3 := fun W => GetInt_any (strOf t) W (by rw [strOf_size]; unfold maxLen; omega)
  rw [bl_strOf, hi] at p3
  simp only at p3
  have p4 := fun W => rnum_any n W
  have p5 := fun W => rlong_any (strOf t2) W
  rw [strOf_size] at p5
  obtain ⟨T, hT⟩ : ∃ T, T = strOf t := ⟨_, rfl⟩
  obtain ⟨T2, hT2⟩ : ∃ T, T = strOf t2 := ⟨_, rfl⟩
  obtain ⟨R, hR⟩ : ∃ T, T = strOf r := ⟨_, rfl⟩
  rw [← hT] at p3
  simp only [← hT2] at p3 p5
  rw [← hT, ← hR] at p1
  have HT2 := Lib.hid hT2
  have HR := Lib.hid hR
  obtain ⟨y, hy⟩ : ∃ y, y = Rc.one (bl s) n := ⟨_, rfl⟩
  rw [← hy] at Ho
  rw [← hy]
  clear hg hi htl hT hT2 hR hs hy
  go_enter Tryz.func73, Tryz.ntmps73
  go_wp2_with fail
  refine p1.mono ?_
  rintro x w1 ⟨rfl, hB⟩
  have Hb := Lib.hid hB
  clear hB p1
  by_cases he : e = 0
  case neg =>
    have j : (e != 0) = true := by rw [bne_iff_ne]; exact he
    have Hn : Hid (y = none) := Lib.hid (by rw [Ho.out, if_neg (fun h => he h.1)])
    clear he
    go_wp2
    go_ret3
    exact ⟨by rw [Hn.out]; rfl, Hb.out⟩
  subst he
  by_cases hk : k = 1
  case neg =>
    have j : (k != 1) = true := by rw [bne_iff_ne]; exact hk
    have Hn : Hid (y = none) := Lib.hid (by rw [Ho.out, if_neg (fun h => hk h.2.1)])
    clear hk
    go_wp2
    go_ret3
    exact ⟨by rw [Hn.out]; rfl, Hb.out⟩
  subst hk
  go_wp2_with fail
  refine (p3 _).mono ?_
  rintro x w2 ⟨rfl, m, rfl⟩
  have Hb2 := Lib.hid (below_drew Hb.out m)
  clear p3 Hb
  by_cases hf : f = 0
  case neg =>
    have j : (f != 0) = true := by rw [bne_iff_ne]; exact hf
    have Hn : Hid (y = none) := Lib.hid (by rw [Ho.out, if_neg (fun h => hf h.2.2.1)])
    clear hf
    go_wp2
    go_ret3
    exact ⟨by rw [Hn.out]; rfl, Hb2.out⟩
  subst hf
  by_cases hz : z = n
  case neg =>
    have j : (z != n) = true := by rw [bne_iff_ne]; exact hz
    have Hn : Hid (y = none) := Lib.hid (by rw [Ho.out, if_neg (fun h => hz h.2.2.2.1)])
    clear hz
    go_wp2
    go_ret3
    exact ⟨by rw [Hn.out]; rfl, Hb2.out⟩
  have j : (z != n) = false := by rw [bne_eq_false_iff_eq]; exact hz
  have Hz := Lib.hid hz
  clear hz
  cases hn : Rc.nOk n
  · rw [hn] at p4
    have Hn : Hid (y = none) := Lib.hid (by rw [Ho.out, if_neg (fun h => by have := h.2.2.2.2.1; rw [hn] at this; cases this)])
    clear hn
    go_wp2_with fail
    refine (p4 _).mono ?_
    rintro x w3 ⟨rfl, rfl⟩
    clear p4
    go_wp2
    go_ret3
    exact ⟨by rw [Hn.out]; rfl, Hb2.out⟩
  rw [hn] at p4
  by_cases hl : 1000 < t2.length
  · rw [decide_eq_true hl] at p5
    have Hn : Hid (y = none) := Lib.hid (by rw [Ho.out, if_neg (fun h => by have := h.2.2.2.2.2; omega)])
    clear hn hl
    go_wp2_with fail
    refine (p4 _).mono ?_
    rintro x w3 ⟨rfl, rfl⟩
    clear p4
    go_wp2_with fail
    refine (p5 _).mono ?_
    rintro x w3 ⟨rfl, rfl⟩
    clear p5
    go_wp2
    go_ret3
    exact ⟨by rw [Hn.out]; rfl, Hb2.out⟩
  · rw [decide_eq_false hl] at p5
    have Hn : Hid (y = some (t2, r)) := Lib.hid (by rw [Ho.out, if_pos ⟨by trivial, by trivial, by trivial, Hz.out, hn, by omega⟩])
    clear hn hl
    go_wp2_with fail
    refine (p4 _).mono ?_
    rintro x w3 ⟨rfl, rfl⟩
    clear p4
    go_wp2_with fail
    refine (p5 _).mono ?_
    rintro x w3 ⟨rfl, rfl⟩
    clear p5
    go_wp2
    go_ret3
    exact ⟨by rw [Hn.out]; unfold gotRec; rw [HT2.out, HR.out]; rfl, Hb2.out⟩

/-! ### is one of them too long? -/
end Go.Proofs.YtlnchfnmpamliaaGreat
