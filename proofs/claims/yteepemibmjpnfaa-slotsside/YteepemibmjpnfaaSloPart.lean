/-
  Layer 15 (slots): the document's rows: the mathematics.
-/
import Derived.Test.YteepemibmjpnfaaSloM2
namespace Go.Proofs.Yteepemibmjpnfaa
set_option maxRecDepth 10000
open Go.RowKit
namespace Sl

theorem lay_pos (n : Int) : 1 ≤ (Wm.lay n).length := by unfold Wm.lay; simp
theorem noteB_len {n : Int} {t : List UInt8} (h : nOk n = true) (h2 : t.length ≤ 1000) : 4 + t.length ≤ (noteB n t).length ∧ (noteB n t).length ≤ 20 + t.length := by
  have hl := lay_le h
  have a1 := lay_pos n
  have a2 := lay_pos 2
  have b2 : (Wm.lay 2).length ≤ 5 := Rc.lay_short (by decide)
  have e : noteB n t = (Wm.lay 2 ++ (Wm.lay ((Wm.lay n ++ t).length : Int) ++ (Wm.lay n ++ t))) ++ Wm.lay (Sm.ofL (Fm.ahead 2 (Wm.lay n ++ t)) : Int) := rfl
  have a3 := lay_pos ((Wm.lay n ++ t).length : Int)
  have b3 : (Wm.lay ((Wm.lay n ++ t).length : Int)).length ≤ 5 := Rc.lay_short (Rc.nOk_iff.2 (by rw [List.length_append]; omega))
  have a4 := lay_pos (Sm.ofL (Fm.ahead 2 (Wm.lay n ++ t)) : Int)
  have b4 : (Wm.lay (Sm.ofL (Fm.ahead 2 (Wm.lay n ++ t)) : Int)).length ≤ 5 := Rc.lay_short (Rc.nOk_iff.2 (by have := Sm.ofL_lt (Fm.ahead 2 (Wm.lay n ++ t)); omega))
  rw [e]
  simp only [List.length_append] at *
  omega
theorem save_calm {s : Slo} {t : List UInt8} {d : Int} (hc : calm s) (h : saveE s t = 0) (hd : d ≠ 0) (hd1 : d ≠ 1) : calm (save s t d) := by
  have hi := save_good (d := d) h
  refine ⟨hi, ?_⟩
  rw [save_yes h hd]
  have hw : (wr s t d).loose.size = 0 := by unfold wr; rw [if_neg hd1]; rfl
  unfold put
  split
  · exact ⟨hc.2.1, hw⟩
  · exact ⟨hw, hc.2.2⟩
theorem save_most {s : Slo} {t : List UInt8} {d : Int} (h : saveE s t = 0) (hd : d ≠ 0) : (save s t d).a.most = s.a.most := by
  rw [save_yes h hd]
  unfold put
  split
  · rfl
  · exact (wr_is h d).2
/-- A note that was being written and is cut: what there was is loaded. -/
theorem crash_cut {s : Slo} {t : List UInt8} {n : Int} (hc : calm s) (h : saveE s t = 0) (hm : n.toNat < (noteB ((best s).2.1 + 1) t).length) :
    is (crash (save s t 1) n) = true ∧ loadN (crash (save s t 1) n) = loadN s ∧ loadT (crash (save s t 1) n) = loadT s := by
  obtain ⟨c1, c2⟩ := crash_load 1 n hc h
  refine ⟨c1.1, ?_⟩
  obtain ⟨hi, l1, l2⟩ := hc
  obtain ⟨h1, h2, h3, h4⟩ := saveE_zero.1 h
  obtain ⟨i1, i2, i3⟩ := is_iff.1 hi
  have eN : loadN s = (best s).2.1 := by unfold loadN; rw [if_pos hi]
  have eT : loadT s = (best s).1 := by unfold loadT; rw [if_pos hi]
  have w := wr_is h 1
  have hx := put_is hi w.1 w.2
  have e : crash (save s t 1) n = put s (Fi.crash (wr s t 1) n) := by
    rw [save_yes h (by decide)]; unfold crash; rw [if_pos hx]
    unfold put
    split
    · simp only; rw [crash_calm i1 l1]
    · simp only; rw [crash_calm i2 l2]
  rw [e] at c1 ⊢
  have fN : loadN (put s (Fi.crash (wr s t 1) n)) = (best (put s (Fi.crash (wr s t 1) n))).2.1 := by unfold loadN; rw [if_pos c1.1]
  have fT : loadT (put s (Fi.crash (wr s t 1) n)) = (best (put s (Fi.crash (wr s t 1) n))).1 := by unfold loadT; rw [if_pos c1.1]
  have ew : wr s t 1 = ⟨s.a.most, ⟨#[]⟩, strOf (noteB ((best s).2.1 + 1) t)⟩ := by unfold wr; rw [if_pos rfl]
  have hmm : Fi.many (wr s t 1) n < (noteB ((best s).2.1 + 1) t).length := by unfold Fi.many; exact Nat.lt_of_le_of_lt (Nat.min_le_left _ _) hm
  have er : bl (Fi.read (Fi.crash (wr s t 1) n)) = (noteB ((best s).2.1 + 1) t).take (Fi.many (wr s t 1) n) := by
    have hm : Fi.many (wr s t 1) n ≤ (wr s t 1).loose.size := by unfold Fi.many; exact Nat.min_le_right _ _
    have e9 : Fi.crash (wr s t 1) n = ⟨(wr s t 1).most, (wr s t 1).kept ++ (wr s t 1).loose.extract 0 (Fi.many (wr s t 1) n), ⟨#[]⟩⟩ := by unfold Fi.crash; rw [if_pos w.1]
    rw [e9]; unfold Fi.read; simp only
    rw [ba_nil, bl_append, bl_extract_to _ _ hm, ew]
    simp only; rw [bl_strOf]; rfl
  have hb := put_none (s := s) (f := Fi.crash (wr s t 1) n) (by rw [er, raw_cut (next_ok h) h2 hmm])
  rw [fN, fT, eN, eT, hb]
  exact ⟨rfl, rfl⟩
def p0 : Slo := newS 60
def p1 : Slo := save p0 [97] (-1)
def p2 : Slo := save p1 [98] 1
def p3 : Slo := crash p2 3
theorem p0_ok : calm p0 ∧ loadT p0 = [] ∧ loadN p0 = 0 := new_calm (n := 60) (by unfold Fi.newE; rw [if_pos (by decide)])
theorem room {s : Slo} {x : UInt8} (hi : is s = true) (hm : s.a.most = 60) (hn : loadN s < 9) : saveE s [x] = 0 := by
  have eN : loadN s = (best s).2.1 := by unfold loadN; rw [if_pos hi]
  have h0 := best_num s
  have h1 := noteB_len (n := (best s).2.1 + 1) (t := [x]) (nOk_iff.2 (by omega)) (by simp)
  refine saveE_zero.2 ⟨hi, by simp, by omega, ?_⟩
  rw [hm]; have := h1.2; simp only [List.length_cons, List.length_nil] at this; omega
theorem p0_most : p0.a.most = 60 := by unfold p0 newS Fi.new; rw [if_pos (by decide)]
theorem p0_save : saveE p0 [97] = 0 := room p0_ok.1.1 p0_most (by rw [p0_ok.2.2]; decide)
theorem p1_ok : calm p1 ∧ loadT p1 = [97] ∧ loadN p1 = 1 ∧ p1.a.most = 60 := by
  have h := p0_save
  have l := save_load (d := -1) h (by decide)
  have eN : loadN p0 = (best p0).2.1 := by unfold loadN; rw [if_pos p0_ok.1.1]
  refine ⟨save_calm p0_ok.1 h (by decide) (by decide), l.2.1, ?_, ?_⟩
  · show loadN (save p0 [97] (-1)) = 1
    rw [l.2.2, ← eN, p0_ok.2.2]; rfl
  · show (save p0 [97] (-1)).a.most = 60
    rw [save_most h (by decide)]; exact p0_most
theorem p1_save : saveE p1 [98] = 0 := room p1_ok.1.1 p1_ok.2.2.2 (by rw [p1_ok.2.2.1]; decide)
theorem p2_is : is p2 = true := save_good p1_save
theorem p3_ok : is p3 = true ∧ loadN p3 = 1 ∧ loadT p3 = [97] := by
  have h0 := best_num p1
  have eN : loadN p1 = (best p1).2.1 := by unfold loadN; rw [if_pos p1_ok.1.1]
  have h1 := noteB_len (n := (best p1).2.1 + 1) (t := [98]) (nOk_iff.2 (by have := p1_ok.2.2.1; omega)) (by decide)
  have h := crash_cut (n := 3) p1_ok.1 p1_save (by have := h1.1; simp only [List.length_cons, List.length_nil] at this; show 3 < _; omega)
  refine ⟨h.1, h.2.1.trans p1_ok.2.2.1, h.2.2.trans p1_ok.2.1⟩
end Sl
end Go.Proofs.Yteepemibmjpnfaa
