/-
  Layer 15 (slots): what is saved, and crashed, is loaded: the mathematics.
-/
import Derived.Test.YteepemibmjpnfaaSloM
namespace Go.Proofs.Yteepemibmjpnfaa
set_option maxRecDepth 10000
open Go.RowKit
namespace Sl

theorem is_iff {s : Slo} : is s = true ↔ Fi.is s.a = true ∧ Fi.is s.b = true ∧ s.a.most = s.b.most := by
  unfold is; rw [Bool.and_eq_true, Bool.and_eq_true, decide_eq_true_iff, and_assoc]
theorem best_num (s : Slo) : 0 ≤ (best s).2.1 ∧ (best s).2.1 ≤ 1000000000 := better_num _ _
theorem saveE_zero {s : Slo} {t : List UInt8} : saveE s t = 0 ↔ is s = true ∧ t.length ≤ 1000 ∧ (best s).2.1 < 1000000000 ∧ ((noteB ((best s).2.1 + 1) t).length : Int) ≤ s.a.most := by
  unfold saveE
  constructor
  · intro h
    split at h
    · rename_i h1
      split at h
      · cases h
      · rename_i h2
        split at h
        · cases h
        · rename_i h3; exact ⟨h1, by omega, by omega, by omega⟩
    · cases h
  · rintro ⟨h1, h2, h3, h4⟩
    rw [if_pos h1, if_neg (by omega), if_neg (by omega)]
theorem saveE_cases (s : Slo) (t : List UInt8) : saveE s t = 0 ∨ saveE s t = 1 ∨ saveE s t = 2 ∨ saveE s t = 81 := by
  unfold saveE; split
  · split
    · exact .inr (.inr (.inl rfl))
    · split
      · exact .inr (.inr (.inr rfl))
      · exact .inl rfl
  · exact .inr (.inl rfl)
theorem next_ok {s : Slo} {t : List UInt8} (h : saveE s t = 0) : nOk ((best s).2.1 + 1) = true := by
  have h1 := saveE_zero.1 h
  have h2 := best_num s
  exact nOk_iff.2 ⟨by omega, by omega⟩
theorem wr_read (s : Slo) (t : List UInt8) (d : Int) : bl (Fi.read (wr s t d)) = noteB ((best s).2.1 + 1) t := by
  unfold wr Fi.read
  split
  · simp only; rw [bl_append, bl_strOf]; rfl
  · simp only; rw [ba_nil, bl_strOf]
theorem wr_is {s : Slo} {t : List UInt8} (h : saveE s t = 0) (d : Int) : Fi.is (wr s t d) = true ∧ (wr s t d).most = s.a.most := by
  obtain ⟨h1, h2, h3, h4⟩ := saveE_zero.1 h
  have h5 := Fi.is_small (is_iff.1 h1).1
  unfold wr Fi.is
  split
  · refine ⟨?_, rfl⟩
    rw [decide_eq_true_iff]; simp only; rw [strOf_size]
    show 1 ≤ s.a.most ∧ s.a.most ≤ 4000 ∧ ((0 : Nat) : Int) + _ ≤ s.a.most
    omega
  · refine ⟨?_, rfl⟩
    rw [decide_eq_true_iff]; simp only; rw [strOf_size]
    show 1 ≤ s.a.most ∧ s.a.most ≤ 4000 ∧ _ + ((0 : Nat) : Int) ≤ s.a.most
    omega
theorem put_is {s : Slo} {f : Fil} (h : is s = true) (hf : Fi.is f = true) (hm : f.most = s.a.most) : is (put s f) = true := by
  obtain ⟨h1, h2, h3⟩ := is_iff.1 h
  unfold put
  split
  · exact is_iff.2 ⟨h1, hf, hm.symm⟩
  · exact is_iff.2 ⟨hf, h2, hm.trans h3⟩
/-- A file that says the next note is put beside the better one. -/
theorem put_best {s : Slo} {f : Fil} {n : Int} {t : List UInt8} (hn : (best s).2.1 < n) (hr : raw (bl (Fi.read f)) = (n, t, true)) : ((best (put s f)).1, (best (put s f)).2.1) = (t, n) := by
  by_cases h : (best s).2.2 = 0
  · have h1 := (better_right h).1 (bl (Fi.read f)) (by rw [hr]) (by rw [hr]; exact hn)
    have e : best (put s f) = better (bl (Fi.read s.a)) (bl (Fi.read f)) := by unfold put; rw [if_pos h]; rfl
    rw [e, h1, hr]
  · have h1 := (better_pos h).1 (bl (Fi.read f)) (by rw [hr]) (by rw [hr]; exact hn)
    have e : best (put s f) = better (bl (Fi.read f)) (bl (Fi.read s.b)) := by unfold put; rw [if_neg h]; rfl
    rw [e, h1, hr]
/-- A file that says none is put beside the better one. -/
theorem put_none {s : Slo} {f : Fil} (hr : (raw (bl (Fi.read f))).2.2 = false) : best (put s f) = best s := by
  by_cases h : (best s).2.2 = 0
  · have h1 := (better_right h).2 (bl (Fi.read f)) hr
    have e : best (put s f) = better (bl (Fi.read s.a)) (bl (Fi.read f)) := by unfold put; rw [if_pos h]; rfl
    rw [e, h1]; rfl
  · have h1 := (better_pos h).2.2 (bl (Fi.read f)) hr
    have e : best (put s f) = better (bl (Fi.read f)) (bl (Fi.read s.b)) := by unfold put; rw [if_neg h]; rfl
    rw [e, h1]; rfl
theorem save_yes {s : Slo} {t : List UInt8} {d : Int} (h : saveE s t = 0) (hd : d ≠ 0) : save s t d = put s (wr s t d) := by unfold save; rw [if_pos h, if_neg hd]
theorem save_zero {s : Slo} {t : List UInt8} (h : saveE s t = 0) : save s t 0 = s := by unfold save; rw [if_pos h, if_pos rfl]
theorem save_no {s : Slo} {t : List UInt8} {d : Int} (h : saveE s t ≠ 0) : save s t d = no ∧ done s t d = false := by
  unfold save done; rw [if_neg h, decide_eq_false h]; exact ⟨rfl, rfl⟩
theorem done_iff {s : Slo} {t : List UInt8} {d : Int} (h : saveE s t = 0) : done s t d = decide (d ≠ 0 ∧ d ≠ 1) := by
  unfold done; rw [decide_eq_true h, Bool.true_and, Bool.decide_and]
/-- What is saved is loaded. -/
theorem save_load {s : Slo} {t : List UInt8} {d : Int} (h : saveE s t = 0) (hd : d ≠ 0) : is (save s t d) = true ∧ loadT (save s t d) = t ∧ loadN (save s t d) = (best s).2.1 + 1 := by
  obtain ⟨h1, h2, h3, h4⟩ := saveE_zero.1 h
  have w := wr_is h d
  have hi := put_is h1 w.1 w.2
  have hb := put_best (s := s) (f := wr s t d) (n := (best s).2.1 + 1) (t := t) (by omega) (by rw [wr_read]; exact raw_note (next_ok h) h2)
  rw [save_yes h hd]
  simp only [Prod.mk.injEq] at hb
  refine ⟨hi, ?_, ?_⟩
  · unfold loadT; rw [if_pos hi]; exact hb.1
  · unfold loadN; rw [if_pos hi]; exact hb.2
theorem save_good {s : Slo} {t : List UInt8} {d : Int} (h : saveE s t = 0) : is (save s t d) = true := by
  by_cases hd : d = 0
  · subst hd; rw [save_zero h]; exact (saveE_zero.1 h).1
  · exact (save_load h hd).1
theorem save_side {s : Slo} {t : List UInt8} {d : Int} (h : saveE s t = 0) (hd : d ≠ 0) : (save s t d).a = s.a ∨ (save s t d).b = s.b := by
  rw [save_yes h hd]; unfold put; split
  · exact Or.inl rfl
  · exact Or.inr rfl
/-! ### crashes -/
def calm (s : Slo) : Prop := is s = true ∧ s.a.loose.size = 0 ∧ s.b.loose.size = 0
theorem crash_calm {f : Fil} (hi : Fi.is f = true) (hl : f.loose.size = 0) (n : Int) : Fi.crash f n = f := by
  obtain ⟨m, k, l⟩ := f
  have e : l = ⟨#[]⟩ := by
    have : (bl l).length = 0 := by rw [bl_length]; exact hl
    apply bl_inj; rw [List.eq_nil_of_length_eq_zero this]; rfl
  subst e
  unfold Fi.crash; rw [if_pos hi]
  have h0 : Fi.many ⟨m, k, ⟨#[]⟩⟩ n = 0 := by unfold Fi.many; exact Nat.min_zero _
  rw [h0]; simp only
  rw [ba_extract0, ba_nil]
theorem crash_file {f : Fil} (hi : Fi.is f = true) (n : Int) : Fi.is (Fi.crash f n) = true ∧ (Fi.crash f n).most = f.most ∧ (Fi.crash f n).loose.size = 0 := by
  have h2 := Fi.is_small hi
  have e : Fi.crash f n = ⟨f.most, f.kept ++ f.loose.extract 0 (Fi.many f n), ⟨#[]⟩⟩ := by unfold Fi.crash; rw [if_pos hi]
  have hm : Fi.many f n ≤ f.loose.size := by unfold Fi.many; exact Nat.min_le_right _ _
  rw [e]
  refine ⟨?_, rfl, rfl⟩
  unfold Fi.is; rw [decide_eq_true_iff]; simp only
  rw [ByteArray.size_append]
  have hx : (f.loose.extract 0 (Fi.many f n)).size ≤ f.loose.size := by
    rw [← bl_length, bl_extract_to _ _ hm, List.length_take, bl_length]; omega
  show 1 ≤ f.most ∧ f.most ≤ 4000 ∧ _ + ((0 : Nat) : Int) ≤ f.most
  omega
theorem crash_is {s : Slo} (h : is s = true) (n : Int) : calm (crash s n) := by
  obtain ⟨h1, h2, h3⟩ := is_iff.1 h
  have c1 := crash_file h1 n
  have c2 := crash_file h2 n
  have e : crash s n = ⟨Fi.crash s.a n, Fi.crash s.b n⟩ := by unfold crash; rw [if_pos h]
  rw [e]
  exact ⟨is_iff.2 ⟨c1.1, c2.1, by rw [c1.2.1, c2.2.1]; exact h3⟩, c1.2.2, c2.2.2⟩
/-- Behind a Save that was stopped, and a crash. -/
theorem crash_load {s : Slo} {t : List UInt8} (d n : Int) (hc : calm s) (h : saveE s t = 0) :
    calm (crash (save s t d) n) ∧ ((loadN (crash (save s t d) n) = loadN s + 1 ∧ loadT (crash (save s t d) n) = t) ∨ (done s t d = false ∧ loadN (crash (save s t d) n) = loadN s ∧ loadT (crash (save s t d) n) = loadT s)) := by
  obtain ⟨hi, l1, l2⟩ := hc
  obtain ⟨h1, h2, h3, h4⟩ := saveE_zero.1 h
  obtain ⟨i1, i2, i3⟩ := is_iff.1 hi
  have eN : loadN s = (best s).2.1 := by unfold loadN; rw [if_pos hi]
  have eT : loadT s = (best s).1 := by unfold loadT; rw [if_pos hi]
  by_cases hd : d = 0
  · subst hd
    have e : crash (save s t 0) n = s := by
      rw [save_zero h]; unfold crash; rw [if_pos hi, crash_calm i1 l1, crash_calm i2 l2]
    rw [e]
    exact ⟨⟨hi, l1, l2⟩, Or.inr ⟨by rw [done_iff h]; exact decide_eq_false (fun hh => hh.1 rfl), rfl, rfl⟩⟩
  have w := wr_is h d
  have hx := put_is hi w.1 w.2
  have e : crash (save s t d) n = put s (Fi.crash (wr s t d) n) := by
    rw [save_yes h hd]; unfold crash; rw [if_pos hx]
    unfold put
    split
    · simp only; rw [crash_calm i1 l1]
    · simp only; rw [crash_calm i2 l2]
  have hy := crash_is hx n
  have e0 : crash (put s (wr s t d)) n = put s (Fi.crash (wr s t d) n) := by rw [← e, save_yes h hd]
  rw [e0] at hy
  rw [e]
  refine ⟨hy, ?_⟩
  have fN : loadN (put s (Fi.crash (wr s t d) n)) = (best (put s (Fi.crash (wr s t d) n))).2.1 := by unfold loadN; rw [if_pos hy.1]
  have fT : loadT (put s (Fi.crash (wr s t d) n)) = (best (put s (Fi.crash (wr s t d) n))).1 := by unfold loadT; rw [if_pos hy.1]
  rw [fN, fT, eN, eT]
  have hraw := raw_note (next_ok h) h2
  by_cases hd1 : d = 1
  · subst hd1
    have ew : wr s t 1 = ⟨s.a.most, ⟨#[]⟩, strOf (noteB ((best s).2.1 + 1) t)⟩ := by unfold wr; rw [if_pos rfl]
    have er : bl (Fi.read (Fi.crash (wr s t 1) n)) = (noteB ((best s).2.1 + 1) t).take (Fi.many (wr s t 1) n) := by
      have hm : Fi.many (wr s t 1) n ≤ (wr s t 1).loose.size := by unfold Fi.many; exact Nat.min_le_right _ _
      have e9 : Fi.crash (wr s t 1) n = ⟨(wr s t 1).most, (wr s t 1).kept ++ (wr s t 1).loose.extract 0 (Fi.many (wr s t 1) n), ⟨#[]⟩⟩ := by unfold Fi.crash; rw [if_pos w.1]
      rw [e9]; unfold Fi.read; simp only
      rw [ba_nil, bl_append, bl_extract_to _ _ hm, ew]
      simp only; rw [bl_strOf]; rfl
    by_cases hm : Fi.many (wr s t 1) n < (noteB ((best s).2.1 + 1) t).length
    · right
      have hn := raw_cut (next_ok h) h2 hm
      rw [put_none (by rw [er, hn])]
      exact ⟨by rw [done_iff h]; exact decide_eq_false (fun hh => hh.2 rfl), rfl, rfl⟩
    · left
      have hn : raw (bl (Fi.read (Fi.crash (wr s t 1) n))) = ((best s).2.1 + 1, t, true) := by
        rw [er, List.take_of_length_le (by omega)]; exact hraw
      have hb := put_best (s := s) (by omega) hn
      simp only [Prod.mk.injEq] at hb
      exact ⟨hb.2, hb.1⟩
  · left
    have ew : wr s t d = ⟨s.a.most, strOf (noteB ((best s).2.1 + 1) t), ⟨#[]⟩⟩ := by unfold wr; rw [if_neg hd1]
    have ec : Fi.crash (wr s t d) n = wr s t d := crash_calm w.1 (by rw [ew]; rfl) n
    rw [ec]
    have hb := put_best (s := s) (f := wr s t d) (n := (best s).2.1 + 1) (t := t) (by omega) (by rw [wr_read]; exact hraw)
    simp only [Prod.mk.injEq] at hb
    exact ⟨hb.2, hb.1⟩
theorem new_calm {n : Int} (h : Fi.newE n = 0) : calm (newS n) ∧ loadT (newS n) = [] ∧ loadN (newS n) = 0 := by
  have h1 : 1 ≤ n ∧ n ≤ 4000 := by
    unfold Fi.newE at h; split at h
    · assumption
    · cases h
  have e : newS n = ⟨⟨n, ⟨#[]⟩, ⟨#[]⟩⟩, ⟨n, ⟨#[]⟩, ⟨#[]⟩⟩⟩ := by unfold newS Fi.new; rw [if_pos h1]
  have hf : Fi.is ⟨n, ⟨#[]⟩, ⟨#[]⟩⟩ = true := decide_eq_true ⟨h1.1, h1.2, by show (0 : Int) + 0 ≤ n; omega⟩
  have hi : is (newS n) = true := by rw [e]; exact is_iff.2 ⟨hf, hf, rfl⟩
  have hb : best (newS n) = ([], 0, -1) := by
    rw [e]; unfold best better
    have : bl (Fi.read ⟨n, ⟨#[]⟩, ⟨#[]⟩⟩) = [] := rfl
    simp only [this, raw_nil]; rfl
  refine ⟨⟨hi, by rw [e]; rfl, by rw [e]; rfl⟩, ?_, ?_⟩
  · unfold loadT; rw [if_pos hi, hb]
  · unfold loadN; rw [if_pos hi, hb]
/-! ### sides -/
theorem better_alone (a : List UInt8) : (better a []).2 = if (raw a).2.2 = true then ((raw a).1, 0) else (0, -1) := by
  unfold better; rw [raw_nil]
  by_cases h : (raw a).2.2 = true
  · rw [if_pos ⟨h, Or.inl rfl⟩, if_pos h]
  · rw [if_neg (fun hh => h hh.1), if_neg h]; rfl
theorem better_alone2 (b : List UInt8) : (better [] b).2 = if (raw b).2.2 = true then ((raw b).1, 1) else (0, -1) := by
  unfold better; rw [raw_nil]
  by_cases h : (raw b).2.2 = true
  · rw [if_neg (fun hh => by cases hh.1), if_pos h, if_pos h]
  · rw [if_neg (fun hh => by cases hh.1), if_neg h, if_neg h]
theorem better_sides (a b : List UInt8) : (better a b).2.1 = (better b a).2.1 ∧ ((better a b).2.2 < 0 ↔ (better b a).2.2 < 0) ∧ (better a b).2.1 = max (better a []).2.1 (better [] b).2.1 ∧ ¬ 0 < (better a []).2.2 ∧ ¬ (better [] b).2.2 = 0 ∧
    ((better a []).2.1 = (better [] b).2.1 ∨ ((better a b).1 = (better b a).1 ∧ (better a b).2.2 + (better b a).2.2 = 1)) ∧ (0 < (better a b).2.1 ↔ 0 ≤ (better a b).2.2) := by
  have e1 := better_alone a
  have e2 := better_alone2 b
  rw [show (better a []).2.1 = ((better a []).2).1 from rfl, show (better a []).2.2 = ((better a []).2).2 from rfl, e1, show (better [] b).2.1 = ((better [] b).2).1 from rfl, show (better [] b).2.2 = ((better [] b).2).2 from rfl, e2]
  have ka := @raw_num a
  have kb := @raw_num b
  unfold better
  obtain ⟨xa, hxa⟩ : ∃ x, x = raw a := ⟨_, rfl⟩
  obtain ⟨xb, hxb⟩ : ∃ x, x = raw b := ⟨_, rfl⟩
  rw [← hxa] at ka ⊢
  rw [← hxb] at kb ⊢
  clear hxa hxb
  obtain ⟨na, ta, oa⟩ := xa
  obtain ⟨nb, tb, ob⟩ := xb
  simp only at ka kb ⊢
  cases oa <;> cases ob <;> simp only [Bool.false_eq_true, false_and, true_and, if_false, if_true, reduceCtorEq, false_or, true_or]
  · simp
  · have := kb rfl; simp; omega
  · have := ka rfl; simp; omega
  · have h1 := ka rfl
    have h2 := kb rfl
    by_cases h3 : nb ≤ na
    · by_cases h4 : na ≤ nb
      · have : na = nb := by omega
        subst this
        simp; omega
      · rw [if_pos h3, if_neg h4]; simp; omega
    · have h4 : na ≤ nb := by omega
      rw [if_neg h3, if_pos h4]; simp; omega
end Sl
end Go.Proofs.Yteepemibmjpnfaa
