/-
  Layer 15 (slots): the references' New, Crash, Save, put together (printed by tools/gen-refslo4.py).
-/
import Derived.Test.YteepemibmjpnfaaXRefSlo3
namespace Go.Proofs.Yteepemibmjpnfaa
set_option maxRecDepth 10000
open Go.RowKit

theorem SLNew_any (n : Int) (w : World) :
    Calls Try.prog 18 #[.int .i64 n] w fun e w' => e = .returned (.tuple #[.agg (Sl.v (Sl.newS n)), .int .i64 (Fi.newE n)]) ∧ Below w.heap.size w w' := by
  have pN := fun W => Lib.hid (FRNew_any n W)
  by_cases h : Fi.newE n = 0
  · rw [h] at pN ⊢
    have h1 : 1 ≤ n ∧ n ≤ 4000 := by
      unfold Fi.newE at h; split at h
      · assumption
      · cases h
    have e : Fi.new n = ⟨n, ⟨#[]⟩, ⟨#[]⟩⟩ := by unfold Fi.new; rw [if_pos h1]
    unfold Sl.newS
    rw [e] at pN ⊢
    exact slNew_yes n n ⟨#[]⟩ ⟨#[]⟩ w pN
  · have h1 : ¬ (1 ≤ n ∧ n ≤ 4000) := fun h1 => h (by unfold Fi.newE; rw [if_pos h1])
    have e : Fi.new n = Fi.no := by unfold Fi.new; rw [if_neg h1]
    unfold Sl.newS
    rw [e] at pN ⊢
    exact slNew_no n _ _ _ _ (by rw [bne_iff_ne]; exact h) w pN
theorem SLCrash_any (s : Slo) (n : Int) (w : World) (h1 : s.a.kept.size ≤ 9000 ∧ s.a.loose.size ≤ 9000) (h2 : s.b.kept.size ≤ 9000 ∧ s.b.loose.size ≤ 9000) :
    Calls Try.prog 14 #[.agg (Sl.v s), .int .i64 n] w fun e w' => e = .returned (.tuple #[.agg (Sl.v (Sl.crash s n)), .int .i64 (Sl.badE s)]) ∧ Below w.heap.size w w' := by
  have pI := fun W => Lib.hid (SLIs_any s W h1 h2)
  cases hi : Sl.is s
  · rw [hi] at pI
    have e1 : Sl.crash s n = Sl.no := by unfold Sl.crash; rw [hi]; rfl
    have e3 : Sl.badE s = 1 := by unfold Sl.badE; rw [hi]; rfl
    rw [e1, e3]
    exact slCrash_no s.a.most s.b.most s.a.kept s.a.loose s.b.kept s.b.loose n w pI
  · rw [hi] at pI
    have e1 : Sl.crash s n = ⟨Fi.crash s.a n, Fi.crash s.b n⟩ := by unfold Sl.crash; rw [hi]; rfl
    have e3 : Sl.badE s = 0 := by unfold Sl.badE; rw [hi]; rfl
    rw [e1, e3]
    exact slCrash_yes s.a.most s.b.most s.a.kept s.a.loose s.b.kept s.b.loose n _ _ _ _ _ _ _ _ w pI (fun W => Lib.hid (FRCrash_any _ _ _ n h1 W)) (fun W => Lib.hid (FRCrash_any _ _ _ n h2 W))
theorem SLSave_any (s : Slo) (t : ByteArray) (d : Int) (w : World) (h1 : s.a.kept.size ≤ 9000 ∧ s.a.loose.size ≤ 9000) (h2 : s.b.kept.size ≤ 9000 ∧ s.b.loose.size ≤ 9000) :
    Calls Try.prog 12 #[.agg (Sl.v s), .string t, .int .i64 d] w fun e w' => e = .returned (.tuple #[.agg (Sl.v (Sl.save s (bl t) d)), .bool (Sl.done s (bl t) d), .int .i64 (Sl.saveE s (bl t))]) ∧ Below w.heap.size w w' := by
  have pI := fun W => Lib.hid (SLIs_any s W h1 h2)
  cases hi : Sl.is s
  · rw [hi] at pI
    have e3 : Sl.saveE s (bl t) = 1 := by unfold Sl.saveE; rw [hi]; rfl
    have hn := Sl.save_no (s := s) (t := bl t) (d := d) (by rw [e3]; decide)
    rw [hn.1, hn.2, e3]
    exact slSave_no s.a.most s.b.most s.a.kept s.a.loose s.b.kept s.b.loose t d w pI
  rw [hi] at pI
  have z1 := Fi.read_size s.a
  have z2 := Fi.read_size s.b
  have pA := fun W => Lib.hid (FRRead_any s.a.most _ _ h1 W)
  have pB := fun W => Lib.hid (FRRead_any s.b.most _ _ h2 W)
  have pC := fun W => Lib.hid (SLBetter_any (Fi.read s.a) (Fi.read s.b) W (by omega) (by omega))
  have hb := Sl.best_num s
  by_cases j1 : (1000 : Int) < (t.size : Int)
  · have e3 : Sl.saveE s (bl t) = 2 := by unfold Sl.saveE; rw [if_pos hi, if_pos (Or.inl (by rw [bl_length]; omega))]
    have hn := Sl.save_no (s := s) (t := bl t) (d := d) (by rw [e3]; decide)
    rw [hn.1, hn.2, e3]
    exact slSave_lim1 s.a.most s.b.most s.a.kept s.a.loose s.b.kept s.b.loose t d _ _ _ _ _ (eq_true j1) w pI pA pB pC
  by_cases j2 : (1000000000 : Int) ≤ (Sl.best s).2.1
  · have e3 : Sl.saveE s (bl t) = 2 := by unfold Sl.saveE; rw [if_pos hi, if_pos (Or.inr j2)]
    have hn := Sl.save_no (s := s) (t := bl t) (d := d) (by rw [e3]; decide)
    rw [hn.1, hn.2, e3]
    exact slSave_lim2 s.a.most s.b.most s.a.kept s.a.loose s.b.kept s.b.loose t d _ _ _ _ _ (eq_false j1) (eq_true j2) w pI pA pB pC
  have pN := fun W => Lib.hid (SLNote_any ((Sl.best s).2.1 + 1) t W (Sl.nOk_iff.2 (by omega)) (by omega))
  have jw : wrap64 ((Sl.best s).2.1 + 1) = (Sl.best s).2.1 + 1 := by unfold wrap64; omega
  have esz : ((strOf (Sl.noteB ((Sl.best s).2.1 + 1) (bl t))).size : Int) = ((Sl.noteB ((Sl.best s).2.1 + 1) (bl t)).length : Int) := by rw [strOf_size]
  by_cases j3 : s.a.most < ((Sl.noteB ((Sl.best s).2.1 + 1) (bl t)).length : Int)
  · have e3 : Sl.saveE s (bl t) = 81 := by unfold Sl.saveE; rw [if_pos hi, if_neg (by rw [bl_length]; omega), if_pos j3]
    have hn := Sl.save_no (s := s) (t := bl t) (d := d) (by rw [e3]; decide)
    rw [hn.1, hn.2, e3]
    exact slSave_full s.a.most s.b.most s.a.kept s.a.loose s.b.kept s.b.loose t d _ _ _ _ _ (eq_false j1) (eq_false j2) _ jw _ (eq_true (by rw [esz]; exact j3)) w pI pA pB pC pN
  have e3 : Sl.saveE s (bl t) = 0 := Sl.saveE_zero.2 ⟨hi, by rw [bl_length]; omega, by omega, by omega⟩
  have j3' : ¬ s.a.most < ((strOf (Sl.noteB ((Sl.best s).2.1 + 1) (bl t))).size : Int) := by rw [esz]; exact j3
  rw [Sl.done_iff e3, e3]
  by_cases j4 : d = 0
  · subst j4
    rw [Sl.save_zero e3]
    exact slSave_zero s.a.most s.b.most s.a.kept s.a.loose s.b.kept s.b.loose t _ _ _ _ _ (eq_false j1) (eq_false j2) _ jw _ (eq_false j3') w pI pA pB pC pN
  rw [Sl.save_yes e3 j4]
  have d0 : (d == 0) = false := by rw [beq_eq_false_iff_ne]; exact j4
  by_cases j5 : d = 1
  · have d1 : (d != 1) = false := by rw [bne_eq_false_iff_eq]; exact j5
    have ew : Sl.wr s (bl t) d = ⟨s.a.most, ⟨#[]⟩, strOf (Sl.noteB ((Sl.best s).2.1 + 1) (bl t))⟩ := by unfold Sl.wr; rw [if_pos j5]
    have ed : decide (d ≠ 0 ∧ d ≠ 1) = false := decide_eq_false (fun h => h.2 j5)
    rw [ew, ed]
    by_cases j6 : (Sl.best s).2.2 = 0
    · unfold Sl.put; rw [if_pos j6]
      exact slSave_oneB s.a.most s.b.most s.a.kept s.a.loose s.b.kept s.b.loose t d _ _ _ _ _ (eq_false j1) (eq_false j2) _ jw _ (eq_false j3') d0 d1 (by rw [beq_iff_eq]; exact j6) w pI pA pB pC pN
    · unfold Sl.put; rw [if_neg j6]
      exact slSave_oneA s.a.most s.b.most s.a.kept s.a.loose s.b.kept s.b.loose t d _ _ _ _ _ (eq_false j1) (eq_false j2) _ jw _ (eq_false j3') d0 d1 (by rw [beq_eq_false_iff_ne]; exact j6) w pI pA pB pC pN
  · have d1 : (d != 1) = true := by rw [bne_iff_ne]; exact j5
    have ew : Sl.wr s (bl t) d = ⟨s.a.most, strOf (Sl.noteB ((Sl.best s).2.1 + 1) (bl t)), ⟨#[]⟩⟩ := by unfold Sl.wr; rw [if_neg j5]
    have ed : decide (d ≠ 0 ∧ d ≠ 1) = true := decide_eq_true ⟨j4, j5⟩
    rw [ew, ed]
    by_cases j6 : (Sl.best s).2.2 = 0
    · unfold Sl.put; rw [if_pos j6]
      exact slSave_allB s.a.most s.b.most s.a.kept s.a.loose s.b.kept s.b.loose t d _ _ _ _ _ (eq_false j1) (eq_false j2) _ jw _ (eq_false j3') d0 d1 (by rw [beq_iff_eq]; exact j6) w pI pA pB pC pN
    · unfold Sl.put; rw [if_neg j6]
      exact slSave_allA s.a.most s.b.most s.a.kept s.a.loose s.b.kept s.b.loose t d _ _ _ _ _ (eq_false j1) (eq_false j2) _ jw _ (eq_false j3') d0 d1 (by rw [beq_eq_false_iff_ne]; exact j6) w pI pA pB pC pN
end Go.Proofs.Yteepemibmjpnfaa
