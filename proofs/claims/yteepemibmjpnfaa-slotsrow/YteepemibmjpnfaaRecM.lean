/-
  Layer 13 (record): numbered texts: the mathematics.
-/
import Derived.Test.YteepemibmjpnfaaFrameCutM
namespace Go.Proofs.Yteepemibmjpnfaa
set_option maxRecDepth 10000
namespace Rc

def nOk (n : Int) : Bool := decide (0 ≤ n ∧ n ≤ 1000000000)
theorem nOk_iff {n : Int} : nOk n = true ↔ 0 ≤ n ∧ n ≤ 1000000000 := by unfold nOk; exact decide_eq_true_iff
/-- A record of a number and a text. -/
def rec1 (n : Int) (t : List UInt8) : List UInt8 := Fm.frame 1 (Wm.lay n ++ t)
def putE (n : Int) (t : List UInt8) : Int := if nOk n = true then if t.length ≤ 1000 then 0 else 2 else 1
def putS (n : Int) (t : List UInt8) : List UInt8 := if nOk n = true then if t.length ≤ 1000 then rec1 n t else [] else []
theorem putE_zero {n : Int} {t : List UInt8} : putE n t = 0 ↔ nOk n = true ∧ t.length ≤ 1000 := by
  unfold putE
  constructor
  · intro h
    split at h
    · rename_i h1
      split at h
      · rename_i h2; exact ⟨h1, h2⟩
      · cases h
    · cases h
  · rintro ⟨h1, h2⟩; rw [if_pos h1, if_pos h2]
theorem putS_yes {n : Int} {t : List UInt8} (h : putE n t = 0) : putS n t = rec1 n t := by
  obtain ⟨h1, h2⟩ := putE_zero.1 h
  unfold putS; rw [if_pos h1, if_pos h2]
theorem putS_no {n : Int} {t : List UInt8} (h : putE n t ≠ 0) : putS n t = [] := by
  unfold putS
  by_cases h1 : nOk n = true
  · rw [if_pos h1]
    by_cases h2 : t.length ≤ 1000
    · exact absurd (putE_zero.2 ⟨h1, h2⟩) h
    · rw [if_neg h2]
  · rw [if_neg h1]
theorem digs_short (k : Nat) : ∀ n : Nat, n < 250 ^ k → (Wm.digs n).length ≤ k := by
  induction k with
  | zero => intro n h; have : n = 0 := by simpa using h
            subst this; rw [Wm.digs_zero]; exact Nat.le_refl _
  | succ k ih =>
    intro n h
    by_cases h0 : n = 0
    · subst h0; rw [Wm.digs_zero]; exact Nat.zero_le _
    · rw [Wm.digs_pos (by omega), List.length_cons]
      have := ih (n / 250) (Nat.div_lt_of_lt_mul (by rw [Nat.pow_succ] at h; omega))
      omega
theorem lay_short {n : Int} (h : nOk n = true) : (Wm.lay n).length ≤ 5 := by
  have h1 := nOk_iff.1 h
  unfold Wm.lay
  rw [List.length_append]
  have := digs_short 4 n.natAbs (by omega)
  simp; omega
theorem body_short {n : Int} (h : nOk n = true) {t : List UInt8} (h2 : t.length ≤ 1000) : (Wm.lay n ++ t).length ≤ 3000 := by
  have := lay_short h
  rw [List.length_append]; omega
theorem fits_n {n : Int} (h : nOk n = true) : Wm.fits n = true := Wm.fits_iff.2 (by have := nOk_iff.1 h; omega)
theorem kind1 : Fm.kindOk 1 = true := by decide
theorem rec_pos (n : Int) (t : List UInt8) : 0 < (rec1 n t).length := Fm.frame_pos _ _
theorem get_rec {n : Int} {t : List UInt8} (h : nOk n = true) (h2 : t.length ≤ 1000) (r : List UInt8) : Fm.get (rec1 n t ++ r) = (1, Wm.lay n ++ t, r, 0) := Fm.get_frame kind1 (body_short h h2) r

/-- The record of that number that l begins with: its text, and what stands behind. -/
def one (l : List UInt8) (n : Int) : Option (List UInt8 × List UInt8) :=
  if (Fm.get l).2.2.2 = 0 ∧ (Wm.getInt (Fm.get l).2.1).2.2 = 0 ∧ putE n (Wm.getInt (Fm.get l).2.1).2.1 = 0 ∧ rec1 n (Wm.getInt (Fm.get l).2.1).2.1 = l.take (l.length - (Fm.get l).2.2.1.length)
  then some ((Wm.getInt (Fm.get l).2.1).2.1, (Fm.get l).2.2.1) else none

theorem one_rec {n : Int} {t : List UInt8} (h : nOk n = true) (h2 : t.length ≤ 1000) (r : List UInt8) : one (rec1 n t ++ r) n = some (t, r) := by
  have g := get_rec h h2 r
  have gi := Wm.getInt_lay (fits_n h) t
  unfold one
  rw [g]; simp only
  rw [gi]; simp only
  rw [if_pos ⟨trivial, trivial, putE_zero.2 ⟨h, h2⟩, by rw [List.length_append, Nat.add_sub_cancel, List.take_left]⟩]
theorem one_ok {l : List UInt8} {n : Int} {t r : List UInt8} (h : one l n = some (t, r)) : nOk n = true ∧ t.length ≤ 1000 ∧ l = rec1 n t ++ r := by
  unfold one at h
  split at h
  · rename_i hc
    obtain ⟨h1, h2, h3, h4⟩ := hc
    cases h
    have hp := putE_zero.1 h3
    refine ⟨hp.1, hp.2, ?_⟩
    rcases Fm.get_cases l with ⟨k, t', r', hg⟩ | ⟨e, he, hg⟩
    · have hl := (Fm.get_ok hg).2.2
      rw [hg] at h4 ⊢
      simp only at h4 ⊢
      rw [h4, hl, List.length_append, Nat.add_sub_cancel, List.take_left]
    · rw [hg] at h1; exact absurd h1 he
  · cases h
theorem one_iff {l : List UInt8} {n : Int} {t r : List UInt8} : one l n = some (t, r) ↔ nOk n = true ∧ t.length ≤ 1000 ∧ l = rec1 n t ++ r :=
  ⟨one_ok, fun ⟨h1, h2, h3⟩ => by rw [h3]; exact one_rec h1 h2 r⟩
theorem one_less {l : List UInt8} {n : Int} {t r : List UInt8} (h : one l n = some (t, r)) : r.length < l.length := by
  have := (one_ok h).2.2
  rw [this, List.length_append]
  have := rec_pos n t
  omega
theorem one_nil (n : Int) : one [] n = none := by
  cases h : one [] n with
  | none => rfl
  | some x => obtain ⟨t, r⟩ := x; have := one_less h; simp at this
theorem one_get {l : List UInt8} {n e : Int} (h : Fm.get l = (0, [], [], e)) (he : e ≠ 0) : one l n = none := by
  unfold one; rw [h]; rw [if_neg (fun hh => he hh.1)]

/-- The texts of the records that l begins with, and how many bytes they take. -/
def scan (l : List UInt8) (n : Int) : List (List UInt8) × Nat :=
  match _h : one l n with
  | none => ([], 0)
  | some x => if _h2 : x.2.length < l.length then (x.1 :: (scan x.2 (n + 1)).1, (l.length - x.2.length) + (scan x.2 (n + 1)).2) else ([], 0)
termination_by l.length
theorem scan_no {l : List UInt8} {n : Int} (h : one l n = none) : scan l n = ([], 0) := by
  rw [scan]; split
  · rfl
  · rename_i x hx; rw [h] at hx; cases hx
theorem scan_ok {l t r : List UInt8} {n : Int} (h : one l n = some (t, r)) : scan l n = (t :: (scan r (n + 1)).1, (l.length - r.length) + (scan r (n + 1)).2) := by
  have hl := one_less h
  rw [scan]; split
  · rename_i hx; rw [h] at hx; cases hx
  · rename_i x hx
    rw [h] at hx
    obtain rfl := Option.some.inj hx
    rw [dif_pos hl]
theorem scan_nil (n : Int) : scan [] n = ([], 0) := scan_no (one_nil n)
theorem scan_rec {n : Int} {t : List UInt8} (h : nOk n = true) (h2 : t.length ≤ 1000) (r : List UInt8) : scan (rec1 n t ++ r) n = (t :: (scan r (n + 1)).1, (rec1 n t).length + (scan r (n + 1)).2) := by
  rw [scan_ok (one_rec h h2 r), List.length_append, Nat.add_sub_cancel]
/-- What was told ahead, and what is told behind. -/
def glue (ts : List (List UInt8)) (k : Nat) (x : List (List UInt8) × Nat) : List (List UInt8) × Nat := (ts ++ x.1, k + x.2)
theorem glue_zero (x : List (List UInt8) × Nat) : glue [] 0 x = x := by simp [glue]
theorem glue_step {ts : List (List UInt8)} {k : Nat} {l t r : List UInt8} {n : Int} (h : one l n = some (t, r)) : glue ts k (scan l n) = glue (ts ++ [t]) (k + (l.length - r.length)) (scan r (n + 1)) := by
  rw [scan_ok h]; simp [glue, Nat.add_assoc]
theorem glue_no {ts : List (List UInt8)} {k : Nat} {l : List UInt8} {n : Int} (h : one l n = none) : glue ts k (scan l n) = (ts, k) := by
  rw [scan_no h]; simp [glue]

/-- Records one behind the other. -/
def recs : Int → List (List UInt8) → List UInt8
  | _, [] => []
  | n, t :: ls => rec1 n t ++ recs (n + 1) ls
/-- Have all their numbers, and are none too long? -/
def okAll : Int → List (List UInt8) → Prop
  | _, [] => True
  | n, t :: ls => (nOk n = true ∧ t.length ≤ 1000) ∧ okAll (n + 1) ls
theorem recs_append (n : Int) (a b : List (List UInt8)) : recs n (a ++ b) = recs n a ++ recs (n + a.length) b := by
  induction a generalizing n with
  | nil => simp [recs]
  | cons t a ih =>
    simp only [List.cons_append, recs, ih, List.append_assoc, List.length_cons]
    congr 3; omega
theorem okAll_append (n : Int) (a b : List (List UInt8)) : okAll n (a ++ b) ↔ okAll n a ∧ okAll (n + a.length) b := by
  induction a generalizing n with
  | nil => simp [okAll]
  | cons t a ih =>
    simp only [List.cons_append, okAll, ih, List.length_cons, and_assoc]
    have e : n + 1 + (a.length : Int) = n + ((a.length + 1 : Nat) : Int) := by omega
    rw [e]
theorem okAll_iff (n : Int) (ls : List (List UInt8)) : okAll n ls ↔ (ls = [] ∨ (0 ≤ n ∧ n + ls.length ≤ 1000000001)) ∧ ∀ t ∈ ls, t.length ≤ 1000 := by
  induction ls generalizing n with
  | nil => simp [okAll]
  | cons t ls ih =>
    simp only [okAll, ih, nOk_iff, List.length_cons, List.mem_cons, forall_eq_or_imp, reduceCtorEq, false_or]
    constructor
    · rintro ⟨⟨⟨h1, h2⟩, h3⟩, h4, h5⟩
      refine ⟨⟨h1, ?_⟩, h3, h5⟩
      rcases h4 with rfl | ⟨_, h4⟩
      · simp; omega
      · omega
    · rintro ⟨⟨h1, h2⟩, h3, h5⟩
      refine ⟨⟨⟨h1, by omega⟩, h3⟩, ?_, h5⟩
      by_cases h0 : ls = []
      · exact .inl h0
      · exact .inr ⟨by omega, by omega⟩
theorem scan_recs {n : Int} {ls : List (List UInt8)} (h : okAll n ls) (r : List UInt8) : scan (recs n ls ++ r) n = (ls ++ (scan r (n + ls.length)).1, (recs n ls).length + (scan r (n + ls.length)).2) := by
  induction ls generalizing n with
  | nil => simp [recs]
  | cons t ls ih =>
    have e : n + 1 + (ls.length : Int) = n + ((ls.length + 1 : Nat) : Int) := by omega
    rw [recs, List.append_assoc, scan_rec h.1.1 h.1.2, ih h.2, List.length_cons, e]
    simp [Nat.add_assoc]
theorem scan_whole {n : Int} {ls : List (List UInt8)} (h : okAll n ls) : scan (recs n ls) n = (ls, (recs n ls).length) := by
  have := scan_recs h []
  rw [List.append_nil, scan_nil] at this; simpa using this
/-- What is told is there. -/
theorem scan_split (l : List UInt8) (n : Int) : okAll n (scan l n).1 ∧ (scan l n).2 = (recs n (scan l n).1).length ∧ ∃ r, l = recs n (scan l n).1 ++ r := by
  generalize hk : l.length = k
  induction k using Nat.strongRecOn generalizing l n with
  | _ k ih =>
    cases h : one l n with
    | none => rw [scan_no h]; exact ⟨trivial, rfl, l, rfl⟩
    | some x =>
      obtain ⟨t, r⟩ := x
      have hl := one_less h
      obtain ⟨h1, h2, h3⟩ := one_ok h
      obtain ⟨i1, i2, r', i3⟩ := ih r.length (by omega) r (n + 1) rfl
      rw [scan_ok h]
      refine ⟨⟨⟨h1, h2⟩, i1⟩, ?_, r', ?_⟩
      · simp only [recs, List.length_append, i2]
        have := congrArg List.length h3
        rw [List.length_append] at this
        omega
      · simp only [recs]
        rw [List.append_assoc, ← i3, ← h3]
theorem scan_le (l : List UInt8) (n : Int) : (scan l n).2 ≤ l.length := by
  obtain ⟨_, h2, r, h3⟩ := scan_split l n
  have := congrArg List.length h3
  rw [List.length_append] at this
  omega
theorem scan_take (l : List UInt8) (n : Int) : l.take (scan l n).2 = recs n (scan l n).1 := by
  obtain ⟨_, h2, r, h3⟩ := scan_split l n
  rw [h2]
  generalize (scan l n).1 = ls at h3 ⊢
  rw [h3]
  exact List.take_left
/-- What is mended is read as it was. -/
theorem scan_mended (l : List UInt8) (n : Int) : scan (l.take (scan l n).2) n = scan l n := by
  obtain ⟨h1, h2, _⟩ := scan_split l n
  rw [scan_take, scan_whole h1, ← h2]
/-- Records cut at m: a beginning of them. -/
theorem scan_cut {n : Int} {ls : List (List UInt8)} (h : okAll n ls) (m : Nat) : ∃ j, j ≤ ls.length ∧ scan ((recs n ls).take m) n = (ls.take j, (recs n (ls.take j)).length) ∧ ∀ i, i ≤ ls.length → (recs n (ls.take i)).length ≤ m → i ≤ j := by
  induction ls generalizing n m with
  | nil => exact ⟨0, Nat.le_refl _, by simp [recs, scan_nil], fun i hi _ => hi⟩
  | cons t ls ih =>
    by_cases hm : (rec1 n t).length ≤ m
    · obtain ⟨j, hj, hs, hi⟩ := ih h.2 (m - (rec1 n t).length)
      refine ⟨j + 1, by simp; omega, ?_, ?_⟩
      · rw [recs, Fm.take_cut hm, scan_rec h.1.1 h.1.2, hs]
        simp [recs]
      · intro i hi1 hi2
        cases i with
        | zero => omega
        | succ i =>
          rw [List.take_succ_cons, recs, List.length_append] at hi2
          have := hi i (by simpa using hi1) (by omega)
          omega
    · refine ⟨0, Nat.zero_le _, ?_, ?_⟩
      · have g := Fm.get_cut kind1 (body_short h.1.1 h.1.2) (m := m) (by unfold rec1 at hm; omega) (recs (n + 1) ls)
        rw [recs, scan_no]
        · simp [recs]
        · exact one_get g (by decide)
      · intro i hi1 hi2
        cases i with
        | zero => omega
        | succ i =>
          rw [List.take_succ_cons, recs, List.length_append] at hi2
          omega
theorem recs_mono (n : Int) (ls : List (List UInt8)) (i : Nat) : (recs n (ls.take i)).length ≤ (recs n ls).length := by
  conv => rhs; rw [← List.take_append_drop i ls]
  rw [recs_append, List.length_append]; omega
end Rc
end Go.Proofs.Yteepemibmjpnfaa
