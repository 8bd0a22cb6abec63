/-
  Layer 6 (alarm), plain mathematics: alarms, what is done to them, and what time makes of them.
-/
import Derived.Test.YthlojadkgpmnmaaSpotMay
import Derived.Test.YthlojadkgpmnmaaLifeM
namespace Go.Proofs.Ythlojadkgpmnmaa

/-- An alarm: bed, channel, phase, priority, since, until. -/
structure Alm where
  b : Int
  c : Int
  ph : Int
  pr : Int
  si : Int
  un : Int
deriving DecidableEq

namespace Am
def isT (n : Int) : Bool := decide (0 ≤ n) && decide (n ≤ 1000000000)
def late (n : Int) : Bool := decide (n ≤ 1000002000)
def wait (p : Int) : Int := if p = 1 then 10 else if p = 2 then 30 else if p = 3 then 90 else 0
def right (a : Alm) : Bool := Sp.may a.b a.c && decide (1 ≤ a.ph) && decide (a.ph ≤ 4) && decide (1 ≤ a.pr) && decide (a.pr ≤ 3) && isT a.si && decide (a.si ≤ a.un) && late a.un
def zero : Alm := ⟨0, 0, 0, 0, 0, 0⟩
def openE (b c prio t : Int) : Int := if !Sp.may b c || decide (wait prio = 0) || !isT t then 1 else 0
def opn (b c prio t : Int) : Alm := if openE b c prio t = 0 then ⟨b, c, 1, prio, t, t + wait prio⟩ else zero
def raiseE (a : Alm) (prio t : Int) : Int := if !right a || decide (wait prio = 0) || !isT t then 1 else if t < a.si then 62 else 0
def raiseOk (a : Alm) (prio t : Int) : Alm :=
  if a.ph = 3 then ⟨a.b, a.c, 1, min a.pr prio, t, t + wait (min a.pr prio)⟩
  else if a.ph = 1 ∧ min a.pr prio ≠ a.pr then ⟨a.b, a.c, a.ph, min a.pr prio, a.si, max a.si (min a.un (t + wait (min a.pr prio)))⟩
  else ⟨a.b, a.c, a.ph, min a.pr prio, a.si, a.un⟩
def raise (a : Alm) (prio t : Int) : Alm := if raiseE a prio t = 0 then raiseOk a prio t else zero
def turnU (pr deed t long : Int) : Int := if deed = 6 then t + wait pr else if deed = 4 then t + long else t
def turn (a : Alm) (deed t long : Int) : Alm := ⟨a.b, a.c, Lf.nx a.ph deed, a.pr, a.si, turnU a.pr deed t long⟩
def canDo (deed long : Int) : Bool := (deed == 2 || deed == 3 || deed == 4 || deed == 6) && !(deed == 4 && (decide (long < 1) || decide (1000 < long)))
def doE (a : Alm) (deed t long : Int) : Int :=
  if !right a || !isT t || !canDo deed long then 1 else if t < a.si then 62 else if Lf.ok a.ph deed = false then 60 else if (deed = 2 ∨ deed = 6) ∧ t < a.un then 61 else 0
def doA (a : Alm) (deed t long : Int) : Alm := if doE a deed t long = 0 then turn a deed t long else zero
def step (a : Alm) (t : Int) : Alm := if a.ph = 4 ∧ a.un ≤ t then turn a 6 a.un 0 else if a.ph = 1 ∧ a.un ≤ t then turn a 2 a.un 0 else a
def pass (a : Alm) (t : Int) : Alm := if right a then step (step (step a t) t) t else a

theorem isT_iff {n : Int} : isT n = true ↔ 0 ≤ n ∧ n ≤ 1000000000 := by unfold isT; simp
theorem late_iff {n : Int} : late n = true ↔ n ≤ 1000002000 := by unfold late; simp
theorem right_iff {a : Alm} : right a = true ↔ Sp.may a.b a.c = true ∧ 1 ≤ a.ph ∧ a.ph ≤ 4 ∧ 1 ≤ a.pr ∧ a.pr ≤ 3 ∧ (0 ≤ a.si ∧ a.si ≤ 1000000000) ∧ a.si ≤ a.un ∧ a.un ≤ 1000002000 := by
  unfold right
  simp only [Bool.and_eq_true, decide_eq_true_eq, isT_iff, late_iff]
  constructor
  · rintro ⟨⟨⟨⟨⟨⟨⟨h1, h2⟩, h3⟩, h4⟩, h5⟩, h6⟩, h7⟩, h8⟩
    exact ⟨h1, h2, h3, h4, h5, h6, h7, h8⟩
  · rintro ⟨h1, h2, h3, h4, h5, h6, h7, h8⟩
    exact ⟨⟨⟨⟨⟨⟨⟨h1, h2⟩, h3⟩, h4⟩, h5⟩, h6⟩, h7⟩, h8⟩
theorem wait_pos {p : Int} (h : 1 ≤ p) (h3 : p ≤ 3) : 10 ≤ wait p ∧ wait p ≤ 90 := by
  unfold wait; split
  · omega
  · split
    · omega
    · split <;> omega
theorem wait_zero {p : Int} : wait p = 0 ↔ ¬ (1 ≤ p ∧ p ≤ 3) := by
  unfold wait; constructor
  · intro h; split at h
    · omega
    · split at h
      · omega
      · split at h <;> omega
  · intro h; rw [if_neg (by omega), if_neg (by omega), if_neg (by omega)]
theorem wait_mono {p q : Int} (_h : 1 ≤ p) (hq : q ≤ 3) (hpq : p ≤ q) : wait p ≤ wait q := by
  unfold wait
  repeat' split
  all_goals omega
theorem wait_bounds (p : Int) : 0 ≤ wait p ∧ wait p ≤ 90 := by
  unfold wait; repeat' split
  all_goals omega

/-! ### deeds on phases -/
theorem nx_two : Lf.nx 1 2 = 2 := by decide
theorem nx_six : Lf.nx 4 6 = 1 := by decide
theorem do_phase {ph deed : Int} (h : Lf.ok ph deed = true) (h1 : 1 ≤ ph) (hd : deed = 2 ∨ deed = 3 ∨ deed = 4 ∨ deed = 6) : 1 ≤ Lf.nx ph deed ∧ Lf.nx ph deed ≤ 4 := by
  obtain ⟨hp, _, _⟩ := Lf.ok_parts h
  rcases Lf.isP_cases hp with rfl | rfl | rfl | rfl | rfl <;> rcases hd with rfl | rfl | rfl | rfl <;> first | (exfalso; revert h; decide) | (exfalso; omega) | decide
theorem ok_two {ph : Int} (h : Lf.ok ph 2 = true) : ph = 1 := by
  obtain ⟨hp, _, _⟩ := Lf.ok_parts h
  rcases Lf.isP_cases hp with rfl | rfl | rfl | rfl | rfl <;> first | rfl | (exfalso; revert h; decide)
theorem ok_six {ph : Int} (h : Lf.ok ph 6 = true) : ph = 4 := by
  obtain ⟨hp, _, _⟩ := Lf.ok_parts h
  rcases Lf.isP_cases hp with rfl | rfl | rfl | rfl | rfl <;> first | rfl | (exfalso; revert h; decide)

/-! ### what is opened, raised or done is right -/
theorem openE_iff {b c prio t : Int} : openE b c prio t = 0 ↔ Sp.may b c = true ∧ (1 ≤ prio ∧ prio ≤ 3) ∧ 0 ≤ t ∧ t ≤ 1000000000 := by
  unfold openE
  have h1 := wait_zero (p := prio)
  have h2 := isT_iff (n := t)
  cases Sp.may b c <;> cases hT : isT t <;> by_cases hw : wait prio = 0 <;> simp_all
theorem opn_right {b c prio t : Int} (h : openE b c prio t = 0) : right (opn b c prio t) = true ∧ (opn b c prio t).b = b ∧ (opn b c prio t).c = c ∧ (opn b c prio t).si = t := by
  have hh := openE_iff.1 h
  have hw := wait_pos hh.2.1.1 hh.2.1.2
  unfold opn
  rw [if_pos h]
  refine ⟨right_iff.2 ⟨hh.1, ?_⟩, rfl, rfl, rfl⟩
  simp only
  omega
theorem raiseE_iff {a : Alm} {prio t : Int} : raiseE a prio t = 0 ↔ right a = true ∧ (1 ≤ prio ∧ prio ≤ 3) ∧ (0 ≤ t ∧ t ≤ 1000000000) ∧ a.si ≤ t := by
  unfold raiseE
  have h1 := wait_zero (p := prio)
  have h2 := isT_iff (n := t)
  cases right a <;> cases hT : isT t <;> by_cases hw : wait prio = 0 <;> by_cases ht : t < a.si <;> simp_all <;> omega
theorem raise_right {a : Alm} {prio t : Int} (h : raiseE a prio t = 0) : right (raise a prio t) = true ∧ (raise a prio t).b = a.b ∧ (raise a prio t).c = a.c ∧ (raise a prio t).pr ≤ a.pr ∧ (raise a prio t).pr ≤ prio ∧ a.si ≤ (raise a prio t).si := by
  obtain ⟨hr, hp, ht, hs⟩ := raiseE_iff.1 h
  have hr' := right_iff.1 hr
  have hm1 : 1 ≤ min a.pr prio := by omega
  have hm3 : min a.pr prio ≤ 3 := by omega
  have hw := wait_pos hm1 hm3
  unfold raise raiseOk
  rw [if_pos h]
  split
  · refine ⟨right_iff.2 ⟨hr'.1, ?_⟩, rfl, rfl, ?_, ?_, ?_⟩ <;> (simp only; omega)
  · split
    · refine ⟨right_iff.2 ⟨hr'.1, ?_⟩, rfl, rfl, ?_, ?_, ?_⟩ <;> (simp only; omega)
    · refine ⟨right_iff.2 ⟨hr'.1, ?_⟩, rfl, rfl, ?_, ?_, ?_⟩ <;> (simp only; omega)
theorem canDo_iff {deed long : Int} : canDo deed long = true ↔ (deed = 2 ∨ deed = 3 ∨ deed = 4 ∨ deed = 6) ∧ (deed = 4 → 1 ≤ long ∧ long ≤ 1000) := by
  unfold canDo
  simp only [Bool.and_eq_true, Bool.or_eq_true, beq_iff_eq, Bool.not_eq_true', Bool.and_eq_false_iff, Bool.or_eq_false_iff, decide_eq_false_iff_not, beq_eq_false_iff_ne]
  constructor
  · rintro ⟨h1, h2⟩
    exact ⟨by omega, fun h4 => by rcases h2 with h2 | h2 <;> omega⟩
  · rintro ⟨h1, h2⟩
    refine ⟨by omega, ?_⟩
    by_cases h4 : deed = 4
    · right; have := h2 h4; omega
    · left; exact h4
theorem doE_iff {a : Alm} {deed t long : Int} : doE a deed t long = 0 ↔ right a = true ∧ (0 ≤ t ∧ t ≤ 1000000000) ∧ canDo deed long = true ∧ a.si ≤ t ∧ Lf.ok a.ph deed = true ∧ ¬ ((deed = 2 ∨ deed = 6) ∧ t < a.un) := by
  unfold doE
  have h2 := isT_iff (n := t)
  cases right a <;> cases hT : isT t <;> cases canDo deed long <;> by_cases ht : t < a.si <;> cases Lf.ok a.ph deed <;> by_cases hd : (deed = 2 ∨ deed = 6) ∧ t < a.un <;> simp_all <;> omega
theorem turnU_ge {pr deed t long : Int} (h : deed = 4 → 1 ≤ long) : t ≤ turnU pr deed t long := by
  unfold turnU
  have := wait_bounds pr
  split
  · omega
  · split
    · rename_i h4; have := h h4; omega
    · omega
theorem turnU_le {pr deed t long : Int} (h : deed = 4 → long ≤ 1000) : turnU pr deed t long ≤ t + 1000 := by
  unfold turnU
  have := wait_bounds pr
  split
  · omega
  · split
    · rename_i h4; have := h h4; omega
    · omega
theorem do_right {a : Alm} {deed t long : Int} (h : doE a deed t long = 0) : right (doA a deed t long) = true ∧ (doA a deed t long).b = a.b ∧ (doA a deed t long).c = a.c ∧ (doA a deed t long).pr = a.pr ∧ (doA a deed t long).si = a.si ∧ t ≤ (doA a deed t long).un := by
  obtain ⟨hr, ht, hc, hs, ho, _⟩ := doE_iff.1 h
  have hr' := right_iff.1 hr
  obtain ⟨hd, hl⟩ := canDo_iff.1 hc
  have hp := do_phase ho hr'.2.1 hd
  have hu := turnU_ge (pr := a.pr) (deed := deed) (t := t) (long := long) (fun h => (hl h).1)
  have hv := turnU_le (pr := a.pr) (deed := deed) (t := t) (long := long) (fun h => (hl h).2)
  unfold doA turn
  rw [if_pos h]
  refine ⟨right_iff.2 ⟨hr'.1, ?_⟩, rfl, rfl, rfl, rfl, hu⟩
  simp only
  omega

/-! ### what time makes -/
theorem step_four {a : Alm} {t : Int} (h : a.ph = 4) (hu : a.un ≤ t) : step a t = ⟨a.b, a.c, 1, a.pr, a.si, a.un + wait a.pr⟩ := by
  unfold step; rw [if_pos ⟨h, hu⟩]; unfold turn turnU; rw [h, nx_six]; simp
theorem step_one {a : Alm} {t : Int} (h : a.ph = 1) (hu : a.un ≤ t) : step a t = ⟨a.b, a.c, 2, a.pr, a.si, a.un⟩ := by
  unfold step; rw [if_neg (by omega), if_pos ⟨h, hu⟩]; unfold turn turnU; rw [h, nx_two]; simp
theorem step_still {a : Alm} {t : Int} (h : ¬ ((a.ph = 4 ∨ a.ph = 1) ∧ a.un ≤ t)) : step a t = a := by
  unfold step; rw [if_neg (by omega), if_neg (by omega)]
/-- Is something due at t? -/
def due (a : Alm) (t : Int) : Prop := (a.ph = 4 ∨ a.ph = 1) ∧ a.un ≤ t
theorem pass_cases {a : Alm} (t : Int) (h : right a = true) :
    (a.ph = 4 ∧ a.un ≤ t ∧ a.un + wait a.pr ≤ t ∧ pass a t = ⟨a.b, a.c, 2, a.pr, a.si, a.un + wait a.pr⟩) ∨
    (a.ph = 4 ∧ a.un ≤ t ∧ t < a.un + wait a.pr ∧ pass a t = ⟨a.b, a.c, 1, a.pr, a.si, a.un + wait a.pr⟩) ∨
    (a.ph = 1 ∧ a.un ≤ t ∧ pass a t = ⟨a.b, a.c, 2, a.pr, a.si, a.un⟩) ∨
    (¬ due a t ∧ pass a t = a) := by
  unfold pass due
  rw [if_pos h]
  by_cases h4 : a.ph = 4
  · by_cases hu : a.un ≤ t
    · rw [step_four h4 hu]
      by_cases hv : a.un + wait a.pr ≤ t
      · left
        refine ⟨h4, hu, hv, ?_⟩
        rw [step_one (a := ⟨a.b, a.c, 1, a.pr, a.si, a.un + wait a.pr⟩) (t := t) rfl hv]
        exact step_still (by simp)
      · right; left
        refine ⟨h4, hu, by omega, ?_⟩
        rw [step_still (a := ⟨a.b, a.c, 1, a.pr, a.si, a.un + wait a.pr⟩) (by simp; omega), step_still (by simp; omega)]
    · right; right; right
      have : step a t = a := step_still (by omega)
      exact ⟨by omega, by rw [this, this, this]⟩
  · by_cases h1 : a.ph = 1
    · by_cases hu : a.un ≤ t
      · right; right; left
        refine ⟨h1, hu, ?_⟩
        rw [step_one h1 hu, step_still (a := ⟨a.b, a.c, 2, a.pr, a.si, a.un⟩) (by simp), step_still (by simp)]
      · right; right; right
        have : step a t = a := step_still (by omega)
        exact ⟨by omega, by rw [this, this, this]⟩
    · right; right; right
      have : step a t = a := step_still (by omega)
      exact ⟨by omega, by rw [this, this, this]⟩
theorem pass_wrong {a : Alm} (t : Int) (h : right a = false) : pass a t = a := by unfold pass; rw [h]; rfl
/-- Spot, priority and beginning stay; the end does not fall. -/
theorem pass_keeps (a : Alm) (t : Int) : (pass a t).b = a.b ∧ (pass a t).c = a.c ∧ (pass a t).pr = a.pr ∧ (pass a t).si = a.si ∧ a.un ≤ (pass a t).un := by
  cases h : right a
  · rw [pass_wrong t h]; exact ⟨rfl, rfl, rfl, rfl, Int.le_refl _⟩
  · have hw := wait_bounds a.pr
    rcases pass_cases t h with ⟨_, _, _, e⟩ | ⟨_, _, _, e⟩ | ⟨_, _, e⟩ | ⟨_, e⟩ <;> rw [e] <;> refine ⟨rfl, rfl, rfl, rfl, ?_⟩ <;> first | exact Int.le_refl _ | (simp only; omega)
theorem pass_right {a : Alm} {t : Int} (h : right a = true) (hu : a.un ≤ 1000000000) : right (pass a t) = true := by
  have hr := right_iff.1 h
  have hw := wait_pos hr.2.2.2.1 hr.2.2.2.2.1
  refine right_iff.2 ?_
  rcases pass_cases t h with ⟨_, _, _, e⟩ | ⟨_, _, _, e⟩ | ⟨_, _, e⟩ | ⟨_, e⟩ <;> rw [e] <;> refine ⟨hr.1, ?_⟩ <;> (try simp only) <;> omega
/-- Behind a Pass nothing is due. -/
theorem pass_due {a : Alm} (t : Int) (h : right a = true) : ¬ due (pass a t) t := by
  unfold due
  rcases pass_cases t h with ⟨_, _, _, e⟩ | ⟨_, _, _, e⟩ | ⟨_, _, e⟩ | ⟨hd, e⟩
  · rw [e]; simp
  · rw [e]; simp; omega
  · rw [e]; simp
  · rw [e]; exact hd
theorem pass_still {a : Alm} {t : Int} (h : ¬ due a t) : pass a t = a := by
  cases hr : right a
  · exact pass_wrong t hr
  · unfold due at h
    rcases pass_cases t hr with ⟨h4, hu, _⟩ | ⟨h4, hu, _⟩ | ⟨h1, hu, _⟩ | ⟨_, e⟩
    · exact absurd ⟨Or.inl h4, hu⟩ h
    · exact absurd ⟨Or.inl h4, hu⟩ h
    · exact absurd ⟨Or.inr h1, hu⟩ h
    · exact e
theorem pass_again (a : Alm) (t : Int) : pass (pass a t) t = pass a t := by
  cases hr : right a
  · rw [pass_wrong t hr, pass_wrong t hr]
  · exact pass_still (pass_due t hr)
/-- Time till one time, and then till a later one, is as time till that. -/
theorem pass_twoR {a : Alm} {t t' : Int} (ht : t ≤ t') (hb0 : right a = true → right (pass a t) = true) : pass (pass a t) t' = pass a t' := by
  cases hr : right a
  · rw [pass_wrong t hr]
  · have hb := hb0 hr
    rcases pass_cases t hr with ⟨h4, h1, h2, e⟩ | ⟨h4, h1, h2, e⟩ | ⟨h4, h1, e⟩ | ⟨hd, e⟩
    · rw [pass_still (a := pass a t) (by rw [e]; unfold due; simp), e]
      rcases pass_cases t' hr with ⟨_, _, _, e'⟩ | ⟨_, _, h3, e'⟩ | ⟨h5, _, e'⟩ | ⟨hd', e'⟩
      · rw [e']
      · omega
      · omega
      · unfold due at hd'; omega
    · rw [e] at hb
      rw [e]
      rcases pass_cases t' hb with ⟨h5, _⟩ | ⟨h5, _⟩ | ⟨_, h6, e2⟩ | ⟨hd2, e2⟩
      · simp at h5
      · simp at h5
      · rw [e2]
        simp only at h6 ⊢
        rcases pass_cases t' hr with ⟨_, _, _, e'⟩ | ⟨_, _, h3, e'⟩ | ⟨h5, _, e'⟩ | ⟨hd', e'⟩
        · rw [e']
        · omega
        · omega
        · unfold due at hd'; omega
      · rw [e2]
        unfold due at hd2
        simp at hd2
        rcases pass_cases t' hr with ⟨_, _, h3, e'⟩ | ⟨_, _, h3, e'⟩ | ⟨h5, _, e'⟩ | ⟨hd', e'⟩
        · omega
        · rw [e']
        · omega
        · unfold due at hd'; omega
    · rw [pass_still (a := pass a t) (by rw [e]; unfold due; simp), e]
      rcases pass_cases t' hr with ⟨h5, _, _, e'⟩ | ⟨h5, _, h3, e'⟩ | ⟨h5, _, e'⟩ | ⟨hd', e'⟩
      · omega
      · omega
      · rw [e']
      · unfold due at hd'; omega
    · rw [e]
theorem pass_two {a : Alm} {t t' : Int} (ht : t ≤ t') (hu : a.un ≤ 1000000000) : pass (pass a t) t' = pass a t' := pass_twoR ht (fun hr => pass_right hr hu)
/-- Behind a Pass neither ESCALATE nor WAKE can be done. -/
theorem due_two {a : Alm} {t s : Int} (h : right a = true) (hs : s ≤ t) : doE (pass a t) 2 s 0 ≠ 0 ∧ doE (pass a t) 6 s 0 ≠ 0 := by
  have hd := pass_due t h
  unfold due at hd
  refine ⟨fun e => ?_, fun e => ?_⟩
  · obtain ⟨_, _, _, _, ho, hu⟩ := doE_iff.1 e
    have := ok_two ho
    omega
  · obtain ⟨_, _, _, _, ho, hu⟩ := doE_iff.1 e
    have := ok_six ho
    omega
/-- Raised twice at one time it is as raised once with the more urgent one of both. -/
theorem raise_twice {a : Alm} {p q t : Int} (h : raiseE a p t = 0) (h' : raiseE (raise a p t) q t = 0) : raiseE a (min p q) t = 0 ∧ raise (raise a p t) q t = raise a (min p q) t := by
  obtain ⟨hr, hp, ht, hs⟩ := raiseE_iff.1 h
  obtain ⟨_, hq, _, _⟩ := raiseE_iff.1 h'
  have h3 : raiseE a (min p q) t = 0 := raiseE_iff.2 ⟨hr, by omega, ht, hs⟩
  refine ⟨h3, ?_⟩
  have hr' := right_iff.1 hr
  have e1 : raise a p t = raiseOk a p t := by unfold raise; rw [if_pos h]
  have e2 : raise a (min p q) t = raiseOk a (min p q) t := by unfold raise; rw [if_pos h3]
  have e3 : raise (raise a p t) q t = raiseOk (raise a p t) q t := by show (if raiseE (raise a p t) q t = 0 then raiseOk (raise a p t) q t else zero) = _; rw [if_pos h']
  rw [e3, e2, e1]
  have w1 := wait_bounds (min a.pr p)
  have w2 := wait_bounds (min a.pr (min p q))
  have hm : min (min a.pr p) q = min a.pr (min p q) := by omega
  have mono := wait_mono (p := min a.pr (min p q)) (q := min a.pr p) (by omega) (by omega) (by omega)
  by_cases h3 : a.ph = 3
  · have hA : raiseOk a p t = ⟨a.b, a.c, 1, min a.pr p, t, t + wait (min a.pr p)⟩ := by unfold raiseOk; rw [if_pos h3]
    have hC : raiseOk a (min p q) t = ⟨a.b, a.c, 1, min a.pr (min p q), t, t + wait (min a.pr (min p q))⟩ := by unfold raiseOk; rw [if_pos h3]
    rw [hA, hC]
    unfold raiseOk
    simp only [hm]
    rw [if_neg (by decide)]
    by_cases hne : min a.pr (min p q) = min a.pr p
    · rw [if_neg (by simp [hne])]
      simp [hne]
    · rw [if_pos ⟨by trivial, hne⟩]
      simp only [Alm.mk.injEq, true_and]
      omega
  · by_cases h1 : a.ph = 1
    · have hU : raiseOk a p t = ⟨a.b, a.c, a.ph, min a.pr p, a.si, if min a.pr p ≠ a.pr then max a.si (min a.un (t + wait (min a.pr p))) else a.un⟩ := by
        unfold raiseOk; rw [if_neg h3]
        by_cases hp : min a.pr p ≠ a.pr
        · rw [if_pos ⟨h1, hp⟩, if_pos hp]
        · rw [if_neg (fun h => hp h.2), if_neg hp]
      have hC : raiseOk a (min p q) t = ⟨a.b, a.c, a.ph, min a.pr (min p q), a.si, if min a.pr (min p q) ≠ a.pr then max a.si (min a.un (t + wait (min a.pr (min p q)))) else a.un⟩ := by
        unfold raiseOk; rw [if_neg h3]
        by_cases hp : min a.pr (min p q) ≠ a.pr
        · rw [if_pos ⟨h1, hp⟩, if_pos hp]
        · rw [if_neg (fun h => hp h.2), if_neg hp]
      rw [hU, hC]
      unfold raiseOk
      simp only [hm]
      rw [if_neg h3]
      by_cases hne : min a.pr (min p q) = min a.pr p
      · rw [if_neg (fun h => h.2 hne)]
        simp only [hne]
      · rw [if_pos ⟨h1, hne⟩]
        simp only [Alm.mk.injEq, true_and]
        rw [if_pos (show min a.pr (min p q) ≠ a.pr by omega)]
        split <;> omega
    · have hU : raiseOk a p t = ⟨a.b, a.c, a.ph, min a.pr p, a.si, a.un⟩ := by unfold raiseOk; rw [if_neg h3, if_neg (fun h => h1 h.1)]
      have hC : raiseOk a (min p q) t = ⟨a.b, a.c, a.ph, min a.pr (min p q), a.si, a.un⟩ := by unfold raiseOk; rw [if_neg h3, if_neg (fun h => h1 h.1)]
      rw [hU, hC]
      unfold raiseOk
      simp only [hm]
      rw [if_neg h3, if_neg (fun h => h1 h.1)]
end Am
end Go.Proofs.Ythlojadkgpmnmaa
