/-
  Plain mathematics of layer 3 (frame): a frame's bytes, how bytes begin with one, rows of texts. No program, no memory.
-/
import Derived.Test.YteepemibmjpnfaaWireR
import Derived.Test.YteepemibmjpnfaaSumM
namespace Go.Proofs.Yteepemibmjpnfaa
set_option maxRecDepth 10000
namespace Fm

def kindOk (k : Int) : Bool := decide (0 ≤ k) && decide (k ≤ 99)
theorem kindOk_iff {k : Int} : kindOk k = true ↔ 0 ≤ k ∧ k ≤ 99 := by simp [kindOk]
theorem kindOk_not {k : Int} : kindOk k = false ↔ k < 0 ∨ 99 < k := by
  rw [Bool.eq_false_iff, ne_eq, kindOk_iff]; omega

/-- A text's bytes. -/
def textL (t : List UInt8) : List UInt8 := Wm.lay (t.length : Int) ++ t
/-- What stands ahead of the sum. -/
def ahead (k : Int) (t : List UInt8) : List UInt8 := Wm.lay k ++ textL t
def frame (k : Int) (t : List UInt8) : List UInt8 := ahead k t ++ Wm.lay (Sm.ofL (ahead k t) : Int)

def putE (k : Int) (t : List UInt8) : Int := if kindOk k = true then if t.length ≤ 3000 then 0 else 2 else 1
def putS (k : Int) (t : List UInt8) : List UInt8 := if kindOk k = true then if t.length ≤ 3000 then frame k t else [] else []

theorem put_yes {k : Int} {t : List UInt8} (h : kindOk k = true) (h2 : t.length ≤ 3000) : putS k t = frame k t ∧ putE k t = 0 := by
  simp [putS, putE, h, h2]
theorem put_long {k : Int} {t : List UInt8} (h : kindOk k = true) (h2 : ¬ t.length ≤ 3000) : putS k t = [] ∧ putE k t = 2 := by
  simp [putS, putE, h, h2]
theorem put_kind {k : Int} {t : List UInt8} (h : kindOk k = false) : putS k t = [] ∧ putE k t = 1 := by
  simp [putS, putE, h]
theorem putE_zero {k : Int} {t : List UInt8} (h : putE k t = 0) : kindOk k = true ∧ t.length ≤ 3000 := by
  unfold putE at h
  split at h
  · rename_i h1
    split at h
    · rename_i h2; exact ⟨h1, h2⟩
    · cases h
  · cases h

/-- The frame that l begins with: its kind, its text, what stands behind, the error. -/
def get (l : List UInt8) : Int × List UInt8 × List UInt8 × Int :=
  if (Wm.getInt l).2.2 = 0 then
    if (Wm.getText (Wm.getInt l).2.1).2.2 = 0 then
      if (Wm.getInt (Wm.getText (Wm.getInt l).2.1).2.1).2.2 = 0 then
        if kindOk (Wm.getInt l).1 = true ∧ 0 ≤ (Wm.getInt (Wm.getText (Wm.getInt l).2.1).2.1).1 ∧ (Wm.getInt (Wm.getText (Wm.getInt l).2.1).2.1).1 ≤ 65535 then
          if (Wm.getInt (Wm.getText (Wm.getInt l).2.1).2.1).1 = (Sm.ofL (l.take (l.length - (Wm.getText (Wm.getInt l).2.1).2.1.length)) : Int) then
            ((Wm.getInt l).1, (Wm.getText (Wm.getInt l).2.1).1, (Wm.getInt (Wm.getText (Wm.getInt l).2.1).2.1).2.1, 0)
          else (0, [], [], 21)
        else (0, [], [], 20)
      else (0, [], [], (Wm.getInt (Wm.getText (Wm.getInt l).2.1).2.1).2.2)
    else (0, [], [], (Wm.getText (Wm.getInt l).2.1).2.2)
  else (0, [], [], (Wm.getInt l).2.2)

theorem get_e1 {l : List UInt8} {n : Int} {r : List UInt8} {e : Int} (h : Wm.getInt l = (n, r, e)) (he : e ≠ 0) : get l = (0, [], [], e) := by
  unfold get; rw [h]; simp [he]
theorem get_e2 {l a t r : List UInt8} {n e : Int} (h : Wm.getInt l = (n, a, 0)) (h2 : Wm.getText a = (t, r, e)) (he : e ≠ 0) : get l = (0, [], [], e) := by
  unfold get; rw [h]; simp only [if_true]; rw [h2]; simp [he]
theorem get_e3 {l a t b r : List UInt8} {n c e : Int} (h : Wm.getInt l = (n, a, 0)) (h2 : Wm.getText a = (t, b, 0)) (h3 : Wm.getInt b = (c, r, e)) (he : e ≠ 0) : get l = (0, [], [], e) := by
  unfold get; rw [h]; simp only [if_true]; rw [h2]; simp only [if_true]; rw [h3]; simp [he]
theorem get_form {l a t b r : List UInt8} {n c : Int} (h : Wm.getInt l = (n, a, 0)) (h2 : Wm.getText a = (t, b, 0)) (h3 : Wm.getInt b = (c, r, 0)) (hk : ¬ (kindOk n = true ∧ 0 ≤ c ∧ c ≤ 65535)) : get l = (0, [], [], 20) := by
  unfold get; rw [h]; simp only [if_true]; rw [h2]; simp only [if_true]; rw [h3]; simp only [if_true]; rw [if_neg hk]
theorem get_sum {l a t b r : List UInt8} {n c : Int} (h : Wm.getInt l = (n, a, 0)) (h2 : Wm.getText a = (t, b, 0)) (h3 : Wm.getInt b = (c, r, 0)) (hk : kindOk n = true ∧ 0 ≤ c ∧ c ≤ 65535) (hs : ¬ c = (Sm.ofL (l.take (l.length - b.length)) : Int)) : get l = (0, [], [], 21) := by
  unfold get; rw [h]; simp only [if_true]; rw [h2]; simp only [if_true]; rw [h3]; simp only [if_true]; rw [if_pos hk, if_neg hs]
theorem get_yes {l a t b r : List UInt8} {n c : Int} (h : Wm.getInt l = (n, a, 0)) (h2 : Wm.getText a = (t, b, 0)) (h3 : Wm.getInt b = (c, r, 0)) (hk : kindOk n = true ∧ 0 ≤ c ∧ c ≤ 65535) (hs : c = (Sm.ofL (l.take (l.length - b.length)) : Int)) : get l = (n, t, r, 0) := by
  unfold get; rw [h]; simp only [if_true]; rw [h2]; simp only [if_true]; rw [h3]; simp only [if_true]; rw [if_pos hk, if_pos hs]

theorem getInt_cases (l : List UInt8) : (∃ n r, Wm.getInt l = (n, r, 0)) ∨ ∃ e, e ≠ 0 ∧ Wm.getInt l = (0, [], e) := by
  rcases Wm.getInt_err l with h | h | h
  · exact .inl h
  · exact .inr ⟨20, by decide, h⟩
  · exact .inr ⟨22, by decide, h⟩

theorem get_cases (l : List UInt8) : (∃ k t r, get l = (k, t, r, 0)) ∨ ∃ e, e ≠ 0 ∧ get l = (0, [], [], e) := by
  rcases getInt_cases l with ⟨n, a, h⟩ | ⟨e, he, h⟩
  · rcases Wm.getText_err a with ⟨t, b, h2⟩ | ⟨e, he, h2⟩
    · rcases getInt_cases b with ⟨c, r, h3⟩ | ⟨e, he, h3⟩
      · by_cases hk : kindOk n = true ∧ 0 ≤ c ∧ c ≤ 65535
        · by_cases hs : c = (Sm.ofL (l.take (l.length - b.length)) : Int)
          · exact .inl ⟨_, _, _, get_yes h h2 h3 hk hs⟩
          · exact .inr ⟨21, by decide, get_sum h h2 h3 hk hs⟩
        · exact .inr ⟨20, by decide, get_form h h2 h3 hk⟩
      · exact .inr ⟨e, he, get_e3 h h2 h3 he⟩
    · exact .inr ⟨e, he, get_e2 h h2 he⟩
  · exact .inr ⟨e, he, get_e1 h he⟩

theorem fits_kind {k : Int} (h : kindOk k = true) : Wm.fits k = true := Wm.fits_iff.2 (by have := kindOk_iff.1 h; omega)
theorem fits_sum (l : List UInt8) : Wm.fits (Sm.ofL l : Int) = true := Wm.fits_iff.2 (by have := Sm.ofL_lt l; omega)

/-- What is put is got, whatever stands behind. -/
theorem get_frame {k : Int} {t : List UInt8} (h : kindOk k = true) (h2 : t.length ≤ 3000) (r : List UInt8) : get (frame k t ++ r) = (k, t, r, 0) := by
  have e : frame k t ++ r = Wm.lay k ++ (Wm.lay (t.length : Int) ++ t ++ (Wm.lay (Sm.ofL (ahead k t) : Int) ++ r)) := by
    simp [frame, ahead, textL, List.append_assoc]
  have g1 := Wm.getInt_lay (fits_kind h) (Wm.lay (t.length : Int) ++ t ++ (Wm.lay (Sm.ofL (ahead k t) : Int) ++ r))
  have g2 := Wm.getText_lay t (Wm.lay (Sm.ofL (ahead k t) : Int) ++ r) h2
  have g3 := Wm.getInt_lay (fits_sum (ahead k t)) r
  rw [← e] at g1
  have hlt := Sm.ofL_lt (ahead k t)
  refine get_yes g1 g2 g3 ⟨h, by omega, by omega⟩ ?_
  have : (frame k t ++ r).take ((frame k t ++ r).length - (Wm.lay (Sm.ofL (ahead k t) : Int) ++ r).length) = ahead k t := by
    have e2 : frame k t ++ r = ahead k t ++ (Wm.lay (Sm.ofL (ahead k t) : Int) ++ r) := by simp [frame, List.append_assoc]
    rw [e2, List.length_append, Nat.add_sub_cancel]
    exact List.take_left
  rw [this]

/-- What is got is put as it was. -/
theorem get_ok {l t r : List UInt8} {k : Int} (h : get l = (k, t, r, 0)) : kindOk k = true ∧ t.length ≤ 3000 ∧ l = frame k t ++ r := by
  rcases getInt_cases l with ⟨n, a, h1⟩ | ⟨e, he, h1⟩
  · rcases Wm.getText_err a with ⟨t', b, h2⟩ | ⟨e, he, h2⟩
    · rcases getInt_cases b with ⟨c, r', h3⟩ | ⟨e, he, h3⟩
      · by_cases hk : kindOk n = true ∧ 0 ≤ c ∧ c ≤ 65535
        · by_cases hs : c = (Sm.ofL (l.take (l.length - b.length)) : Int)
          · rw [get_yes h1 h2 h3 hk hs] at h
            simp only [Prod.mk.injEq, and_true] at h
            obtain ⟨rfl, rfl, rfl⟩ := h
            obtain ⟨hf1, e1⟩ := Wm.getInt_ok h1
            obtain ⟨hf2, e2⟩ := Wm.getText_ok h2
            obtain ⟨hf3, e3⟩ := Wm.getInt_ok h3
            refine ⟨hk.1, hf2, ?_⟩
            have el : l = ahead n t' ++ b := by rw [e1, e2]; simp [ahead, textL, List.append_assoc]
            have : l.take (l.length - b.length) = ahead n t' := by
              rw [el, List.length_append, Nat.add_sub_cancel]; exact List.take_left
            rw [this] at hs
            rw [el, frame, e3, hs, List.append_assoc]
          · rw [get_sum h1 h2 h3 hk hs] at h; simp at h
        · rw [get_form h1 h2 h3 hk] at h; simp at h
      · rw [get_e3 h1 h2 h3 he] at h; simp at h; exact absurd h.2.2.2 he
    · rw [get_e2 h1 h2 he] at h; simp at h; exact absurd h.2.2.2 he
  · rw [get_e1 h1 he] at h; simp at h; exact absurd h.2.2.2 he

theorem lay_pos (n : Int) : 0 < (Wm.lay n).length := by simp [Wm.lay]
theorem frame_pos (k : Int) (t : List UInt8) : 0 < (frame k t).length := by
  have := lay_pos k
  simp [frame, ahead]; omega
theorem get_less {l t r : List UInt8} {k : Int} (h : get l = (k, t, r, 0)) : r.length < l.length := by
  have := (get_ok h).2.2
  rw [this, List.length_append]
  have := frame_pos k t
  omega
theorem get_nil : get [] = (0, [], [], 22) := get_e1 (n := 0) (r := []) (by simp [Wm.getInt]) (by decide)

/-- All frames that l begins with: their texts, how many bytes they take, and the error of what stands behind. -/
def all (l : List UInt8) : List (List UInt8) × Nat × Int :=
  if l = [] then ([], 0, 0)
  else if _h : (get l).2.2.2 = 0 ∧ (get l).2.2.1.length < l.length then
    ((get l).2.1 :: (all (get l).2.2.1).1, (l.length - (get l).2.2.1.length) + (all (get l).2.2.1).2.1, (all (get l).2.2.1).2.2)
  else ([], 0, (get l).2.2.2)
termination_by l.length
decreasing_by exact _h.2

theorem all_nil : all [] = ([], 0, 0) := by rw [all]; simp
theorem all_ok {l t r : List UInt8} {k : Int} (h : get l = (k, t, r, 0)) : all l = (t :: (all r).1, (l.length - r.length) + (all r).2.1, (all r).2.2) := by
  have hl := get_less h
  rw [all, if_neg (by rintro rfl; simp at hl), dif_pos (by rw [h]; exact ⟨rfl, hl⟩), h]
theorem all_bad {l : List UInt8} {e : Int} (hl : l ≠ []) (h : get l = (0, [], [], e)) (he : e ≠ 0) : all l = ([], 0, e) := by
  rw [all, if_neg hl, dif_neg (by rw [h]; exact fun x => he x.1), h]

/-- What was told ahead, and what is told behind. -/
def allGlue (ts : List (List UInt8)) (n : Nat) (x : List (List UInt8) × Nat × Int) : List (List UInt8) × Nat × Int := (ts ++ x.1, n + x.2.1, x.2.2)
theorem allGlue_zero (x : List (List UInt8) × Nat × Int) : allGlue [] 0 x = x := by simp [allGlue]
theorem allGlue_step {ts : List (List UInt8)} {n : Nat} {l t r : List UInt8} {k : Int} (h : get l = (k, t, r, 0)) : allGlue ts n (all l) = allGlue (ts ++ [t]) (n + (l.length - r.length)) (all r) := by
  rw [all_ok h]; simp [allGlue, Nat.add_assoc]
theorem allGlue_end (ts : List (List UInt8)) (n : Nat) : allGlue ts n (all []) = (ts, n, 0) := by rw [all_nil]; simp [allGlue]
theorem allGlue_bad {ts : List (List UInt8)} {n : Nat} {l : List UInt8} {e : Int} (hl : l ≠ []) (h : get l = (0, [], [], e)) (he : e ≠ 0) : allGlue ts n (all l) = (ts, n, e) := by
  rw [all_bad hl h he]; simp [allGlue]

/-- Texts, one behind the other. -/
def textsL (ls : List (List UInt8)) : List UInt8 := ls.flatMap textL
/-- A row's bytes. -/
def rowL (ls : List (List UInt8)) : List UInt8 := Wm.lay (ls.length : Int) ++ textsL ls
def layOk (ls : List (List UInt8)) : Bool := decide (ls.length ≤ 100) && ls.all (fun t => decide (t.length ≤ 3000))
theorem layOk_iff {ls : List (List UInt8)} : layOk ls = true ↔ ls.length ≤ 100 ∧ ∀ t ∈ ls, t.length ≤ 3000 := by simp [layOk]
theorem layOk_many {ls : List (List UInt8)} (h : 100 < ls.length) : layOk ls = false := by
  rw [Bool.eq_false_iff]; intro hh; have := (layOk_iff.1 hh).1; omega
theorem layOk_long {ls : List (List UInt8)} {k : Nat} (hk : k < ls.length) (h : 3000 < ls[k].length) : layOk ls = false := by
  rw [Bool.eq_false_iff]; intro hh; have := (layOk_iff.1 hh).2 _ (List.getElem_mem hk); omega
def layE (ls : List (List UInt8)) : Int := if layOk ls = true then 0 else 2
def layS (ls : List (List UInt8)) : List UInt8 := if layOk ls = true then rowL ls else []
def rowE (k : Int) (ls : List (List UInt8)) : Int := if kindOk k = true then if layOk ls = true then putE k (rowL ls) else 2 else 1
def rowS (k : Int) (ls : List (List UInt8)) : List UInt8 := if kindOk k = true then if layOk ls = true then putS k (rowL ls) else [] else []
theorem rowE_zero {k : Int} {ls : List (List UInt8)} (h : rowE k ls = 0) : kindOk k = true ∧ layOk ls = true ∧ (rowL ls).length ≤ 3000 ∧ rowS k ls = frame k (rowL ls) := by
  unfold rowE at h
  split at h
  · rename_i h1
    split at h
    · rename_i h2
      have h3 := (putE_zero h).2
      exact ⟨h1, h2, h3, by simp [rowS, h1, h2, put_yes h1 h3]⟩
    · cases h
  · cases h

theorem textsL_snoc (ls : List (List UInt8)) (t : List UInt8) : textsL (ls ++ [t]) = textsL ls ++ textL t := by simp [textsL]
theorem textsL_cons (t : List UInt8) (ls : List (List UInt8)) : textsL (t :: ls) = textL t ++ textsL ls := by simp [textsL]

/-- As many texts as m, read one behind the other. -/
def getTs : Nat → List UInt8 → List (List UInt8) × List UInt8 × Int
  | 0, l => ([], l, 0)
  | m + 1, l =>
    if (Wm.getText l).2.2 = 0 then
      if (getTs m (Wm.getText l).2.1).2.2 = 0 then ((Wm.getText l).1 :: (getTs m (Wm.getText l).2.1).1, (getTs m (Wm.getText l).2.1).2.1, 0) else ([], [], (getTs m (Wm.getText l).2.1).2.2)
    else ([], [], (Wm.getText l).2.2)

def glueT (ts : List (List UInt8)) (x : List (List UInt8) × List UInt8 × Int) : List (List UInt8) × List UInt8 × Int := if x.2.2 = 0 then (ts ++ x.1, x.2.1, 0) else ([], [], x.2.2)

theorem getTs_err (m : Nat) (l : List UInt8) : (∃ ts r, getTs m l = (ts, r, 0)) ∨ ∃ e, e ≠ 0 ∧ getTs m l = ([], [], e) := by
  induction m generalizing l with
  | zero => exact .inl ⟨[], l, rfl⟩
  | succ m ih =>
    unfold getTs
    by_cases h1 : (Wm.getText l).2.2 = 0
    · rw [if_pos h1]
      rcases ih (Wm.getText l).2.1 with ⟨ts, r, h⟩ | ⟨e, he, h⟩
      · rw [h]; exact .inl ⟨_, _, rfl⟩
      · rw [h, if_neg he]; exact .inr ⟨e, he, rfl⟩
    · rw [if_neg h1]; exact .inr ⟨_, h1, rfl⟩

theorem glueT_nil (m : Nat) (l : List UInt8) : glueT [] (getTs m l) = getTs m l := by
  rcases getTs_err m l with ⟨ts, r, h⟩ | ⟨e, he, h⟩
  · rw [h]; simp [glueT]
  · rw [h]; simp [glueT, he]

theorem glueT_step {ts : List (List UInt8)} {m : Nat} {l r t : List UInt8} (h : Wm.getText l = (t, r, 0)) : glueT ts (getTs (m + 1) l) = glueT (ts ++ [t]) (getTs m r) := by
  rw [getTs, h]
  simp only [if_true]
  rcases getTs_err m r with ⟨ts', r', h'⟩ | ⟨e, he, h'⟩
  · rw [h']; simp [glueT]
  · rw [h']; simp [glueT, he]

theorem glueT_bad {ts : List (List UInt8)} {m : Nat} {l t r : List UInt8} {e : Int} (h : Wm.getText l = (t, r, e)) (he : e ≠ 0) : glueT ts (getTs (m + 1) l) = ([], [], e) := by
  rw [getTs, h]
  simp only
  rw [if_neg he]
  simp [glueT, he]

theorem glueT_end (ts : List (List UInt8)) (l : List UInt8) : glueT ts (getTs 0 l) = (ts, l, 0) := by simp [getTs, glueT]

theorem getTs_texts (ls : List (List UInt8)) (h : ∀ t ∈ ls, t.length ≤ 3000) (r : List UInt8) : getTs ls.length (textsL ls ++ r) = (ls, r, 0) := by
  induction ls with
  | nil => simp [getTs, textsL]
  | cons t ls ih =>
    have hg := Wm.getText_lay t (textsL ls ++ r) (h t (List.mem_cons_self ..))
    rw [List.length_cons, textsL_cons, List.append_assoc, textL, getTs, hg]
    simp only [if_true]
    rw [ih fun x hx => h x (List.mem_cons_of_mem _ hx)]
    simp

theorem getTs_ok {m : Nat} {l r : List UInt8} {ts : List (List UInt8)} (h : getTs m l = (ts, r, 0)) : ts.length = m ∧ (∀ t ∈ ts, t.length ≤ 3000) ∧ l = textsL ts ++ r := by
  induction m generalizing l ts with
  | zero =>
    simp only [getTs, Prod.mk.injEq, and_true] at h
    obtain ⟨rfl, rfl⟩ := h
    simp [textsL]
  | succ m ih =>
    rcases Wm.getText_err l with ⟨t, r1, h1⟩ | ⟨e, he, h1⟩
    · rw [getTs, h1] at h
      simp only [if_true] at h
      rcases getTs_err m r1 with ⟨ts', r', h'⟩ | ⟨e, he, h'⟩
      · rw [h'] at h
        simp only [if_true, Prod.mk.injEq, and_true] at h
        obtain ⟨rfl, rfl⟩ := h
        obtain ⟨i1, i2, i3⟩ := ih h'
        obtain ⟨j1, j2⟩ := Wm.getText_ok h1
        refine ⟨by simp [i1], ?_, ?_⟩
        · intro x hx
          rcases List.mem_cons.1 hx with rfl | hx
          · exact j1
          · exact i2 x hx
        · rw [j2, i3, textsL_cons, textL]; simp [List.append_assoc]
      · rw [h', if_neg he] at h; simp at h; exact absurd h.2.2 he
    · rw [getTs, h1] at h
      simp only at h
      rw [if_neg he] at h
      simp at h; exact absurd h.2.2 he

/-- The texts whose row's bytes t is. -/
def rowOf (t : List UInt8) : Option (List (List UInt8)) :=
  if (Wm.getInt t).2.2 = 0 ∧ 0 ≤ (Wm.getInt t).1 ∧ (Wm.getInt t).1 ≤ 100 then
    if (getTs (Wm.getInt t).1.toNat (Wm.getInt t).2.1).2.2 = 0 ∧ (getTs (Wm.getInt t).1.toNat (Wm.getInt t).2.1).2.1 = [] then some (getTs (Wm.getInt t).1.toNat (Wm.getInt t).2.1).1 else none
  else none

theorem rowOf_e1 {l r : List UInt8} {n e : Int} (h : Wm.getInt l = (n, r, e)) (he : ¬ (e = 0 ∧ 0 ≤ n ∧ n ≤ 100)) : rowOf l = none := by
  unfold rowOf; rw [h]; exact if_neg he
theorem rowOf_e2 {l r r' : List UInt8} {n e : Int} {ts : List (List UInt8)} (h : Wm.getInt l = (n, r, 0)) (h0 : 0 ≤ n ∧ n ≤ 100) (h2 : getTs n.toNat r = (ts, r', e)) (he : ¬ (e = 0 ∧ r' = [])) : rowOf l = none := by
  unfold rowOf; rw [h, if_pos ⟨rfl, h0⟩]
  show (if (getTs n.toNat r).2.2 = 0 ∧ (getTs n.toNat r).2.1 = [] then some (getTs n.toNat r).1 else none) = none
  rw [h2]; exact if_neg he
theorem rowOf_yes {l r : List UInt8} {n : Int} {ts : List (List UInt8)} (h : Wm.getInt l = (n, r, 0)) (h0 : 0 ≤ n ∧ n ≤ 100) (h2 : getTs n.toNat r = (ts, [], 0)) : rowOf l = some ts := by
  unfold rowOf; rw [h, if_pos ⟨rfl, h0⟩]
  show (if (getTs n.toNat r).2.2 = 0 ∧ (getTs n.toNat r).2.1 = [] then some (getTs n.toNat r).1 else none) = some ts
  rw [h2]; exact if_pos ⟨rfl, rfl⟩

theorem rowOf_row {ls : List (List UInt8)} (h : layOk ls = true) : rowOf (rowL ls) = some ls := by
  obtain ⟨h1, h2⟩ := layOk_iff.1 h
  refine rowOf_yes (n := (ls.length : Int)) (r := textsL ls) (Wm.getInt_lay (Wm.fits_iff.2 (by omega)) _) (by omega) ?_
  have := getTs_texts ls h2 []
  simpa using this

theorem rowOf_ok {t : List UInt8} {ls : List (List UInt8)} (h : rowOf t = some ls) : layOk ls = true ∧ t = rowL ls := by
  rcases getInt_cases t with ⟨n, r, h1⟩ | ⟨e, he, h1⟩
  · by_cases h0 : 0 ≤ n ∧ n ≤ 100
    · rcases getTs_err n.toNat r with ⟨ts, r', h2⟩ | ⟨e, he, h2⟩
      · by_cases hr : r' = []
        · subst hr
          rw [rowOf_yes h1 h0 h2] at h
          obtain rfl := Option.some.inj h
          obtain ⟨i1, i2, i3⟩ := getTs_ok h2
          refine ⟨layOk_iff.2 ⟨by omega, i2⟩, ?_⟩
          rw [rowL, (Wm.getInt_ok h1).2, i3, List.append_nil, i1]
          congr 2
          omega
        · rw [rowOf_e2 h1 h0 h2 (fun x => hr x.2)] at h; cases h
      · rw [rowOf_e2 h1 h0 h2 (fun x => he x.1)] at h; cases h
    · rw [rowOf_e1 h1 (fun x => h0 x.2)] at h; cases h
  · rw [rowOf_e1 h1 (fun x => he x.1)] at h; cases h

/-- The row that l begins with: its kind, its texts, what stands behind, the error. -/
def getRow (l : List UInt8) : Int × List (List UInt8) × List UInt8 × Int :=
  if (get l).2.2.2 = 0 then
    match rowOf (get l).2.1 with
    | some ts => ((get l).1, ts, (get l).2.2.1, 0)
    | none => (0, [], [], 20)
  else (0, [], [], (get l).2.2.2)

theorem getRow_e {l : List UInt8} {k : Int} {t r : List UInt8} {e : Int} (h : get l = (k, t, r, e)) (he : e ≠ 0) : getRow l = (0, [], [], e) := by
  unfold getRow; rw [h]; exact if_neg he
theorem getRow_no {l t r : List UInt8} {k : Int} (h : get l = (k, t, r, 0)) (h2 : rowOf t = none) : getRow l = (0, [], [], 20) := by
  unfold getRow; rw [h]; simp only [if_true, h2]
theorem getRow_yes {l t r : List UInt8} {k : Int} {ts : List (List UInt8)} (h : get l = (k, t, r, 0)) (h2 : rowOf t = some ts) : getRow l = (k, ts, r, 0) := by
  unfold getRow; rw [h]; simp only [if_true, h2]

theorem getRow_row {k : Int} {ls : List (List UInt8)} (h : rowE k ls = 0) (r : List UInt8) : getRow (rowS k ls ++ r) = (k, ls, r, 0) := by
  obtain ⟨h1, h2, h3, h4⟩ := rowE_zero h
  rw [h4]
  exact getRow_yes (get_frame h1 h3 r) (rowOf_row h2)

theorem getRow_ok {l r : List UInt8} {k : Int} {ls : List (List UInt8)} (h : getRow l = (k, ls, r, 0)) : rowE k ls = 0 ∧ l = rowS k ls ++ r := by
  rcases get_cases l with ⟨k', t, r', h1⟩ | ⟨e, he, h1⟩
  · rcases hr : rowOf t with _ | ts
    · rw [getRow_no h1 hr] at h; simp at h
    · rw [getRow_yes h1 hr] at h
      simp only [Prod.mk.injEq, and_true] at h
      obtain ⟨rfl, rfl, rfl⟩ := h
      obtain ⟨i1, i2⟩ := rowOf_ok hr
      obtain ⟨j1, j2, j3⟩ := get_ok h1
      subst i2
      have hp := put_yes j1 j2
      refine ⟨by simp [rowE, j1, i1, hp.2], ?_⟩
      rw [rowS, if_pos j1, if_pos i1, hp.1]; exact j3
  · rw [getRow_e h1 he] at h; simp at h; exact absurd h.2.2.2 he

theorem getRow_cases (l : List UInt8) : (∃ k ts r, getRow l = (k, ts, r, 0)) ∨ ∃ e, e ≠ 0 ∧ getRow l = (0, [], [], e) := by
  rcases get_cases l with ⟨k, t, r, h⟩ | ⟨e, he, h⟩
  · rcases hr : rowOf t with _ | ts
    · exact .inr ⟨20, by decide, getRow_no h hr⟩
    · exact .inl ⟨_, _, _, getRow_yes h hr⟩
  · exact .inr ⟨e, he, getRow_e h he⟩

end Fm
end Go.Proofs.Yteepemibmjpnfaa
