/-
  Layer 15 (slots): a text that is written anew: the mathematics.
-/
import Derived.Test.YteepemibmjpnfaaRecFi
namespace Go.Proofs.Yteepemibmjpnfaa
set_option maxRecDepth 10000
open Go.RowKit

/-- Two files. -/
structure Slo where
  a : Fil
  b : Fil
namespace Sl
def v (s : Slo) : Array Value := #[.int .i64 s.a.most, .string s.a.kept, .string s.a.loose, .int .i64 s.b.most, .string s.b.kept, .string s.b.loose]
theorem v_one (s : Slo) : (v s).all (·.oneCell') = true := by simp [v, Value.oneCell']
def no : Slo := ⟨Fi.no, Fi.no⟩
def is (s : Slo) : Bool := (Fi.is s.a && Fi.is s.b) && decide (s.a.most = s.b.most)
def nOk (n : Int) : Bool := decide (1 ≤ n) && decide (n ≤ 1000000000)
theorem nOk_iff {n : Int} : nOk n = true ↔ 1 ≤ n ∧ n ≤ 1000000000 := by simp [nOk]
/-- The note of a number and a text. -/
def noteB (n : Int) (t : List UInt8) : List UInt8 := Fm.frame 2 (Wm.lay n ++ t)
/-- What a file's bytes say: number, text, whether they are a note. -/
def raw (l : List UInt8) : Int × List UInt8 × Bool :=
  if (Fm.get l).2.2.2 = 0 ∧ (Fm.get l).2.2.1 = [] ∧ (Fm.get l).1 = 2 then ((Wm.getInt (Fm.get l).2.1).1, (Wm.getInt (Fm.get l).2.1).2.1, decide ((Wm.getInt (Fm.get l).2.1).2.2 = 0) && nOk (Wm.getInt (Fm.get l).2.1).1) else (0, [], false)
def better (a b : List UInt8) : List UInt8 × Int × Int :=
  if (raw a).2.2 = true ∧ ((raw b).2.2 = false ∨ (raw b).1 ≤ (raw a).1) then ((raw a).2.1, (raw a).1, 0) else if (raw b).2.2 = true then ((raw b).2.1, (raw b).1, 1) else ([], 0, -1)
def best (s : Slo) : List UInt8 × Int × Int := better (bl (Fi.read s.a)) (bl (Fi.read s.b))
def badE (s : Slo) : Int := if is s = true then 0 else 1
def loadT (s : Slo) : List UInt8 := if is s = true then (best s).1 else []
def loadN (s : Slo) : Int := if is s = true then (best s).2.1 else 0
def newS (n : Int) : Slo := ⟨Fi.new n, Fi.new n⟩
def saveE (s : Slo) (t : List UInt8) : Int :=
  if is s = true then if 1000 < t.length ∨ 1000000000 ≤ (best s).2.1 then 2 else if s.a.most < ((noteB ((best s).2.1 + 1) t).length : Int) then 81 else 0 else 1
/-- The file that is written. -/
def wr (s : Slo) (t : List UInt8) (deeds : Int) : Fil := if deeds = 1 then ⟨s.a.most, ⟨#[]⟩, strOf (noteB ((best s).2.1 + 1) t)⟩ else ⟨s.a.most, strOf (noteB ((best s).2.1 + 1) t), ⟨#[]⟩⟩
def put (s : Slo) (f : Fil) : Slo := if (best s).2.2 = 0 then ⟨s.a, f⟩ else ⟨f, s.b⟩
def save (s : Slo) (t : List UInt8) (deeds : Int) : Slo := if saveE s t = 0 then if deeds = 0 then s else put s (wr s t deeds) else no
def done (s : Slo) (t : List UInt8) (deeds : Int) : Bool := decide (saveE s t = 0) && (decide (deeds ≠ 0) && decide (deeds ≠ 1))
def crash (s : Slo) (n : Int) : Slo := if is s = true then ⟨Fi.crash s.a n, Fi.crash s.b n⟩ else no

theorem fits_n {n : Int} (h : nOk n = true) : Wm.fits n = true := Rc.fits_n (Rc.nOk_iff.2 (by have := nOk_iff.1 h; omega))
theorem lay_le {n : Int} (h : nOk n = true) : (Wm.lay n).length ≤ 5 := Rc.lay_short (Rc.nOk_iff.2 (by have := nOk_iff.1 h; omega))
theorem kind2 : Fm.kindOk 2 = true := by decide
theorem raw_note {n : Int} {t : List UInt8} (h : nOk n = true) (h2 : t.length ≤ 1000) : raw (noteB n t) = (n, t, true) := by
  have hl := lay_le h
  have g := Fm.get_frame kind2 (t := Wm.lay n ++ t) (by rw [List.length_append]; omega) []
  rw [List.append_nil] at g
  have gi := Wm.getInt_lay (fits_n h) t
  unfold raw noteB
  rw [g]; simp only
  rw [gi]; simp only
  rw [if_pos ⟨trivial, trivial, trivial⟩, h]; rfl
theorem raw_ok {l : List UInt8} (h : (raw l).2.2 = true) : nOk (raw l).1 = true := by
  unfold raw at h ⊢
  split at h
  · rename_i hc
    rw [if_pos hc]
    rw [Bool.and_eq_true] at h
    exact h.2
  · cases h
theorem raw_nil : raw [] = (0, [], false) := by
  have g : ∃ e, e ≠ 0 ∧ Fm.get [] = (0, [], [], e) := by
    rcases Fm.get_cases [] with ⟨k, t, r, h⟩ | h
    · have h1 := (Fm.get_ok h).2.2
      have := Fm.frame_pos k t
      have h2 := congrArg List.length h1
      rw [List.length_append] at h2
      simp only [List.length_nil] at h2; omega
    · exact h
  obtain ⟨e, he, g⟩ := g
  unfold raw; rw [g]
  rw [if_neg (fun h => he h.1)]
/-- A note that is cut is none. -/
theorem raw_cut {n : Int} {t : List UInt8} (h : nOk n = true) (h2 : t.length ≤ 1000) {m : Nat} (hm : m < (noteB n t).length) : raw ((noteB n t).take m) = (0, [], false) := by
  have hl := lay_le h
  have g := Fm.get_cut kind2 (t := Wm.lay n ++ t) (by rw [List.length_append]; omega) (m := m) hm []
  rw [List.append_nil] at g
  unfold raw noteB
  rw [g]
  rw [if_neg (fun h => by have := h.1; simp only at this; exact absurd this (by decide))]
theorem raw_num {l : List UInt8} (h : (raw l).2.2 = true) : 1 ≤ (raw l).1 ∧ (raw l).1 ≤ 1000000000 := nOk_iff.1 (raw_ok h)
theorem better_num (a b : List UInt8) : 0 ≤ (better a b).2.1 ∧ (better a b).2.1 ≤ 1000000000 := by
  unfold better
  split
  · rename_i h; have := raw_num h.1; simp only; omega
  · split
    · rename_i h; have := raw_num h; simp only; omega
    · simp only; omega
/-! ### what is saved is loaded -/
/-- The place that is named, and what stands there. -/
theorem better_zero {a b : List UInt8} (h : (better a b).2.2 = 0) : (raw a).2.2 = true ∧ (better a b).2.1 = (raw a).1 ∧ (better a b).1 = (raw a).2.1 ∧ ((raw b).2.2 = false ∨ (raw b).1 ≤ (raw a).1) := by
  unfold better at h ⊢
  split at h
  · rename_i hc; rw [if_pos hc]; exact ⟨hc.1, rfl, rfl, hc.2⟩
  · split at h
    · simp only at h; exact absurd h (by decide)
    · simp only at h; exact absurd h (by decide)
theorem better_pos {a b : List UInt8} (h : (better a b).2.2 ≠ 0) : (∀ c, (raw c).2.2 = true → (better a b).2.1 < (raw c).1 → better c b = ((raw c).2.1, (raw c).1, 0)) ∧ ((raw a).2.2 = true → (raw a).1 < (better a b).2.1) ∧ ∀ c, (raw c).2.2 = false → better c b = better a b := by
  unfold better at h ⊢
  split at h
  · simp only at h; exact absurd rfl h
  · rename_i hc
    rw [if_neg hc]
    by_cases hb : (raw b).2.2 = true
    · rw [if_pos hb]
      refine ⟨fun c h1 h2 => if_pos ⟨h1, Or.inr (by simp only at h2; omega)⟩, fun ha => ?_, fun c h1 => ?_⟩
      · simp only
        refine Classical.byContradiction (fun hn => hc ⟨ha, Or.inr (by omega)⟩)
      · rw [if_neg (fun h => by rw [h1] at h; cases h.1)]
    · rw [if_neg hb]
      refine ⟨fun c h1 h2 => if_pos ⟨h1, Or.inl (by simpa using hb)⟩, fun ha => ?_, fun c h1 => ?_⟩
      · exact absurd ⟨ha, Or.inl (by simpa using hb)⟩ hc
      · rw [if_neg (fun h => by rw [h1] at h; cases h.1)]
theorem better_right {a b : List UInt8} (h : (better a b).2.2 = 0) : (∀ c, (raw c).2.2 = true → (better a b).2.1 < (raw c).1 → better a c = ((raw c).2.1, (raw c).1, 1)) ∧ ∀ c, (raw c).2.2 = false → better a c = better a b := by
  obtain ⟨h1, h2, h3, h4⟩ := better_zero h
  refine ⟨fun c k1 k2 => ?_, fun c k1 => ?_⟩
  · unfold better
    rw [if_neg, if_pos k1]
    rintro ⟨_, g | g⟩
    · rw [k1] at g; cases g
    · rw [h2] at k2; omega
  · have e : better a c = ((raw a).2.1, (raw a).1, 0) := by unfold better; exact if_pos ⟨h1, Or.inl k1⟩
    have e2 : better a b = ((raw a).2.1, (raw a).1, 0) := by unfold better; exact if_pos ⟨h1, h4⟩
    rw [e, e2]
end Sl
end Go.Proofs.Yteepemibmjpnfaa
