/-
  Layer 10 (mute), plain mathematics: what Add, Cut, Till and Total answer; what the laws say of them.
-/
import Derived.Test.YthbkfjnpdcfepaaMuteM
namespace Go.Proofs.Ythbkfjnpdcfepaa
set_option maxRecDepth 10000
namespace Mu
def turnE (l m : List Win) (both : Bool) : Int := if !isL l || !m.all may then 1 else if 100 < (wins l m both).length then 81 else 0
def turn (l m : List Win) (both : Bool) : List Win := if turnE l m both = 0 then wins l m both else []
theorem turnE_iff {l m : List Win} {both : Bool} : turnE l m both = 0 ↔ isL l = true ∧ (∀ w ∈ m, may w = true) ∧ (wins l m both).length ≤ 100 := by
  unfold turnE
  cases h1 : isL l
  · simp
  · cases h2 : m.all may
    · have : ¬ ∀ w ∈ m, may w = true := fun h => by rw [← List.all_eq_true] at h; rw [h2] at h; cases h
      simp [this]
    · have h3 := List.all_eq_true.1 h2
      by_cases h4 : 100 < (wins l m both).length
      · simp [h4]
      · simp [h4]; exact ⟨h3, by omega⟩
theorem turnE_vals {l m : List Win} {both : Bool} : turnE l m both = 0 ∨ turnE l m both = 1 ∨ turnE l m both = 81 := by
  unfold turnE
  split
  · exact Or.inr (Or.inl rfl)
  · split
    · exact Or.inr (Or.inr rfl)
    · exact Or.inl rfl
/-- What comes out is right, and of just these times. -/
theorem turn_spec {l m : List Win} {both : Bool} (h : turnE l m both = 0) : isL (turn l m both) = true ∧ ∀ b t, has (turn l m both) b t = F2 l m both b t := by
  have hi := turnE_iff.1 h
  have hl := isL_iff.1 hi.1
  have e : turn l m both = wins l m both := by unfold turn; rw [if_pos h]
  have hm : ∀ w ∈ l ++ m, may w = true := fun w hw => by
    rcases List.mem_append.1 hw with hw | hw
    · exact hl.1 w hw
    · exact hi.2.1 w hw
  have hw := wins_spec (both := both) hm
  rw [e]
  exact ⟨isL_iff.2 ⟨hw.2.2, hw.1, hi.2.2⟩, hw.2.1⟩
/-- Right windows of the same times are the same. -/
theorem isL_eq {l m : List Win} (hl : isL l = true) (hm : isL m = true) (h : ∀ b t, has l b t = has m b t) : l = m := can_eq (isL_iff.1 hl).2.1 (isL_iff.1 hm).2.1 h
/-- What is right, and has these times, is what comes out. -/
theorem turn_of {l m x : List Win} {both : Bool} (h1 : isL l = true) (h2 : ∀ w ∈ m, may w = true) (hx : isL x = true) (h : ∀ b t, has x b t = F2 l m both b t) : turnE l m both = 0 ∧ turn l m both = x := by
  have hl := isL_iff.1 h1
  have hm : ∀ w ∈ l ++ m, may w = true := fun w hw => by
    rcases List.mem_append.1 hw with hw | hw
    · exact hl.1 w hw
    · exact h2 w hw
  have hw := wins_spec (both := both) hm
  have e : wins l m both = x := can_eq hw.1 (isL_iff.1 hx).2.1 (fun b t => by rw [hw.2.1, h])
  have hE : turnE l m both = 0 := turnE_iff.2 ⟨h1, h2, by rw [e]; exact (isL_iff.1 hx).2.2⟩
  exact ⟨hE, by unfold turn; rw [if_pos hE, e]⟩
theorem turn_len (l m : List Win) (both : Bool) : (turn l m both).length ≤ 100 := by
  unfold turn
  split
  · rename_i h; exact (turnE_iff.1 h).2.2
  · exact Nat.zero_le _

/-! ### till, total -/
def tillW (l : List Win) (b t : Int) : Option Win := l.find? (fun w => hasW w b t)
def tillN (l : List Win) (b t : Int) : Int := match tillW l b t with | some w => w.to | none => 0
theorem tillB (b t : Int) : ∀ l : List Win, (tillW l b t).isSome = has l b t
  | [] => rfl
  | w :: l => by
    have ih := tillB b t l
    unfold tillW at ih ⊢
    rw [List.find?_cons, has_cons]
    cases hasW w b t
    · simpa using ih
    · rfl
def tot (bed : Int) : List Win → Int
  | [] => 0
  | w :: l => (if w.bed = bed then w.to - w.fr else 0) + tot bed l
def total (l : List Win) (bed : Int) : Int := if isL l then tot bed l else 0
/-- How many times. -/
def cnt (f : Int → Bool) : Nat → Nat
  | 0 => 0
  | n + 1 => cnt f n + (if f (n : Int) then 1 else 0)
theorem cnt_congr {f g : Int → Bool} (h : ∀ t, f t = g t) : ∀ n, cnt f n = cnt g n
  | 0 => rfl
  | n + 1 => by unfold cnt; rw [cnt_congr h n, h]
theorem cnt_or {f g : Int → Bool} (h : ∀ t, ¬ (f t = true ∧ g t = true)) : ∀ n, cnt (fun t => f t || g t) n = cnt f n + cnt g n
  | 0 => rfl
  | n + 1 => by
    unfold cnt
    rw [cnt_or h n]
    have := h (n : Int)
    cases h1 : f (n : Int) <;> cases h2 : g (n : Int) <;> simp_all <;> omega
theorem cnt_le (f : Int → Bool) : ∀ n, cnt f n ≤ n
  | 0 => Nat.le_refl _
  | n + 1 => by
    unfold cnt
    have := cnt_le f n
    split <;> omega
theorem cnt_none : ∀ n, cnt (fun _ => false) n = 0
  | 0 => rfl
  | n + 1 => by unfold cnt; rw [cnt_none n]; rfl
theorem cnt_w {w : Win} {bed : Int} (h0 : 0 ≤ w.fr) (h1 : w.fr ≤ w.to) : ∀ n : Nat, (cnt (fun t => hasW w bed t) n : Int) = if w.bed = bed then min w.to (n : Int) - min w.fr (n : Int) else 0
  | 0 => by
    unfold cnt
    split
    · simp only [Int.natCast_zero]; omega
    · rfl
  | n + 1 => by
    unfold cnt
    have ih := cnt_w (bed := bed) h0 h1 n
    by_cases hb : w.bed = bed
    · rw [if_pos hb] at ih ⊢
      by_cases ht : w.fr ≤ (n : Int) ∧ (n : Int) < w.to
      · have : hasW w bed (n : Int) = true := hasW_iff.2 ⟨hb, ht.1, ht.2⟩
        rw [this, if_pos rfl]
        omega
      · have : hasW w bed (n : Int) = false := by rw [← Bool.not_eq_true, hasW_iff]; omega
        rw [this]
        simp only [Bool.false_eq_true, if_false]
        omega
    · rw [if_neg hb] at ih ⊢
      have : hasW w bed (n : Int) = false := by rw [← Bool.not_eq_true, hasW_iff]; omega
      rw [this]
      simp only [Bool.false_eq_true, if_false]
      omega
theorem cnt_tot {bed : Int} {N : Nat} : ∀ {l : List Win}, Can l → (∀ w ∈ l, 0 ≤ w.fr ∧ w.to ≤ (N : Int)) → (cnt (fun t => has l bed t) N : Int) = tot bed l
  | [], _, _ => by
    have := cnt_none N
    have e : cnt (fun t => has [] bed t) N = cnt (fun _ => false) N := cnt_congr (fun _ => rfl) N
    rw [e, this]; rfl
  | w :: l, hc, hb => by
    have ih := cnt_tot (bed := bed) (N := N) hc.tail (fun v hv => hb v (List.mem_cons_of_mem _ hv))
    have e : cnt (fun t => has (w :: l) bed t) N = cnt (fun t => hasW w bed t || has l bed t) N := cnt_congr (fun _ => rfl) N
    have ho := cnt_or (f := fun t => hasW w bed t) (g := fun t => has l bed t) (fun t h => by have := can_apart hc h.1; rw [this] at h; cases h.2) N
    have hw := hb w (by simp)
    have hlt := hc.1 w (by simp)
    have hcw := cnt_w (bed := bed) hw.1 (Int.le_of_lt hlt) N
    rw [e, ho]
    unfold tot
    rw [Int.natCast_add, ih, hcw]
    by_cases h : w.bed = bed
    · rw [if_pos h, if_pos h]; omega
    · rw [if_neg h, if_neg h]
theorem total_cnt {l : List Win} {bed : Int} (h : isL l = true) : (cnt (fun t => has l bed t) 1000000000 : Int) = total l bed := by
  have hl := isL_iff.1 h
  unfold total
  rw [if_pos h]
  exact cnt_tot hl.2.1 (fun w hw => by have := may_iff.1 (hl.1 w hw); omega)
/-- Add and Cut share out the times. -/
theorem total_share {l : List Win} {w : Win} {bed : Int} (h1 : turnE l [w] true = 0) (h2 : turnE l [w] false = 0) :
    turnE (turn l [w] true) [w] false = 0 ∧ turn (turn l [w] true) [w] false = turn l [w] false ∧ total (turn l [w] true) bed = total (turn l [w] false) bed + (if bed = w.bed then w.to - w.fr else 0) := by
  obtain ⟨a1, a2⟩ := turn_spec h1
  obtain ⟨c1, c2⟩ := turn_spec h2
  have hm := (turnE_iff.1 h1).2.1
  have hw := may_iff.1 (hm w (by simp))
  have ht := turn_of (l := turn l [w] true) (m := [w]) (both := false) a1 hm c1 (fun b t => by
    rw [c2]
    unfold F2
    rw [a2]
    unfold F2
    cases has l b t <;> cases has [w] b t <;> rfl)
  refine ⟨ht.1, ht.2, ?_⟩
  rw [← total_cnt a1, ← total_cnt c1]
  have e1 : cnt (fun t => has (turn l [w] true) bed t) 1000000000 = cnt (fun t => has (turn l [w] false) bed t || hasW w bed t) 1000000000 := cnt_congr (fun t => by
    rw [a2, c2]
    unfold F2
    have : has [w] bed t = hasW w bed t := by rw [has_cons, has_nil, Bool.or_false]
    rw [this]
    cases has l bed t <;> cases hasW w bed t <;> rfl) _
  have e2 := cnt_or (f := fun t => has (turn l [w] false) bed t) (g := fun t => hasW w bed t) (fun t h => by
    have h1 := h.1
    rw [c2] at h1
    unfold F2 at h1
    have e : has [w] bed t = hasW w bed t := by rw [has_cons, has_nil, Bool.or_false]
    rw [e, h.2] at h1
    simp at h1) 1000000000
  have e3 := cnt_w (w := w) (bed := bed) (by omega) (by omega) 1000000000
  rw [e1, e2, Int.natCast_add, e3]
  by_cases h : w.bed = bed
  · rw [if_pos h, if_pos h.symm]; omega
  · rw [if_neg h, if_neg (fun e => h e.symm)]
/-- One more window, or one less: the times so far. -/
theorem turn_more {l x m : List Win} {w : Win} {both : Bool} (h : ∀ b t, has x b t = F2 l m both b t) (hE : turnE x [w] both = 0) : isL (turn x [w] both) = true ∧ ∀ b t, has (turn x [w] both) b t = F2 l (w :: m) both b t := by
  obtain ⟨a1, a2⟩ := turn_spec hE
  refine ⟨a1, fun b t => ?_⟩
  rw [a2]
  have e : has [w] b t = hasW w b t := by rw [has_cons, has_nil, Bool.or_false]
  unfold F2
  rw [h, e, has_cons]
  unfold F2
  cases both <;> cases has l b t <;> cases has m b t <;> cases hasW w b t <;> rfl
end Mu
end Go.Proofs.Ythbkfjnpdcfepaa
