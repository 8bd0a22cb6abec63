/-
  Layer 10 (mute): one window, asked: has, mayBe, endsAhead, isBehind, meets.
-/
import Derived.Test.YthbkfjnpdcfepaaMuteW1
namespace Go.Proofs.Ythbkfjnpdcfepaa
set_option maxRecDepth 10000
open Go.RowKit

/-- A window is all behind another one. -/
def Mu.behind (w x : Win) : Prop := x.bed < w.bed ∨ (w.bed = x.bed ∧ x.to ≤ w.fr)
instance (w x : Win) : Decidable (Mu.behind w x) := by unfold Mu.behind; infer_instance
/-- Two windows have a time in common. -/
def Mu.meet (w x : Win) : Prop := w.bed = x.bed ∧ w.fr < x.to ∧ x.fr < w.to
instance (w x : Win) : Decidable (Mu.meet w x) := by unfold Mu.meet; infer_instance
theorem isT_true {t : Int} (h0 : 0 ≤ t) (h1 : t ≤ 1000000000) : Mu.isT t = true := by unfold Mu.isT; simp [h0, h1]
theorem isT_iff {t : Int} : Mu.isT t = true ↔ 0 ≤ t ∧ t ≤ 1000000000 := by unfold Mu.isT; simp

theorem mhas_any (x0 x1 x2 b t : Int) (w : World) : Calls Try.prog 29 #[.agg #[.int .i64 x0, .int .i64 x1, .int .i64 x2], .int .i64 b, .int .i64 t] w fun e w' => e = .returned (.bool (Mu.hasW ⟨x0, x1, x2⟩ b t)) ∧ Below w.heap.size w w' := by
  have key : ∀ z : Bool, z = (Mu.hasW ⟨x0, x1, x2⟩ b t) → Calls Try.prog 29 #[.agg #[.int .i64 x0, .int .i64 x1, .int .i64 x2], .int .i64 b, .int .i64 t] w fun e w' => e = .returned (.bool z) ∧ Below w.heap.size w w' := by
    intro z hz
    by_cases h1 : x0 = b
    · have b1 : (x0 == b) = true := beq_iff_eq.2 h1
      have a1 : (x0 = b) = True := eq_true h1
      by_cases h2 : x1 ≤ t
      · have a2 : (x1 ≤ t) = True := eq_true h2
        by_cases h3 : t < x2
        · have a3 : (t < x2) = True := eq_true h3
          obtain rfl : z = true := by rw [hz]; exact Mu.hasW_iff.2 (by simp only; omega)
          clear hz h1 h2 h3
          go_enter Try.func29, Try.ntmps29
          go_wp2
          go_ret
          exact ⟨rfl, below_new _ _⟩
        · have a3 : (t < x2) = False := eq_false h3
          obtain rfl : z = false := by rw [hz]; rw [← Bool.not_eq_true, Mu.hasW_iff]; simp only; omega
          clear hz h1 h2 h3
          go_enter Try.func29, Try.ntmps29
          go_wp2
          go_ret
          exact ⟨rfl, below_new _ _⟩
      · have a2 : (x1 ≤ t) = False := eq_false h2
        obtain rfl : z = false := by rw [hz]; rw [← Bool.not_eq_true, Mu.hasW_iff]; simp only; omega
        clear hz h1 h2
        go_enter Try.func29, Try.ntmps29
        go_wp2
        go_ret
        exact ⟨rfl, below_new _ _⟩
    · have b1 : (x0 == b) = false := by rw [beq_eq_false_iff_ne]; exact h1
      have a1 : (x0 = b) = False := eq_false h1
      obtain rfl : z = false := by rw [hz]; rw [← Bool.not_eq_true, Mu.hasW_iff]; simp only; omega
      clear hz h1
      go_enter Try.func29, Try.ntmps29
      go_wp2
      go_ret
      exact ⟨rfl, below_new _ _⟩
  exact key _ rfl

theorem mayBe_any (x0 x1 x2 : Int) (w : World) : Calls Try.prog 32 #[.agg #[.int .i64 x0, .int .i64 x1, .int .i64 x2]] w fun e w' => e = .returned (.bool (Mu.may ⟨x0, x1, x2⟩)) ∧ Below w.heap.size w w' := by
  have key : ∀ z : Bool, z = (Mu.may ⟨x0, x1, x2⟩) → Calls Try.prog 32 #[.agg #[.int .i64 x0, .int .i64 x1, .int .i64 x2]] w fun e w' => e = .returned (.bool z) ∧ Below w.heap.size w w' := by
    intro z hz
    by_cases h1 : 1 ≤ x0
    · have a1 : (1 ≤ x0) = True := eq_true h1
      by_cases h2 : x0 ≤ 99
      · have a2 : (x0 ≤ 99) = True := eq_true h2
        by_cases h3 : Mu.isT x1 = true
        · have g3 : ∀ W, Calls Try.prog 40 #[.int .i64 x1] W fun e w' => e = .returned (.bool true) ∧ w' = W := fun W => by have k := misTime_any x1 W; rw [h3] at k; exact k
          have q3 := isT_iff.1 h3
          by_cases h4 : Mu.isT x2 = true
          · have g4 : ∀ W, Calls Try.prog 40 #[.int .i64 x2] W fun e w' => e = .returned (.bool true) ∧ w' = W := fun W => by have k := misTime_any x2 W; rw [h4] at k; exact k
            have q4 := isT_iff.1 h4
            by_cases h5 : x1 < x2
            · have a5 : (x1 < x2) = True := eq_true h5
              obtain rfl : z = true := by rw [hz]; exact Mu.may_iff.2 (by simp only; omega)
              clear hz h1 h2 h3 q3 h4 q4 h5
              go_enter Try.func32, Try.ntmps32
              go_wp2_with fail
              refine (g3 _).mono ?_
              rintro e w1 ⟨rfl, rfl⟩
              go_wp2_with fail
              refine (g4 _).mono ?_
              rintro e w1 ⟨rfl, rfl⟩
              go_wp2
              go_ret
              exact ⟨rfl, below_new _ _⟩
            · have a5 : (x1 < x2) = False := eq_false h5
              obtain rfl : z = false := by rw [hz]; rw [← Bool.not_eq_true, Mu.may_iff]; simp only; omega
              clear hz h1 h2 h3 q3 h4 q4 h5
              go_enter Try.func32, Try.ntmps32
              go_wp2_with fail
              refine (g3 _).mono ?_
              rintro e w1 ⟨rfl, rfl⟩
              go_wp2_with fail
              refine (g4 _).mono ?_
              rintro e w1 ⟨rfl, rfl⟩
              go_wp2
              go_ret
              exact ⟨rfl, below_new _ _⟩
          · have h4' : Mu.isT x2 = false := by simpa using h4
            have g4 : ∀ W, Calls Try.prog 40 #[.int .i64 x2] W fun e w' => e = .returned (.bool false) ∧ w' = W := fun W => by have k := misTime_any x2 W; rw [h4'] at k; exact k
            have q4 : ¬ (0 ≤ x2 ∧ x2 ≤ 1000000000) := fun k => h4 (isT_iff.2 k)
            obtain rfl : z = false := by rw [hz]; rw [← Bool.not_eq_true, Mu.may_iff]; simp only; omega
            clear hz h1 h2 h3 q3 h4 h4' q4
            go_enter Try.func32, Try.ntmps32
            go_wp2_with fail
            refine (g3 _).mono ?_
            rintro e w1 ⟨rfl, rfl⟩
            go_wp2_with fail
            refine (g4 _).mono ?_
            rintro e w1 ⟨rfl, rfl⟩
            go_wp2
            go_ret
            exact ⟨rfl, below_new _ _⟩
        · have h3' : Mu.isT x1 = false := by simpa using h3
          have g3 : ∀ W, Calls Try.prog 40 #[.int .i64 x1] W fun e w' => e = .returned (.bool false) ∧ w' = W := fun W => by have k := misTime_any x1 W; rw [h3'] at k; exact k
          have q3 : ¬ (0 ≤ x1 ∧ x1 ≤ 1000000000) := fun k => h3 (isT_iff.2 k)
          obtain rfl : z = false := by rw [hz]; rw [← Bool.not_eq_true, Mu.may_iff]; simp only; omega
          clear hz h1 h2 h3 h3' q3
          go_enter Try.func32, Try.ntmps32
          go_wp2_with fail
          refine (g3 _).mono ?_
          rintro e w1 ⟨rfl, rfl⟩
          go_wp2
          go_ret
          exact ⟨rfl, below_new _ _⟩
      · have a2 : (x0 ≤ 99) = False := eq_false h2
        obtain rfl : z = false := by rw [hz]; rw [← Bool.not_eq_true, Mu.may_iff]; simp only; omega
        clear hz h1 h2
        go_enter Try.func32, Try.ntmps32
        go_wp2
        go_ret
        exact ⟨rfl, below_new _ _⟩
    · have a1 : (1 ≤ x0) = False := eq_false h1
      obtain rfl : z = false := by rw [hz]; rw [← Bool.not_eq_true, Mu.may_iff]; simp only; omega
      clear hz h1
      go_enter Try.func32, Try.ntmps32
      go_wp2
      go_ret
      exact ⟨rfl, below_new _ _⟩
  exact key _ rfl

theorem endsAhead_any (x0 x1 x2 y0 y1 y2 : Int) (w : World) : Calls Try.prog 36 #[.agg #[.int .i64 x0, .int .i64 x1, .int .i64 x2], .agg #[.int .i64 y0, .int .i64 y1, .int .i64 y2]] w fun e w' => e = .returned (.bool (decide (Mu.before ⟨x0, x1, x2⟩ ⟨y0, y1, y2⟩))) ∧ Below w.heap.size w w' := by
  have key : ∀ z : Bool, z = (decide (Mu.before ⟨x0, x1, x2⟩ ⟨y0, y1, y2⟩)) → Calls Try.prog 36 #[.agg #[.int .i64 x0, .int .i64 x1, .int .i64 x2], .agg #[.int .i64 y0, .int .i64 y1, .int .i64 y2]] w fun e w' => e = .returned (.bool z) ∧ Below w.heap.size w w' := by
    intro z hz
    by_cases h1 : x0 < y0
    · have a1 : (x0 < y0) = True := eq_true h1
      obtain rfl : z = true := by rw [hz]; exact decide_eq_true (by unfold Mu.before; simp only; omega)
      clear hz h1
      go_enter Try.func36, Try.ntmps36
      go_wp2
      go_ret
      exact ⟨rfl, below_new2 _ _ _⟩
    · have a1 : (x0 < y0) = False := eq_false h1
      by_cases h2 : x0 = y0
      · have b2 : (x0 == y0) = true := beq_iff_eq.2 h2
        have a2 : (x0 = y0) = True := eq_true h2
        by_cases h3 : x2 < y1
        · have a3 : (x2 < y1) = True := eq_true h3
          obtain rfl : z = true := by rw [hz]; exact decide_eq_true (by unfold Mu.before; simp only; omega)
          clear hz h1 h2 h3
          go_enter Try.func36, Try.ntmps36
          go_wp2
          go_ret
          exact ⟨rfl, below_new2 _ _ _⟩
        · have a3 : (x2 < y1) = False := eq_false h3
          obtain rfl : z = false := by rw [hz]; exact decide_eq_false (by unfold Mu.before; simp only; omega)
          clear hz h1 h2 h3
          go_enter Try.func36, Try.ntmps36
          go_wp2
          go_ret
          exact ⟨rfl, below_new2 _ _ _⟩
      · have b2 : (x0 == y0) = false := by rw [beq_eq_false_iff_ne]; exact h2
        have a2 : (x0 = y0) = False := eq_false h2
        obtain rfl : z = false := by rw [hz]; exact decide_eq_false (by unfold Mu.before; simp only; omega)
        clear hz h1 h2
        go_enter Try.func36, Try.ntmps36
        go_wp2
        go_ret
        exact ⟨rfl, below_new2 _ _ _⟩
  exact key _ rfl

theorem isBehind_any (x0 x1 x2 y0 y1 y2 : Int) (w : World) : Calls Try.prog 38 #[.agg #[.int .i64 x0, .int .i64 x1, .int .i64 x2], .agg #[.int .i64 y0, .int .i64 y1, .int .i64 y2]] w fun e w' => e = .returned (.bool (decide (Mu.behind ⟨x0, x1, x2⟩ ⟨y0, y1, y2⟩))) ∧ Below w.heap.size w w' := by
  have key : ∀ z : Bool, z = (decide (Mu.behind ⟨x0, x1, x2⟩ ⟨y0, y1, y2⟩)) → Calls Try.prog 38 #[.agg #[.int .i64 x0, .int .i64 x1, .int .i64 x2], .agg #[.int .i64 y0, .int .i64 y1, .int .i64 y2]] w fun e w' => e = .returned (.bool z) ∧ Below w.heap.size w w' := by
    intro z hz
    by_cases h1 : y0 < x0
    · have a1 : (y0 < x0) = True := eq_true h1
      obtain rfl : z = true := by rw [hz]; exact decide_eq_true (by unfold Mu.behind; simp only; omega)
      clear hz h1
      go_enter Try.func38, Try.ntmps38
      go_wp2
      go_ret
      exact ⟨rfl, below_new2 _ _ _⟩
    · have a1 : (y0 < x0) = False := eq_false h1
      by_cases h2 : x0 = y0
      · have b2 : (x0 == y0) = true := beq_iff_eq.2 h2
        have a2 : (x0 = y0) = True := eq_true h2
        by_cases h3 : y2 ≤ x1
        · have a3 : (y2 ≤ x1) = True := eq_true h3
          obtain rfl : z = true := by rw [hz]; exact decide_eq_true (by unfold Mu.behind; simp only; omega)
          clear hz h1 h2 h3
          go_enter Try.func38, Try.ntmps38
          go_wp2
          go_ret
          exact ⟨rfl, below_new2 _ _ _⟩
        · have a3 : (y2 ≤ x1) = False := eq_false h3
          obtain rfl : z = false := by rw [hz]; exact decide_eq_false (by unfold Mu.behind; simp only; omega)
          clear hz h1 h2 h3
          go_enter Try.func38, Try.ntmps38
          go_wp2
          go_ret
          exact ⟨rfl, below_new2 _ _ _⟩
      · have b2 : (x0 == y0) = false := by rw [beq_eq_false_iff_ne]; exact h2
        have a2 : (x0 = y0) = False := eq_false h2
        obtain rfl : z = false := by rw [hz]; exact decide_eq_false (by unfold Mu.behind; simp only; omega)
        clear hz h1 h2
        go_enter Try.func38, Try.ntmps38
        go_wp2
        go_ret
        exact ⟨rfl, below_new2 _ _ _⟩
  exact key _ rfl

theorem meets_any (x0 x1 x2 y0 y1 y2 : Int) (w : World) : Calls Try.prog 47 #[.agg #[.int .i64 x0, .int .i64 x1, .int .i64 x2], .agg #[.int .i64 y0, .int .i64 y1, .int .i64 y2]] w fun e w' => e = .returned (.bool (decide (Mu.meet ⟨x0, x1, x2⟩ ⟨y0, y1, y2⟩))) ∧ Below w.heap.size w w' := by
  have key : ∀ z : Bool, z = (decide (Mu.meet ⟨x0, x1, x2⟩ ⟨y0, y1, y2⟩)) → Calls Try.prog 47 #[.agg #[.int .i64 x0, .int .i64 x1, .int .i64 x2], .agg #[.int .i64 y0, .int .i64 y1, .int .i64 y2]] w fun e w' => e = .returned (.bool z) ∧ Below w.heap.size w w' := by
    intro z hz
    by_cases h1 : x0 = y0
    · have b1 : (x0 == y0) = true := beq_iff_eq.2 h1
      have a1 : (x0 = y0) = True := eq_true h1
      by_cases h2 : x1 < y2
      · have a2 : (x1 < y2) = True := eq_true h2
        by_cases h3 : y1 < x2
        · have a3 : (y1 < x2) = True := eq_true h3
          obtain rfl : z = true := by rw [hz]; exact decide_eq_true (by unfold Mu.meet; simp only; omega)
          clear hz h1 h2 h3
          go_enter Try.func47, Try.ntmps47
          go_wp2
          go_ret
          exact ⟨rfl, below_new2 _ _ _⟩
        · have a3 : (y1 < x2) = False := eq_false h3
          obtain rfl : z = false := by rw [hz]; exact decide_eq_false (by unfold Mu.meet; simp only; omega)
          clear hz h1 h2 h3
          go_enter Try.func47, Try.ntmps47
          go_wp2
          go_ret
          exact ⟨rfl, below_new2 _ _ _⟩
      · have a2 : (x1 < y2) = False := eq_false h2
        obtain rfl : z = false := by rw [hz]; exact decide_eq_false (by unfold Mu.meet; simp only; omega)
        clear hz h1 h2
        go_enter Try.func47, Try.ntmps47
        go_wp2
        go_ret
        exact ⟨rfl, below_new2 _ _ _⟩
    · have b1 : (x0 == y0) = false := by rw [beq_eq_false_iff_ne]; exact h1
      have a1 : (x0 = y0) = False := eq_false h1
      obtain rfl : z = false := by rw [hz]; exact decide_eq_false (by unfold Mu.meet; simp only; omega)
      clear hz h1
      go_enter Try.func47, Try.ntmps47
      go_wp2
      go_ret
      exact ⟨rfl, below_new2 _ _ _⟩
  exact key _ rfl

end Go.Proofs.Ythbkfjnpdcfepaa
