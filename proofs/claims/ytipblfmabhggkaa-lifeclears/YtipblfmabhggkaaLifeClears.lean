/-
  Layer 5 (life): the walk of the law LifeClears.
-/
import Derived.Test.YtipblfmabhggkaaLifeLived
namespace Go.Proofs.Ytipblfmabhggkaa
open Go.RowKit

theorem clear_facts (p d : Int) : Lf.nx p 5 = 0 ∧ Lf.ok p 5 = (Lf.isP p && !(p == 0)) ∧ Lf.ok 0 d = (d == 1) ∧ (Lf.ok 0 d = true → Lf.nx 0 d = 1) := by
  have h1 : Lf.isP p = true → Lf.nx p 5 = 0 ∧ Lf.ok p 5 = (Lf.isP p && !(p == 0)) := fun h => by
    rcases Lf.isP_cases h with rfl | rfl | rfl | rfl | rfl <;> decide
  have h2 : Lf.isP p = false → Lf.nx p 5 = 0 ∧ Lf.ok p 5 = (Lf.isP p && !(p == 0)) := fun h => by
    have e : Lf.ok p 5 = false := by unfold Lf.ok; rw [h]; rfl
    refine ⟨by unfold Lf.nx; rw [e]; rfl, by rw [e, h]; rfl⟩
  have h3 : Lf.isD d = true → Lf.ok 0 d = (d == 1) ∧ (Lf.ok 0 d = true → Lf.nx 0 d = 1) := fun h => by
    rcases Lf.isD_cases h with rfl | rfl | rfl | rfl | rfl | rfl <;> decide
  have h4 : Lf.isD d = false → Lf.ok 0 d = (d == 1) ∧ (Lf.ok 0 d = true → Lf.nx 0 d = 1) := fun h => by
    have e : Lf.ok 0 d = false := by unfold Lf.ok; rw [h]; simp
    refine ⟨?_, fun hh => by rw [e] at hh; cases hh⟩
    rw [e]; symm; rw [beq_eq_false_iff_ne]; rintro rfl; cases h
  have ha : Lf.nx p 5 = 0 ∧ Lf.ok p 5 = (Lf.isP p && !(p == 0)) := by
    cases h : Lf.isP p
    · have := h2 h; rw [h] at this; exact this
    · have := h1 h; rw [h] at this; exact this
  have hb : Lf.ok 0 d = (d == 1) ∧ (Lf.ok 0 d = true → Lf.nx 0 d = 1) := by
    cases h : Lf.isD d
    · exact h4 h
    · exact h3 h
  exact ⟨ha.1, ha.2, hb.1, hb.2⟩

set_option maxHeartbeats 2000000 in
theorem lifeClears_walk (p d : Int) (w : World) (_hp : (Lit.int .i64 p).wf = true) (_hd : (Lit.int .i64 d).wf = true) :
    Calls Try.prog 6 #[.int .i64 p, .int .i64 d] w fun e w' => e = .returned (.bool true) ∧ Below w.heap.size w w' := by
  obtain ⟨f1, f2, f3, f4⟩ := clear_facts p d
  have h1 := fun W => Next_any p 5 W
  rw [f1, f2] at h1
  have h2 := fun W => Next_any 0 d W
  rw [f3] at h2 f4
  have h3 := fun W => Name_any p W
  obtain ⟨x, hx⟩ : ∃ x, x = Lf.nx 0 d := ⟨_, rfl⟩
  obtain ⟨b, hb⟩ : ∃ b, b = Lf.isP p := ⟨_, rfl⟩
  rw [← hx] at h2 f4
  rw [← hb] at h1 h3
  clear hx hb f1 f2 f3
  cases e1 : (p == 0) <;> cases e2 : (d == 1) <;> cases b <;> (
    rw [e1] at h1
    rw [e2] at h2 f4
    have e3 : (p != 0) = !(p == 0) := rfl
    rw [e1] at e3
    try (have f5 := f4 rfl; subst f5)
    clear f4
    go_enter Try.func6, Try.ntmps6
    go_wp2_with fail
    refine (h1 _).mono ?_
    rintro e w1 ⟨rfl, hB0⟩
    clear h1
    go_wp2_with fail
    refine (h2 _).mono ?_
    rintro e w2 ⟨rfl, hB1⟩
    replace hB0 := below2 hB0 hB1
    clear h2 hB1
    go_wp2_with fail
    refine (h3 _).mono ?_
    rintro e w3 ⟨rfl, hB1⟩
    replace hB0 := below2 hB0 hB1
    clear h3 hB1
    go_wp2_with fail
    refine (lived_any _).mono ?_
    rintro e w4 ⟨rfl, hB1⟩
    have HB := Lib.hid (below2 hB0 hB1)
    clear hB0 hB1
    go_wp2
    go_ret
    exact ⟨rfl, HB.out⟩)
end Go.Proofs.Ytipblfmabhggkaa
