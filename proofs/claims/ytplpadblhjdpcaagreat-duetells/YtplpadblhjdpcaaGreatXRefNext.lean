/-
  Layer 5 (life): the walk of the reference's Next.
-/
import Derived.Test.YtplpadblhjdpcaaGreatChecked
import Derived.Test.YtplpadblhjdpcaaGreatXJa
namespace Go.Proofs.YtplpadblhjdpcaaGreat
set_option maxRecDepth 10000
open Go.RowKit

set_option maxHeartbeats 4000000 in
theorem RNext_any (p d : Int) (w : World) :
    Calls Tryz.prog 73 #[.int .i64 p, .int .i64 d] w fun e w' => e = .returned (.tuple #[.int .i64 (Lf.nx p d), .bool (Lf.ok p d)]) ∧ w' = w := by
  cases hp : Lf.isP p
  · have e1 : Lf.ok p d = false := by unfold Lf.ok; rw [hp]; rfl
    have e2 : Lf.nx p d = 0 := by unfold Lf.nx; rw [e1]; rfl
    rw [e1, e2]
    have h : ¬ (0 ≤ p ∧ p < 5) := fun h => by rw [Lf.isP_iff.2 h] at hp; cases hp
    clear e1 e2 hp
    rcases (by omega : p < 0 ∨ (0 ≤ p ∧ 4 < p)) with h1 | ⟨h1, h2⟩
    all_goals (
      clear h
      go_enter Tryz.func73, Tryz.ntmps73
      go_wp2
      go_ret2
      exact ⟨rfl, rfl⟩)
  · cases hd : Lf.isD d
    · have e1 : Lf.ok p d = false := by unfold Lf.ok; rw [hp, hd]; rfl
      have e2 : Lf.nx p d = 0 := by unfold Lf.nx; rw [e1]; rfl
      rw [e1, e2]
      have h : ¬ (1 ≤ d ∧ d ≤ 6) := fun h => by rw [Lf.isD_iff.2 h] at hd; cases hd
      have d1 : (d == 1) = false := by rw [beq_eq_false_iff_ne]; omega
      have d2 : (d == 2) = false := by rw [beq_eq_false_iff_ne]; omega
      have d3 : (d == 3) = false := by rw [beq_eq_false_iff_ne]; omega
      have d4 : (d == 4) = false := by rw [beq_eq_false_iff_ne]; omega
      have d5 : (d == 5) = false := by rw [beq_eq_false_iff_ne]; omega
      have d6 : (d == 6) = false := by rw [beq_eq_false_iff_ne]; omega
      obtain ⟨p0, p1⟩ := Lf.isP_iff.1 hp
      have p4 : p ≤ 4 := by omega
      clear e1 e2 hp hd h p1
      go_enter Tryz.func73, Tryz.ntmps73
      go_wp2
      go_ret2
      exact ⟨rfl, rfl⟩
    · rcases Lf.isP_cases hp with rfl | rfl | rfl | rfl | rfl <;> rcases Lf.isD_cases hd with rfl | rfl | rfl | rfl | rfl | rfl
      all_goals (
        clear hp hd
        go_enter Tryz.func73, Tryz.ntmps73
        go_wp2
        go_ret2
        exact ⟨rfl, rfl⟩)

end Go.Proofs.YtplpadblhjdpcaaGreat
