/-
  Layer 5 (life), the reference: Name.
-/
import Derived.Test.YtpgichlaghhdeaaGreatDoorXJh
namespace Go.Proofs.YtpgichlaghhdeaaGreatDoor
set_option maxRecDepth 10000
open Go.RowKit

theorem RName_any (p : Int) (w : World) :
    Calls Tryz.prog 33 #[.int .i64 p] w fun e w' => e = .returned (.tuple #[.string (nameS p), .bool (Lf.isP p)]) ∧ Below w.heap.size w w' := by
  cases hp : Lf.isP p
  · have h : ¬ (0 ≤ p ∧ p < 5) := fun h => by rw [Lf.isP_iff.2 h] at hp; cases hp
    have e0 : nameS p = strOf [] := by
      unfold nameS Lf.nameL
      rw [if_neg (by omega), if_neg (by omega), if_neg (by omega), if_neg (by omega), if_neg (by omega)]
    rw [e0]
    clear e0 hp
    rcases (by omega : p < 0 ∨ (0 ≤ p ∧ 5 ≤ p)) with h1 | ⟨h1, h2⟩
    all_goals (
      clear h
      go_enter Tryz.func33, Tryz.ntmps33
      go_wp2
      go_ret2
      exact ⟨rfl, below_new _ _⟩)
  · rcases Lf.isP_cases hp with rfl | rfl | rfl | rfl | rfl
    all_goals (
      clear hp
      go_enter Tryz.func33, Tryz.ntmps33
      go_wp2
      go_ret2
      exact ⟨rfl, below_new _ _⟩)
end Go.Proofs.YtpgichlaghhdeaaGreatDoor
