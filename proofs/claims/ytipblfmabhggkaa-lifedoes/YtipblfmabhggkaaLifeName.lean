/-
  Layer 5 (life): the walk of Name.
-/
import Derived.Test.YtipblfmabhggkaaLifeLow
namespace Go.Proofs.Ytipblfmabhggkaa
open Go.RowKit

/-- A phase's name, as a text. -/
def nameS (p : Int) : ByteArray := strOf (Lf.nameL p)

theorem Name_any (p : Int) (w : World) :
    Calls Try.prog 15 #[.int .i64 p] w fun e w' => e = .returned (.tuple #[.string (nameS p), .bool (Lf.isP p)]) ∧ Below w.heap.size w w' := by
  have h1 := fun W => isPhase_any p W
  cases hp : Lf.isP p
  · have e0 : nameS p = strOf [] := by
      have : ¬ (0 ≤ p ∧ p < 5) := fun h => by rw [Lf.isP_iff.2 h] at hp; cases hp
      unfold nameS Lf.nameL
      rw [if_neg (by omega), if_neg (by omega), if_neg (by omega), if_neg (by omega), if_neg (by omega)]
    rw [hp] at h1
    rw [e0]
    clear e0 hp
    go_enter Try.func15, Try.ntmps15
    go_wp2_with fail
    refine (h1 _).mono ?_
    rintro e w1 ⟨rfl, rfl⟩
    go_wp2
    go_ret2
    exact ⟨rfl, Below.refl _ _⟩
  · rw [hp] at h1
    rcases Lf.isP_cases hp with rfl | rfl | rfl | rfl | rfl
    all_goals (
      clear hp
      go_enter Try.func15, Try.ntmps15
      go_wp2_with fail
      refine (h1 _).mono ?_
      rintro e w1 ⟨rfl, rfl⟩
      go_wp2
      go_ret2
      exact ⟨rfl, below_new _ _⟩)
end Go.Proofs.Ytipblfmabhggkaa
