/-
  Layer 5 (life): the walks of the table: what is a phase, what is a deed, what a deed makes of a phase.
  Layer 5 (life): the walk of Name.
-/
import Derived.Test.YtpgichlaghhdeaaGreatDoorChecked
import Derived.Test.YtpgichlaghhdeaaGreatDoorXJa
import Derived.Great.BuildSlice
import Derived.Deep.WholeRow
namespace Go.Proofs.YtpgichlaghhdeaaGreatDoor
set_option maxRecDepth 10000
open Go.RowKit

theorem setRow_alloc2_new (w : World) (A : Obj) (c c' : Array Value) (t : TypeId) : ((w.alloc A).alloc (.cells c t)).setRow (w.heap.size + 1) c' = (w.alloc A).alloc (.cells c' t) := by
  have h := World.setRow_alloc_new (w.alloc A) c c' t
  have e : (w.alloc A).heap.size = w.heap.size + 1 := by simp
  rw [e] at h; exact h

theorem isPhase_any (p : Int) (w : World) :
    Calls Tryz.prog 89 #[.int .i64 p] w fun e w' => e = .returned (.bool (Lf.isP p)) ∧ w' = w := by
  go_enter Tryz.func89, Tryz.ntmps89
  go_wp2
  all_goals go_ret
  all_goals (refine ⟨?_, rfl⟩; congr 2; unfold Lf.isP; simp [*] <;> omega)
/-- The table, as cells hold it. -/
def tabV : Array Value := (Lf.tab.map (Value.int .i64)).toArray
theorem tabV_size : tabV.size = 30 := by simp [tabV, Lf.tab]

end Go.Proofs.YtpgichlaghhdeaaGreatDoor

namespace Go.Proofs.YtpgichlaghhdeaaGreatDoor
set_option maxRecDepth 10000
open Go.RowKit

/-- A phase's name, as a text. -/
def nameS (p : Int) : ByteArray := strOf (Lf.nameL p)

theorem Name_any (p : Int) (w : World) :
    Calls Tryz.prog 58 #[.int .i64 p] w fun e w' => e = .returned (.tuple #[.string (nameS p), .bool (Lf.isP p)]) ∧ Below w.heap.size w w' := by
  have h1 := fun W => isPhase_any p W
  cases hp : Lf.isP p
  · have e0 : nameS p = strOf [] := by
      have : ¬ (0 ≤ p ∧ p < 5) := fun h => by rw [Lf.isP_iff.2 h] at hp; cases hp
      unfold nameS Lf.nameL
      rw [if_neg (by omega), if_neg (by omega), if_neg (by omega), if_neg (by omega), if_neg (by omega)]
    rw [hp] at h1
    rw [e0]
    clear e0 hp
    go_enter Tryz.func58, Tryz.ntmps58
    go_wp2_with fail
    refine (h1 _).mono ?_
    rintro e w1 ⟨rfl, rfl⟩
    go_wp2
    go_ret2
    exact ⟨rfl, Below.refl _ _⟩
  · rw [hp] at h1
    rcases Lf.isP_cases hp with rfl | rfl | rfl | rfl | rfl
    all_goals (
      clear hp
      go_enter Tryz.func58, Tryz.ntmps58
      go_wp2_with fail
      refine (h1 _).mono ?_
      rintro e w1 ⟨rfl, rfl⟩
      go_wp2
      go_ret2
      exact ⟨rfl, below_new _ _⟩)
end Go.Proofs.YtpgichlaghhdeaaGreatDoor
