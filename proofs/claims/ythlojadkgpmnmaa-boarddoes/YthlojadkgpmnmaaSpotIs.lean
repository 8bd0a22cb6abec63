/-
  Layer 4 (spot): the walk of Is.
-/
import Derived.Test.YthlojadkgpmnmaaChecked
import Derived.Test.YthlojadkgpmnmaaSpotMay
import Derived.Test.YthlojadkgpmnmaaSpotTwo
namespace Go.Proofs.Ythlojadkgpmnmaa
open Go.RowKit

set_option maxHeartbeats 400000 in
theorem mayBe_any (b c : Int) (w : World) :
    Calls Try.prog 67 #[.agg #[.int .i64 b, .int .i64 c]] w fun e w' => e = .returned (.bool (Sp.may b c)) ∧ Below w.heap.size w w' := by
  go_enter Try.func67, Try.ntmps67
  go_wp2
  all_goals go_ret
  all_goals refine ⟨?_, below_new _ _⟩
  all_goals congr 2
  all_goals (unfold Sp.may; simp [*] <;> omega)

theorem Is_any (b c : Int) (w : World) :
    Calls Try.prog 56 #[.agg #[.int .i64 b, .int .i64 c]] w fun e w' => e = .returned (.bool (Sp.may b c)) ∧ Below w.heap.size w w' := by
  go_enter Try.func56, Try.ntmps56
  go_wp2_with fail
  refine (mayBe_any b c _).mono ?_
  rintro e w1 ⟨rfl, hB⟩
  go_wp2
  go_ret
  exact ⟨rfl, below2 (below_new _ _) hB⟩

end Go.Proofs.Ythlojadkgpmnmaa
