/-
  Layer 4 (spot): the walk of the reference's Is.
-/
import Derived.Test.YtplpadblhjdpcaaGreatChecked
import Derived.Test.YtplpadblhjdpcaaGreatXJa
import Derived.Test.YtplpadblhjdpcaaGreatXJb
namespace Go.Proofs.YtplpadblhjdpcaaGreat
set_option maxRecDepth 10000
open Go.RowKit

set_option maxHeartbeats 400000 in
theorem RIs_any (b c : Int) (w : World) :
    Calls Tryz.prog 70 #[.agg #[.int .i64 b, .int .i64 c]] w fun e w' => e = .returned (.bool (Sp.may b c)) ∧ Below w.heap.size w w' := by
  go_enter Tryz.func70, Tryz.ntmps70
  go_wp2
  all_goals go_ret
  all_goals refine ⟨?_, below_new _ _⟩
  all_goals congr 2
  all_goals (unfold Sp.may; simp [*] <;> omega)

end Go.Proofs.YtplpadblhjdpcaaGreat
