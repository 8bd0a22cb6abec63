/-
  Layer 4 (spot): the reference's Less.
-/
import Derived.Test.YtplpadblhjdpcaaGreatChecked
import Derived.Test.YtplpadblhjdpcaaGreatXJa
import Derived.Test.YtplpadblhjdpcaaGreatXRefSpotIs
namespace Go.Proofs.YtplpadblhjdpcaaGreat
set_option maxRecDepth 10000
open Go.RowKit

set_option maxHeartbeats 400000 in
theorem RLess_any (b c b' c' : Int) (w : World) :
    Calls Tryz.prog 33 #[.agg #[.int .i64 b, .int .i64 c], .agg #[.int .i64 b', .int .i64 c']] w fun e w' => e = .returned (.bool (Sp.less b c b' c')) ∧ Below w.heap.size w w' := by
  rcases Int.lt_trichotomy b b' with h | h | h
  · have h1 : decide (b < b') = true := decide_eq_true h
    have e0 : Sp.less b c b' c' = true := by unfold Sp.less; rw [h1]; rfl
    rw [e0]; clear e0 h
    go_enter Tryz.func33, Tryz.ntmps33
    go_wp2
    go_ret
    exact ⟨rfl, below_new2 _ _ _⟩
  · subst h
    have h1 : decide (b < b) = false := decide_eq_false (by omega)
    have e0 : Sp.less b c b c' = decide (c < c') := by unfold Sp.less; rw [h1]; simp
    rw [e0]; clear e0
    go_enter Tryz.func33, Tryz.ntmps33
    go_wp2
    go_ret
    exact ⟨rfl, below_new2 _ _ _⟩
  · have h1 : decide (b < b') = false := decide_eq_false (by omega)
    have h2 : (b == b') = false := by rw [beq_eq_false_iff_ne]; omega
    have e0 : Sp.less b c b' c' = false := by unfold Sp.less; rw [h1, h2]; rfl
    rw [e0]; clear e0 h
    go_enter Tryz.func33, Tryz.ntmps33
    go_wp2
    go_ret
    exact ⟨rfl, below_new2 _ _ _⟩

end Go.Proofs.YtplpadblhjdpcaaGreat
