/-
  Layer 5 (life): the walk of Next.
-/
import Derived.Test.YthlojadkgpmnmaaLifeLow
namespace Go.Proofs.Ythlojadkgpmnmaa
open Go.RowKit

theorem Next_any (p d : Int) (w : World) :
    Calls Try.prog 70 #[.int .i64 p, .int .i64 d] w fun e w' => e = .returned (.tuple #[.int .i64 (Lf.nx p d), .bool (Lf.ok p d)]) ∧ Below w.heap.size w w' := by
  obtain ⟨x, hx⟩ : ∃ x, x = Lf.nx p d := ⟨_, rfl⟩
  obtain ⟨b, hb⟩ : ∃ b, b = Lf.ok p d := ⟨_, rfl⟩
  have h := fun W => next_any p d W
  rw [← hx, ← hb] at h ⊢
  clear hx hb
  go_enter Try.func70, Try.ntmps70
  go_wp2_with fail
  refine (all_any w).mono ?_
  rintro e w1 ⟨rfl, rfl⟩
  go_wp2_with fail
  refine (h _).mono ?_
  rintro e w2 ⟨rfl, hB⟩
  go_wp2
  go_ret2
  exact ⟨rfl, below2 (below_new _ _) hB⟩

end Go.Proofs.Ythlojadkgpmnmaa
