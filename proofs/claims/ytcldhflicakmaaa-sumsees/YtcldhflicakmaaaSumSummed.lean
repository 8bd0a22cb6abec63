/-
  Layer 2 (sum): the document's rows that each law asks first.
-/
import Derived.Test.YtcldhflicakmaaaSumFind
namespace Go.Proofs.Ytcldhflicakmaaa
open Go.RowKit

theorem digits_sum : Sm.ofL [49, 50, 51, 52, 53, 54, 55, 56, 57] = 10673 := by decide +kernel
theorem digits_find : Sm.fndK [49, 50, 51, 52, 53, 54, 55, 56, 57] 10673 20 = 9 ∧ Sm.fndB [49, 50, 51, 52, 53, 54, 55, 56, 57] 10673 20 = true := by decide +kernel
theorem digits_not : Sm.fndK [49, 50, 51, 52, 53, 54, 55, 56, 57] 10673 8 = 0 ∧ Sm.fndB [49, 50, 51, 52, 53, 54, 55, 56, 57] 10673 8 = false := by decide +kernel

set_option maxRecDepth 10000 in
set_option maxHeartbeats 1000000 in
theorem summed_any (w : World) : Calls Try.prog 12 #[] w fun e w' => e = .returned (.bool true) ∧ Below w.heap.size w w' := by
  go_enter Try.func12, Try.ntmps12
  go_wp2_with fail
  refine (Find_any (strOf [49, 50, 51, 52, 53, 54, 55, 56, 57]) 10673 20 _ (by rw [strOf_size]; decide)).mono ?_
  rintro e w1 ⟨rfl, hB1⟩
  rw [bl_strOf, digits_find.1, digits_find.2]
  go_wp2_with fail
  refine (Find_any (strOf [49, 50, 51, 52, 53, 54, 55, 56, 57]) 10673 8 _ (by rw [strOf_size]; decide)).mono ?_
  rintro e w2 ⟨rfl, hB2⟩
  rw [bl_strOf, digits_not.1, digits_not.2]
  go_wp2_with fail
  refine (Of_any (strOf []) _ (by rw [strOf_size]; decide)).mono ?_
  rintro e w3 ⟨rfl, hB3⟩
  rw [bl_strOf, show Sm.ofL [] = 65535 from rfl]
  go_wp2_with fail
  refine (Of_any (strOf [49, 50, 51, 52, 53, 54, 55, 56, 57]) _ (by rw [strOf_size]; decide)).mono ?_
  rintro e w4 ⟨rfl, hB4⟩
  rw [bl_strOf, digits_sum]
  go_wp2_with fail
  refine (Over_any (some ⟨w4.heap.size, 0, none⟩) 2 [strOf [49, 50, 51, 52], strOf [53, 54, 55, 56, 57]] _ ((StrsAt.new w4 [strOf [49, 50, 51, 52], strOf [53, 54, 55, 56, 57]] 9).more (by simp)) (by simp) (by decide)).mono ?_
  rintro e w5 ⟨rfl, hB5⟩
  rw [show cat [strOf [49, 50, 51, 52], strOf [53, 54, 55, 56, 57]] = [49, 50, 51, 52, 53, 54, 55, 56, 57] from rfl, digits_sum]
  go_wp2
  go_ret
  exact ⟨rfl, below2 hB1 (below2 hB2 (below2 hB3 (below2 hB4 (((Below.refl _ w4).alloc (Nat.le_refl _) _).trans (hB5.mono (by simp))))))⟩

end Go.Proofs.Ytcldhflicakmaaa
