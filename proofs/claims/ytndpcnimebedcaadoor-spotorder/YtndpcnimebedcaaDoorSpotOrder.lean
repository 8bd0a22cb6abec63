/-
  Layer 4 (spot): the walk of the law SpotOrder.
-/
import Derived.Test.YtndpcnimebedcaaDoorSpotOrder1
import Derived.Test.YtndpcnimebedcaaDoorSpotOrder2
import Derived.Test.YtndpcnimebedcaaDoorSpotOrder3
namespace Go.Proofs.YtndpcnimebedcaaDoor
open Go.RowKit

theorem spotOrder_walk (a0 a1 b0 b1 c0 c1 : Int) (w : World) (hE : Errs w) (_x0 : (Lit.int .i64 a0).wf = true) (_x1 : (Lit.int .i64 a1).wf = true) (_x2 : (Lit.int .i64 b0).wf = true) (_x3 : (Lit.int .i64 b1).wf = true) (_x4 : (Lit.int .i64 c0).wf = true) (_x5 : (Lit.int .i64 c1).wf = true) :
    Calls Tryd.prog 5 #[.agg #[.int .i64 a0, .int .i64 a1], .agg #[.int .i64 b0, .int .i64 b1], .agg #[.int .i64 c0, .int .i64 c1]] w fun e w' => e = .returned (.bool true) ∧ Below w.heap.size w w' := by
  have HE := Lib.hid hE
  have hN1 := fun W => Number_any a0 a1 W
  have hN2 := fun W => Number_any b0 b1 W
  have h3 : ((Sp.numE a0 a1 == 0) = false) ∨ ((Sp.numE a0 a1 == 0) = true ∧ (Sp.numE b0 b1 == 0) = false) ∨ ((Sp.numE a0 a1 == 0) = true ∧ (Sp.numE b0 b1 == 0) = true ∧ decide (Sp.num a0 a1 < Sp.num b0 b1) = Sp.less a0 a1 b0 b1) := by
    cases ha : Sp.may a0 a1
    · left; unfold Sp.numE; rw [ha]; rfl
    · cases hb : Sp.may b0 b1
      · right; left; unfold Sp.numE; rw [ha, hb]; exact ⟨rfl, rfl⟩
      · right; right
        refine ⟨by unfold Sp.numE; rw [ha]; rfl, by unfold Sp.numE; rw [hb]; rfl, ?_⟩
        rw [Sp.less_num ha hb]
  have H7 := Sp.less_eq (a0 := a0) (a1 := a1) (b0 := b0) (b1 := b1)
  have hx : ((a0 == b0) = true ∧ (a1 == b1) = true ∧ a0 = b0 ∧ a1 = b1) ∨ ((a0 == b0) = true ∧ (a1 == b1) = false ∧ ¬ (a0 = b0 ∧ a1 = b1)) ∨ ((a0 == b0) = false ∧ ¬ (a0 = b0 ∧ a1 = b1)) := by
    by_cases h0 : a0 = b0
    · by_cases h1 : a1 = b1
      · exact .inl ⟨by rw [beq_iff_eq]; exact h0, by rw [beq_iff_eq]; exact h1, h0, h1⟩
      · exact .inr (.inl ⟨by rw [beq_iff_eq]; exact h0, by rw [beq_eq_false_iff_ne]; exact h1, fun h => h1 h.2⟩)
    · exact .inr (.inr ⟨by rw [beq_eq_false_iff_ne]; exact h0, fun h => h0 h.1⟩)
  cases lab : Sp.less a0 a1 b0 b1
  · rw [lab] at h3
    cases lba : Sp.less b0 b1 a0 a1
    · have h2 := H7.1 ⟨lab, lba⟩
      rcases hx with ⟨x0, x1, _⟩ | ⟨_, _, h9⟩ | ⟨_, h9⟩
      · exact order_ff a0 a1 b0 b1 c0 c1 _ _ _ _ w HE lab lba x0 x1 hN1 hN2 h3
      · exact absurd h2 h9
      · exact absurd h2 h9
    · have hne : ¬ (a0 = b0 ∧ a1 = b1) := fun h => by have := (H7.2 h).2; rw [lba] at this; cases this
      rcases hx with ⟨_, _, h9⟩ | ⟨x0, x1, _⟩ | ⟨x0, _⟩
      · exact absurd h9 hne
      · exact order_ft1 a0 a1 b0 b1 c0 c1 _ _ _ _ w HE lab lba x0 x1 hN1 hN2 h3
      · exact order_ft2 a0 a1 b0 b1 c0 c1 _ _ _ _ w HE lab lba x0 hN1 hN2 h3
  · rw [lab] at h3
    have lba := Sp.less_not lab
    have hne : ¬ (a0 = b0 ∧ a1 = b1) := fun h => by have := (H7.2 h).1; rw [lab] at this; cases this
    cases lbc : Sp.less b0 b1 c0 c1
    · rcases hx with ⟨_, _, h9⟩ | ⟨x0, x1, _⟩ | ⟨x0, _⟩
      · exact absurd h9 hne
      · exact order_tf1 a0 a1 b0 b1 c0 c1 _ _ _ _ w HE lab lba lbc x0 x1 hN1 hN2 h3
      · exact order_tf2 a0 a1 b0 b1 c0 c1 _ _ _ _ w HE lab lba lbc x0 hN1 hN2 h3
    · have lac := Sp.less_trans lab lbc
      rcases hx with ⟨_, _, h9⟩ | ⟨x0, x1, _⟩ | ⟨x0, _⟩
      · exact absurd h9 hne
      · exact order_tt1 a0 a1 b0 b1 c0 c1 _ _ _ _ w HE lab lba lbc lac x0 x1 hN1 hN2 h3
      · exact order_tt2 a0 a1 b0 b1 c0 c1 _ _ _ _ w HE lab lba lbc lac x0 hN1 hN2 h3

end Go.Proofs.YtndpcnimebedcaaDoor
