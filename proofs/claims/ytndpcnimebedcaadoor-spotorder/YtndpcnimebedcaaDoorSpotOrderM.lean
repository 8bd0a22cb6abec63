/-
  Layer 4 (spot): what the law SpotOrder asks.
-/
import Derived.Test.YtndpcnimebedcaaDoorSpotSpots
import Derived.Deep.RegionHeld3
namespace Go.Proofs.YtndpcnimebedcaaDoor
open Go.RowKit

theorem Two.new2 (w : World) (o o' : Obj) (b c : Int) (t : TypeId) : Two (((w.alloc o).alloc o').alloc (.cells #[.int .i64 b, .int .i64 c] t)) (w.heap.size + 2) b c := by
  have h := Two.new ((w.alloc o).alloc o') b c t
  have e : ((w.alloc o).alloc o').heap.size = w.heap.size + 2 := by simp
  rw [e] at h; exact h

theorem Sp.less_num {a0 a1 b0 b1 : Int} (ha : Sp.may a0 a1 = true) (hb : Sp.may b0 b1 = true) : Sp.less a0 a1 b0 b1 = decide (Sp.num a0 a1 < Sp.num b0 b1) := by
  unfold Sp.num Sp.less; rw [ha, hb]
  have h1 := Sp.may_iff.1 ha
  have h2 := Sp.may_iff.1 hb
  rw [Bool.eq_iff_iff]
  simp only [if_true, Bool.or_eq_true, Bool.and_eq_true, decide_eq_true_eq, beq_iff_eq]
  omega
theorem Sp.less_trans {a0 a1 b0 b1 c0 c1 : Int} (h : Sp.less a0 a1 b0 b1 = true) (k : Sp.less b0 b1 c0 c1 = true) : Sp.less a0 a1 c0 c1 = true := by
  unfold Sp.less at *
  simp only [Bool.or_eq_true, Bool.and_eq_true, decide_eq_true_eq, beq_iff_eq] at *
  omega
theorem Sp.less_not {a0 a1 b0 b1 : Int} (h : Sp.less a0 a1 b0 b1 = true) : Sp.less b0 b1 a0 a1 = false := by
  cases hk : Sp.less b0 b1 a0 a1
  · rfl
  · unfold Sp.less at *
    simp only [Bool.or_eq_true, Bool.and_eq_true, decide_eq_true_eq, beq_iff_eq] at *
    omega
theorem Sp.less_eq {a0 a1 b0 b1 : Int} : (Sp.less a0 a1 b0 b1 = false ∧ Sp.less b0 b1 a0 a1 = false) ↔ (a0 = b0 ∧ a1 = b1) := by
  unfold Sp.less
  simp only [Bool.or_eq_false_iff, Bool.and_eq_false_iff, decide_eq_false_iff_not, beq_eq_false_iff_ne]
  constructor
  · intro h; omega
  · intro h; omega

theorem Less_v (x0 x1 y0 y1 : Int) (v : Bool) (w : World) (h : Sp.less x0 x1 y0 y1 = v) :
    Calls Tryd.prog 20 #[.agg #[.int .i64 x0, .int .i64 x1], .agg #[.int .i64 y0, .int .i64 y1]] w fun e w' => e = .returned (.bool v) ∧ Below w.heap.size w w' := by
  rw [← h]; exact Less_any x0 x1 y0 y1 w

end Go.Proofs.YtndpcnimebedcaaDoor
