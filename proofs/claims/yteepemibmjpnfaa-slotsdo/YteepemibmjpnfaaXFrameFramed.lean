/-
  Layer 3 (frame): the document's rows that each law asks first.
-/
import Derived.Test.YteepemibmjpnfaaXFrameGetRow
import Derived.Test.YteepemibmjpnfaaXRefTexts
namespace Go.Proofs.Yteepemibmjpnfaa
set_option maxRecDepth 10000
open Go.RowKit

theorem flay_0 : Wm.lay 0 = [255] := by simp [Wm.lay, Wm.endB, Wm.digs_zero]
theorem fdigs_small {n : Nat} (h0 : 0 < n) (h : n < 250) : Wm.digs n = [UInt8.ofNat n] := by
  rw [Wm.digs_pos h0, show n % 250 = n by omega, show n / 250 = 0 by omega, Wm.digs_zero]
theorem flay_7 : Wm.lay 7 = [7, 255] := by
  unfold Wm.lay; rw [show (7 : Int).natAbs = 7 from rfl, fdigs_small (by decide) (by decide)]; rfl
theorem flay_21507 : Wm.lay 21507 = [7, 86, 255] := by
  unfold Wm.lay; rw [show (21507 : Int).natAbs = 21507 from rfl, Wm.digs_pos (by decide), show 21507 / 250 = 86 from rfl, fdigs_small (by decide) (by decide)]; rfl
theorem framed_sum : Sm.ofL [7, 255, 255] = 21507 := by decide +kernel
theorem framed_put : Fm.frame 7 [] = [7, 255, 255, 7, 86, 255] := by
  have h : Fm.ahead 7 [] = [7, 255, 255] := by simp [Fm.ahead, Fm.textL, flay_7, flay_0]
  rw [Fm.frame, h, framed_sum, show ((21507 : Nat) : Int) = 21507 from rfl, flay_21507]; rfl
theorem framed_put1 : Fm.putS 7 [] = [7, 255, 255, 7, 86, 255] ∧ Fm.putE 7 [] = 0 := by
  have := Fm.put_yes (k := 7) (t := []) (by decide) (by decide)
  rw [framed_put] at this; exact this
theorem framed_get : Fm.get [7, 255, 255, 7, 86, 255, 120] = (7, [], [120], 0) := by
  have := Fm.get_frame (k := 7) (t := []) (by decide) (by decide) [120]
  rw [framed_put] at this; exact this
theorem framed_put2 : Fm.putS 100 [] = [] ∧ Fm.putE 100 [] = 1 := Fm.put_kind (by decide)
theorem framed_rowE : Fm.rowE 3 [[97], []] = 0 := by
  have h1 : Fm.layOk [[97], []] = true := by decide
  have h2 := textsL_short (Fm.layOk_iff.1 h1).2
  have h3 := lay_short (2 : Int) (by decide)
  have h4 : (Fm.rowL [[97], []]).length ≤ 7000 := by
    rw [Fm.rowL, List.length_append]; simp only [List.length_cons, List.length_nil] at h2 ⊢; exact Nat.le_trans (Nat.add_le_add h3 h2) (by decide)
  have h5 : (Fm.rowL [[97], []]).length ≤ 3000 := by
    have a1 := lay_short (1 : Int) (by decide)
    have a0 := lay_short (0 : Int) (by decide)
    rw [Fm.rowL, Fm.textsL_cons, Fm.textsL_cons, Fm.textL, Fm.textL]
    simp only [List.length_append, List.length_cons, List.length_nil, Fm.textsL, List.flatMap_nil]
    have b1 : (Wm.lay ((0 + 1 : Nat) : Int)).length ≤ 6 := a1
    have b0 : (Wm.lay ((0 : Nat) : Int)).length ≤ 6 := a0
    have b2 : (Wm.lay ((0 + 1 + 1 : Nat) : Int)).length ≤ 6 := h3
    omega
  have := (Fm.put_yes (k := 3) (by decide) h5).2
  simp only [Fm.rowE, h1, if_true]
  rw [if_pos (by decide)]; exact this

end Go.Proofs.Yteepemibmjpnfaa
