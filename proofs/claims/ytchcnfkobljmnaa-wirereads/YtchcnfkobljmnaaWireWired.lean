/-
  Layer 1 (wire): the document's rows that each law asks first.
-/
import Derived.Test.YtchcnfkobljmnaaWireGet
namespace Go.Proofs.Ytchcnfkobljmnaa
open Go.RowKit

theorem lay_0 : Wm.lay 0 = [255] := by simp [Wm.lay, Wm.endB, Wm.digs_zero]
theorem digs_small {n : Nat} (h0 : 0 < n) (h : n < 250) : Wm.digs n = [UInt8.ofNat n] := by
  rw [Wm.digs_pos h0, show n % 250 = n by omega, show n / 250 = 0 by omega, Wm.digs_zero]
theorem lay_7 : Wm.lay 7 = [7, 255] := by
  unfold Wm.lay; rw [show (7 : Int).natAbs = 7 from rfl, digs_small (by decide) (by decide)]; rfl
theorem lay_n7 : Wm.lay (-7) = [7, 254] := by
  unfold Wm.lay; rw [show (-7 : Int).natAbs = 7 from rfl, digs_small (by decide) (by decide)]; rfl
theorem lay_250 : Wm.lay 250 = [0, 1, 255] := by
  unfold Wm.lay; rw [show (250 : Int).natAbs = 250 from rfl, Wm.digs_pos (by decide), show 250 / 250 = 1 from rfl, digs_small (by decide) (by decide)]; rfl
theorem lay_2 : Wm.lay 2 = [2, 255] := by
  unfold Wm.lay; rw [show (2 : Int).natAbs = 2 from rfl, digs_small (by decide) (by decide)]; rfl

theorem wired_ints : intsS [0, 7, -7, 250] = strOf [255, 7, 255, 7, 254, 0, 1, 255] ∧ intsE [0, 7, -7, 250] = 0 := by
  have h : ([0, 7, -7, 250] : List Int).all Wm.fits = true := by decide
  constructor
  · rw [intsS, if_pos h]; simp [Wm.lays, lay_0, lay_7, lay_n7, lay_250]
  · rw [intsE, if_pos h]
theorem wired_get : Wm.getInt [0, 1, 255, 120] = (250, [120], 0) := by
  have := Wm.getInt_lay (n := 250) (by decide) [120]
  rw [lay_250] at this; exact this
theorem wired_form : Wm.getInt [0, 255] = (0, [], 20) := by
  have he : Wm.endAt [0, 255] = 1 := by decide
  unfold Wm.getInt
  rw [dif_pos (by rw [he]; decide), if_neg]
  simp only [he]
  exact of_decide_eq_true (by rfl)
theorem wired_more : Wm.getInt [7] = (0, [], 22) := by
  have he : Wm.endAt [7] = 1 := by decide
  unfold Wm.getInt
  rw [dif_neg (by rw [he]; decide)]
theorem wired_text : textS (strOf [97, 98]) = strOf [2, 255, 97, 98] ∧ textE (strOf [97, 98]) = 0 := by
  have h : (strOf [97, 98]).size = 2 := rfl
  constructor
  · rw [textS, h, if_pos (by decide), show ((2 : Nat) : Int) = 2 from rfl, lay_2]; rfl
  · rw [textE, h, if_pos (by decide)]
theorem wired_int : intsS [-2147483648] = strOf [] ∧ intsE [-2147483648] = 1 := by
  have h : ([-2147483648] : List Int).all Wm.fits = false := by decide
  constructor
  · rw [intsS, h]; rfl
  · rw [intsE, h]; rfl

set_option maxRecDepth 100000 in
set_option maxHeartbeats 1000000 in
theorem wired_any (w : World) : Calls Try.prog 15 #[] w fun e w' => e = .returned (.bool true) ∧ Below w.heap.size w w' := by
  have t1 := strOf_toList [255, 7, 255, 7, 254, 0, 1, 255]
  have t2 := strOf_toList [120]
  have t3 := strOf_toList [2, 255, 97, 98]
  go_enter Try.func15, Try.ntmps15
  go_wp2_with fail
  refine (Ints_any _ 4 [0, 7, -7, 250] _ ((IntsAt.four w _ _ _ _ _).more (by simp)) (by simp)).mono ?_
  rintro e w1 ⟨rfl, hB1⟩
  rw [wired_ints.1, wired_ints.2]
  go_wp2_with fail
  refine (GetInt_at (strOf [0, 1, 255, 120]) 250 [120] 0 _ (by decide) wired_get).mono ?_
  rintro e w2 ⟨rfl, k2, rfl⟩
  go_wp2_with fail
  refine (GetInt_at (strOf [0, 255]) 0 [] 20 _ (by decide) wired_form).mono ?_
  rintro e w3 ⟨rfl, k3, rfl⟩
  go_wp2_with fail
  refine (GetInt_at (strOf [7]) 0 [] 22 _ (by decide) wired_more).mono ?_
  rintro e w4 ⟨rfl, k4, rfl⟩
  go_wp2_with fail
  refine (Text_any (strOf [97, 98]) _ (by decide)).mono ?_
  rintro e w5 ⟨rfl, hB5⟩
  rw [wired_text.1, wired_text.2]
  go_wp2_with fail
  refine (Int_any (-2147483648) _).mono ?_
  rintro e w6 ⟨rfl, hB6⟩
  rw [wired_int.1, wired_int.2]
  go_wp2
  go_ret
  refine ⟨rfl, ?_⟩
  have h1 : Below w.heap.size w w1 := ((Below.refl _ w).alloc (Nat.le_refl _) _).trans (hB1.mono (by simp))
  have h4 := below_drew h1 (k2 + k3 + k4)
  have h5 := h4.trans (hB5.mono h4.size)
  exact h5.trans (hB6.mono h5.size)

end Go.Proofs.Ytchcnfkobljmnaa
