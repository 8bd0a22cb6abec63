/-
  Layer 3 (frame): the document's rows that each law asks first.
-/
import Derived.Test.YtgcpgmclhnddbaaFrameGetRow
import Derived.Test.YtgcpgmclhnddbaaRefTexts
namespace Go.Proofs.Ytgcpgmclhnddbaa
open Go.RowKit

theorem flay_0 : Wm.lay 0 = [255] := by simp [Wm.lay, Wm.endB, Wm.digs_zero]
theorem fdigs_small {n : Nat} (h0 : 0 < n) (h : n < 250) : Wm.digs n = [UInt8.ofNat n] := by
  rw [Wm.digs_pos h0, show n % 250 = n by omega, show n / 250 = 0 by omega, Wm.digs_zero]
theorem flay_7 : Wm.lay 7 = [7, 255] := by
  unfold Wm.lay; rw [show (7 : Int).natAbs = 7 from rfl, fdigs_small (by decide) (by decide)]; rfl
theorem flay_21507 : Wm.lay 21507 = [7, 86, 255] := by
  unfold Wm.lay; rw [show (21507 : Int).natAbs = 21507 from rfl, Wm.digs_pos (by decide), show 21507 / 250 = 86 from rfl, fdigs_small (by decide) (by decide)]; rfl
theorem framed_sum : Sm.ofL [7, 255, 255] = 21507 := by decide +kernel
theorem framed_put : Fm.frame 7 [] = [7, 255, 255, 7, 86, 255] := by
  have h : Fm.ahead 7 [] = [7, 255, 255] := by simp [Fm.ahead, Fm.textL, flay_7, flay_0]
  rw [Fm.frame, h, framed_sum, show ((21507 : Nat) : Int) = 21507 from rfl, flay_21507]; rfl
theorem framed_put1 : Fm.putS 7 [] = [7, 255, 255, 7, 86, 255] ∧ Fm.putE 7 [] = 0 := by
  have := Fm.put_yes (k := 7) (t := []) (by decide) (by decide)
  rw [framed_put] at this; exact this
theorem framed_get : Fm.get [7, 255, 255, 7, 86, 255, 120] = (7, [], [120], 0) := by
  have := Fm.get_frame (k := 7) (t := []) (by decide) (by decide) [120]
  rw [framed_put] at this; exact this
theorem framed_put2 : Fm.putS 100 [] = [] ∧ Fm.putE 100 [] = 1 := Fm.put_kind (by decide)
theorem framed_rowE : Fm.rowE 3 [[97], []] = 0 := by
  have h1 : Fm.layOk [[97], []] = true := by decide
  have h2 := textsL_short (Fm.layOk_iff.1 h1).2
  have h3 := lay_short (2 : Int) (by decide)
  have h4 : (Fm.rowL [[97], []]).length ≤ 7000 := by
    rw [Fm.rowL, List.length_append]; simp only [List.length_cons, List.length_nil] at h2 ⊢; exact Nat.le_trans (Nat.add_le_add h3 h2) (by decide)
  have h5 : (Fm.rowL [[97], []]).length ≤ 3000 := by
    have a1 := lay_short (1 : Int) (by decide)
    have a0 := lay_short (0 : Int) (by decide)
    rw [Fm.rowL, Fm.textsL_cons, Fm.textsL_cons, Fm.textL, Fm.textL]
    simp only [List.length_append, List.length_cons, List.length_nil, Fm.textsL, List.flatMap_nil]
    have b1 : (Wm.lay ((0 + 1 : Nat) : Int)).length ≤ 6 := a1
    have b0 : (Wm.lay ((0 : Nat) : Int)).length ≤ 6 := a0
    have b2 : (Wm.lay ((0 + 1 + 1 : Nat) : Int)).length ≤ 6 := h3
    omega
  have := (Fm.put_yes (k := 3) (by decide) h5).2
  simp only [Fm.rowE, h1, if_true]
  rw [if_pos (by decide)]; exact this

set_option maxRecDepth 10000 in
set_option maxHeartbeats 1000000 in
theorem framed_any (w : World) : Calls Try.prog 14 #[] w fun e w' => e = .returned (.bool true) ∧ Below w.heap.size w w' := by
  have t2 := strOf_toList [120]
  have t3 := strOf_toList [121]
  have t4 := strOf_toList []
  obtain ⟨R, hR⟩ : ∃ R, R = Fm.rowS 3 [[97], []] := ⟨_, rfl⟩
  have HR := Lib.hid hR
  have hRl : R.length ≤ 4000 := by
    obtain ⟨h1, _, h3, h4⟩ := Fm.rowE_zero framed_rowE
    have := frame_short h1 h3
    rw [hR, h4]; omega
  clear hR
  go_enter Try.func14, Try.ntmps14
  go_wp2_with fail
  have h1 := Put_any 7 ⟨#[]⟩ w (by decide)
  rw [show bl ⟨#[]⟩ = [] from rfl, framed_put1.1, framed_put1.2] at h1
  refine h1.mono ?_
  rintro e w1 ⟨rfl, hB1⟩
  clear h1
  go_wp2_with fail
  have h2 := Get_any (strOf [7, 255, 255, 7, 86, 255, 120]) w1 (by decide)
  rw [bl_strOf, framed_get] at h2
  refine h2.mono ?_
  rintro e w2 ⟨rfl, hB2⟩
  clear h2
  have hB02 := below2 hB1 hB2
  clear hB1 hB2
  unfold got4
  go_wp2_with fail
  have h3 := Put_any 100 ⟨#[]⟩ w2 (by decide)
  rw [show bl ⟨#[]⟩ = [] from rfl, framed_put2.1, framed_put2.2] at h3
  refine h3.mono ?_
  rintro e w3 ⟨rfl, hB3⟩
  clear h3
  have hB03 := below2 hB02 hB3
  clear hB02 hB3
  go_wp2_with fail
  have h4 := Get_any ⟨#[]⟩ w3 (by decide)
  rw [show bl ⟨#[]⟩ = [] from rfl, Fm.get_nil] at h4
  refine h4.mono ?_
  rintro e w4 ⟨rfl, hB4⟩
  clear h4
  have hB04 := below2 hB03 hB4
  clear hB03 hB4
  unfold got4
  go_wp2_with fail
  have h5 := Row_any 3 (some ⟨w4.heap.size, 0, none⟩) 2 [⟨#[97]⟩, ⟨#[]⟩] (w4.alloc (.cells #[.string ⟨#[97]⟩, .string ⟨#[]⟩] 9)) ((StrsAt.new w4 [⟨#[97]⟩, ⟨#[]⟩] 9).more (by simp)) (by intro s hs; rcases List.mem_cons.1 hs with rfl | hs; decide; rcases List.mem_cons.1 hs with rfl | hs; decide; cases hs)
  rw [show ([⟨#[97]⟩, ⟨#[]⟩] : List ByteArray).map bl = [[97], []] from rfl, framed_rowE, ← HR.out] at h5
  refine h5.mono ?_
  rintro e w5 ⟨rfl, hB5⟩
  clear h5
  have hB05 : Below w.heap.size w w5 := (hB04.alloc hB04.size _).trans (hB5.mono (by have := hB04.size; simp; omega))
  clear hB04 hB5
  have hcat : ¬ 9223372036854775807 < (strOf R).size + 1 := by rw [strOf_size]; omega
  have hap : strOf R ++ ⟨#[121]⟩ = strOf (R ++ [121]) := strs_append R [121]
  go_wp2_with fail
  have h6 := GetRow_any (strOf (R ++ [121])) w5 (by rw [strOf_size, List.length_append]; unfold big; simp; omega)
  rw [bl_strOf, show Fm.getRow (R ++ [121]) = (3, [[97], []], [121], 0) by rw [HR.out]; exact Fm.getRow_row framed_rowE [121]] at h6
  refine h6.mono ?_
  rintro e w6 ⟨v, rfl, hown, hB6⟩
  clear h6
  obtain ⟨A, c, rfl⟩ := ownsRow_slice hown
  have hA := StrsAt.of_own (ss := [strOf [97], strOf []]) hown
  have hB06 := below2 hB05 hB6
  clear hB05 hB6 hown hap hcat
  have u1 : (strOf [7, 255, 255, 7, 86, 255]).size = 6 := rfl
  have u2 : ((strOf [7, 255, 255, 7, 86, 255]).extract 0 3).toList = [7, 255, 255] := by rw [toList_bl, bl_extract_to _ _ (by decide)]; rfl
  go_wp2_with fail
  have hal := (Below.refl w6.heap.size w6).alloc (Nat.le_refl _) (.cells #[.string ⟨#[97]⟩, .string ⟨#[]⟩] 9)
  have h7 := Texts_any A (some ⟨w6.heap.size, 0, none⟩) c 2 [strOf [97], strOf []] [⟨#[97]⟩, ⟨#[]⟩] (w6.alloc (.cells #[.string ⟨#[97]⟩, .string ⟨#[]⟩] 9)) ((hA.below hal (Nat.le_refl _)).more hal.size) ((StrsAt.new w6 [⟨#[97]⟩, ⟨#[]⟩] 9).more (by simp)) (by decide)
  rw [decide_eq_true (show [strOf [97], strOf []] = [⟨#[97]⟩, ⟨#[]⟩] from rfl)] at h7
  refine h7.mono ?_
  rintro e w7 ⟨rfl, n7, rfl⟩
  clear h7
  have hB07 : Below w.heap.size w ((w6.alloc (.cells #[.string ⟨#[97]⟩, .string ⟨#[]⟩] 9)).drewN n7) := below_drew (hB06.alloc hB06.size _) n7
  go_wp2
  go_ret
  exact ⟨rfl, hB07⟩

end Go.Proofs.Ytgcpgmclhnddbaa
