/-
  Layer 11 (show): an alarm's line: line.
-/
import Derived.Test.YtpgichlaghhdeaaGreatDoorXShowW1
import Derived.Test.YtpgichlaghhdeaaGreatDoorXShowW2
import Derived.Test.YtpgichlaghhdeaaGreatDoorXJa
import Derived.Test.YtpgichlaghhdeaaGreatDoorXJc
import Derived.Test.YtpgichlaghhdeaaGreatDoorXJh
import Derived.Test.YtpgichlaghhdeaaGreatDoorXJb
namespace Go.Proofs.YtpgichlaghhdeaaGreatDoor
set_option maxRecDepth 10000
open Go.RowKit

theorem line_no (x0 x1 x2 x3 x4 x5 : Int) (hr : Am.right ⟨x0, x1, x2, x3, x4, x5⟩ = false) (w : World) :
    Calls Tryz.prog 30 #[.agg #[.int .i64 x0, .int .i64 x1, .int .i64 x2, .int .i64 x3, .int .i64 x4, .int .i64 x5]] w fun e w' => e = thr 1 ∧ Below w.heap.size w w' := by
  have S0 := Lib.hid ((St.start w).new #[.int .i64 x0, .int .i64 x1, .int .i64 x2, .int .i64 x3, .int .i64 x4, .int .i64 x5] 25)
  have g1 := fun W => AIs_any x0 x1 x2 x3 x4 x5 W
  rw [hr] at g1
  have g2 := fun W => need_no 1 W
  clear hr
  go_enter Tryz.func30, Tryz.ntmps30
  go_wp2_with (refine wpList_load_st rfl 25 _ rfl S0.out 0 _ _ rfl rfl _ Tryz.underlying25 rfl (by rfl) ?_)
  refine (g1 _).mono ?_
  rintro e w1 ⟨rfl, hB⟩
  have S1 := Lib.hid (S0.out.on hB)
  clear hB g1 S0
  go_wp2_with fail
  refine (g2 _).mono ?_
  rintro e w2 ⟨rfl, rfl⟩
  exact ⟨rfl, rfl, S1.out.below⟩

set_option maxHeartbeats 4000000 in
theorem line_ok (x0 x1 x2 x3 x4 x5 : Int) (hr : Am.right ⟨x0, x1, x2, x3, x4, x5⟩ = true) (w : World) (hE : Libs w) :
    Calls Tryz.prog 30 #[.agg #[.int .i64 x0, .int .i64 x1, .int .i64 x2, .int .i64 x3, .int .i64 x4, .int .i64 x5]] w fun e w' => e = .returned (.string (strOf (Sh.lineL ⟨x0, x1, x2, x3, x4, x5⟩))) ∧ Below w.heap.size w w' := by
  have S0 := Lib.hid (((St.start w).more libF hE).new #[.int .i64 x0, .int .i64 x1, .int .i64 x2, .int .i64 x3, .int .i64 x4, .int .i64 x5] 25)
  have g1 := fun W => AIs_any x0 x1 x2 x3 x4 x5 W
  rw [hr] at g1
  have hq := Am.right_iff.1 hr
  simp only at hq
  have g2 := fun W => need_yes 1 W
  have g3 := fun W => Print_any x0 x1 W
  have e3 : Sp.prn x0 x1 = Sp.txt x0 x1 := by unfold Sp.prn; rw [hq.1]; rfl
  rw [e3] at g3
  have g4 := fun W => Name_any x2 W
  have eL : Sh.lineL ⟨x0, x1, x2, x3, x4, x5⟩ = five (strOf (Sp.txt x0 x1)) (nameS x2) (strOf (Lib.decDigits x3.toNat)) (strOf (Lib.decDigits x4.toNat)) (strOf (Lib.decDigits x5.toNat)) := rfl
  have hsz : (strOf (Sp.txt x0 x1)).size + (nameS x2).size + (strOf (Lib.decDigits x3.toNat)).size + (strOf (Lib.decDigits x4.toNat)).size + (strOf (Lib.decDigits x5.toNat)).size ≤ 10000 := by
    have h1 := Sp.txt_len hq.1
    have h2 := (Sh.dec_len (n := x3.toNat) (by omega)).1
    have h3 := (Sh.dec_len (n := x4.toNat) (by omega)).1
    have h4 := (Sh.dec_len (n := x5.toNat) (by omega)).1
    have h5 : (Lf.nameL x2).length ≤ 20 := by
      unfold Lf.nameL
      repeat' split
      all_goals simp
    unfold nameS
    rw [strOf_size, strOf_size, strOf_size, strOf_size, strOf_size]
    omega
  have gj := joined_five (strOf (Sp.txt x0 x1)) (nameS x2) (strOf (Lib.decDigits x3.toNat)) (strOf (Lib.decDigits x4.toNat)) (strOf (Lib.decDigits x5.toNat)) hsz x3 x4 x5
    (fun W h => Itoa_any x3 (by omega) (by omega) W h) (fun W h => Itoa_any x4 (by omega) (by omega) W h) (fun W h => Itoa_any x5 (by omega) (by omega) W h)
  rw [eL]
  obtain ⟨s, hs⟩ : ∃ s, s = strOf (Sp.txt x0 x1) := ⟨_, rfl⟩
  obtain ⟨t, ht⟩ : ∃ t, t = nameS x2 := ⟨_, rfl⟩
  obtain ⟨X, hX⟩ : ∃ X, X = strOf (Lib.decDigits x3.toNat) := ⟨_, rfl⟩
  obtain ⟨Y, hY⟩ : ∃ Y, Y = strOf (Lib.decDigits x4.toNat) := ⟨_, rfl⟩
  obtain ⟨Z, hZ⟩ : ∃ Z, Z = strOf (Lib.decDigits x5.toNat) := ⟨_, rfl⟩
  rw [← hs, ← ht, ← hX, ← hY, ← hZ] at gj ⊢
  rw [← hs] at g3
  rw [← ht] at g4
  have Gj := Lib.hid gj
  clear hr hq e3 eL hsz gj hs ht hX hY hZ hE
  go_enter Tryz.func30, Tryz.ntmps30
  go_wp2_with (refine wpList_load_st rfl 25 _ rfl S0.out 0 _ _ rfl rfl _ Tryz.underlying25 rfl (by rfl) ?_)
  refine (g1 _).mono ?_
  rintro e w1 ⟨rfl, hB⟩
  have S1 := Lib.hid (S0.out.on hB)
  clear hB g1 S0
  go_wp2_with fail
  refine (g2 _).mono ?_
  rintro e w2 ⟨rfl, rfl⟩
  clear g2
  have a0 := S1.out.cell 0 rfl 0 rfl
  have a1 := S1.out.cell 0 rfl 1 rfl
  go_wp2_with fail
  refine (g3 _).mono ?_
  rintro e w3 ⟨rfl, hB⟩
  have S2 := Lib.hid (S1.out.on hB)
  clear hB g3 S1 a0 a1
  have a2 := S2.out.cell 0 rfl 2 rfl
  go_wp2_with fail
  refine (g4 _).mono ?_
  rintro e w4 ⟨rfl, hB⟩
  have S3 := Lib.hid (S2.out.on hB)
  clear hB g4 S2 a2
  have a3 := S3.out.cell 0 rfl 3 rfl
  have a4 := S3.out.cell 0 rfl 4 rfl
  have a5 := S3.out.cell 0 rfl 5 rfl
  go_wp2_with fail
  refine (Gj.out w4.heap.size _ ⟨_, heap_alloc_new _ _⟩ ((S3.out.fact 0 rfl : Libs w4).below (below_new _ _))).mono ?_
  rintro e w5 ⟨rfl, hB⟩
  have HB := Lib.hid (below2 S3.out.below (below2 (below_new _ _) hB))
  clear hB Gj S3 a3 a4 a5
  go_wp2
  go_ret
  exact ⟨rfl, HB.out⟩
end Go.Proofs.YtpgichlaghhdeaaGreatDoor
