/-
  Layer 4 (spot): the document's rows hold.
-/
import Derived.Test.YtndpcnimebedcaaDoorSpotBeds
import Derived.Test.YtndpcnimebedcaaDoorRefSame
namespace Go.Proofs.YtndpcnimebedcaaDoor
open Go.RowKit

theorem SpotsAt.three (w : World) (a b c d e f : Int) (t : TypeId) : SpotsAt (w.alloc (.cells #[.int .i64 a, .int .i64 b, .int .i64 c, .int .i64 d, .int .i64 e, .int .i64 f] t)) (w.heap.size + 1) (some ⟨w.heap.size, 0, none⟩) [(a, b), (c, d), (e, f)] := fun i hi => by
  have hb := World.alloc_heap_new w (.cells #[.int .i64 a, .int .i64 b, .int .i64 c, .int .i64 d, .int .i64 e, .int .i64 f] t)
  refine ⟨w.heap.size, 0, rfl, by omega, ?_⟩
  simp only [World.cell?, hb]
  match i, hi with
  | 0, _ => exact ⟨rfl, rfl⟩
  | 1, _ => exact ⟨rfl, rfl⟩
  | 2, _ => exact ⟨rfl, rfl⟩
theorem IntsAt.two (w : World) (a b : Int) (t : TypeId) : IntsAt (w.alloc (.cells #[.int .i64 a, .int .i64 b] t)) (w.heap.size + 1) (some ⟨w.heap.size, 0, none⟩) [a, b] := fun i hi => by
  have hb := World.alloc_heap_new w (.cells #[.int .i64 a, .int .i64 b] t)
  refine ⟨w.heap.size, 0, rfl, by omega, ?_⟩
  simp only [World.cell?, hb]
  match i, hi with
  | 0, _ => rfl
  | 1, _ => rfl

theorem c_num : Sp.num 12 3 = 91 ∧ Sp.numE 12 3 = 0 ∧ Sp.atB 791 = 99 ∧ Sp.atC 791 = 7 ∧ Sp.atE 791 = 0 ∧ Sp.atB 792 = 0 ∧ Sp.atC 792 = 0 ∧ Sp.atE 792 = 1 ∧ Sp.may 12 3 = true ∧ Sp.less 12 3 99 7 = true := by decide +kernel
theorem c_txt : Sp.prn 12 3 = [49, 50, 47, 51] ∧ Sp.parB [49, 50, 47, 51] = 12 ∧ Sp.parC [49, 50, 47, 51] = 3 ∧ Sp.parE [49, 50, 47, 51] = 0 ∧ Sp.parB [48, 49, 50, 47, 51] = 0 ∧ Sp.parC [48, 49, 50, 47, 51] = 0 ∧ Sp.parE [48, 49, 50, 47, 51] = 20 := by decide +kernel
theorem c_beds : Sp.beds [(99, 7), (12, 3), (99, 7)] = [12, 99] := by
  rw [Sp.beds_eq]; decide +kernel

set_option maxRecDepth 10000 in
set_option maxHeartbeats 4000000 in
theorem spots_any (w : World) (hE : Errs w) :
    Calls Tryd.prog 17 #[] w fun e w' => e = .returned (.bool true) ∧ Below w.heap.size w w' := by
  obtain ⟨n1, n2, n3, n4, n5, n6, n7, n8, n9, n10⟩ := c_num
  obtain ⟨t1, t2, t3, t4, t5, t6, t7⟩ := c_txt
  have hN := fun W => Number_any 12 3 W
  rw [n1, n2] at hN
  have hA := fun W => At_any 791 W
  rw [n3, n4, n5] at hA
  have hA2 := fun W => At_any 792 W
  rw [n6, n7, n8] at hA2
  have hP := fun W => Print_any 12 3 W
  rw [t1, n2] at hP
  have hQ := fun W hW => Parse_any ⟨#[49, 50, 47, 51]⟩ (by decide) W hW
  rw [show bl ⟨#[49, 50, 47, 51]⟩ = [49, 50, 47, 51] from rfl, t2, t3, t4] at hQ
  have hQ2 := fun W hW => Parse_any ⟨#[48, 49, 50, 47, 51]⟩ (by decide) W hW
  rw [show bl ⟨#[48, 49, 50, 47, 51]⟩ = [48, 49, 50, 47, 51] from rfl, t5, t6, t7] at hQ2
  have hI := fun W => Is_any 12 3 W
  rw [n9] at hI
  have hL := fun W => Less_any 12 3 99 7 W
  rw [n10] at hL
  have hB := fun A cap W hW => Beds_any A cap [(99, 7), (12, 3), (99, 7)] W hW (by decide)
  rw [c_beds] at hB
  clear n1 n2 n3 n4 n5 n6 n7 n8 n9 n10 t1 t2 t3 t4 t5 t6 t7
  have HE := Lib.hid hE
  clear hE
  go_enter Tryd.func17, Tryd.ntmps17
  go_wp2_with fail
  refine (hN _).mono ?_
  rintro e w1 ⟨rfl, hB1⟩
  have kx := (Two.new w 12 3 23).below hB1
  have hB0 := below2 (below_new _ _) hB1
  clear hN hB1
  go_wp2_with fail
  refine (hA _).mono ?_
  rintro e w2 ⟨rfl, hB1⟩
  replace kx := kx.below hB1
  replace hB0 := below2 hB0 hB1
  clear hA hB1
  replace kx := kx.alloc (.cells #[.int .i64 99, .int .i64 7] 23)
  have ky := Two.new w2 99 7 23
  replace hB0 := below2 hB0 (below_new w2 (.cells #[.int .i64 99, .int .i64 7] 23))
  have kx0 := kx.c0
  have kx1 := kx.c1
  go_wp2_with fail
  refine (hP _).mono ?_
  rintro e w3 ⟨rfl, hB1⟩
  replace kx := kx.below hB1
  replace ky := ky.below hB1
  replace hB0 := below2 hB0 hB1
  have HE3 := Lib.hid (HE.out.below hB0)
  clear hP hB1 kx0 kx1
  go_wp2_with fail
  refine (hQ _ HE3.out).mono ?_
  rintro e w4 ⟨rfl, hB1⟩
  replace kx := kx.below hB1
  replace ky := ky.below hB1
  replace hB0 := below2 hB0 hB1
  replace kx := kx.alloc (.cells #[.int .i64 12, .int .i64 3] 23)
  replace ky := ky.alloc (.cells #[.int .i64 12, .int .i64 3] 23)
  replace hB0 := below2 hB0 (below_new w4 (.cells #[.int .i64 12, .int .i64 3] 23))
  have kz := Two.new w4 12 3 23
  have HE4 := Lib.hid (HE.out.below hB0)
  clear hQ hB1
  go_wp2_with fail
  refine (hQ2 _ HE4.out).mono ?_
  rintro e w5 ⟨rfl, hB1⟩
  replace kx := kx.below hB1
  replace ky := ky.below hB1
  replace kz := kz.below hB1
  replace hB0 := below2 hB0 hB1
  replace kx := kx.alloc (.cells #[.int .i64 0, .int .i64 0] 23)
  replace ky := ky.alloc (.cells #[.int .i64 0, .int .i64 0] 23)
  replace kz := kz.alloc (.cells #[.int .i64 0, .int .i64 0] 23)
  replace hB0 := below2 hB0 (below_new w5 (.cells #[.int .i64 0, .int .i64 0] 23))
  clear hQ2 hB1
  go_wp2_with fail
  refine (hA2 _).mono ?_
  rintro e w6 ⟨rfl, hB1⟩
  replace kx := kx.below hB1
  replace ky := ky.below hB1
  replace kz := kz.below hB1
  replace hB0 := below2 hB0 hB1
  replace kx := kx.alloc (.cells #[.int .i64 0, .int .i64 0] 23)
  replace ky := ky.alloc (.cells #[.int .i64 0, .int .i64 0] 23)
  replace kz := kz.alloc (.cells #[.int .i64 0, .int .i64 0] 23)
  replace hB0 := below2 hB0 (below_new w6 (.cells #[.int .i64 0, .int .i64 0] 23))
  clear hA2 hB1
  have kx0 := kx.c0
  have kx1 := kx.c1
  have ky0 := ky.c0
  have ky1 := ky.c1
  have kz0 := kz.c0
  have kz1 := kz.c1
  have q1 : (⟨#[49, 50, 47, 51]⟩ : ByteArray) = strOf [49, 50, 47, 51] := rfl
  go_wp2_with fail
  refine (hI _).mono ?_
  rintro e w7 ⟨rfl, hB1⟩
  replace kx := kx.below hB1
  replace ky := ky.below hB1
  replace kz := kz.below hB1
  replace hB0 := below2 hB0 hB1
  clear hI hB1 kx0 kx1 ky0 ky1 kz0 kz1 q1
  have kx0 := kx.c0
  have kx1 := kx.c1
  have ky0 := ky.c0
  have ky1 := ky.c1
  go_wp2_with fail
  refine (hL _).mono ?_
  rintro e w8 ⟨rfl, hB1⟩
  replace kx := kx.below hB1
  replace ky := ky.below hB1
  replace hB0 := below2 hB0 hB1
  clear hL hB1 kx0 kx1 ky0 ky1
  have kx0 := kx.c0
  have kx1 := kx.c1
  have ky0 := ky.c0
  have ky1 := ky.c1
  go_wp2_with fail
  have hS := SpotsAt.three w8 99 7 12 3 99 7 23
  have hS2 : SpotsAt _ (w8.alloc (.cells #[.int .i64 99, .int .i64 7, .int .i64 12, .int .i64 3, .int .i64 99, .int .i64 7] 23)).heap.size _ _ := hS.more (by simp)
  refine (hB _ _ _ hS2).mono ?_
  rintro e w9 ⟨v, rfl, hown, hB1⟩
  replace hB0 := below2 (below2 hB0 (below_new _ _)) hB1
  obtain ⟨A1, c1, rfl⟩ := ownsRow_slice hown
  have hI1 : IntsAt w9 w9.heap.size A1 [12, 99] := IntsAt.of_own hown
  clear hS hS2 hB hB1 hown kx0 kx1 ky0 ky1
  have hI2 := IntsAt.two w9 12 99 3
  replace hI1 := (hI1.below (below_new w9 (.cells #[.int .i64 12, .int .i64 99] 3)) (Nat.le_refl _)).more (B' := (w9.alloc (.cells #[.int .i64 12, .int .i64 99] 3)).heap.size) (by simp)
  have hSm := Same_any A1 (some ⟨w9.heap.size, 0, none⟩) c1 2 [12, 99] [12, 99] _ hI1 (hI2.more (by simp)) (by decide) (by decide)
  rw [decide_eq_true (rfl : ([12, 99] : List Int) = [12, 99])] at hSm
  clear hI1 hI2
  go_wp2_with fail
  refine hSm.mono ?_
  rintro e w10 ⟨rfl, n, rfl⟩
  go_wp2
  go_ret
  exact ⟨rfl, below_drew (below2 hB0 (below_new _ _)) _⟩

end Go.Proofs.YtndpcnimebedcaaDoor
