/-
  Layer 8 (board): the document's rows.
-/
import Derived.Test.YthlojadkgpmnmaaBoardK
import Derived.BigQuiet
import Derived.Deep.QuietTactic
namespace Go.Proofs.Ythlojadkgpmnmaa
open Go.RowKit

def bdA : Alm := ⟨1, 0, 1, 2, 0, 30⟩
def bdO : Alm := ⟨2, 0, 1, 2, 0, 30⟩
def bdX : Alm := ⟨1, 0, 2, 2, 0, 30⟩
theorem bNew (HK : Hid BoardK) (W : World) : Calls Try.prog 18 #[.int .i64 1] W (GivesB W ⟨1, 0, []⟩ 0 0) := HK.out.new 1 0 W rfl
theorem bOpen (HK : Hid BoardK) (W : World) : Calls Try.prog 45 #[.agg #[.int .i64 1, .int .i64 0], .int .i64 2, .int .i64 0] W fun e w' => e = .returned (.tuple #[.agg #[.int .i64 1, .int .i64 0, .int .i64 1, .int .i64 2, .int .i64 0, .int .i64 30], .int .i64 0]) ∧ Below W.heap.size W w' := HK.out.opn 1 0 2 0 W
theorem bPut (HK : Hid BoardK) (A : Option Addr) (c : Nat) (W : World) (hA : AlmsAt W W.heap.size A []) (h0 : A = none → c = 0) : Calls Try.prog 10 #[.agg #[.int .i64 1, .int .i64 0, .slice A 0 c], .agg #[.int .i64 1, .int .i64 0, .int .i64 1, .int .i64 2, .int .i64 0, .int .i64 30]] W (GivesB W ⟨1, 0, [bdA]⟩ 1 0) :=
  HK.out.put 1 0 A 0 c [] bdA 1 W ⟨rfl, hA, h0, by omega⟩ rfl
theorem bPut2 (HK : Hid BoardK) (A : Option Addr) (c : Nat) (W : World) (hA : AlmsAt W W.heap.size A [bdA]) (h0 : A = none → c = 0) : Calls Try.prog 10 #[.agg #[.int .i64 1, .int .i64 0, .slice A 1 c], .agg #[.int .i64 2, .int .i64 0, .int .i64 1, .int .i64 2, .int .i64 0, .int .i64 30]] W (GivesB W ⟨0, 0, []⟩ 0 81) :=
  HK.out.put 1 0 A 1 c [bdA] bdO 0 W ⟨rfl, hA, h0, by omega⟩ rfl
theorem bDrop1 (HK : Hid BoardK) (A : Option Addr) (c : Nat) (W : World) (hA : AlmsAt W W.heap.size A [bdA]) (h0 : A = none → c = 0) : Calls Try.prog 12 #[.agg #[.int .i64 1, .int .i64 0, .slice A 1 c], .agg #[.int .i64 2, .int .i64 0]] W (GivesB W ⟨0, 0, []⟩ 0 80) :=
  HK.out.drop 1 0 A 1 c [bdA] 2 0 0 W ⟨rfl, hA, h0, by omega⟩ rfl
theorem bDrop2 (HK : Hid BoardK) (A : Option Addr) (c : Nat) (W : World) (hA : AlmsAt W W.heap.size A [bdA]) (h0 : A = none → c = 0) : Calls Try.prog 12 #[.agg #[.int .i64 1, .int .i64 0, .slice A 1 c], .agg #[.int .i64 1, .int .i64 0]] W (GivesB W ⟨1, 0, []⟩ 0 0) :=
  HK.out.drop 1 0 A 1 c [bdA] 1 0 0 W ⟨rfl, hA, h0, by omega⟩ rfl
theorem bPass (HK : Hid BoardK) (A : Option Addr) (c : Nat) (W : World) (hA : AlmsAt W W.heap.size A [bdA]) (h0 : A = none → c = 0) : Calls Try.prog 14 #[.agg #[.int .i64 1, .int .i64 0, .slice A 1 c], .int .i64 30] W (GivesB W ⟨1, 30, [bdX]⟩ 1 0) :=
  HK.out.pass 1 0 A 1 c [bdA] 30 1 W ⟨rfl, hA, h0, by omega⟩ rfl
theorem bGet (HK : Hid BoardK) (A : Option Addr) (c : Nat) (W : World) (hA : AlmsAt W W.heap.size A [bdX]) (h0 : A = none → c = 0) : Calls Try.prog 16 #[.agg #[.int .i64 1, .int .i64 30, .slice A 1 c], .agg #[.int .i64 1, .int .i64 0]] W fun e w' => e = .returned (.tuple #[.agg #[.int .i64 1, .int .i64 0, .int .i64 2, .int .i64 2, .int .i64 0, .int .i64 30], .bool true]) ∧ Below W.heap.size W w' :=
  HK.out.get 1 30 A 1 c [bdX] 1 0 W ⟨rfl, hA, h0, by omega⟩
theorem bIs (HK : Hid BoardK) (A : Option Addr) (c : Nat) (W : World) (hA : AlmsAt W W.heap.size A [bdX]) (h0 : A = none → c = 0) : Calls Try.prog 27 #[.agg #[.int .i64 1, .int .i64 30, .slice A 1 c]] W fun e w' => e = .returned (.bool true) ∧ Below W.heap.size W w' :=
  HK.out.is 1 30 A 1 c [bdX] W ⟨rfl, hA, h0, by omega⟩
theorem bOf1 (HK : Hid BoardK) (A B : Option Addr) (c cb : Nat) (W : World) (hA : AlmsAt W W.heap.size A [bdX]) (h0 : A = none → c = 0) (hB : IntsAt W W.heap.size B [1]) : Calls Try.prog 21 #[.agg #[.int .i64 1, .int .i64 30, .slice A 1 c], .slice B 1 cb] W (OwnedA W [bdX]) :=
  HK.out.gather 1 30 A 1 c [bdX] B 1 cb [1] W ⟨rfl, hA, h0, by omega⟩ rfl hB (by omega)
theorem bOf2 (HK : Hid BoardK) (A B : Option Addr) (c cb : Nat) (W : World) (hA : AlmsAt W W.heap.size A [bdX]) (h0 : A = none → c = 0) (hB : IntsAt W W.heap.size B [2]) : Calls Try.prog 21 #[.agg #[.int .i64 1, .int .i64 30, .slice A 1 c], .slice B 1 cb] W (OwnedA W []) :=
  HK.out.gather 1 30 A 1 c [bdX] B 1 cb [2] W ⟨rfl, hA, h0, by omega⟩ rfl hB (by omega)

-- WALK (printed by tools/gen-boardrung.py)
set_option maxRecDepth 10000 in
set_option maxHeartbeats 4000000 in
theorem boards_any (HK : Hid BoardK) (HE : Hid SameK) (w : World) : Calls Try.prog 26 #[] w fun e w' => e = .returned (.bool true) ∧ Below w.heap.size w w' := by
  have HS := Lib.hid (St.start w)
  go_enter Try.func26, Try.ntmps26
  go_wp2_with fail
  refine (bNew HK _).mono ?_
  rintro e w1 ⟨A1, c1, rfl, hO, hB⟩
  replace HS := Lib.hid ((HS.out.on hB).more (rowF A1 []) hO.alms.1)
  have N1 := Lib.hid hO.alms.2
  clear hO hB
  go_wp2_with (first
    | (refine wpList_store_st rfl 24 _ _ rfl HS.out _ #[.int .i64 1, .int .i64 0, .slice A1 0 c1] _ rfl rfl (by rfl) rfl (bd_one 1 0 A1 0 c1) ?_; intro p1 v1 hp hS hBn; (try rw [← hp]); have HBn := Lib.hid hBn; have Hp := Lib.hid hp; have H0 := HS; clear HS; have HS := Lib.hid hS; clear hS hp hBn))
  refine (bOpen HK _).mono ?_
  rintro e w2 ⟨rfl, hB⟩
  replace HS := Lib.hid (HS.out.on hB)
  clear hB
  go_wp2_with (first
    | (refine wpList_store_st rfl 28 _ _ rfl HS.out _ #[.int .i64 1, .int .i64 0, .int .i64 1, .int .i64 2, .int .i64 0, .int .i64 30] _ rfl rfl (by rfl) rfl (six_one bdA) ?_; intro p2 v2 hp hS hBn; (try rw [← hp]); have HBn := Lib.hid hBn; have Hp := Lib.hid hp; have H0 := HS; clear HS; have HS := Lib.hid hS; clear hS hp hBn)
    | (refine wpList_load_st rfl 28 _ rfl HS.out 0 _ _ rfl rfl _ Try.underlying28 rfl (by rfl) ?_)
    | (refine wpList_load_st rfl 24 _ rfl HS.out 1 _ _ rfl rfl _ Try.underlying24 rfl (by rfl) ?_))
  refine (bPut HK A1 c1 _ (HS.out.fact 0 rfl) N1.out).mono ?_
  rintro e w3 ⟨A3, c3, rfl, hO, hB⟩
  replace HS := Lib.hid ((HS.out.on hB).more (rowF A3 [bdA]) hO.alms.1)
  have N3 := Lib.hid hO.alms.2
  clear hO hB
  go_wp2_with (first
    | (refine wpList_store_st rfl 24 _ _ rfl HS.out _ #[.int .i64 1, .int .i64 0, .slice A3 1 c3] _ rfl rfl (by rfl) rfl (bd_one 1 0 A3 1 c3) ?_; intro p3 v3 hp hS hBn; (try rw [← hp]); have HBn := Lib.hid hBn; have Hp := Lib.hid hp; have H0 := HS; clear HS; have HS := Lib.hid hS; clear hS hp hBn)
    | (refine wpList_load_st rfl 28 _ rfl HS.out 1 _ _ rfl rfl _ Try.underlying28 rfl (by rfl) ?_)
    | (refine wpList_store_st rfl 28 _ _ rfl HS.out _ #[.int .i64 1, .int .i64 0, .int .i64 1, .int .i64 2, .int .i64 0, .int .i64 30] _ rfl rfl (by rfl) rfl (six_one bdA) ?_; intro p4 v4 hp hS hBn; (try rw [← hp]); have HBn := Lib.hid hBn; have Hp := Lib.hid hp; have H0 := HS; clear HS; have HS := Lib.hid hS; clear hS hp hBn)
    | (refine wpList_storec_st rfl 3 _ _ rfl H0.out HS.out HBn.out (by rw [Hp.out]; exact Nat.le_refl _) 0 (.int .i64 2) _ rfl rfl rfl (by rfl) rfl ?_; intro v5 hS _; clear HS; have HS := Lib.hid hS; clear hS)
    | (refine wpList_load_st rfl 28 _ rfl HS.out 0 _ _ rfl rfl _ Try.underlying28 rfl (by rfl) ?_)
    | (refine wpList_load_st rfl 24 _ rfl HS.out 1 _ _ rfl rfl _ Try.underlying24 rfl (by rfl) ?_))
  refine (bPut2 HK A3 c3 _ (HS.out.fact 0 rfl) N3.out).mono ?_
  rintro e w5 ⟨A5, c5, rfl, hO, hB⟩
  replace HS := Lib.hid ((HS.out.on hB).more (rowF A5 []) hO.alms.1)
  have N5 := Lib.hid hO.alms.2
  clear hO hB
  go_wp2_with (first
    | (refine wpList_store_st rfl 24 _ _ rfl HS.out _ #[.int .i64 0, .int .i64 0, .slice A5 0 c5] _ rfl rfl (by rfl) rfl (bd_one 0 0 A5 0 c5) ?_; intro p5 v5 hp hS hBn; (try rw [← hp]); have HBn := Lib.hid hBn; have Hp := Lib.hid hp; have H0 := HS; clear HS; have HS := Lib.hid hS; clear hS hp hBn; have q0 := HS.out.cell 1 rfl 0 rfl; have q1 := HS.out.cell 1 rfl 1 rfl)
    | (refine wpList_load_st rfl 24 _ rfl HS.out 2 _ _ rfl rfl _ Try.underlying24 rfl (by rfl) ?_))
  refine (bDrop1 HK A3 c3 _ (HS.out.fact 1 rfl) N3.out).mono ?_
  rintro e w6 ⟨A6, c6, rfl, hO, hB⟩
  replace HS := Lib.hid ((HS.out.on hB).more (rowF A6 []) hO.alms.1)
  have N6 := Lib.hid hO.alms.2
  clear hO hB
  clear q0 q1
  go_wp2_with (first
    | (refine wpList_store_st rfl 24 _ _ rfl HS.out _ #[.int .i64 0, .int .i64 0, .slice A6 0 c6] _ rfl rfl (by rfl) rfl (bd_one 0 0 A6 0 c6) ?_; intro p6 v6 hp hS hBn; (try rw [← hp]); have HBn := Lib.hid hBn; have Hp := Lib.hid hp; have H0 := HS; clear HS; have HS := Lib.hid hS; clear hS hp hBn; have q0 := HS.out.cell 4 rfl 0 rfl; have q1 := HS.out.cell 4 rfl 1 rfl)
    | (refine wpList_load_st rfl 24 _ rfl HS.out 3 _ _ rfl rfl _ Try.underlying24 rfl (by rfl) ?_))
  refine (bDrop2 HK A3 c3 _ (HS.out.fact 2 rfl) N3.out).mono ?_
  rintro e w7 ⟨A7, c7, rfl, hO, hB⟩
  replace HS := Lib.hid ((HS.out.on hB).more (rowF A7 []) hO.alms.1)
  have N7 := Lib.hid hO.alms.2
  clear hO hB
  clear q0 q1
  go_wp2_with (first
    | (refine wpList_store_st rfl 24 _ _ rfl HS.out _ #[.int .i64 1, .int .i64 0, .slice A7 0 c7] _ rfl rfl (by rfl) rfl (bd_one 1 0 A7 0 c7) ?_; intro p7 v7 hp hS hBn; (try rw [← hp]); have HBn := Lib.hid hBn; have Hp := Lib.hid hp; have H0 := HS; clear HS; have HS := Lib.hid hS; clear hS hp hBn)
    | (refine wpList_load_st rfl 24 _ rfl HS.out 4 _ _ rfl rfl _ Try.underlying24 rfl (by rfl) ?_))
  refine (bPass HK A3 c3 _ (HS.out.fact 3 rfl) N3.out).mono ?_
  rintro e w8 ⟨A8, c8, rfl, hO, hB⟩
  replace HS := Lib.hid ((HS.out.on hB).more (rowF A8 [bdX]) hO.alms.1)
  have N8 := Lib.hid hO.alms.2
  clear hO hB
  go_wp2_with (first
    | (refine wpList_store_st rfl 24 _ _ rfl HS.out _ #[.int .i64 1, .int .i64 30, .slice A8 1 c8] _ rfl rfl (by rfl) rfl (bd_one 1 30 A8 1 c8) ?_; intro p8 v8 hp hS hBn; (try rw [← hp]); have HBn := Lib.hid hBn; have Hp := Lib.hid hp; have H0 := HS; clear HS; have HS := Lib.hid hS; clear hS hp hBn; have q0 := HS.out.cell 6 rfl 0 rfl; have q1 := HS.out.cell 6 rfl 1 rfl)
    | (refine wpList_load_st rfl 24 _ rfl HS.out 0 _ _ rfl rfl _ Try.underlying24 rfl (by rfl) ?_))
  refine (bGet HK A8 c8 _ (HS.out.fact 0 rfl) N8.out).mono ?_
  rintro e w9 ⟨rfl, hB⟩
  replace HS := Lib.hid (HS.out.on hB)
  clear hB
  clear q0 q1
  go_wp2_with (first
    | (refine wpList_store_st rfl 28 _ _ rfl HS.out _ #[.int .i64 1, .int .i64 0, .int .i64 2, .int .i64 2, .int .i64 0, .int .i64 30] _ rfl rfl (by rfl) rfl (six_one bdX) ?_; intro p9 v9 hp hS hBn; (try rw [← hp]); have HBn := Lib.hid hBn; have Hp := Lib.hid hp; have H0 := HS; clear HS; have HS := Lib.hid hS; clear hS hp hBn; have d0 := HS.out.cell 2 rfl 0 rfl; have b0 := HS.out.cell 8 rfl 0 rfl; have d1 := HS.out.cell 2 rfl 1 rfl; have b1 := HS.out.cell 8 rfl 1 rfl; have d2 := HS.out.cell 2 rfl 2 rfl; have b2 := HS.out.cell 8 rfl 2 rfl))
  refine (HE.out 1 0 A7 A1 0 c7 c1 [] _ rfl (HS.out.fact 1 rfl) (HS.out.fact 5 rfl) (by omega)).mono ?_
  rintro e w10 ⟨rfl, hB⟩
  replace HS := Lib.hid (HS.out.on hB)
  clear hB
  clear d0 d1 d2 b0 b1 b2
  have x0 := HS.out.cell 1 rfl 0 rfl
  have x1 := HS.out.cell 1 rfl 1 rfl
  have x2 := HS.out.cell 1 rfl 2 rfl
  have y1 := HS.out.cell 0 rfl 2 rfl
  go_wp2_with fail
  refine (bIs HK A8 c8 _ (HS.out.fact 0 rfl) N8.out).mono ?_
  rintro e w11 ⟨rfl, hB⟩
  replace HS := Lib.hid (HS.out.on hB)
  clear hB
  clear x0 x1 x2 y1
  have x0 := HS.out.cell 1 rfl 0 rfl
  have x1 := HS.out.cell 1 rfl 1 rfl
  have x2 := HS.out.cell 1 rfl 2 rfl
  have HS2 := Lib.hid ((HS.out.new #[.int .i64 1] 3).more (numF (some ⟨w11.heap.size, 0, none⟩) [1]) (IntsAt.one w11 1 3))
  go_wp2_with fail
  refine (bOf1 HK A8 _ c8 _ _ (HS2.out.fact 1 rfl) N8.out (HS2.out.fact 0 rfl)).mono ?_
  rintro e w12 ⟨v, rfl, hO, hB⟩
  obtain ⟨Ao, co, rfl, _, _, _⟩ := hO.slice
  clear HS
  have HS := Lib.hid (HS2.out.on hB)
  clear hB hO HS2 x0 x1 x2
  have x0 := HS.out.cell 2 rfl 0 rfl
  have x1 := HS.out.cell 2 rfl 1 rfl
  have x2 := HS.out.cell 2 rfl 2 rfl
  have HS2 := Lib.hid ((HS.out.new #[.int .i64 2] 3).more (numF (some ⟨w12.heap.size, 0, none⟩) [2]) (IntsAt.one w12 2 3))
  go_wp2_with fail
  refine (bOf2 HK A8 _ c8 _ _ (HS2.out.fact 2 rfl) N8.out (HS2.out.fact 0 rfl)).mono ?_
  rintro e w13 ⟨v, rfl, hO, hB⟩
  obtain ⟨Ap, cp, rfl, _, _, _⟩ := hO.slice
  clear HS
  have HS := Lib.hid (HS2.out.on hB)
  clear hB hO HS2 x0 x1 x2
  go_wp2
  go_ret
  exact ⟨rfl, HS.out.below⟩
end Go.Proofs.Ythlojadkgpmnmaa
