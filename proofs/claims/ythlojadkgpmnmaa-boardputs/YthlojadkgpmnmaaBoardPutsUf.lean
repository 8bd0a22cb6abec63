/-
  Layer 8 (board): the law BoardPuts, over the contracts (printed by tools/gen-boardputs.py).
-/
import Derived.Test.YthlojadkgpmnmaaBoardH
namespace Go.Proofs.Ythlojadkgpmnmaa
open Go.RowKit

set_option maxRecDepth 10000 in
set_option maxHeartbeats 4000000 in
theorem boardPuts_unf (HK : Hid BoardK) (HE : Hid SameK) (m n : Int) (A : Option Addr) (l c : Nat) (ls : List Alm) (a0 a1 a2 a3 a4 a5 sb sc : Int) (w : World) (hl : l = ls.length) (hA : AlmsAt w w.heap.size A ls) (h0 : A = none → c = 0) (hf : l ≤ 60) (hE : Bd.putE m n ls ⟨a0, a1, a2, a3, a4, a5⟩ = 0) (hs : true = !decide (sb = a0 ∧ sc = a1)) (hh : Bd.has a0 a1 ls = false) :
    Calls Try.prog 4 #[.agg #[.int .i64 m, .int .i64 n, .slice A l c], .agg #[.int .i64 a0, .int .i64 a1, .int .i64 a2, .int .i64 a3, .int .i64 a4, .int .i64 a5], .agg #[.int .i64 sb, .int .i64 sc]] w fun e w' => e = .returned (.bool true) ∧ Below w.heap.size w w' := by
  obtain ⟨C, hC⟩ : ∃ C, C = Bd.putL ⟨a0, a1, a2, a3, a4, a5⟩ ls := ⟨_, rfl⟩
  obtain ⟨q, hq⟩ : ∃ q, q = C.length := ⟨_, rfl⟩
  have hI := (Bd.putE_iff.1 hE).1
  have hIC : Bd.isB m n C = true := by rw [hC]; exact Bd.put_isB hE
  have hq61 : q ≤ 61 := by rw [hq, hC, Bd.put_len (Bd.rows_iff.1 (Bd.isB_iff.1 hI).2.2.2).2]; split <;> omega
  have gx : Bd.getA a0 a1 C = (⟨a0, a1, a2, a3, a4, a5⟩, true) := by rw [hC]; exact Bd.getA_put ⟨a0, a1, a2, a3, a4, a5⟩ ls
  have hD : ls = Bd.dropL a0 a1 C := by rw [hC]; exact ((Bd.drop_put ⟨a0, a1, a2, a3, a4, a5⟩ ls).trans (Bd.drop_none (Bd.getA_has hh).2)).symm
  have hd := hl
  have hd61 : l ≤ 61 := by omega
  have hID : Bd.isB m n ls = true := by rw [hD]; exact Bd.drop_isB a0 a1 hIC
  obtain ⟨⟨⟨y0, y1, y2, y3, y4, y5⟩, was⟩, gy⟩ : ∃ r, Bd.getA sb sc ls = r := ⟨_, rfl⟩
  have gz : Bd.getA sb sc C = (⟨y0, y1, y2, y3, y4, y5⟩, was) := by rw [hC, Bd.getA_other (a := ⟨a0, a1, a2, a3, a4, a5⟩) (by intro h; simp [h.1, h.2] at hs), gy]
  have eD : Bd.dropE m n C a0 a1 = 0 := by unfold Bd.dropE Bd.has; rw [hIC, gx]; rfl
  have eL : Bd.dropE m n ls a0 a1 = 80 := by unfold Bd.dropE; rw [hI, hh]; rfl
  have HS0 := Lib.hid (((St.start w).more (rowF A ls) hA).box3 #[.int .i64 m, .int .i64 n, .slice A l c] #[.int .i64 a0, .int .i64 a1, .int .i64 a2, .int .i64 a3, .int .i64 a4, .int .i64 a5] #[.int .i64 sb, .int .i64 sc] 24 28 26)
  have HF := fun W => far_v m n A l c false (by simp; omega) W
  clear hA
  have G1 := fun (W : World) (h : AlmsAt W W.heap.size A ls) => Lib.hid (kPut0 HK m n A l c ls ⟨a0, a1, a2, a3, a4, a5⟩ C q hE hC hq W ⟨hl, h, h0, by omega⟩)
  have G2 := fun (W : World) (A1 : Option Addr) (c1 : Nat) (h : AlmsAt W W.heap.size A1 C) (h1 : A1 = none → c1 = 0) => Lib.hid (kGet HK m n A1 q c1 C a0 a1 ⟨a0, a1, a2, a3, a4, a5⟩ true gx W ⟨hq, h, h1, by omega⟩)
  have G3 := fun (W : World) (h : AlmsAt W W.heap.size A ls) => Lib.hid (kGet HK m n A l c ls sb sc ⟨y0, y1, y2, y3, y4, y5⟩ was gy W ⟨hl, h, h0, by omega⟩)
  have G4 := fun (W : World) (A1 : Option Addr) (c1 : Nat) (h : AlmsAt W W.heap.size A1 C) (h1 : A1 = none → c1 = 0) => Lib.hid (kGet HK m n A1 q c1 C sb sc ⟨y0, y1, y2, y3, y4, y5⟩ was gz W ⟨hq, h, h1, by omega⟩)
  have G5 := fun (W : World) (A1 : Option Addr) (c1 : Nat) (h : AlmsAt W W.heap.size A1 C) (h1 : A1 = none → c1 = 0) => Lib.hid (kDrop0 HK m n A1 q c1 C a0 a1 ls l eD hD hd W ⟨hq, h, h1, by omega⟩)
  have G6 := fun (W : World) (h : AlmsAt W W.heap.size A ls) => Lib.hid (kDropE HK m n A l c ls a0 a1 80 eL (by decide) W ⟨hl, h, h0, by omega⟩)
  have G7 := fun (W : World) (A1 : Option Addr) (c1 : Nat) (h : AlmsAt W W.heap.size A1 C) (h1 : A1 = none → c1 = 0) => Lib.hid (kIs HK m n A1 q c1 C true hIC W ⟨hq, h, h1, by omega⟩)
  have G8 := fun (W : World) (A1 : Option Addr) (c1 : Nat) (h : AlmsAt W W.heap.size A1 ls) (h1 : A1 = none → c1 = 0) => Lib.hid (kIs HK m n A1 l c1 ls true hID W ⟨hd, h, h1, by omega⟩)
  have G9 := fun (W : World) (A1 A2 : Option Addr) (c1 c2 : Nat) (h : AlmsAt W W.heap.size A1 ls) (h1 : AlmsAt W W.heap.size A2 ls) => Lib.hid (HE.out m n A1 A2 l c1 c2 ls W hd h h1 (by omega))
  have hqs := fun W => run_neq_sp sb sc a0 a1 true hs W
  clear hs hI hIC hID hq61 hd61 gx gy gz eD eL hC hq hD hd hE hl h0 hf hh
  go_enter Try.func4, Try.ntmps4
  go_wp2_with fail
  refine (HF _).mono ?_
  rintro e w1 ⟨rfl, hB⟩
  have HS := Lib.hid (HS0.out.on hB)
  clear hB HS0 HF
  obtain ⟨p3, hp3⟩ : ∃ p, p = w.heap.size + 1 + 1 := ⟨_, rfl⟩
  rw [← hp3] at HS ⊢
  clear hp3
  obtain ⟨p2, hp2⟩ : ∃ p, p = w.heap.size + 1 := ⟨_, rfl⟩
  rw [← hp2] at HS ⊢
  clear hp2
  obtain ⟨p1, hp1⟩ : ∃ p, p = w.heap.size := ⟨_, rfl⟩
  rw [← hp1] at HS ⊢
  clear hp1
  go_wp2_with (first
    | (refine wpList_load_st rfl 24 _ rfl HS.out 2 _ _ rfl rfl _ Try.underlying24 rfl (by rfl) ?_)
    | (refine wpList_load_st rfl 28 _ rfl HS.out 1 _ _ rfl rfl _ Try.underlying28 rfl (by rfl) ?_))
  refine ((G1 _ (HS.out.fact 0 rfl)).out).mono ?_
  rintro e w2 ⟨A1, c1, rfl, hO, hB⟩
  replace HS := Lib.hid ((HS.out.on hB).more (rowF A1 C) hO.alms.1)
  have N1 := Lib.hid hO.alms.2
  clear hO hB G1
  go_wp2_with (first
    | (refine wpList_store_st rfl 24 _ _ rfl HS.out _ #[.int .i64 m, .int .i64 n, .slice A1 q c1] _ rfl rfl (by rfl) rfl (bd_one m n A1 q c1) ?_; intro p4 v4 hp hS hBn; (try rw [← hp]); have HBn := Lib.hid hBn; have Hp := Lib.hid hp; have H0 := HS; clear HS; have HS := Lib.hid hS; clear hS hp hBn; have q0 := HS.out.cell 2 rfl 0 rfl; have q1 := HS.out.cell 2 rfl 1 rfl)
    | (refine wpList_load_st rfl 24 _ rfl HS.out 0 _ _ rfl rfl _ Try.underlying24 rfl (by rfl) ?_))
  refine ((G2 _ A1 c1 (HS.out.fact 0 rfl) N1.out).out).mono ?_
  rintro e w3 ⟨rfl, hB⟩
  replace HS := Lib.hid (HS.out.on hB)
  clear hB
  clear q0 q1 G2
  go_wp2_with (first
    | (refine wpList_store_st rfl 28 _ _ rfl HS.out _ #[.int .i64 a0, .int .i64 a1, .int .i64 a2, .int .i64 a3, .int .i64 a4, .int .i64 a5] _ rfl rfl (by rfl) rfl (six_one ⟨a0, a1, a2, a3, a4, a5⟩) ?_; intro p5 v5 hp hS hBn; (try rw [← hp]); have HBn := Lib.hid hBn; have Hp := Lib.hid hp; have H0 := HS; clear HS; have HS := Lib.hid hS; clear hS hp hBn)
    | (refine wpList_load_st rfl 24 _ rfl HS.out 4 _ _ rfl rfl _ Try.underlying24 rfl (by rfl) ?_)
    | (refine wpList_load_st rfl 26 _ rfl HS.out 2 _ _ rfl rfl _ Try.underlying26 rfl (by rfl) ?_))
  refine ((G3 _ (HS.out.fact 1 rfl)).out).mono ?_
  rintro e w4 ⟨rfl, hB⟩
  replace HS := Lib.hid (HS.out.on hB)
  clear hB
  clear G3
  go_wp2_with (first
    | (refine wpList_store_st rfl 28 _ _ rfl HS.out _ #[.int .i64 y0, .int .i64 y1, .int .i64 y2, .int .i64 y3, .int .i64 y4, .int .i64 y5] _ rfl rfl (by rfl) rfl (six_one ⟨y0, y1, y2, y3, y4, y5⟩) ?_; intro p6 v6 hp hS hBn; (try rw [← hp]); have HBn := Lib.hid hBn; have Hp := Lib.hid hp; have H0 := HS; clear HS; have HS := Lib.hid hS; clear hS hp hBn)
    | (refine wpList_load_st rfl 24 _ rfl HS.out 2 _ _ rfl rfl _ Try.underlying24 rfl (by rfl) ?_)
    | (refine wpList_load_st rfl 26 _ rfl HS.out 3 _ _ rfl rfl _ Try.underlying26 rfl (by rfl) ?_))
  refine ((G4 _ A1 c1 (HS.out.fact 0 rfl) N1.out).out).mono ?_
  rintro e w5 ⟨rfl, hB⟩
  replace HS := Lib.hid (HS.out.on hB)
  clear hB
  clear G4
  go_wp2_with (first
    | (refine wpList_store_st rfl 28 _ _ rfl HS.out _ #[.int .i64 y0, .int .i64 y1, .int .i64 y2, .int .i64 y3, .int .i64 y4, .int .i64 y5] _ rfl rfl (by rfl) rfl (six_one ⟨y0, y1, y2, y3, y4, y5⟩) ?_; intro p7 v7 hp hS hBn; (try rw [← hp]); have HBn := Lib.hid hBn; have Hp := Lib.hid hp; have H0 := HS; clear HS; have HS := Lib.hid hS; clear hS hp hBn; have q0 := HS.out.cell 5 rfl 0 rfl; have q1 := HS.out.cell 5 rfl 1 rfl)
    | (refine wpList_load_st rfl 24 _ rfl HS.out 3 _ _ rfl rfl _ Try.underlying24 rfl (by rfl) ?_))
  refine ((G5 _ A1 c1 (HS.out.fact 0 rfl) N1.out).out).mono ?_
  rintro e w6 ⟨A2, c2, rfl, hO, hB⟩
  replace HS := Lib.hid ((HS.out.on hB).more (rowF A2 ls) hO.alms.1)
  have N2 := Lib.hid hO.alms.2
  clear hO hB G5 q0 q1
  go_wp2_with (first
    | (refine wpList_store_st rfl 24 _ _ rfl HS.out _ #[.int .i64 m, .int .i64 n, .slice A2 l c2] _ rfl rfl (by rfl) rfl (bd_one m n A2 l c2) ?_; intro p8 v8 hp hS hBn; (try rw [← hp]); have HBn := Lib.hid hBn; have Hp := Lib.hid hp; have H0 := HS; clear HS; have HS := Lib.hid hS; clear hS hp hBn; have q0 := HS.out.cell 6 rfl 0 rfl; have q1 := HS.out.cell 6 rfl 1 rfl)
    | (refine wpList_load_st rfl 24 _ rfl HS.out 7 _ _ rfl rfl _ Try.underlying24 rfl (by rfl) ?_))
  refine ((G6 _ (HS.out.fact 2 rfl)).out).mono ?_
  rintro e w7 ⟨A3, c3, rfl, hO, hB⟩
  replace HS := Lib.hid ((HS.out.on hB).more (rowF A3 []) hO.alms.1)
  clear hO hB G6 q0 q1
  go_wp2_with (first
    | (refine wpList_store_st rfl 24 _ _ rfl HS.out _ #[.int .i64 0, .int .i64 0, .slice A3 0 c3] _ rfl rfl (by rfl) rfl (bd_one 0 0 A3 0 c3) ?_; intro p9 v9 hp hS hBn; (try rw [← hp]); have HBn := Lib.hid hBn; have Hp := Lib.hid hp; have H0 := HS; clear HS; have HS := Lib.hid hS; clear hS hp hBn; have o0p5 := HS.out.cell 4 rfl 0 rfl; have o1p5 := HS.out.cell 4 rfl 1 rfl; have o2p5 := HS.out.cell 4 rfl 2 rfl; have o3p5 := HS.out.cell 4 rfl 3 rfl; have o4p5 := HS.out.cell 4 rfl 4 rfl; have o5p5 := HS.out.cell 4 rfl 5 rfl; have o0p2 := HS.out.cell 7 rfl 0 rfl; have o1p2 := HS.out.cell 7 rfl 1 rfl; have o2p2 := HS.out.cell 7 rfl 2 rfl; have o3p2 := HS.out.cell 7 rfl 3 rfl; have o4p2 := HS.out.cell 7 rfl 4 rfl; have o5p2 := HS.out.cell 7 rfl 5 rfl; have o0p3 := HS.out.cell 6 rfl 0 rfl; have o1p3 := HS.out.cell 6 rfl 1 rfl; have o0p6 := HS.out.cell 3 rfl 0 rfl; have o1p6 := HS.out.cell 3 rfl 1 rfl; have o2p6 := HS.out.cell 3 rfl 2 rfl; have o3p6 := HS.out.cell 3 rfl 3 rfl; have o4p6 := HS.out.cell 3 rfl 4 rfl; have o5p6 := HS.out.cell 3 rfl 5 rfl; have o0p7 := HS.out.cell 2 rfl 0 rfl; have o1p7 := HS.out.cell 2 rfl 1 rfl; have o2p7 := HS.out.cell 2 rfl 2 rfl; have o3p7 := HS.out.cell 2 rfl 3 rfl; have o4p7 := HS.out.cell 2 rfl 4 rfl; have o5p7 := HS.out.cell 2 rfl 5 rfl; have o0p4 := HS.out.cell 5 rfl 0 rfl; have o1p4 := HS.out.cell 5 rfl 1 rfl; have o2p4 := HS.out.cell 5 rfl 2 rfl))
  refine ((G7 _ A1 c1 (HS.out.fact 2 rfl) N1.out).out).mono ?_
  rintro e w8 ⟨rfl, hB⟩
  replace HS := Lib.hid (HS.out.on hB)
  clear hB
  clear G7 o0p5 o1p5 o2p5 o3p5 o4p5 o5p5 o0p2 o1p2 o2p2 o3p2 o4p2 o5p2 o0p3 o1p3 o0p6 o1p6 o2p6 o3p6 o4p6 o5p6 o0p7 o1p7 o2p7 o3p7 o4p7 o5p7 o0p4 o1p4 o2p4
  have o0p8 := HS.out.cell 1 rfl 0 rfl
  have o1p8 := HS.out.cell 1 rfl 1 rfl
  have o2p8 := HS.out.cell 1 rfl 2 rfl
  go_wp2_with fail
  refine ((G8 _ A2 c2 (HS.out.fact 1 rfl) N2.out).out).mono ?_
  rintro e w9 ⟨rfl, hB⟩
  replace HS := Lib.hid (HS.out.on hB)
  clear hB
  clear G8 o0p8 o1p8 o2p8
  go_wp2_with fail
  refine (boards_any HK HE _).mono ?_
  rintro e w10 ⟨rfl, hB⟩
  replace HS := Lib.hid (HS.out.on hB)
  clear hB
  have o0p8 := HS.out.cell 1 rfl 0 rfl
  have o1p8 := HS.out.cell 1 rfl 1 rfl
  have o2p8 := HS.out.cell 1 rfl 2 rfl
  have o0p1 := HS.out.cell 8 rfl 0 rfl
  have o1p1 := HS.out.cell 8 rfl 1 rfl
  have o2p1 := HS.out.cell 8 rfl 2 rfl
  go_wp2_with fail
  refine ((G9 _ A2 A c2 c (HS.out.fact 1 rfl) (HS.out.fact 3 rfl)).out).mono ?_
  rintro e w11 ⟨rfl, hB⟩
  replace HS := Lib.hid (HS.out.on hB)
  clear hB
  clear G9 o0p8 o1p8 o2p8 o0p1 o1p1 o2p1
  go_wp2
  go_ret
  exact ⟨rfl, HS.out.below⟩
end Go.Proofs.Ythlojadkgpmnmaa
