/-
  Layer 8 (board): the law BoardOrder, over the contracts (printed by tools/gen-boardorder.py).
-/
import Derived.Test.YthlojadkgpmnmaaBoardH
namespace Go.Proofs.Ythlojadkgpmnmaa
open Go.RowKit


theorem boardOrder_far (m n : Int) (A : Option Addr) (l c : Nat) (ls : List Alm) (x0 x1 x2 x3 x4 x5 y0 y1 y2 y3 y4 y5 : Int) (w : World) (hA : AlmsAt w w.heap.size A ls) (hf : 60 < l) :
    Calls Try.prog 7 #[.agg #[.int .i64 m, .int .i64 n, .slice A l c], .agg #[.int .i64 x0, .int .i64 x1, .int .i64 x2, .int .i64 x3, .int .i64 x4, .int .i64 x5], .agg #[.int .i64 y0, .int .i64 y1, .int .i64 y2, .int .i64 y3, .int .i64 y4, .int .i64 y5]] w fun e w' => e = .returned (.bool true) ∧ Below w.heap.size w w' := by
  have HS0 := Lib.hid (((St.start w).more (rowF A ls) hA).box3 #[.int .i64 m, .int .i64 n, .slice A l c] #[.int .i64 x0, .int .i64 x1, .int .i64 x2, .int .i64 x3, .int .i64 x4, .int .i64 x5] #[.int .i64 y0, .int .i64 y1, .int .i64 y2, .int .i64 y3, .int .i64 y4, .int .i64 y5] 24 28 28)
  have HF := fun W => far_v m n A l c true (by simp; omega) W
  clear hA
  clear hf
  go_enter Try.func7, Try.ntmps7
  go_wp2_with fail
  refine (HF _).mono ?_
  rintro e w1 ⟨rfl, hB⟩
  have HS := Lib.hid (HS0.out.on hB)
  clear hB HS0 HF
  go_wp2
  go_ret
  exact ⟨rfl, HS.out.below⟩

theorem boardOrder_same (m n : Int) (A : Option Addr) (l c : Nat) (ls : List Alm) (x0 x1 x2 x3 x4 x5 y0 y1 y2 y3 y4 y5 : Int) (w : World) (hA : AlmsAt w w.heap.size A ls) (hf : l ≤ 60) (hs : true = decide (x0 = y0 ∧ x1 = y1)) :
    Calls Try.prog 7 #[.agg #[.int .i64 m, .int .i64 n, .slice A l c], .agg #[.int .i64 x0, .int .i64 x1, .int .i64 x2, .int .i64 x3, .int .i64 x4, .int .i64 x5], .agg #[.int .i64 y0, .int .i64 y1, .int .i64 y2, .int .i64 y3, .int .i64 y4, .int .i64 y5]] w fun e w' => e = .returned (.bool true) ∧ Below w.heap.size w w' := by
  have HS0 := Lib.hid (((St.start w).more (rowF A ls) hA).box3 #[.int .i64 m, .int .i64 n, .slice A l c] #[.int .i64 x0, .int .i64 x1, .int .i64 x2, .int .i64 x3, .int .i64 x4, .int .i64 x5] #[.int .i64 y0, .int .i64 y1, .int .i64 y2, .int .i64 y3, .int .i64 y4, .int .i64 y5] 24 28 28)
  have HF := fun W => far_v m n A l c false (by simp; omega) W
  clear hA
  have hq := fun W => run_eql_sp x0 x1 y0 y1 true hs W
  clear hf hs
  go_enter Try.func7, Try.ntmps7
  go_wp2_with fail
  refine (HF _).mono ?_
  rintro e w1 ⟨rfl, hB⟩
  have HS := Lib.hid (HS0.out.on hB)
  clear hB HS0 HF
  obtain ⟨p3, hp3⟩ : ∃ p, p = w.heap.size + 1 + 1 := ⟨_, rfl⟩
  rw [← hp3] at HS ⊢
  clear hp3
  obtain ⟨p2, hp2⟩ : ∃ p, p = w.heap.size + 1 := ⟨_, rfl⟩
  rw [← hp2] at HS ⊢
  clear hp2
  obtain ⟨p1, hp1⟩ : ∃ p, p = w.heap.size := ⟨_, rfl⟩
  rw [← hp1] at HS ⊢
  clear hp1
  have q0p2 := HS.out.cell 1 rfl 0 rfl
  have q1p2 := HS.out.cell 1 rfl 1 rfl
  have q0p3 := HS.out.cell 0 rfl 0 rfl
  have q1p3 := HS.out.cell 0 rfl 1 rfl
  go_wp2
  go_ret
  exact ⟨rfl, HS.out.below⟩

set_option maxRecDepth 10000 in
set_option maxHeartbeats 4000000 in
theorem boardOrder_ok (HK : Hid BoardK) (HE : Hid SameK) (m n : Int) (A : Option Addr) (l c : Nat) (ls : List Alm) (x0 x1 x2 x3 x4 x5 y0 y1 y2 y3 y4 y5 : Int) (w : World) (hl : l = ls.length) (hA : AlmsAt w w.heap.size A ls) (h0 : A = none → c = 0) (hf : l ≤ 60) (hs : false = decide (x0 = y0 ∧ x1 = y1)) (hE : Bd.putE m n ls ⟨x0, x1, x2, x3, x4, x5⟩ = 0) (hF : Bd.putE m n (Bd.putL ⟨x0, x1, x2, x3, x4, x5⟩ ls) ⟨y0, y1, y2, y3, y4, y5⟩ = 0) (hG : Bd.putE m n ls ⟨y0, y1, y2, y3, y4, y5⟩ = 0) (hH : Bd.putE m n (Bd.putL ⟨y0, y1, y2, y3, y4, y5⟩ ls) ⟨x0, x1, x2, x3, x4, x5⟩ = 0) :
    Calls Try.prog 7 #[.agg #[.int .i64 m, .int .i64 n, .slice A l c], .agg #[.int .i64 x0, .int .i64 x1, .int .i64 x2, .int .i64 x3, .int .i64 x4, .int .i64 x5], .agg #[.int .i64 y0, .int .i64 y1, .int .i64 y2, .int .i64 y3, .int .i64 y4, .int .i64 y5]] w fun e w' => e = .returned (.bool true) ∧ Below w.heap.size w w' := by
  have HS0 := Lib.hid (((St.start w).more (rowF A ls) hA).box3 #[.int .i64 m, .int .i64 n, .slice A l c] #[.int .i64 x0, .int .i64 x1, .int .i64 x2, .int .i64 x3, .int .i64 x4, .int .i64 x5] #[.int .i64 y0, .int .i64 y1, .int .i64 y2, .int .i64 y3, .int .i64 y4, .int .i64 y5] 24 28 28)
  have HF := fun W => far_v m n A l c false (by simp; omega) W
  clear hA
  have hq := fun W => run_eql_sp x0 x1 y0 y1 false hs W
  obtain ⟨C1, hC1⟩ : ∃ C, C = Bd.putL ⟨x0, x1, x2, x3, x4, x5⟩ ls := ⟨_, rfl⟩
  obtain ⟨q1, hq1⟩ : ∃ q, q = C1.length := ⟨_, rfl⟩
  rw [← hC1] at hF
  have hl1 : q1 ≤ 61 := by rw [hq1, hC1, Bd.put_len (Bd.rows_iff.1 (Bd.isB_iff.1 (Bd.putE_iff.1 hE).1).2.2.2).2]; split <;> omega
  have G1 := fun (W : World) (h : AlmsAt W W.heap.size A ls) => Lib.hid (kPut0 HK m n A l c ls ⟨x0, x1, x2, x3, x4, x5⟩ C1 q1 hE hC1 hq1 W ⟨hl, h, h0, by omega⟩)
  obtain ⟨D1, hD1⟩ : ∃ D, D = Bd.putL ⟨y0, y1, y2, y3, y4, y5⟩ C1 := ⟨_, rfl⟩
  obtain ⟨d1, hd1⟩ : ∃ d, d = D1.length := ⟨_, rfl⟩
  have ll1 : d1 ≤ 62 := by rw [hd1, hD1, Bd.put_len (Bd.rows_iff.1 (Bd.isB_iff.1 (Bd.putE_iff.1 hF).1).2.2.2).2]; split <;> omega
  have K1 := fun (W : World) (A1 : Option Addr) (c1 : Nat) (h : AlmsAt W W.heap.size A1 C1) (h1 : A1 = none → c1 = 0) => Lib.hid (kPut0 HK m n A1 q1 c1 C1 ⟨y0, y1, y2, y3, y4, y5⟩ D1 d1 hF hD1 hd1 W ⟨hq1, h, h1, by omega⟩)
  obtain ⟨C2, hC2⟩ : ∃ C, C = Bd.putL ⟨y0, y1, y2, y3, y4, y5⟩ ls := ⟨_, rfl⟩
  obtain ⟨q2, hq2⟩ : ∃ q, q = C2.length := ⟨_, rfl⟩
  rw [← hC2] at hH
  have hl2 : q2 ≤ 61 := by rw [hq2, hC2, Bd.put_len (Bd.rows_iff.1 (Bd.isB_iff.1 (Bd.putE_iff.1 hG).1).2.2.2).2]; split <;> omega
  have G2 := fun (W : World) (h : AlmsAt W W.heap.size A ls) => Lib.hid (kPut0 HK m n A l c ls ⟨y0, y1, y2, y3, y4, y5⟩ C2 q2 hG hC2 hq2 W ⟨hl, h, h0, by omega⟩)
  obtain ⟨D2, hD2⟩ : ∃ D, D = Bd.putL ⟨x0, x1, x2, x3, x4, x5⟩ C2 := ⟨_, rfl⟩
  obtain ⟨d2, hd2⟩ : ∃ d, d = D2.length := ⟨_, rfl⟩
  have ll2 : d2 ≤ 62 := by rw [hd2, hD2, Bd.put_len (Bd.rows_iff.1 (Bd.isB_iff.1 (Bd.putE_iff.1 hH).1).2.2.2).2]; split <;> omega
  have K2 := fun (W : World) (A1 : Option Addr) (c1 : Nat) (h : AlmsAt W W.heap.size A1 C2) (h1 : A1 = none → c1 = 0) => Lib.hid (kPut0 HK m n A1 q2 c1 C2 ⟨x0, x1, x2, x3, x4, x5⟩ D2 d2 hH hD2 hd2 W ⟨hq2, h, h1, by omega⟩)
  have eD : D2 = D1 := by rw [hD2, hD1, hC2, hC1]; exact (Bd.put_comm (Bd.rows_iff.1 (Bd.isB_iff.1 (Bd.putE_iff.1 hE).1).2.2.2).2 (by simpa using hs)).symm
  have ed : d2 = d1 := by rw [hd2, hd1, eD]
  have HSm := fun (W : World) (A1 A2 : Option Addr) (c1 c2 : Nat) (h : AlmsAt W W.heap.size A1 D1) (h1 : AlmsAt W W.heap.size A2 D1) => Lib.hid (HE.out m n A1 A2 d1 c1 c2 D1 W hd1 h h1 (by omega))
  rw [eD, ed] at K2
  clear hf hs hE hG h0 hl hF hC1 hq1 hl1 hD1 hd1 hH hC2 hq2 hl2 hD2 hd2 eD ed ll1 ll2 
  go_enter Try.func7, Try.ntmps7
  go_wp2_with fail
  refine (HF _).mono ?_
  rintro e w1 ⟨rfl, hB⟩
  have HS := Lib.hid (HS0.out.on hB)
  clear hB HS0 HF
  obtain ⟨p3, hp3⟩ : ∃ p, p = w.heap.size + 1 + 1 := ⟨_, rfl⟩
  rw [← hp3] at HS ⊢
  clear hp3
  obtain ⟨p2, hp2⟩ : ∃ p, p = w.heap.size + 1 := ⟨_, rfl⟩
  rw [← hp2] at HS ⊢
  clear hp2
  obtain ⟨p1, hp1⟩ : ∃ p, p = w.heap.size := ⟨_, rfl⟩
  rw [← hp1] at HS ⊢
  clear hp1
  have q0p2 := HS.out.cell 1 rfl 0 rfl
  have q1p2 := HS.out.cell 1 rfl 1 rfl
  have q0p3 := HS.out.cell 0 rfl 0 rfl
  have q1p3 := HS.out.cell 0 rfl 1 rfl
  go_wp2_with (first
    | (refine wpList_load_st rfl 24 _ rfl HS.out 2 _ _ rfl rfl _ Try.underlying24 rfl (by rfl) ?_)
    | (refine wpList_load_st rfl 28 _ rfl HS.out 1 _ _ rfl rfl _ Try.underlying28 rfl (by rfl) ?_))
  refine ((G1 _ (HS.out.fact 0 rfl)).out).mono ?_
  rintro e u1 ⟨A1, c1, rfl, hO, hB⟩
  replace HS := Lib.hid ((HS.out.on hB).more (rowF A1 C1) hO.alms.1)
  have N1 := Lib.hid hO.alms.2
  clear hO hB G1
  go_wp2_with (first
    | (refine wpList_store_st rfl 24 _ _ rfl HS.out _ #[.int .i64 m, .int .i64 n, .slice A1 q1 c1] _ rfl rfl (by rfl) rfl (bd_one m n A1 q1 c1) ?_; intro p4 v1 hp hS hBn; (try rw [← hp]); have HBn := Lib.hid hBn; have Hp := Lib.hid hp; have H0 := HS; clear HS; have HS := Lib.hid hS; clear hS hp hBn)
    | (refine wpList_load_st rfl 24 _ rfl HS.out 0 _ _ rfl rfl _ Try.underlying24 rfl (by rfl) ?_)
    | (refine wpList_load_st rfl 28 _ rfl HS.out 1 _ _ rfl rfl _ Try.underlying28 rfl (by rfl) ?_))
  refine ((K1 _ A1 c1 (HS.out.fact 0 rfl) N1.out).out).mono ?_
  rintro e s1 ⟨B1, b1, rfl, hO, hB⟩
  have Hlt := Lib.hid (HS.out.lt 0 rfl)
  replace HS := Lib.hid (HS.out.on hB)
  replace HBn := Lib.hid (below2 HBn.out hB)
  have HO := Lib.hid hO
  clear hO hB K1 N1
  go_wp2_with (first
    | (refine wpList_restore_st rfl 24 _ _ rfl H0.out HS.out HBn.out (by rw [Hp.out]; exact Nat.le_refl _) #[.int .i64 m, .int .i64 n, .slice B1 d1 b1] _ _ _ HO.out Hlt.out rfl rfl (by rfl) rfl (bd_one m n B1 d1 b1) ?_; intro z1 hS hO2; clear HS; have HS := Lib.hid (hS.more (rowF B1 D1) hO2.alms.1); clear hS hO2 HO Hlt H0 HBn Hp)
    | (refine wpList_load_st rfl 24 _ rfl HS.out 3 _ _ rfl rfl _ Try.underlying24 rfl (by rfl) ?_)
    | (refine wpList_load_st rfl 28 _ rfl HS.out 1 _ _ rfl rfl _ Try.underlying28 rfl (by rfl) ?_))
  refine ((G2 _ (HS.out.fact 2 rfl)).out).mono ?_
  rintro e u2 ⟨A2, c2, rfl, hO, hB⟩
  replace HS := Lib.hid ((HS.out.on hB).more (rowF A2 C2) hO.alms.1)
  have N2 := Lib.hid hO.alms.2
  clear hO hB G2
  go_wp2_with (first
    | (refine wpList_store_st rfl 24 _ _ rfl HS.out _ #[.int .i64 m, .int .i64 n, .slice A2 q2 c2] _ rfl rfl (by rfl) rfl (bd_one m n A2 q2 c2) ?_; intro p5 v2 hp hS hBn; (try rw [← hp]); have HBn := Lib.hid hBn; have Hp := Lib.hid hp; have H0 := HS; clear HS; have HS := Lib.hid hS; clear hS hp hBn)
    | (refine wpList_load_st rfl 24 _ rfl HS.out 0 _ _ rfl rfl _ Try.underlying24 rfl (by rfl) ?_)
    | (refine wpList_load_st rfl 28 _ rfl HS.out 3 _ _ rfl rfl _ Try.underlying28 rfl (by rfl) ?_))
  refine ((K2 _ A2 c2 (HS.out.fact 0 rfl) N2.out).out).mono ?_
  rintro e s2 ⟨B2, b2, rfl, hO, hB⟩
  have Hlt := Lib.hid (HS.out.lt 0 rfl)
  replace HS := Lib.hid (HS.out.on hB)
  replace HBn := Lib.hid (below2 HBn.out hB)
  have HO := Lib.hid hO
  clear hO hB K2 N2
  go_wp2_with (first
    | (refine wpList_restore_st rfl 24 _ _ rfl H0.out HS.out HBn.out (by rw [Hp.out]; exact Nat.le_refl _) #[.int .i64 m, .int .i64 n, .slice B2 d1 b2] _ _ _ HO.out Hlt.out rfl rfl (by rfl) rfl (bd_one m n B2 d1 b2) ?_; intro z2 hS hO2; clear HS; have HS := Lib.hid (hS.more (rowF B2 D1) hO2.alms.1); clear hS hO2 HO Hlt H0 HBn Hp))
  refine (boards_any HK HE _).mono ?_
  rintro e w10 ⟨rfl, hB⟩
  replace HS := Lib.hid (HS.out.on hB)
  clear hB
  have o0p4 := HS.out.cell 1 rfl 0 rfl
  have o1p4 := HS.out.cell 1 rfl 1 rfl
  have o2p4 := HS.out.cell 1 rfl 2 rfl
  have o0p5 := HS.out.cell 0 rfl 0 rfl
  have o1p5 := HS.out.cell 0 rfl 1 rfl
  have o2p5 := HS.out.cell 0 rfl 2 rfl
  go_wp2_with fail
  refine ((HSm _ B1 B2 b1 b2 (HS.out.fact 2 rfl) (HS.out.fact 0 rfl)).out).mono ?_
  rintro e w11 ⟨rfl, hB⟩
  replace HS := Lib.hid (HS.out.on hB)
  clear hB
  clear HSm o0p4 o1p4 o2p4 o0p5 o1p5 o2p5
  go_wp2
  go_ret
  exact ⟨rfl, HS.out.below⟩

set_option maxRecDepth 10000 in
set_option maxHeartbeats 4000000 in
theorem boardOrder_a (HK : Hid BoardK) (HE : Hid SameK) (m n : Int) (A : Option Addr) (l c : Nat) (ls : List Alm) (x0 x1 x2 x3 x4 x5 y0 y1 y2 y3 y4 y5 : Int) (w : World) (hl : l = ls.length) (hA : AlmsAt w w.heap.size A ls) (h0 : A = none → c = 0) (hf : l ≤ 60) (hs : false = decide (x0 = y0 ∧ x1 = y1)) (hE : Bd.putE m n ls ⟨x0, x1, x2, x3, x4, x5⟩ = 0) (hF : Bd.putE m n (Bd.putL ⟨x0, x1, x2, x3, x4, x5⟩ ls) ⟨y0, y1, y2, y3, y4, y5⟩ ≠ 0) (hG : Bd.putE m n ls ⟨y0, y1, y2, y3, y4, y5⟩ = 0) (hH : Bd.putE m n (Bd.putL ⟨y0, y1, y2, y3, y4, y5⟩ ls) ⟨x0, x1, x2, x3, x4, x5⟩ ≠ 0) :
    Calls Try.prog 7 #[.agg #[.int .i64 m, .int .i64 n, .slice A l c], .agg #[.int .i64 x0, .int .i64 x1, .int .i64 x2, .int .i64 x3, .int .i64 x4, .int .i64 x5], .agg #[.int .i64 y0, .int .i64 y1, .int .i64 y2, .int .i64 y3, .int .i64 y4, .int .i64 y5]] w fun e w' => e = .returned (.bool true) ∧ Below w.heap.size w w' := by
  have HS0 := Lib.hid (((St.start w).more (rowF A ls) hA).box3 #[.int .i64 m, .int .i64 n, .slice A l c] #[.int .i64 x0, .int .i64 x1, .int .i64 x2, .int .i64 x3, .int .i64 x4, .int .i64 x5] #[.int .i64 y0, .int .i64 y1, .int .i64 y2, .int .i64 y3, .int .i64 y4, .int .i64 y5] 24 28 28)
  have HF := fun W => far_v m n A l c false (by simp; omega) W
  clear hA
  have hq := fun W => run_eql_sp x0 x1 y0 y1 false hs W
  obtain ⟨C1, hC1⟩ : ∃ C, C = Bd.putL ⟨x0, x1, x2, x3, x4, x5⟩ ls := ⟨_, rfl⟩
  obtain ⟨q1, hq1⟩ : ∃ q, q = C1.length := ⟨_, rfl⟩
  rw [← hC1] at hF
  have hl1 : q1 ≤ 61 := by rw [hq1, hC1, Bd.put_len (Bd.rows_iff.1 (Bd.isB_iff.1 (Bd.putE_iff.1 hE).1).2.2.2).2]; split <;> omega
  have G1 := fun (W : World) (h : AlmsAt W W.heap.size A ls) => Lib.hid (kPut0 HK m n A l c ls ⟨x0, x1, x2, x3, x4, x5⟩ C1 q1 hE hC1 hq1 W ⟨hl, h, h0, by omega⟩)
  obtain ⟨f1, hf1⟩ : ∃ er, er = Bd.putE m n C1 ⟨y0, y1, y2, y3, y4, y5⟩ := ⟨_, rfl⟩
  have K1 := fun (W : World) (A1 : Option Addr) (c1 : Nat) (h : AlmsAt W W.heap.size A1 C1) (h1 : A1 = none → c1 = 0) => Lib.hid (kPutE HK m n A1 q1 c1 C1 ⟨y0, y1, y2, y3, y4, y5⟩ f1 hF hf1 W ⟨hq1, h, h1, by omega⟩)
  have nf1 : (f1 == 0) = false := by rw [beq_eq_false_iff_ne, hf1]; exact hF
  have mf1 : (f1 != 0) = true := by rw [bne, nf1]; rfl
  obtain ⟨C2, hC2⟩ : ∃ C, C = Bd.putL ⟨y0, y1, y2, y3, y4, y5⟩ ls := ⟨_, rfl⟩
  obtain ⟨q2, hq2⟩ : ∃ q, q = C2.length := ⟨_, rfl⟩
  rw [← hC2] at hH
  have hl2 : q2 ≤ 61 := by rw [hq2, hC2, Bd.put_len (Bd.rows_iff.1 (Bd.isB_iff.1 (Bd.putE_iff.1 hG).1).2.2.2).2]; split <;> omega
  have G2 := fun (W : World) (h : AlmsAt W W.heap.size A ls) => Lib.hid (kPut0 HK m n A l c ls ⟨y0, y1, y2, y3, y4, y5⟩ C2 q2 hG hC2 hq2 W ⟨hl, h, h0, by omega⟩)
  obtain ⟨f2, hf2⟩ : ∃ er, er = Bd.putE m n C2 ⟨x0, x1, x2, x3, x4, x5⟩ := ⟨_, rfl⟩
  have K2 := fun (W : World) (A1 : Option Addr) (c1 : Nat) (h : AlmsAt W W.heap.size A1 C2) (h1 : A1 = none → c1 = 0) => Lib.hid (kPutE HK m n A1 q2 c1 C2 ⟨x0, x1, x2, x3, x4, x5⟩ f2 hH hf2 W ⟨hq2, h, h1, by omega⟩)
  have nf2 : (f2 == 0) = false := by rw [beq_eq_false_iff_ne, hf2]; exact hH
  have mf2 : (f2 != 0) = true := by rw [bne, nf2]; rfl
  clear hf hs hE hG h0 hl hf1 hF hC1 hq1 hl1 hf2 hH hC2 hq2 hl2 
  go_enter Try.func7, Try.ntmps7
  go_wp2_with fail
  refine (HF _).mono ?_
  rintro e w1 ⟨rfl, hB⟩
  have HS := Lib.hid (HS0.out.on hB)
  clear hB HS0 HF
  obtain ⟨p3, hp3⟩ : ∃ p, p = w.heap.size + 1 + 1 := ⟨_, rfl⟩
  rw [← hp3] at HS ⊢
  clear hp3
  obtain ⟨p2, hp2⟩ : ∃ p, p = w.heap.size + 1 := ⟨_, rfl⟩
  rw [← hp2] at HS ⊢
  clear hp2
  obtain ⟨p1, hp1⟩ : ∃ p, p = w.heap.size := ⟨_, rfl⟩
  rw [← hp1] at HS ⊢
  clear hp1
  have q0p2 := HS.out.cell 1 rfl 0 rfl
  have q1p2 := HS.out.cell 1 rfl 1 rfl
  have q0p3 := HS.out.cell 0 rfl 0 rfl
  have q1p3 := HS.out.cell 0 rfl 1 rfl
  go_wp2_with (first
    | (refine wpList_load_st rfl 24 _ rfl HS.out 2 _ _ rfl rfl _ Try.underlying24 rfl (by rfl) ?_)
    | (refine wpList_load_st rfl 28 _ rfl HS.out 1 _ _ rfl rfl _ Try.underlying28 rfl (by rfl) ?_))
  refine ((G1 _ (HS.out.fact 0 rfl)).out).mono ?_
  rintro e u1 ⟨A1, c1, rfl, hO, hB⟩
  replace HS := Lib.hid ((HS.out.on hB).more (rowF A1 C1) hO.alms.1)
  have N1 := Lib.hid hO.alms.2
  clear hO hB G1
  go_wp2_with (first
    | (refine wpList_store_st rfl 24 _ _ rfl HS.out _ #[.int .i64 m, .int .i64 n, .slice A1 q1 c1] _ rfl rfl (by rfl) rfl (bd_one m n A1 q1 c1) ?_; intro p4 v1 hp hS hBn; (try rw [← hp]); have HBn := Lib.hid hBn; have Hp := Lib.hid hp; have H0 := HS; clear HS; have HS := Lib.hid hS; clear hS hp hBn)
    | (refine wpList_load_st rfl 24 _ rfl HS.out 0 _ _ rfl rfl _ Try.underlying24 rfl (by rfl) ?_)
    | (refine wpList_load_st rfl 28 _ rfl HS.out 1 _ _ rfl rfl _ Try.underlying28 rfl (by rfl) ?_))
  refine ((K1 _ A1 c1 (HS.out.fact 0 rfl) N1.out).out).mono ?_
  rintro e s1 ⟨B1, b1, rfl, hO, hB⟩
  have Hlt := Lib.hid (HS.out.lt 0 rfl)
  replace HS := Lib.hid (HS.out.on hB)
  replace HBn := Lib.hid (below2 HBn.out hB)
  have HO := Lib.hid hO
  clear hO hB K1 N1
  go_wp2_with (first
    | (refine wpList_restore_st rfl 24 _ _ rfl H0.out HS.out HBn.out (by rw [Hp.out]; exact Nat.le_refl _) #[.int .i64 0, .int .i64 0, .slice B1 0 b1] _ _ _ HO.out Hlt.out rfl rfl (by rfl) rfl (bd_one 0 0 B1 0 b1) ?_; intro z1 hS hO2; clear HS; have HS := Lib.hid (hS.more (rowF B1 []) hO2.alms.1); clear hS hO2 HO Hlt H0 HBn Hp)
    | (refine wpList_load_st rfl 24 _ rfl HS.out 3 _ _ rfl rfl _ Try.underlying24 rfl (by rfl) ?_)
    | (refine wpList_load_st rfl 28 _ rfl HS.out 1 _ _ rfl rfl _ Try.underlying28 rfl (by rfl) ?_))
  refine ((G2 _ (HS.out.fact 2 rfl)).out).mono ?_
  rintro e u2 ⟨A2, c2, rfl, hO, hB⟩
  replace HS := Lib.hid ((HS.out.on hB).more (rowF A2 C2) hO.alms.1)
  have N2 := Lib.hid hO.alms.2
  clear hO hB G2
  go_wp2_with (first
    | (refine wpList_store_st rfl 24 _ _ rfl HS.out _ #[.int .i64 m, .int .i64 n, .slice A2 q2 c2] _ rfl rfl (by rfl) rfl (bd_one m n A2 q2 c2) ?_; intro p5 v2 hp hS hBn; (try rw [← hp]); have HBn := Lib.hid hBn; have Hp := Lib.hid hp; have H0 := HS; clear HS; have HS := Lib.hid hS; clear hS hp hBn)
    | (refine wpList_load_st rfl 24 _ rfl HS.out 0 _ _ rfl rfl _ Try.underlying24 rfl (by rfl) ?_)
    | (refine wpList_load_st rfl 28 _ rfl HS.out 3 _ _ rfl rfl _ Try.underlying28 rfl (by rfl) ?_))
  refine ((K2 _ A2 c2 (HS.out.fact 0 rfl) N2.out).out).mono ?_
  rintro e s2 ⟨B2, b2, rfl, hO, hB⟩
  have Hlt := Lib.hid (HS.out.lt 0 rfl)
  replace HS := Lib.hid (HS.out.on hB)
  replace HBn := Lib.hid (below2 HBn.out hB)
  have HO := Lib.hid hO
  clear hO hB K2 N2
  go_wp2_with (first
    | (refine wpList_restore_st rfl 24 _ _ rfl H0.out HS.out HBn.out (by rw [Hp.out]; exact Nat.le_refl _) #[.int .i64 0, .int .i64 0, .slice B2 0 b2] _ _ _ HO.out Hlt.out rfl rfl (by rfl) rfl (bd_one 0 0 B2 0 b2) ?_; intro z2 hS hO2; clear HS; have HS := Lib.hid (hS.more (rowF B2 []) hO2.alms.1); clear hS hO2 HO Hlt H0 HBn Hp))
  refine (boards_any HK HE _).mono ?_
  rintro e w10 ⟨rfl, hB⟩
  replace HS := Lib.hid (HS.out.on hB)
  clear hB
  go_wp2
  go_ret
  exact ⟨by first | rfl | exact congrArg (fun b => Ending.returned (.bool b)) mf2, HS.out.below⟩

set_option maxRecDepth 10000 in
set_option maxHeartbeats 4000000 in
theorem boardOrder_b (HK : Hid BoardK) (HE : Hid SameK) (m n : Int) (A : Option Addr) (l c : Nat) (ls : List Alm) (x0 x1 x2 x3 x4 x5 y0 y1 y2 y3 y4 y5 : Int) (w : World) (hl : l = ls.length) (hA : AlmsAt w w.heap.size A ls) (h0 : A = none → c = 0) (hf : l ≤ 60) (hs : false = decide (x0 = y0 ∧ x1 = y1)) (hE : Bd.putE m n ls ⟨x0, x1, x2, x3, x4, x5⟩ = 0) (hF : Bd.putE m n (Bd.putL ⟨x0, x1, x2, x3, x4, x5⟩ ls) ⟨y0, y1, y2, y3, y4, y5⟩ ≠ 0) (hG : Bd.putE m n ls ⟨y0, y1, y2, y3, y4, y5⟩ ≠ 0) :
    Calls Try.prog 7 #[.agg #[.int .i64 m, .int .i64 n, .slice A l c], .agg #[.int .i64 x0, .int .i64 x1, .int .i64 x2, .int .i64 x3, .int .i64 x4, .int .i64 x5], .agg #[.int .i64 y0, .int .i64 y1, .int .i64 y2, .int .i64 y3, .int .i64 y4, .int .i64 y5]] w fun e w' => e = .returned (.bool true) ∧ Below w.heap.size w w' := by
  have HS0 := Lib.hid (((St.start w).more (rowF A ls) hA).box3 #[.int .i64 m, .int .i64 n, .slice A l c] #[.int .i64 x0, .int .i64 x1, .int .i64 x2, .int .i64 x3, .int .i64 x4, .int .i64 x5] #[.int .i64 y0, .int .i64 y1, .int .i64 y2, .int .i64 y3, .int .i64 y4, .int .i64 y5] 24 28 28)
  have HF := fun W => far_v m n A l c false (by simp; omega) W
  clear hA
  have hq := fun W => run_eql_sp x0 x1 y0 y1 false hs W
  obtain ⟨C1, hC1⟩ : ∃ C, C = Bd.putL ⟨x0, x1, x2, x3, x4, x5⟩ ls := ⟨_, rfl⟩
  obtain ⟨q1, hq1⟩ : ∃ q, q = C1.length := ⟨_, rfl⟩
  rw [← hC1] at hF
  have hl1 : q1 ≤ 61 := by rw [hq1, hC1, Bd.put_len (Bd.rows_iff.1 (Bd.isB_iff.1 (Bd.putE_iff.1 hE).1).2.2.2).2]; split <;> omega
  have G1 := fun (W : World) (h : AlmsAt W W.heap.size A ls) => Lib.hid (kPut0 HK m n A l c ls ⟨x0, x1, x2, x3, x4, x5⟩ C1 q1 hE hC1 hq1 W ⟨hl, h, h0, by omega⟩)
  obtain ⟨f1, hf1⟩ : ∃ er, er = Bd.putE m n C1 ⟨y0, y1, y2, y3, y4, y5⟩ := ⟨_, rfl⟩
  have K1 := fun (W : World) (A1 : Option Addr) (c1 : Nat) (h : AlmsAt W W.heap.size A1 C1) (h1 : A1 = none → c1 = 0) => Lib.hid (kPutE HK m n A1 q1 c1 C1 ⟨y0, y1, y2, y3, y4, y5⟩ f1 hF hf1 W ⟨hq1, h, h1, by omega⟩)
  have nf1 : (f1 == 0) = false := by rw [beq_eq_false_iff_ne, hf1]; exact hF
  have mf1 : (f1 != 0) = true := by rw [bne, nf1]; rfl
  obtain ⟨e2, he2⟩ : ∃ er, er = Bd.putE m n ls ⟨y0, y1, y2, y3, y4, y5⟩ := ⟨_, rfl⟩
  have G2 := fun (W : World) (h : AlmsAt W W.heap.size A ls) => Lib.hid (kPutE HK m n A l c ls ⟨y0, y1, y2, y3, y4, y5⟩ e2 hG he2 W ⟨hl, h, h0, by omega⟩)
  have ne2 : (e2 == 0) = false := by rw [beq_eq_false_iff_ne, he2]; exact hG
  have me2 : (e2 != 0) = true := by rw [bne, ne2]; rfl
  have K2 := fun (W : World) (A1 : Option Addr) (c1 : Nat) (h : AlmsAt W W.heap.size A1 []) (h1 : A1 = none → c1 = 0) => Lib.hid (kPutE HK 0 0 A1 0 c1 [] ⟨x0, x1, x2, x3, x4, x5⟩ 1 (by unfold Bd.putE; rw [Bd.zero_isB]; simp) (by unfold Bd.putE; rw [Bd.zero_isB]; simp) W ⟨rfl, h, h1, by omega⟩)
  clear hf hs hE hG h0 hl hf1 hF hC1 hq1 hl1 he2 
  go_enter Try.func7, Try.ntmps7
  go_wp2_with fail
  refine (HF _).mono ?_
  rintro e w1 ⟨rfl, hB⟩
  have HS := Lib.hid (HS0.out.on hB)
  clear hB HS0 HF
  obtain ⟨p3, hp3⟩ : ∃ p, p = w.heap.size + 1 + 1 := ⟨_, rfl⟩
  rw [← hp3] at HS ⊢
  clear hp3
  obtain ⟨p2, hp2⟩ : ∃ p, p = w.heap.size + 1 := ⟨_, rfl⟩
  rw [← hp2] at HS ⊢
  clear hp2
  obtain ⟨p1, hp1⟩ : ∃ p, p = w.heap.size := ⟨_, rfl⟩
  rw [← hp1] at HS ⊢
  clear hp1
  have q0p2 := HS.out.cell 1 rfl 0 rfl
  have q1p2 := HS.out.cell 1 rfl 1 rfl
  have q0p3 := HS.out.cell 0 rfl 0 rfl
  have q1p3 := HS.out.cell 0 rfl 1 rfl
  go_wp2_with (first
    | (refine wpList_load_st rfl 24 _ rfl HS.out 2 _ _ rfl rfl _ Try.underlying24 rfl (by rfl) ?_)
    | (refine wpList_load_st rfl 28 _ rfl HS.out 1 _ _ rfl rfl _ Try.underlying28 rfl (by rfl) ?_))
  refine ((G1 _ (HS.out.fact 0 rfl)).out).mono ?_
  rintro e u1 ⟨A1, c1, rfl, hO, hB⟩
  replace HS := Lib.hid ((HS.out.on hB).more (rowF A1 C1) hO.alms.1)
  have N1 := Lib.hid hO.alms.2
  clear hO hB G1
  go_wp2_with (first
    | (refine wpList_store_st rfl 24 _ _ rfl HS.out _ #[.int .i64 m, .int .i64 n, .slice A1 q1 c1] _ rfl rfl (by rfl) rfl (bd_one m n A1 q1 c1) ?_; intro p4 v1 hp hS hBn; (try rw [← hp]); have HBn := Lib.hid hBn; have Hp := Lib.hid hp; have H0 := HS; clear HS; have HS := Lib.hid hS; clear hS hp hBn)
    | (refine wpList_load_st rfl 24 _ rfl HS.out 0 _ _ rfl rfl _ Try.underlying24 rfl (by rfl) ?_)
    | (refine wpList_load_st rfl 28 _ rfl HS.out 1 _ _ rfl rfl _ Try.underlying28 rfl (by rfl) ?_))
  refine ((K1 _ A1 c1 (HS.out.fact 0 rfl) N1.out).out).mono ?_
  rintro e s1 ⟨B1, b1, rfl, hO, hB⟩
  have Hlt := Lib.hid (HS.out.lt 0 rfl)
  replace HS := Lib.hid (HS.out.on hB)
  replace HBn := Lib.hid (below2 HBn.out hB)
  have HO := Lib.hid hO
  clear hO hB K1 N1
  go_wp2_with (first
    | (refine wpList_restore_st rfl 24 _ _ rfl H0.out HS.out HBn.out (by rw [Hp.out]; exact Nat.le_refl _) #[.int .i64 0, .int .i64 0, .slice B1 0 b1] _ _ _ HO.out Hlt.out rfl rfl (by rfl) rfl (bd_one 0 0 B1 0 b1) ?_; intro z1 hS hO2; clear HS; have HS := Lib.hid (hS.more (rowF B1 []) hO2.alms.1); clear hS hO2 HO Hlt H0 HBn Hp)
    | (refine wpList_load_st rfl 24 _ rfl HS.out 3 _ _ rfl rfl _ Try.underlying24 rfl (by rfl) ?_)
    | (refine wpList_load_st rfl 28 _ rfl HS.out 1 _ _ rfl rfl _ Try.underlying28 rfl (by rfl) ?_))
  refine ((G2 _ (HS.out.fact 2 rfl)).out).mono ?_
  rintro e u2 ⟨A2, c2, rfl, hO, hB⟩
  replace HS := Lib.hid ((HS.out.on hB).more (rowF A2 []) hO.alms.1)
  have N2 := Lib.hid hO.alms.2
  clear hO hB G2
  go_wp2_with (first
    | (refine wpList_store_st rfl 24 _ _ rfl HS.out _ #[.int .i64 0, .int .i64 0, .slice A2 0 c2] _ rfl rfl (by rfl) rfl (bd_one 0 0 A2 0 c2) ?_; intro p5 v2 hp hS hBn; (try rw [← hp]); have HBn := Lib.hid hBn; have Hp := Lib.hid hp; have H0 := HS; clear HS; have HS := Lib.hid hS; clear hS hp hBn)
    | (refine wpList_load_st rfl 24 _ rfl HS.out 0 _ _ rfl rfl _ Try.underlying24 rfl (by rfl) ?_)
    | (refine wpList_load_st rfl 28 _ rfl HS.out 3 _ _ rfl rfl _ Try.underlying28 rfl (by rfl) ?_))
  refine ((K2 _ A2 c2 (HS.out.fact 0 rfl) N2.out).out).mono ?_
  rintro e s2 ⟨B2, b2, rfl, hO, hB⟩
  have Hlt := Lib.hid (HS.out.lt 0 rfl)
  replace HS := Lib.hid (HS.out.on hB)
  replace HBn := Lib.hid (below2 HBn.out hB)
  have HO := Lib.hid hO
  clear hO hB K2 N2
  go_wp2_with (first
    | (refine wpList_restore_st rfl 24 _ _ rfl H0.out HS.out HBn.out (by rw [Hp.out]; exact Nat.le_refl _) #[.int .i64 0, .int .i64 0, .slice B2 0 b2] _ _ _ HO.out Hlt.out rfl rfl (by rfl) rfl (bd_one 0 0 B2 0 b2) ?_; intro z2 hS hO2; clear HS; have HS := Lib.hid (hS.more (rowF B2 []) hO2.alms.1); clear hS hO2 HO Hlt H0 HBn Hp))
  refine (boards_any HK HE _).mono ?_
  rintro e w10 ⟨rfl, hB⟩
  replace HS := Lib.hid (HS.out.on hB)
  clear hB
  go_wp2
  go_ret
  exact ⟨rfl, HS.out.below⟩

set_option maxRecDepth 10000 in
set_option maxHeartbeats 4000000 in
theorem boardOrder_d (HK : Hid BoardK) (HE : Hid SameK) (m n : Int) (A : Option Addr) (l c : Nat) (ls : List Alm) (x0 x1 x2 x3 x4 x5 y0 y1 y2 y3 y4 y5 : Int) (w : World) (hl : l = ls.length) (hA : AlmsAt w w.heap.size A ls) (h0 : A = none → c = 0) (hf : l ≤ 60) (hs : false = decide (x0 = y0 ∧ x1 = y1)) (hE : Bd.putE m n ls ⟨x0, x1, x2, x3, x4, x5⟩ ≠ 0) (hG : Bd.putE m n ls ⟨y0, y1, y2, y3, y4, y5⟩ = 0) (hH : Bd.putE m n (Bd.putL ⟨y0, y1, y2, y3, y4, y5⟩ ls) ⟨x0, x1, x2, x3, x4, x5⟩ ≠ 0) :
    Calls Try.prog 7 #[.agg #[.int .i64 m, .int .i64 n, .slice A l c], .agg #[.int .i64 x0, .int .i64 x1, .int .i64 x2, .int .i64 x3, .int .i64 x4, .int .i64 x5], .agg #[.int .i64 y0, .int .i64 y1, .int .i64 y2, .int .i64 y3, .int .i64 y4, .int .i64 y5]] w fun e w' => e = .returned (.bool true) ∧ Below w.heap.size w w' := by
  have HS0 := Lib.hid (((St.start w).more (rowF A ls) hA).box3 #[.int .i64 m, .int .i64 n, .slice A l c] #[.int .i64 x0, .int .i64 x1, .int .i64 x2, .int .i64 x3, .int .i64 x4, .int .i64 x5] #[.int .i64 y0, .int .i64 y1, .int .i64 y2, .int .i64 y3, .int .i64 y4, .int .i64 y5] 24 28 28)
  have HF := fun W => far_v m n A l c false (by simp; omega) W
  clear hA
  have hq := fun W => run_eql_sp x0 x1 y0 y1 false hs W
  obtain ⟨e1, he1⟩ : ∃ er, er = Bd.putE m n ls ⟨x0, x1, x2, x3, x4, x5⟩ := ⟨_, rfl⟩
  have G1 := fun (W : World) (h : AlmsAt W W.heap.size A ls) => Lib.hid (kPutE HK m n A l c ls ⟨x0, x1, x2, x3, x4, x5⟩ e1 hE he1 W ⟨hl, h, h0, by omega⟩)
  have ne1 : (e1 == 0) = false := by rw [beq_eq_false_iff_ne, he1]; exact hE
  have me1 : (e1 != 0) = true := by rw [bne, ne1]; rfl
  have K1 := fun (W : World) (A1 : Option Addr) (c1 : Nat) (h : AlmsAt W W.heap.size A1 []) (h1 : A1 = none → c1 = 0) => Lib.hid (kPutE HK 0 0 A1 0 c1 [] ⟨y0, y1, y2, y3, y4, y5⟩ 1 (by unfold Bd.putE; rw [Bd.zero_isB]; simp) (by unfold Bd.putE; rw [Bd.zero_isB]; simp) W ⟨rfl, h, h1, by omega⟩)
  obtain ⟨C2, hC2⟩ : ∃ C, C = Bd.putL ⟨y0, y1, y2, y3, y4, y5⟩ ls := ⟨_, rfl⟩
  obtain ⟨q2, hq2⟩ : ∃ q, q = C2.length := ⟨_, rfl⟩
  rw [← hC2] at hH
  have hl2 : q2 ≤ 61 := by rw [hq2, hC2, Bd.put_len (Bd.rows_iff.1 (Bd.isB_iff.1 (Bd.putE_iff.1 hG).1).2.2.2).2]; split <;> omega
  have G2 := fun (W : World) (h : AlmsAt W W.heap.size A ls) => Lib.hid (kPut0 HK m n A l c ls ⟨y0, y1, y2, y3, y4, y5⟩ C2 q2 hG hC2 hq2 W ⟨hl, h, h0, by omega⟩)
  obtain ⟨f2, hf2⟩ : ∃ er, er = Bd.putE m n C2 ⟨x0, x1, x2, x3, x4, x5⟩ := ⟨_, rfl⟩
  have K2 := fun (W : World) (A1 : Option Addr) (c1 : Nat) (h : AlmsAt W W.heap.size A1 C2) (h1 : A1 = none → c1 = 0) => Lib.hid (kPutE HK m n A1 q2 c1 C2 ⟨x0, x1, x2, x3, x4, x5⟩ f2 hH hf2 W ⟨hq2, h, h1, by omega⟩)
  have nf2 : (f2 == 0) = false := by rw [beq_eq_false_iff_ne, hf2]; exact hH
  have mf2 : (f2 != 0) = true := by rw [bne, nf2]; rfl
  clear hf hs hE hG h0 hl he1 hf2 hH hC2 hq2 hl2 
  go_enter Try.func7, Try.ntmps7
  go_wp2_with fail
  refine (HF _).mono ?_
  rintro e w1 ⟨rfl, hB⟩
  have HS := Lib.hid (HS0.out.on hB)
  clear hB HS0 HF
  obtain ⟨p3, hp3⟩ : ∃ p, p = w.heap.size + 1 + 1 := ⟨_, rfl⟩
  rw [← hp3] at HS ⊢
  clear hp3
  obtain ⟨p2, hp2⟩ : ∃ p, p = w.heap.size + 1 := ⟨_, rfl⟩
  rw [← hp2] at HS ⊢
  clear hp2
  obtain ⟨p1, hp1⟩ : ∃ p, p = w.heap.size := ⟨_, rfl⟩
  rw [← hp1] at HS ⊢
  clear hp1
  have q0p2 := HS.out.cell 1 rfl 0 rfl
  have q1p2 := HS.out.cell 1 rfl 1 rfl
  have q0p3 := HS.out.cell 0 rfl 0 rfl
  have q1p3 := HS.out.cell 0 rfl 1 rfl
  go_wp2_with (first
    | (refine wpList_load_st rfl 24 _ rfl HS.out 2 _ _ rfl rfl _ Try.underlying24 rfl (by rfl) ?_)
    | (refine wpList_load_st rfl 28 _ rfl HS.out 1 _ _ rfl rfl _ Try.underlying28 rfl (by rfl) ?_))
  refine ((G1 _ (HS.out.fact 0 rfl)).out).mono ?_
  rintro e u1 ⟨A1, c1, rfl, hO, hB⟩
  replace HS := Lib.hid ((HS.out.on hB).more (rowF A1 []) hO.alms.1)
  have N1 := Lib.hid hO.alms.2
  clear hO hB G1
  go_wp2_with (first
    | (refine wpList_store_st rfl 24 _ _ rfl HS.out _ #[.int .i64 0, .int .i64 0, .slice A1 0 c1] _ rfl rfl (by rfl) rfl (bd_one 0 0 A1 0 c1) ?_; intro p4 v1 hp hS hBn; (try rw [← hp]); have HBn := Lib.hid hBn; have Hp := Lib.hid hp; have H0 := HS; clear HS; have HS := Lib.hid hS; clear hS hp hBn)
    | (refine wpList_load_st rfl 24 _ rfl HS.out 0 _ _ rfl rfl _ Try.underlying24 rfl (by rfl) ?_)
    | (refine wpList_load_st rfl 28 _ rfl HS.out 1 _ _ rfl rfl _ Try.underlying28 rfl (by rfl) ?_))
  refine ((K1 _ A1 c1 (HS.out.fact 0 rfl) N1.out).out).mono ?_
  rintro e s1 ⟨B1, b1, rfl, hO, hB⟩
  have Hlt := Lib.hid (HS.out.lt 0 rfl)
  replace HS := Lib.hid (HS.out.on hB)
  replace HBn := Lib.hid (below2 HBn.out hB)
  have HO := Lib.hid hO
  clear hO hB K1 N1
  go_wp2_with (first
    | (refine wpList_restore_st rfl 24 _ _ rfl H0.out HS.out HBn.out (by rw [Hp.out]; exact Nat.le_refl _) #[.int .i64 0, .int .i64 0, .slice B1 0 b1] _ _ _ HO.out Hlt.out rfl rfl (by rfl) rfl (bd_one 0 0 B1 0 b1) ?_; intro z1 hS hO2; clear HS; have HS := Lib.hid (hS.more (rowF B1 []) hO2.alms.1); clear hS hO2 HO Hlt H0 HBn Hp)
    | (refine wpList_load_st rfl 24 _ rfl HS.out 3 _ _ rfl rfl _ Try.underlying24 rfl (by rfl) ?_)
    | (refine wpList_load_st rfl 28 _ rfl HS.out 1 _ _ rfl rfl _ Try.underlying28 rfl (by rfl) ?_))
  refine ((G2 _ (HS.out.fact 2 rfl)).out).mono ?_
  rintro e u2 ⟨A2, c2, rfl, hO, hB⟩
  replace HS := Lib.hid ((HS.out.on hB).more (rowF A2 C2) hO.alms.1)
  have N2 := Lib.hid hO.alms.2
  clear hO hB G2
  go_wp2_with (first
    | (refine wpList_store_st rfl 24 _ _ rfl HS.out _ #[.int .i64 m, .int .i64 n, .slice A2 q2 c2] _ rfl rfl (by rfl) rfl (bd_one m n A2 q2 c2) ?_; intro p5 v2 hp hS hBn; (try rw [← hp]); have HBn := Lib.hid hBn; have Hp := Lib.hid hp; have H0 := HS; clear HS; have HS := Lib.hid hS; clear hS hp hBn)
    | (refine wpList_load_st rfl 24 _ rfl HS.out 0 _ _ rfl rfl _ Try.underlying24 rfl (by rfl) ?_)
    | (refine wpList_load_st rfl 28 _ rfl HS.out 3 _ _ rfl rfl _ Try.underlying28 rfl (by rfl) ?_))
  refine ((K2 _ A2 c2 (HS.out.fact 0 rfl) N2.out).out).mono ?_
  rintro e s2 ⟨B2, b2, rfl, hO, hB⟩
  have Hlt := Lib.hid (HS.out.lt 0 rfl)
  replace HS := Lib.hid (HS.out.on hB)
  replace HBn := Lib.hid (below2 HBn.out hB)
  have HO := Lib.hid hO
  clear hO hB K2 N2
  go_wp2_with (first
    | (refine wpList_restore_st rfl 24 _ _ rfl H0.out HS.out HBn.out (by rw [Hp.out]; exact Nat.le_refl _) #[.int .i64 0, .int .i64 0, .slice B2 0 b2] _ _ _ HO.out Hlt.out rfl rfl (by rfl) rfl (bd_one 0 0 B2 0 b2) ?_; intro z2 hS hO2; clear HS; have HS := Lib.hid (hS.more (rowF B2 []) hO2.alms.1); clear hS hO2 HO Hlt H0 HBn Hp))
  refine (boards_any HK HE _).mono ?_
  rintro e w10 ⟨rfl, hB⟩
  replace HS := Lib.hid (HS.out.on hB)
  clear hB
  go_wp2
  go_ret
  exact ⟨by first | rfl | exact congrArg (fun b => Ending.returned (.bool b)) mf2, HS.out.below⟩

set_option maxRecDepth 10000 in
set_option maxHeartbeats 4000000 in
theorem boardOrder_f (HK : Hid BoardK) (HE : Hid SameK) (m n : Int) (A : Option Addr) (l c : Nat) (ls : List Alm) (x0 x1 x2 x3 x4 x5 y0 y1 y2 y3 y4 y5 : Int) (w : World) (hl : l = ls.length) (hA : AlmsAt w w.heap.size A ls) (h0 : A = none → c = 0) (hf : l ≤ 60) (hs : false = decide (x0 = y0 ∧ x1 = y1)) (hE : Bd.putE m n ls ⟨x0, x1, x2, x3, x4, x5⟩ ≠ 0) (hG : Bd.putE m n ls ⟨y0, y1, y2, y3, y4, y5⟩ ≠ 0) :
    Calls Try.prog 7 #[.agg #[.int .i64 m, .int .i64 n, .slice A l c], .agg #[.int .i64 x0, .int .i64 x1, .int .i64 x2, .int .i64 x3, .int .i64 x4, .int .i64 x5], .agg #[.int .i64 y0, .int .i64 y1, .int .i64 y2, .int .i64 y3, .int .i64 y4, .int .i64 y5]] w fun e w' => e = .returned (.bool true) ∧ Below w.heap.size w w' := by
  have HS0 := Lib.hid (((St.start w).more (rowF A ls) hA).box3 #[.int .i64 m, .int .i64 n, .slice A l c] #[.int .i64 x0, .int .i64 x1, .int .i64 x2, .int .i64 x3, .int .i64 x4, .int .i64 x5] #[.int .i64 y0, .int .i64 y1, .int .i64 y2, .int .i64 y3, .int .i64 y4, .int .i64 y5] 24 28 28)
  have HF := fun W => far_v m n A l c false (by simp; omega) W
  clear hA
  have hq := fun W => run_eql_sp x0 x1 y0 y1 false hs W
  obtain ⟨e1, he1⟩ : ∃ er, er = Bd.putE m n ls ⟨x0, x1, x2, x3, x4, x5⟩ := ⟨_, rfl⟩
  have G1 := fun (W : World) (h : AlmsAt W W.heap.size A ls) => Lib.hid (kPutE HK m n A l c ls ⟨x0, x1, x2, x3, x4, x5⟩ e1 hE he1 W ⟨hl, h, h0, by omega⟩)
  have ne1 : (e1 == 0) = false := by rw [beq_eq_false_iff_ne, he1]; exact hE
  have me1 : (e1 != 0) = true := by rw [bne, ne1]; rfl
  have K1 := fun (W : World) (A1 : Option Addr) (c1 : Nat) (h : AlmsAt W W.heap.size A1 []) (h1 : A1 = none → c1 = 0) => Lib.hid (kPutE HK 0 0 A1 0 c1 [] ⟨y0, y1, y2, y3, y4, y5⟩ 1 (by unfold Bd.putE; rw [Bd.zero_isB]; simp) (by unfold Bd.putE; rw [Bd.zero_isB]; simp) W ⟨rfl, h, h1, by omega⟩)
  obtain ⟨e2, he2⟩ : ∃ er, er = Bd.putE m n ls ⟨y0, y1, y2, y3, y4, y5⟩ := ⟨_, rfl⟩
  have G2 := fun (W : World) (h : AlmsAt W W.heap.size A ls) => Lib.hid (kPutE HK m n A l c ls ⟨y0, y1, y2, y3, y4, y5⟩ e2 hG he2 W ⟨hl, h, h0, by omega⟩)
  have ne2 : (e2 == 0) = false := by rw [beq_eq_false_iff_ne, he2]; exact hG
  have me2 : (e2 != 0) = true := by rw [bne, ne2]; rfl
  have K2 := fun (W : World) (A1 : Option Addr) (c1 : Nat) (h : AlmsAt W W.heap.size A1 []) (h1 : A1 = none → c1 = 0) => Lib.hid (kPutE HK 0 0 A1 0 c1 [] ⟨x0, x1, x2, x3, x4, x5⟩ 1 (by unfold Bd.putE; rw [Bd.zero_isB]; simp) (by unfold Bd.putE; rw [Bd.zero_isB]; simp) W ⟨rfl, h, h1, by omega⟩)
  clear hf hs hE hG h0 hl he1 he2 
  go_enter Try.func7, Try.ntmps7
  go_wp2_with fail
  refine (HF _).mono ?_
  rintro e w1 ⟨rfl, hB⟩
  have HS := Lib.hid (HS0.out.on hB)
  clear hB HS0 HF
  obtain ⟨p3, hp3⟩ : ∃ p, p = w.heap.size + 1 + 1 := ⟨_, rfl⟩
  rw [← hp3] at HS ⊢
  clear hp3
  obtain ⟨p2, hp2⟩ : ∃ p, p = w.heap.size + 1 := ⟨_, rfl⟩
  rw [← hp2] at HS ⊢
  clear hp2
  obtain ⟨p1, hp1⟩ : ∃ p, p = w.heap.size := ⟨_, rfl⟩
  rw [← hp1] at HS ⊢
  clear hp1
  have q0p2 := HS.out.cell 1 rfl 0 rfl
  have q1p2 := HS.out.cell 1 rfl 1 rfl
  have q0p3 := HS.out.cell 0 rfl 0 rfl
  have q1p3 := HS.out.cell 0 rfl 1 rfl
  go_wp2_with (first
    | (refine wpList_load_st rfl 24 _ rfl HS.out 2 _ _ rfl rfl _ Try.underlying24 rfl (by rfl) ?_)
    | (refine wpList_load_st rfl 28 _ rfl HS.out 1 _ _ rfl rfl _ Try.underlying28 rfl (by rfl) ?_))
  refine ((G1 _ (HS.out.fact 0 rfl)).out).mono ?_
  rintro e u1 ⟨A1, c1, rfl, hO, hB⟩
  replace HS := Lib.hid ((HS.out.on hB).more (rowF A1 []) hO.alms.1)
  have N1 := Lib.hid hO.alms.2
  clear hO hB G1
  go_wp2_with (first
    | (refine wpList_store_st rfl 24 _ _ rfl HS.out _ #[.int .i64 0, .int .i64 0, .slice A1 0 c1] _ rfl rfl (by rfl) rfl (bd_one 0 0 A1 0 c1) ?_; intro p4 v1 hp hS hBn; (try rw [← hp]); have HBn := Lib.hid hBn; have Hp := Lib.hid hp; have H0 := HS; clear HS; have HS := Lib.hid hS; clear hS hp hBn)
    | (refine wpList_load_st rfl 24 _ rfl HS.out 0 _ _ rfl rfl _ Try.underlying24 rfl (by rfl) ?_)
    | (refine wpList_load_st rfl 28 _ rfl HS.out 1 _ _ rfl rfl _ Try.underlying28 rfl (by rfl) ?_))
  refine ((K1 _ A1 c1 (HS.out.fact 0 rfl) N1.out).out).mono ?_
  rintro e s1 ⟨B1, b1, rfl, hO, hB⟩
  have Hlt := Lib.hid (HS.out.lt 0 rfl)
  replace HS := Lib.hid (HS.out.on hB)
  replace HBn := Lib.hid (below2 HBn.out hB)
  have HO := Lib.hid hO
  clear hO hB K1 N1
  go_wp2_with (first
    | (refine wpList_restore_st rfl 24 _ _ rfl H0.out HS.out HBn.out (by rw [Hp.out]; exact Nat.le_refl _) #[.int .i64 0, .int .i64 0, .slice B1 0 b1] _ _ _ HO.out Hlt.out rfl rfl (by rfl) rfl (bd_one 0 0 B1 0 b1) ?_; intro z1 hS hO2; clear HS; have HS := Lib.hid (hS.more (rowF B1 []) hO2.alms.1); clear hS hO2 HO Hlt H0 HBn Hp)
    | (refine wpList_load_st rfl 24 _ rfl HS.out 3 _ _ rfl rfl _ Try.underlying24 rfl (by rfl) ?_)
    | (refine wpList_load_st rfl 28 _ rfl HS.out 1 _ _ rfl rfl _ Try.underlying28 rfl (by rfl) ?_))
  refine ((G2 _ (HS.out.fact 2 rfl)).out).mono ?_
  rintro e u2 ⟨A2, c2, rfl, hO, hB⟩
  replace HS := Lib.hid ((HS.out.on hB).more (rowF A2 []) hO.alms.1)
  have N2 := Lib.hid hO.alms.2
  clear hO hB G2
  go_wp2_with (first
    | (refine wpList_store_st rfl 24 _ _ rfl HS.out _ #[.int .i64 0, .int .i64 0, .slice A2 0 c2] _ rfl rfl (by rfl) rfl (bd_one 0 0 A2 0 c2) ?_; intro p5 v2 hp hS hBn; (try rw [← hp]); have HBn := Lib.hid hBn; have Hp := Lib.hid hp; have H0 := HS; clear HS; have HS := Lib.hid hS; clear hS hp hBn)
    | (refine wpList_load_st rfl 24 _ rfl HS.out 0 _ _ rfl rfl _ Try.underlying24 rfl (by rfl) ?_)
    | (refine wpList_load_st rfl 28 _ rfl HS.out 3 _ _ rfl rfl _ Try.underlying28 rfl (by rfl) ?_))
  refine ((K2 _ A2 c2 (HS.out.fact 0 rfl) N2.out).out).mono ?_
  rintro e s2 ⟨B2, b2, rfl, hO, hB⟩
  have Hlt := Lib.hid (HS.out.lt 0 rfl)
  replace HS := Lib.hid (HS.out.on hB)
  replace HBn := Lib.hid (below2 HBn.out hB)
  have HO := Lib.hid hO
  clear hO hB K2 N2
  go_wp2_with (first
    | (refine wpList_restore_st rfl 24 _ _ rfl H0.out HS.out HBn.out (by rw [Hp.out]; exact Nat.le_refl _) #[.int .i64 0, .int .i64 0, .slice B2 0 b2] _ _ _ HO.out Hlt.out rfl rfl (by rfl) rfl (bd_one 0 0 B2 0 b2) ?_; intro z2 hS hO2; clear HS; have HS := Lib.hid (hS.more (rowF B2 []) hO2.alms.1); clear hS hO2 HO Hlt H0 HBn Hp))
  refine (boards_any HK HE _).mono ?_
  rintro e w10 ⟨rfl, hB⟩
  replace HS := Lib.hid (HS.out.on hB)
  clear hB
  go_wp2
  go_ret
  exact ⟨rfl, HS.out.below⟩

theorem boardOrder_walk (HK : Hid BoardK) (HE : Hid SameK) (m n : Int) (A : Option Addr) (c : Nat) (ls : List Alm) (x0 x1 x2 x3 x4 x5 y0 y1 y2 y3 y4 y5 : Int) (w : World) (hA : AlmsAt w w.heap.size A ls) (h0 : A = none → c = 0) :
    Calls Try.prog 7 #[.agg #[.int .i64 m, .int .i64 n, .slice A ls.length c], .agg #[.int .i64 x0, .int .i64 x1, .int .i64 x2, .int .i64 x3, .int .i64 x4, .int .i64 x5], .agg #[.int .i64 y0, .int .i64 y1, .int .i64 y2, .int .i64 y3, .int .i64 y4, .int .i64 y5]] w fun e w' => e = .returned (.bool true) ∧ Below w.heap.size w w' := by
  by_cases hf : 60 < ls.length
  · exact boardOrder_far m n A ls.length c ls x0 x1 x2 x3 x4 x5 y0 y1 y2 y3 y4 y5 w hA hf
  · have hf' : ls.length ≤ 60 := by omega
    cases hs : decide (x0 = y0 ∧ x1 = y1)
    · have hn : ¬ (x0 = y0 ∧ x1 = y1) := by simpa using hs
      have hb := Bd.both_iff (m := m) (n := n) (ls := ls) (x := ⟨x0, x1, x2, x3, x4, x5⟩) (y := ⟨y0, y1, y2, y3, y4, y5⟩) hn
      by_cases hE : Bd.putE m n ls ⟨x0, x1, x2, x3, x4, x5⟩ = 0
      · by_cases hF : Bd.putE m n (Bd.putL ⟨x0, x1, x2, x3, x4, x5⟩ ls) ⟨y0, y1, y2, y3, y4, y5⟩ = 0
        · have hG := hb.1 ⟨hE, hF⟩
          exact boardOrder_ok HK HE m n A ls.length c ls x0 x1 x2 x3 x4 x5 y0 y1 y2 y3 y4 y5 w rfl hA h0 hf' hs.symm hE hF hG.1 hG.2
        · by_cases hG : Bd.putE m n ls ⟨y0, y1, y2, y3, y4, y5⟩ = 0
          · exact boardOrder_a HK HE m n A ls.length c ls x0 x1 x2 x3 x4 x5 y0 y1 y2 y3 y4 y5 w rfl hA h0 hf' hs.symm hE hF hG (fun h => hF (hb.2 ⟨hG, h⟩).2)
          · exact boardOrder_b HK HE m n A ls.length c ls x0 x1 x2 x3 x4 x5 y0 y1 y2 y3 y4 y5 w rfl hA h0 hf' hs.symm hE hF hG
      · by_cases hG : Bd.putE m n ls ⟨y0, y1, y2, y3, y4, y5⟩ = 0
        · exact boardOrder_d HK HE m n A ls.length c ls x0 x1 x2 x3 x4 x5 y0 y1 y2 y3 y4 y5 w rfl hA h0 hf' hs.symm hE hG (fun h => hE (hb.2 ⟨hG, h⟩).1)
        · exact boardOrder_f HK HE m n A ls.length c ls x0 x1 x2 x3 x4 x5 y0 y1 y2 y3 y4 y5 w rfl hA h0 hf' hs.symm hE hG
    · exact boardOrder_same m n A ls.length c ls x0 x1 x2 x3 x4 x5 y0 y1 y2 y3 y4 y5 w hA hf' hs.symm
end Go.Proofs.Ythlojadkgpmnmaa
