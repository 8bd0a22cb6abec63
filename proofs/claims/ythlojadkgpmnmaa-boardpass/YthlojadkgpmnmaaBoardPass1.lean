/-
  Layer 8 (board): the law BoardPass, over the contracts: what is far, or refused (printed by tools/gen-boardpass.py).
-/
import Derived.Test.YthlojadkgpmnmaaBoardH
namespace Go.Proofs.Ythlojadkgpmnmaa
open Go.RowKit

theorem boardPass_far (m n : Int) (A : Option Addr) (l c : Nat) (ls : List Alm) (t t2 : Int) (w : World) (hA : AlmsAt w w.heap.size A ls) (hf : 60 < l) :
    Calls Try.prog 5 #[.agg #[.int .i64 m, .int .i64 n, .slice A l c], .int .i64 t, .int .i64 t2] w fun e w' => e = .returned (.bool true) ∧ Below w.heap.size w w' := by
  have HS0 := Lib.hid (((St.start w).more (rowF A ls) hA).new #[.int .i64 m, .int .i64 n, .slice A l c] 24)
  have HF := fun W => far_v m n A l c true (by simp; omega) W
  clear hA
  clear hf
  go_enter Try.func5, Try.ntmps5
  go_wp2_with fail
  refine (HF _).mono ?_
  rintro e w1 ⟨rfl, hB⟩
  have HS := Lib.hid (HS0.out.on hB)
  clear hB HS0 HF
  go_wp2
  go_ret
  exact ⟨rfl, HS.out.below⟩

set_option maxRecDepth 10000 in
set_option maxHeartbeats 2000000 in
theorem boardPass_a (HK : Hid BoardK) (HE : Hid SameK) (m n : Int) (A : Option Addr) (l c : Nat) (ls : List Alm) (t t2 : Int) (w : World) (hl : l = ls.length) (hA : AlmsAt w w.heap.size A ls) (h0 : A = none → c = 0) (hf : l ≤ 60) (er : Int) (hE : Bd.passE m n ls t = er) (her : er ≠ 0) :
    Calls Try.prog 5 #[.agg #[.int .i64 m, .int .i64 n, .slice A l c], .int .i64 t, .int .i64 t2] w fun e w' => e = .returned (.bool true) ∧ Below w.heap.size w w' := by
  have HS0 := Lib.hid (((St.start w).more (rowF A ls) hA).new #[.int .i64 m, .int .i64 n, .slice A l c] 24)
  have HF := fun W => far_v m n A l c false (by simp; omega) W
  clear hA
  have G1 := fun (W : World) (h : AlmsAt W W.heap.size A ls) => Lib.hid (kPassE HK m n A l c ls t er hE her W ⟨hl, h, h0, by omega⟩)
  have e2 : Bd.passE 0 0 [] t2 = 1 := by unfold Bd.passE; rw [show Bd.isB 0 0 [] = false from rfl]; rfl
  have G2 := fun (W : World) (A1 : Option Addr) (c1 : Nat) (h : AlmsAt W W.heap.size A1 []) (h1 : A1 = none → c1 = 0) => Lib.hid (kPassE HK 0 0 A1 0 c1 [] t2 1 e2 (by decide) W ⟨rfl, h, h1, by omega⟩)
  have ne : (er == 0) = false := by rw [beq_eq_false_iff_ne]; exact her
  have nf : (er != 0) = true := by rw [bne, ne]; rfl
  obtain ⟨⟨m3, n3, C3⟩, h3⟩ : ∃ r, r = Bd.pass m n ls t2 := ⟨_, rfl⟩
  obtain ⟨q3, hq3⟩ : ∃ q, q = C3.length := ⟨_, rfl⟩
  obtain ⟨e3, he3⟩ : ∃ e, e = Bd.passE m n ls t2 := ⟨_, rfl⟩
  have G3 := fun (W : World) (h : AlmsAt W W.heap.size A ls) => Lib.hid (HK.out.pass m n A l c ls t2 q3 W ⟨hl, h, h0, by omega⟩ (by rw [← h3]; exact hq3))
  simp only [← h3, ← he3] at G3
  clear hE her e2 h3 hq3 he3 hl h0 hf
  go_enter Try.func5, Try.ntmps5
  go_wp2_with fail
  refine (HF _).mono ?_
  rintro e w1 ⟨rfl, hB⟩
  have HS := Lib.hid (HS0.out.on hB)
  clear hB HS0 HF
  obtain ⟨p1, hp1⟩ : ∃ p, p = w.heap.size := ⟨_, rfl⟩
  rw [← hp1] at HS ⊢
  clear hp1
  go_wp2_with (first
    | (refine wpList_load_st rfl 24 _ rfl HS.out 0 _ _ rfl rfl _ Try.underlying24 rfl (by rfl) ?_))
  refine ((G1 _ (HS.out.fact 0 rfl)).out).mono ?_
  rintro e w2 ⟨A1, c1, rfl, hO, hB⟩
  replace HS := Lib.hid ((HS.out.on hB).more (rowF A1 []) hO.alms.1)
  have N1 := Lib.hid hO.alms.2
  clear hO hB G1
  go_wp2_with (first
    | (refine wpList_store_st rfl 24 _ _ rfl HS.out _ #[.int .i64 0, .int .i64 0, .slice A1 0 c1] _ rfl rfl (by rfl) rfl (bd_one 0 0 A1 0 c1) ?_; intro p4 v4 hp hS hBn; (try rw [← hp]); have HBn := Lib.hid hBn; have Hp := Lib.hid hp; have H0 := HS; clear HS; have HS := Lib.hid hS; clear hS hp hBn)
    | (refine wpList_load_st rfl 24 _ rfl HS.out 0 _ _ rfl rfl _ Try.underlying24 rfl (by rfl) ?_))
  refine ((G2 _ A1 c1 (HS.out.fact 0 rfl) N1.out).out).mono ?_
  rintro e w3 ⟨A2, c2, rfl, hO, hB⟩
  replace HS := Lib.hid (HS.out.on hB)
  clear hO hB G2
  go_wp2_with (first
    | (refine wpList_store_st rfl 24 _ _ rfl HS.out _ #[.int .i64 0, .int .i64 0, .slice A2 0 c2] _ rfl rfl (by rfl) rfl (bd_one 0 0 A2 0 c2) ?_; intro p5 v5 hp hS hBn; (try rw [← hp]); have HBn := Lib.hid hBn; have Hp := Lib.hid hp; have H0 := HS; clear HS; have HS := Lib.hid hS; clear hS hp hBn)
    | (refine wpList_load_st rfl 24 _ rfl HS.out 2 _ _ rfl rfl _ Try.underlying24 rfl (by rfl) ?_))
  refine ((G3 _ (HS.out.fact 1 rfl)).out).mono ?_
  rintro e w4 ⟨A3, c3, rfl, hO, hB⟩
  replace HS := Lib.hid (HS.out.on hB)
  clear hO hB G3
  go_wp2_with (first
    | (refine wpList_store_st rfl 24 _ _ rfl HS.out _ #[.int .i64 m3, .int .i64 n3, .slice A3 q3 c3] _ rfl rfl (by rfl) rfl (bd_one m3 n3 A3 q3 c3) ?_; intro p6 v6 hp hS hBn; (try rw [← hp]); have HBn := Lib.hid hBn; have Hp := Lib.hid hp; have H0 := HS; clear HS; have HS := Lib.hid hS; clear hS hp hBn))
  refine (boards_any HK HE _).mono ?_
  rintro e w5 ⟨rfl, hB⟩
  replace HS := Lib.hid (HS.out.on hB)
  clear hB
  clear H0 HBn Hp
  go_wp2
  go_ret
  exact ⟨rfl, HS.out.below⟩

set_option maxRecDepth 10000 in
set_option maxHeartbeats 2000000 in
theorem boardPass_b (HK : Hid BoardK) (HE : Hid SameK) (m n : Int) (A : Option Addr) (l c : Nat) (ls : List Alm) (t t2 : Int) (w : World) (hl : l = ls.length) (hA : AlmsAt w w.heap.size A ls) (h0 : A = none → c = 0) (hf : l ≤ 60) (hE : Bd.passE m n ls t = 0) (hE2 : Bd.passE m t (Bd.passL t ls) t2 = 1) :
    Calls Try.prog 5 #[.agg #[.int .i64 m, .int .i64 n, .slice A l c], .int .i64 t, .int .i64 t2] w fun e w' => e = .returned (.bool true) ∧ Below w.heap.size w w' := by
  have HS0 := Lib.hid (((St.start w).more (rowF A ls) hA).new #[.int .i64 m, .int .i64 n, .slice A l c] 24)
  have HF := fun W => far_v m n A l c false (by simp; omega) W
  clear hA
  obtain ⟨C, hC⟩ : ∃ C, C = Bd.passL t ls := ⟨_, rfl⟩
  have hq : l = C.length := by rw [hC, Bd.pass_len]; exact hl
  rw [← hC] at hE2
  have G1 := fun (W : World) (h : AlmsAt W W.heap.size A ls) => Lib.hid (kPass0 HK m n A l c ls t C l hE hC hq W ⟨hl, h, h0, by omega⟩)
  have G2 := fun (W : World) (A1 : Option Addr) (c1 : Nat) (h : AlmsAt W W.heap.size A1 C) (h1 : A1 = none → c1 = 0) => Lib.hid (kPassE HK m t A1 l c1 C t2 1 hE2 (by decide) W ⟨hq, h, h1, by omega⟩)
  obtain ⟨⟨m3, n3, C3⟩, h3⟩ : ∃ r, r = Bd.pass m n ls t2 := ⟨_, rfl⟩
  obtain ⟨q3, hq3⟩ : ∃ q, q = C3.length := ⟨_, rfl⟩
  obtain ⟨e3, he3⟩ : ∃ e, e = Bd.passE m n ls t2 := ⟨_, rfl⟩
  have G3 := fun (W : World) (h : AlmsAt W W.heap.size A ls) => Lib.hid (HK.out.pass m n A l c ls t2 q3 W ⟨hl, h, h0, by omega⟩ (by rw [← h3]; exact hq3))
  simp only [← h3, ← he3] at G3
  clear hE hE2 hC hq h3 hq3 he3 hl h0 hf
  go_enter Try.func5, Try.ntmps5
  go_wp2_with fail
  refine (HF _).mono ?_
  rintro e w1 ⟨rfl, hB⟩
  have HS := Lib.hid (HS0.out.on hB)
  clear hB HS0 HF
  obtain ⟨p1, hp1⟩ : ∃ p, p = w.heap.size := ⟨_, rfl⟩
  rw [← hp1] at HS ⊢
  clear hp1
  go_wp2_with (first
    | (refine wpList_load_st rfl 24 _ rfl HS.out 0 _ _ rfl rfl _ Try.underlying24 rfl (by rfl) ?_))
  refine ((G1 _ (HS.out.fact 0 rfl)).out).mono ?_
  rintro e w2 ⟨A1, c1, rfl, hO, hB⟩
  replace HS := Lib.hid ((HS.out.on hB).more (rowF A1 C) hO.alms.1)
  have N1 := Lib.hid hO.alms.2
  clear hO hB G1
  go_wp2_with (first
    | (refine wpList_store_st rfl 24 _ _ rfl HS.out _ #[.int .i64 m, .int .i64 t, .slice A1 l c1] _ rfl rfl (by rfl) rfl (bd_one m t A1 l c1) ?_; intro p4 v4 hp hS hBn; (try rw [← hp]); have HBn := Lib.hid hBn; have Hp := Lib.hid hp; have H0 := HS; clear HS; have HS := Lib.hid hS; clear hS hp hBn)
    | (refine wpList_load_st rfl 24 _ rfl HS.out 0 _ _ rfl rfl _ Try.underlying24 rfl (by rfl) ?_))
  refine ((G2 _ A1 c1 (HS.out.fact 0 rfl) N1.out).out).mono ?_
  rintro e w3 ⟨A2, c2, rfl, hO, hB⟩
  replace HS := Lib.hid (HS.out.on hB)
  clear hO hB G2
  go_wp2_with (first
    | (refine wpList_store_st rfl 24 _ _ rfl HS.out _ #[.int .i64 0, .int .i64 0, .slice A2 0 c2] _ rfl rfl (by rfl) rfl (bd_one 0 0 A2 0 c2) ?_; intro p5 v5 hp hS hBn; (try rw [← hp]); have HBn := Lib.hid hBn; have Hp := Lib.hid hp; have H0 := HS; clear HS; have HS := Lib.hid hS; clear hS hp hBn)
    | (refine wpList_load_st rfl 24 _ rfl HS.out 2 _ _ rfl rfl _ Try.underlying24 rfl (by rfl) ?_))
  refine ((G3 _ (HS.out.fact 1 rfl)).out).mono ?_
  rintro e w4 ⟨A3, c3, rfl, hO, hB⟩
  replace HS := Lib.hid (HS.out.on hB)
  clear hO hB G3
  go_wp2_with (first
    | (refine wpList_store_st rfl 24 _ _ rfl HS.out _ #[.int .i64 m3, .int .i64 n3, .slice A3 q3 c3] _ rfl rfl (by rfl) rfl (bd_one m3 n3 A3 q3 c3) ?_; intro p6 v6 hp hS hBn; (try rw [← hp]); have HBn := Lib.hid hBn; have Hp := Lib.hid hp; have H0 := HS; clear HS; have HS := Lib.hid hS; clear hS hp hBn))
  refine (boards_any HK HE _).mono ?_
  rintro e w5 ⟨rfl, hB⟩
  replace HS := Lib.hid (HS.out.on hB)
  clear hB
  clear H0 HBn Hp
  go_wp2
  go_ret
  exact ⟨rfl, HS.out.below⟩

set_option maxRecDepth 10000 in
set_option maxHeartbeats 2000000 in
theorem boardPass_c (HK : Hid BoardK) (HE : Hid SameK) (m n : Int) (A : Option Addr) (l c : Nat) (ls : List Alm) (t t2 : Int) (w : World) (hl : l = ls.length) (hA : AlmsAt w w.heap.size A ls) (h0 : A = none → c = 0) (hf : l ≤ 60) (hE : Bd.passE m n ls t = 0) (hE2 : Bd.passE m t (Bd.passL t ls) t2 = 62) :
    Calls Try.prog 5 #[.agg #[.int .i64 m, .int .i64 n, .slice A l c], .int .i64 t, .int .i64 t2] w fun e w' => e = .returned (.bool true) ∧ Below w.heap.size w w' := by
  have HS0 := Lib.hid (((St.start w).more (rowF A ls) hA).new #[.int .i64 m, .int .i64 n, .slice A l c] 24)
  have HF := fun W => far_v m n A l c false (by simp; omega) W
  clear hA
  obtain ⟨C, hC⟩ : ∃ C, C = Bd.passL t ls := ⟨_, rfl⟩
  have hq : l = C.length := by rw [hC, Bd.pass_len]; exact hl
  rw [← hC] at hE2
  have G1 := fun (W : World) (h : AlmsAt W W.heap.size A ls) => Lib.hid (kPass0 HK m n A l c ls t C l hE hC hq W ⟨hl, h, h0, by omega⟩)
  have G2 := fun (W : World) (A1 : Option Addr) (c1 : Nat) (h : AlmsAt W W.heap.size A1 C) (h1 : A1 = none → c1 = 0) => Lib.hid (kPassE HK m t A1 l c1 C t2 62 hE2 (by decide) W ⟨hq, h, h1, by omega⟩)
  obtain ⟨⟨m3, n3, C3⟩, h3⟩ : ∃ r, r = Bd.pass m n ls t2 := ⟨_, rfl⟩
  obtain ⟨q3, hq3⟩ : ∃ q, q = C3.length := ⟨_, rfl⟩
  obtain ⟨e3, he3⟩ : ∃ e, e = Bd.passE m n ls t2 := ⟨_, rfl⟩
  have G3 := fun (W : World) (h : AlmsAt W W.heap.size A ls) => Lib.hid (HK.out.pass m n A l c ls t2 q3 W ⟨hl, h, h0, by omega⟩ (by rw [← h3]; exact hq3))
  simp only [← h3, ← he3] at G3
  clear hE hE2 hC hq h3 hq3 he3 hl h0 hf
  go_enter Try.func5, Try.ntmps5
  go_wp2_with fail
  refine (HF _).mono ?_
  rintro e w1 ⟨rfl, hB⟩
  have HS := Lib.hid (HS0.out.on hB)
  clear hB HS0 HF
  obtain ⟨p1, hp1⟩ : ∃ p, p = w.heap.size := ⟨_, rfl⟩
  rw [← hp1] at HS ⊢
  clear hp1
  go_wp2_with (first
    | (refine wpList_load_st rfl 24 _ rfl HS.out 0 _ _ rfl rfl _ Try.underlying24 rfl (by rfl) ?_))
  refine ((G1 _ (HS.out.fact 0 rfl)).out).mono ?_
  rintro e w2 ⟨A1, c1, rfl, hO, hB⟩
  replace HS := Lib.hid ((HS.out.on hB).more (rowF A1 C) hO.alms.1)
  have N1 := Lib.hid hO.alms.2
  clear hO hB G1
  go_wp2_with (first
    | (refine wpList_store_st rfl 24 _ _ rfl HS.out _ #[.int .i64 m, .int .i64 t, .slice A1 l c1] _ rfl rfl (by rfl) rfl (bd_one m t A1 l c1) ?_; intro p4 v4 hp hS hBn; (try rw [← hp]); have HBn := Lib.hid hBn; have Hp := Lib.hid hp; have H0 := HS; clear HS; have HS := Lib.hid hS; clear hS hp hBn)
    | (refine wpList_load_st rfl 24 _ rfl HS.out 0 _ _ rfl rfl _ Try.underlying24 rfl (by rfl) ?_))
  refine ((G2 _ A1 c1 (HS.out.fact 0 rfl) N1.out).out).mono ?_
  rintro e w3 ⟨A2, c2, rfl, hO, hB⟩
  replace HS := Lib.hid (HS.out.on hB)
  clear hO hB G2
  go_wp2_with (first
    | (refine wpList_store_st rfl 24 _ _ rfl HS.out _ #[.int .i64 0, .int .i64 0, .slice A2 0 c2] _ rfl rfl (by rfl) rfl (bd_one 0 0 A2 0 c2) ?_; intro p5 v5 hp hS hBn; (try rw [← hp]); have HBn := Lib.hid hBn; have Hp := Lib.hid hp; have H0 := HS; clear HS; have HS := Lib.hid hS; clear hS hp hBn)
    | (refine wpList_load_st rfl 24 _ rfl HS.out 2 _ _ rfl rfl _ Try.underlying24 rfl (by rfl) ?_))
  refine ((G3 _ (HS.out.fact 1 rfl)).out).mono ?_
  rintro e w4 ⟨A3, c3, rfl, hO, hB⟩
  replace HS := Lib.hid (HS.out.on hB)
  clear hO hB G3
  go_wp2_with (first
    | (refine wpList_store_st rfl 24 _ _ rfl HS.out _ #[.int .i64 m3, .int .i64 n3, .slice A3 q3 c3] _ rfl rfl (by rfl) rfl (bd_one m3 n3 A3 q3 c3) ?_; intro p6 v6 hp hS hBn; (try rw [← hp]); have HBn := Lib.hid hBn; have Hp := Lib.hid hp; have H0 := HS; clear HS; have HS := Lib.hid hS; clear hS hp hBn))
  refine (boards_any HK HE _).mono ?_
  rintro e w5 ⟨rfl, hB⟩
  replace HS := Lib.hid (HS.out.on hB)
  clear hB
  clear H0 HBn Hp
  go_wp2
  go_ret
  exact ⟨rfl, HS.out.below⟩
end Go.Proofs.Ythlojadkgpmnmaa
