/-
  Layer 8 (board): the law BoardPuts, over the contracts (printed by tools/gen-boardputs.py).
-/
import Derived.Test.YthlojadkgpmnmaaBoardH
namespace Go.Proofs.Ythlojadkgpmnmaa
open Go.RowKit

theorem boardPuts_far (m n : Int) (A : Option Addr) (l c : Nat) (ls : List Alm) (a0 a1 a2 a3 a4 a5 sb sc : Int) (w : World) (hA : AlmsAt w w.heap.size A ls) (hf : 60 < l) :
    Calls Try.prog 4 #[.agg #[.int .i64 m, .int .i64 n, .slice A l c], .agg #[.int .i64 a0, .int .i64 a1, .int .i64 a2, .int .i64 a3, .int .i64 a4, .int .i64 a5], .agg #[.int .i64 sb, .int .i64 sc]] w fun e w' => e = .returned (.bool true) ∧ Below w.heap.size w w' := by
  have HS0 := Lib.hid (((St.start w).more (rowF A ls) hA).box3 #[.int .i64 m, .int .i64 n, .slice A l c] #[.int .i64 a0, .int .i64 a1, .int .i64 a2, .int .i64 a3, .int .i64 a4, .int .i64 a5] #[.int .i64 sb, .int .i64 sc] 24 28 26)
  have HF := fun W => far_v m n A l c true (by simp; omega) W
  clear hA
  clear hf
  go_enter Try.func4, Try.ntmps4
  go_wp2_with fail
  refine (HF _).mono ?_
  rintro e w1 ⟨rfl, hB⟩
  have HS := Lib.hid (HS0.out.on hB)
  clear hB HS0 HF
  go_wp2
  go_ret
  exact ⟨rfl, HS.out.below⟩

set_option maxHeartbeats 2000000 in
theorem boardPuts_e (HK : Hid BoardK) (HE : Hid SameK) (m n : Int) (A : Option Addr) (l c : Nat) (ls : List Alm) (a0 a1 a2 a3 a4 a5 sb sc : Int) (w : World) (hl : l = ls.length) (hA : AlmsAt w w.heap.size A ls) (h0 : A = none → c = 0) (hf : l ≤ 60) (hE : Bd.putE m n ls ⟨a0, a1, a2, a3, a4, a5⟩ ≠ 0) :
    Calls Try.prog 4 #[.agg #[.int .i64 m, .int .i64 n, .slice A l c], .agg #[.int .i64 a0, .int .i64 a1, .int .i64 a2, .int .i64 a3, .int .i64 a4, .int .i64 a5], .agg #[.int .i64 sb, .int .i64 sc]] w fun e w' => e = .returned (.bool true) ∧ Below w.heap.size w w' := by
  have HS0 := Lib.hid (((St.start w).more (rowF A ls) hA).box3 #[.int .i64 m, .int .i64 n, .slice A l c] #[.int .i64 a0, .int .i64 a1, .int .i64 a2, .int .i64 a3, .int .i64 a4, .int .i64 a5] #[.int .i64 sb, .int .i64 sc] 24 28 26)
  have HF := fun W => far_v m n A l c false (by simp; omega) W
  clear hA
  obtain ⟨er, her⟩ : ∃ er, er = Bd.putE m n ls ⟨a0, a1, a2, a3, a4, a5⟩ := ⟨_, rfl⟩
  have G1 := fun (W : World) (h : AlmsAt W W.heap.size A ls) => Lib.hid (kPutE HK m n A l c ls ⟨a0, a1, a2, a3, a4, a5⟩ er hE her W ⟨hl, h, h0, by omega⟩)
  have ne : (er == 0) = false := by rw [beq_eq_false_iff_ne, her]; exact hE
  clear hE her hl h0 hf
  go_enter Try.func4, Try.ntmps4
  go_wp2_with fail
  refine (HF _).mono ?_
  rintro e w1 ⟨rfl, hB⟩
  have HS := Lib.hid (HS0.out.on hB)
  clear hB HS0 HF
  obtain ⟨p3, hp3⟩ : ∃ p, p = w.heap.size + 1 + 1 := ⟨_, rfl⟩
  rw [← hp3] at HS ⊢
  clear hp3
  obtain ⟨p2, hp2⟩ : ∃ p, p = w.heap.size + 1 := ⟨_, rfl⟩
  rw [← hp2] at HS ⊢
  clear hp2
  obtain ⟨p1, hp1⟩ : ∃ p, p = w.heap.size := ⟨_, rfl⟩
  rw [← hp1] at HS ⊢
  clear hp1
  go_wp2_with (first
    | (refine wpList_load_st rfl 24 _ rfl HS.out 2 _ _ rfl rfl _ Try.underlying24 rfl (by rfl) ?_)
    | (refine wpList_load_st rfl 28 _ rfl HS.out 1 _ _ rfl rfl _ Try.underlying28 rfl (by rfl) ?_))
  refine ((G1 _ (HS.out.fact 0 rfl)).out).mono ?_
  rintro e w2 ⟨A1, c1, rfl, hO, hB⟩
  replace HS := Lib.hid (HS.out.on hB)
  clear hO hB G1
  go_wp2_with (first
    | (refine wpList_store_st rfl 24 _ _ rfl HS.out _ #[.int .i64 0, .int .i64 0, .slice A1 0 c1] _ rfl rfl (by rfl) rfl (bd_one 0 0 A1 0 c1) ?_; intro p4 v4 hp hS hBn; (try rw [← hp]); have HBn := Lib.hid hBn; have Hp := Lib.hid hp; have H0 := HS; clear HS; have HS := Lib.hid hS; clear hS hp hBn))
  refine (boards_any HK HE _).mono ?_
  rintro e w3 ⟨rfl, hB⟩
  replace HS := Lib.hid (HS.out.on hB)
  clear hB
  have q2p4 := HS.out.cell 0 rfl 2 rfl
  go_wp2
  go_ret
  exact ⟨rfl, HS.out.below⟩
end Go.Proofs.Ythlojadkgpmnmaa
