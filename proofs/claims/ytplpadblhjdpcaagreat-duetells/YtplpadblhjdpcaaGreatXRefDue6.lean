/-
  Layer 9 (due), the reference: Next.
-/
import Derived.Test.YtplpadblhjdpcaaGreatXRefDue3
import Derived.Test.YtplpadblhjdpcaaGreatXRefDue5
namespace Go.Proofs.YtplpadblhjdpcaaGreat
set_option maxRecDepth 10000
open Go.RowKit

set_option maxRecDepth 10000 in
set_option maxHeartbeats 2000000 in
theorem rtNext (m n : Int) (A : Option Addr) (l c : Nat) (ls : List Alm) (w : World) (h : Told w A l c ls) :
    Calls Tryz.prog 10 #[.agg #[.int .i64 m, .int .i64 n, .slice A l c]] w fun e w' => e = .returned (.tuple #[.int .i64 (Du.firstA ls).un, .bool (Du.firstB ls)]) ∧ Below w.heap.size w w' := by
  have HT := Lib.hid (toldOn9 h (below_new w (.cells #[.int .i64 m, .int .i64 n, .slice A l c] 24)))
  have HS := Lib.hid (((St.start w).more (rowF A ls) h.2.1).new #[.int .i64 m, .int .i64 n, .slice A l c] 24)
  have G := fun W hW => Lib.hid (RTFirst_any A l c ls W hW)
  obtain ⟨r, hr⟩ : ∃ r, r = Du.firstA ls := ⟨_, rfl⟩
  obtain ⟨z, hz⟩ : ∃ z, z = Du.firstB ls := ⟨_, rfl⟩
  rw [← hr, ← hz] at G ⊢
  obtain ⟨x0, x1, x2, x3, x4, x5⟩ := r
  simp only at G ⊢
  clear h hr hz
  have s2 := HS.out.cell 0 rfl 2 rfl
  go_enter Tryz.func10, Tryz.ntmps10
  go_wp2_with fail
  refine (G _ HT.out).out.mono ?_
  rintro e w1 ⟨rfl, hB⟩
  replace HS := Lib.hid (HS.out.on hB)
  clear hB G HT s2
  go_wp2_with (first
    | (refine wpList_store_st rfl 38 _ _ rfl HS.out _ #[.int .i64 x0, .int .i64 x1, .int .i64 x2, .int .i64 x3, .int .i64 x4, .int .i64 x5] _ rfl rfl (by rfl) rfl (six_one ⟨x0, x1, x2, x3, x4, x5⟩) ?_; intro p9 v9 hp hS hBn; (try rw [← hp]); clear HS; have HS := Lib.hid hS; have s5 := HS.out.cell 0 rfl 5 rfl; clear hS hp hBn)
    | (refine wpList_load_st rfl 38 _ rfl HS.out 0 _ _ rfl rfl _ Tryz.underlying38 rfl (by rfl) ?_))
  go_ret2
  exact ⟨rfl, HS.out.below⟩
end Go.Proofs.YtplpadblhjdpcaaGreat
