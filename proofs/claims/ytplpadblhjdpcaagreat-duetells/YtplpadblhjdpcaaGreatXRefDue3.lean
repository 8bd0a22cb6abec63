/-
  Layer 9 (due), the reference: At.
-/
import Derived.Test.YtplpadblhjdpcaaGreatXJa
import Derived.Test.YtplpadblhjdpcaaGreatXRefBoard1
import Derived.Test.YtplpadblhjdpcaaGreatXRefAlarm8
namespace Go.Proofs.YtplpadblhjdpcaaGreat
set_option maxRecDepth 10000
open Go.RowKit

theorem toldOn9 {w w' : World} {A : Option Addr} {l c : Nat} {ls : List Alm} (h : Told w A l c ls) (hb : Below w.heap.size w w') : Told w' A l c ls := ⟨h.1, h.2.1.on hb, h.2.2.1, h.2.2.2⟩
theorem run_field_ph (x0 x1 x2 x3 x4 x5 : Int) (w : World) :
    (Instr.field 38 (.agg #[.int .i64 x0, .int .i64 x1, .int .i64 x2, .int .i64 x3, .int .i64 x4, .int .i64 x5]) 1).run Tryz.prog w = .ok (.int .i64 x2) w := by
  rfl
set_option maxRecDepth 10000 in
set_option maxHeartbeats 2000000 in
theorem rtAt (m n : Int) (A : Option Addr) (l c : Nat) (ls : List Alm) (b ch t : Int) (w : World) (h : Told w A l c ls) :
    Calls Tryz.prog 12 #[.agg #[.int .i64 m, .int .i64 n, .slice A l c], .agg #[.int .i64 b, .int .i64 ch], .int .i64 t] w fun e w' => e = .returned (.tuple #[.int .i64 (Du.atP b ch t ls), .bool (Bd.has b ch ls)]) ∧ Below w.heap.size w w' := by
  have HT := Lib.hid (toldOn9 h (below_new2 w (.cells #[.int .i64 m, .int .i64 n, .slice A l c] 24) (.cells #[.int .i64 b, .int .i64 ch] 26)))
  have HS := Lib.hid (((St.start w).more (rowF A ls) h.2.1).box2 #[.int .i64 m, .int .i64 n, .slice A l c] #[.int .i64 b, .int .i64 ch] 24 26)
  have G := fun W hW => Lib.hid (rbGet m n A l c ls b ch W hW)
  obtain ⟨r, hr⟩ : ∃ r, r = Bd.getA b ch ls := ⟨_, rfl⟩
  have e1 : Bd.has b ch ls = r.2 := by rw [hr]; rfl
  have e2 : Du.atP b ch t ls = if r.2 then (Am.pass r.1 t).ph else 0 := by unfold Du.atP; rw [e1, hr]
  rw [e1, e2]
  rw [← hr] at G
  obtain ⟨⟨x0, x1, x2, x3, x4, x5⟩, r⟩ := r
  simp only at G ⊢
  clear h hr e1 e2
  have GP := fun W => Lib.hid (RPass_any x0 x1 x2 x3 x4 x5 t W)
  obtain ⟨⟨y0, y1, y2, y3, y4, y5⟩, hy⟩ : ∃ y, y = Am.pass ⟨x0, x1, x2, x3, x4, x5⟩ t := ⟨_, rfl⟩
  rw [← hy] at GP ⊢
  simp only [sixV] at GP ⊢
  clear hy
  cases r
  all_goals
    go_enter Tryz.func12, Tryz.ntmps12
    go_wp2_with (first
      | (refine wpList_load_st rfl 24 _ rfl HS.out 1 _ _ rfl rfl _ Tryz.underlying24 rfl (by rfl) ?_)
      | (refine wpList_load_st rfl 26 _ rfl HS.out 0 _ _ rfl rfl _ Tryz.underlying26 rfl (by rfl) ?_))
    refine (G _ HT.out).out.mono ?_
    rintro e w1 ⟨rfl, hB⟩
    replace HS := Lib.hid (HS.out.on hB)
    clear hB G HT
    go_wp2_with (first
      | (refine wpList_store_st rfl 38 _ _ rfl HS.out _ #[.int .i64 x0, .int .i64 x1, .int .i64 x2, .int .i64 x3, .int .i64 x4, .int .i64 x5] _ rfl rfl (by rfl) rfl (six_one ⟨x0, x1, x2, x3, x4, x5⟩) ?_; intro p9 v9 hp hS hBn; (try rw [← hp]); clear HS; have HS := Lib.hid hS; clear hS hp hBn)
      | (refine wpList_load_st rfl 38 _ rfl HS.out 0 _ _ rfl rfl _ Tryz.underlying38 rfl (by rfl) ?_))
  · go_ret2
    exact ⟨rfl, HS.out.below⟩
  · refine (GP _).out.mono ?_
    rintro e w2 ⟨rfl, hB⟩
    replace HS := Lib.hid (HS.out.on hB)
    clear hB GP
    have hfd := fun W => run_field_ph y0 y1 y2 y3 y4 y5 W
    go_wp2
    go_ret2
    exact ⟨rfl, HS.out.below⟩
end Go.Proofs.YtplpadblhjdpcaaGreat
