/-
  Layer 9 (due): the walks of At and Next; all that is asked of due.
-/
import Derived.Test.YtplpadblhjdpcaaGreatXDueW7
import Derived.Test.YtplpadblhjdpcaaGreatXJc
namespace Go.Proofs.YtplpadblhjdpcaaGreat
set_option maxRecDepth 10000
open Go.RowKit

theorem dtoldOn {w w' : World} {A : Option Addr} {l c : Nat} {ls : List Alm} (h : Told w A l c ls) (hb : Below w.heap.size w w') : Told w' A l c ls := ⟨h.1, h.2.1.on hb, h.2.2.1, h.2.2.2⟩
set_option maxRecDepth 10000 in
set_option maxHeartbeats 2000000 in
theorem dat_any (m n : Int) (A : Option Addr) (l c : Nat) (ls : List Alm) (b ch t : Int) (w : World) (h : Told w A l c ls) :
    Calls Tryz.prog 11 #[.agg #[.int .i64 m, .int .i64 n, .slice A l c], .agg #[.int .i64 b, .int .i64 ch], .int .i64 t] w fun e w' => e = .returned (.tuple #[.int .i64 (Du.atP b ch t ls), .bool (Bd.has b ch ls)]) ∧ Below w.heap.size w w' := by
  have HT := Lib.hid (dtoldOn h (below_new2 w (.cells #[.int .i64 m, .int .i64 n, .slice A l c] 24) (.cells #[.int .i64 b, .int .i64 ch] 26)))
  have HS := Lib.hid (((St.start w).more (rowF A ls) h.2.1).box2 #[.int .i64 m, .int .i64 n, .slice A l c] #[.int .i64 b, .int .i64 ch] 24 26)
  have G := fun W hW => Lib.hid (kk_get m n A l c ls b ch W hW)
  obtain ⟨r, hr⟩ : ∃ r, r = Bd.getA b ch ls := ⟨_, rfl⟩
  have e1 : Bd.has b ch ls = r.2 := by rw [hr]; rfl
  have e2 : Du.atP b ch t ls = if r.2 then (Am.pass r.1 t).ph else 0 := by unfold Du.atP; rw [e1, hr]
  rw [e1, e2]
  rw [← hr] at G
  obtain ⟨⟨x0, x1, x2, x3, x4, x5⟩, r⟩ := r
  simp only at G ⊢
  clear h hr e1 e2
  have GP := fun W => Lib.hid (APass_any x0 x1 x2 x3 x4 x5 t W)
  obtain ⟨⟨y0, y1, y2, y3, y4, y5⟩, hy⟩ : ∃ y, y = Am.pass ⟨x0, x1, x2, x3, x4, x5⟩ t := ⟨_, rfl⟩
  rw [← hy] at GP ⊢
  simp only [sixV] at GP ⊢
  clear hy
  cases r
  all_goals
    go_enter Tryz.func11, Tryz.ntmps11
    go_wp2_with (first
      | (refine wpList_load_st rfl 24 _ rfl HS.out 1 _ _ rfl rfl _ Tryz.underlying24 rfl (by rfl) ?_)
      | (refine wpList_load_st rfl 26 _ rfl HS.out 0 _ _ rfl rfl _ Tryz.underlying26 rfl (by rfl) ?_))
    refine (G _ HT.out).out.mono ?_
    rintro e w1 ⟨rfl, hB⟩
    replace HS := Lib.hid (HS.out.on hB)
    clear hB G HT
    go_wp2_with (first
      | (refine wpList_store_st rfl 38 _ _ rfl HS.out _ #[.int .i64 x0, .int .i64 x1, .int .i64 x2, .int .i64 x3, .int .i64 x4, .int .i64 x5] _ rfl rfl (by rfl) rfl (six_one ⟨x0, x1, x2, x3, x4, x5⟩) ?_; intro p9 v9 hp hS hBn; (try rw [← hp]); clear HS; have HS := Lib.hid hS; clear hS hp hBn)
      | (refine wpList_load_st rfl 38 _ rfl HS.out 0 _ _ rfl rfl _ Tryz.underlying38 rfl (by rfl) ?_))
  · go_ret2
    exact ⟨rfl, HS.out.below⟩
  · refine (GP _).out.mono ?_
    rintro e w2 ⟨rfl, hB⟩
    replace HS := Lib.hid (HS.out.on hB)
    clear hB GP
    have hfd := fun W => dfield_ph y0 y1 y2 y3 y4 y5 W
    go_wp2
    go_ret2
    exact ⟨rfl, HS.out.below⟩
set_option maxRecDepth 10000 in
set_option maxHeartbeats 2000000 in
theorem dnext_any (m n : Int) (A : Option Addr) (l c : Nat) (ls : List Alm) (w : World) (h : Told w A l c ls) :
    Calls Tryz.prog 9 #[.agg #[.int .i64 m, .int .i64 n, .slice A l c]] w fun e w' => e = .returned (.tuple #[.int .i64 (Du.firstA ls).un, .bool (Du.firstB ls)]) ∧ Below w.heap.size w w' := by
  have HT := Lib.hid (dtoldOn h (below_new w (.cells #[.int .i64 m, .int .i64 n, .slice A l c] 24)))
  have HS := Lib.hid (((St.start w).more (rowF A ls) h.2.1).new #[.int .i64 m, .int .i64 n, .slice A l c] 24)
  have G := fun W hW => Lib.hid (dfirst_any A l c ls W hW)
  obtain ⟨r, hr⟩ : ∃ r, r = Du.firstA ls := ⟨_, rfl⟩
  obtain ⟨z, hz⟩ : ∃ z, z = Du.firstB ls := ⟨_, rfl⟩
  rw [← hr, ← hz] at G ⊢
  obtain ⟨x0, x1, x2, x3, x4, x5⟩ := r
  simp only at G ⊢
  clear h hr hz
  have s2 := HS.out.cell 0 rfl 2 rfl
  go_enter Tryz.func9, Tryz.ntmps9
  go_wp2_with fail
  refine (G _ HT.out).out.mono ?_
  rintro e w1 ⟨rfl, hB⟩
  replace HS := Lib.hid (HS.out.on hB)
  clear hB G HT s2
  go_wp2_with (first
    | (refine wpList_store_st rfl 38 _ _ rfl HS.out _ #[.int .i64 x0, .int .i64 x1, .int .i64 x2, .int .i64 x3, .int .i64 x4, .int .i64 x5] _ rfl rfl (by rfl) rfl (six_one ⟨x0, x1, x2, x3, x4, x5⟩) ?_; intro p9 v9 hp hS hBn; (try rw [← hp]); clear HS; have HS := Lib.hid hS; have s5 := HS.out.cell 0 rfl 5 rfl; clear hS hp hBn)
    | (refine wpList_load_st rfl 38 _ rfl HS.out 0 _ _ rfl rfl _ Tryz.underlying38 rfl (by rfl) ?_))
  go_ret2
  exact ⟨rfl, HS.out.below⟩

theorem dueK : DueK where
  turns := fun m n A l c ls t q w h hq => by
    by_cases hE : Du.turnsE m n ls t = 0
    · have e : Du.turns m n ls t = Du.order (Du.turnsL t ls) := by unfold Du.turns; rw [if_pos hE]
      rw [e] at hq ⊢
      rw [hE]
      exact dturns_ok m n A l c ls t q w h hE (by rw [hq, Du.order_len])
    · have e : Du.turns m n ls t = [] := by unfold Du.turns; rw [if_neg hE]
      rw [e] at hq ⊢
      exact dturns_bad m n A l c ls t q w h hE hq
  next := dnext_any
  at' := dat_any
  first := dfirst_any
  order := dorder_any
end Go.Proofs.YtplpadblhjdpcaaGreat
