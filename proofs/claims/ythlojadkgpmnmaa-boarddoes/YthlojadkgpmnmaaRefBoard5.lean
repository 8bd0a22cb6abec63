/-
  Layer 8 (board), the reference: Put.
-/
import Derived.Test.YthlojadkgpmnmaaState3
import Derived.Test.YthlojadkgpmnmaaRefBoard3
import Derived.Test.YthlojadkgpmnmaaRankSlice
namespace Go.Proofs.Ythlojadkgpmnmaa
open Go.RowKit

set_option maxRecDepth 10000 in
set_option maxHeartbeats 4000000 in
theorem rbPut (m n : Int) (A : Option Addr) (l c : Nat) (ls : List Alm) (x : Alm) (q : Nat) (w : World) (h : Told w A l c ls) (hc : l ≤ c) (hq : q = (Bd.put m n ls x).als.length) :
    Calls Try.prog 11 #[.agg #[.int .i64 m, .int .i64 n, .slice A l c], .agg (sixV x)] w (GivesB w (Bd.put m n ls x) q (Bd.putE m n ls x)) := by
  obtain ⟨x0, x1, x2, x3, x4, x5⟩ := x
  have HS := Lib.hid (((St.start w).more (rowF A ls) h.2.1).box3 #[.int .i64 m, .int .i64 n, .slice A l c] #[.int .i64 x0, .int .i64 x1, .int .i64 x2, .int .i64 x3, .int .i64 x4, .int .i64 x5] #[.int .i64 0, .int .i64 0, .slice none 0 0] 24 28 24)
  have g1 := fun W (hA : AlmsAt W W.heap.size A ls) => Lib.hid (rbIs m n A l c ls W ⟨h.1, hA, h.2.2⟩)
  have g2 := fun W (hA : AlmsAt W W.heap.size A ls) => Lib.hid (rbGet m n A l c ls x0 x1 W ⟨h.1, hA, h.2.2⟩)
  have g3 := fun W => RAIs_any x0 x1 x2 x3 x4 x5 W
  unfold sixV
  simp only
  cases hb : Bd.isB m n ls
  · simp only [hb] at g1
    have e : Bd.putE m n ls ⟨x0, x1, x2, x3, x4, x5⟩ = 1 := by unfold Bd.putE; rw [hb]; rfl
    have e2 : Bd.put m n ls ⟨x0, x1, x2, x3, x4, x5⟩ = ⟨0, 0, []⟩ := by unfold Bd.put; rw [e]; rfl
    rw [e2] at hq ⊢
    rw [e]
    obtain rfl : q = 0 := hq
    clear e e2 hb h hc g2 g3
    go_enter Try.func11, Try.ntmps11
    go_wp2_with (refine wpList_load_st rfl 24 _ rfl HS.out 2 _ _ rfl rfl _ Try.underlying24 rfl (by rfl) ?_)
    refine (g1 _ (HS.out.fact 0 rfl)).out.mono ?_
    rintro e w2 ⟨rfl, hB⟩
    replace HS := Lib.hid (HS.out.on hB)
    clear hB g1
    go_wp2_with (refine wpList_setres8 rfl 24 _ _ rfl HS.out 0 (w.heap.size + 1 + 1) _ #[.int .i64 0, .int .i64 0, .slice none 0 0] rfl (by omega) w2.heap.size _ [] (OwnA.nil w2 w2.heap.size) (HS.out.lt 0 rfl) rfl rfl (by rfl) rfl (bd_one 0 0 none 0 0) ?_; intro w9 hS9 hO9; have HS9 := Lib.hid hS9; clear hS9 hO9)
    (try simp only [Exit.inBlock, Exit.then]); refine bodyPost_ret (ret_board rfl rfl HS9.out 0 rfl rfl) rfl ?_
    exact ⟨none, 0, rfl, OwnA.nil _ _, HS9.out.below⟩

  simp only [hb] at g1
  cases hrx : Am.right ⟨x0, x1, x2, x3, x4, x5⟩
  · simp only [hrx] at g3
    have e : Bd.putE m n ls ⟨x0, x1, x2, x3, x4, x5⟩ = 1 := by unfold Bd.putE; rw [hb, hrx]; rfl
    have e2 : Bd.put m n ls ⟨x0, x1, x2, x3, x4, x5⟩ = ⟨0, 0, []⟩ := by unfold Bd.put; rw [e]; rfl
    rw [e2] at hq ⊢
    rw [e]
    obtain rfl : q = 0 := hq
    clear e e2 hb h hc hrx g2
    go_enter Try.func11, Try.ntmps11
    go_wp2_with (refine wpList_load_st rfl 24 _ rfl HS.out 2 _ _ rfl rfl _ Try.underlying24 rfl (by rfl) ?_)
    refine (g1 _ (HS.out.fact 0 rfl)).out.mono ?_
    rintro e w2 ⟨rfl, hB⟩
    replace HS := Lib.hid (HS.out.on hB)
    clear hB g1
    have t0 := HS.out.cell 1 rfl 0 rfl
    have t1 := HS.out.cell 1 rfl 1 rfl
    have t2 := HS.out.cell 1 rfl 2 rfl
    have t3 := HS.out.cell 1 rfl 3 rfl
    have t4 := HS.out.cell 1 rfl 4 rfl
    have t5 := HS.out.cell 1 rfl 5 rfl
    go_wp2_with fail
    refine (g3 _).mono ?_
    rintro e w2a ⟨rfl, hB⟩
    replace HS := Lib.hid (HS.out.on hB)
    clear hB g3 t0 t1 t2 t3 t4 t5
    have t4 := HS.out.cell 1 rfl 4 rfl
    have s1 := HS.out.cell 2 rfl 1 rfl
    go_wp2_with (refine wpList_setres8 rfl 24 _ _ rfl HS.out 0 (w.heap.size + 1 + 1) _ #[.int .i64 0, .int .i64 0, .slice none 0 0] rfl (by omega) w2a.heap.size _ [] (OwnA.nil w2a w2a.heap.size) (HS.out.lt 0 rfl) rfl rfl (by rfl) rfl (bd_one 0 0 none 0 0) ?_; intro w9 hS9 hO9; have HS9 := Lib.hid hS9; clear hS9 hO9)
    (try simp only [Exit.inBlock, Exit.then]); refine bodyPost_ret (ret_board rfl rfl HS9.out 0 rfl rfl) rfl ?_
    exact ⟨none, 0, rfl, OwnA.nil _ _, HS9.out.below⟩

  simp only [hrx] at g3
  by_cases hs : n < x4
  · have hE : Bd.putE m n ls ⟨x0, x1, x2, x3, x4, x5⟩ = 1 := by unfold Bd.putE; rw [hb, hrx, decide_eq_true hs]; rfl
    have e : Bd.putE m n ls ⟨x0, x1, x2, x3, x4, x5⟩ = 1 := hE
    have e2 : Bd.put m n ls ⟨x0, x1, x2, x3, x4, x5⟩ = ⟨0, 0, []⟩ := by unfold Bd.put; rw [e]; rfl
    rw [e2] at hq ⊢
    rw [e]
    obtain rfl : q = 0 := hq
    clear e e2 hE hb h hc hrx g2
    go_enter Try.func11, Try.ntmps11
    go_wp2_with (refine wpList_load_st rfl 24 _ rfl HS.out 2 _ _ rfl rfl _ Try.underlying24 rfl (by rfl) ?_)
    refine (g1 _ (HS.out.fact 0 rfl)).out.mono ?_
    rintro e w2 ⟨rfl, hB⟩
    replace HS := Lib.hid (HS.out.on hB)
    clear hB g1
    have t0 := HS.out.cell 1 rfl 0 rfl
    have t1 := HS.out.cell 1 rfl 1 rfl
    have t2 := HS.out.cell 1 rfl 2 rfl
    have t3 := HS.out.cell 1 rfl 3 rfl
    have t4 := HS.out.cell 1 rfl 4 rfl
    have t5 := HS.out.cell 1 rfl 5 rfl
    go_wp2_with fail
    refine (g3 _).mono ?_
    rintro e w2a ⟨rfl, hB⟩
    replace HS := Lib.hid (HS.out.on hB)
    clear hB g3 t0 t1 t2 t3 t4 t5
    have t4 := HS.out.cell 1 rfl 4 rfl
    have s1 := HS.out.cell 2 rfl 1 rfl
    go_wp2_with (refine wpList_setres8 rfl 24 _ _ rfl HS.out 0 (w.heap.size + 1 + 1) _ #[.int .i64 0, .int .i64 0, .slice none 0 0] rfl (by omega) w2a.heap.size _ [] (OwnA.nil w2a w2a.heap.size) (HS.out.lt 0 rfl) rfl rfl (by rfl) rfl (bd_one 0 0 none 0 0) ?_; intro w9 hS9 hO9; have HS9 := Lib.hid hS9; clear hS9 hO9)
    (try simp only [Exit.inBlock, Exit.then]); refine bodyPost_ret (ret_board rfl rfl HS9.out 0 rfl rfl) rfl ?_
    exact ⟨none, 0, rfl, OwnA.nil _ _, HS9.out.below⟩

  have is : (n < x4) = False := eq_false hs
  obtain ⟨⟨⟨y0, y1, y2, y3, y4, y5⟩, ok⟩, hr⟩ : ∃ r, r = Bd.getA x0 x1 ls := ⟨_, rfl⟩
  simp only [← hr, sixV] at g2
  have hh : Bd.has x0 x1 ls = ok := by unfold Bd.has; rw [← hr]
  have hE : Bd.putE m n ls ⟨x0, x1, x2, x3, x4, x5⟩ = if !ok && decide (m ≤ (ls.length : Int)) then 81 else 0 := by
    unfold Bd.putE
    rw [hb, hrx, decide_eq_false hs]
    simp only
    rw [hh]
    rfl
  cases ok
  · by_cases hm : m ≤ (l : Int)
    · have im : decide (m ≤ (l : Int)) = true := decide_eq_true hm
      have hE2 : Bd.putE m n ls ⟨x0, x1, x2, x3, x4, x5⟩ = 81 := by rw [hE, ← h.1, im]; rfl
      have e : Bd.putE m n ls ⟨x0, x1, x2, x3, x4, x5⟩ = 81 := hE2
      have e2 : Bd.put m n ls ⟨x0, x1, x2, x3, x4, x5⟩ = ⟨0, 0, []⟩ := by unfold Bd.put; rw [e]; rfl
      rw [e2] at hq ⊢
      rw [e]
      obtain rfl : q = 0 := hq
      clear e e2 hE hE2 hb h hc hrx hh hr hs
      go_enter Try.func11, Try.ntmps11
      go_wp2_with (refine wpList_load_st rfl 24 _ rfl HS.out 2 _ _ rfl rfl _ Try.underlying24 rfl (by rfl) ?_)
      refine (g1 _ (HS.out.fact 0 rfl)).out.mono ?_
      rintro e w2 ⟨rfl, hB⟩
      replace HS := Lib.hid (HS.out.on hB)
      clear hB g1
      have t0 := HS.out.cell 1 rfl 0 rfl
      have t1 := HS.out.cell 1 rfl 1 rfl
      have t2 := HS.out.cell 1 rfl 2 rfl
      have t3 := HS.out.cell 1 rfl 3 rfl
      have t4 := HS.out.cell 1 rfl 4 rfl
      have t5 := HS.out.cell 1 rfl 5 rfl
      go_wp2_with fail
      refine (g3 _).mono ?_
      rintro e w2a ⟨rfl, hB⟩
      replace HS := Lib.hid (HS.out.on hB)
      clear hB g3 t0 t1 t2 t3 t4 t5
      have t4 := HS.out.cell 1 rfl 4 rfl
      have s1 := HS.out.cell 2 rfl 1 rfl
      have t0 := HS.out.cell 1 rfl 0 rfl
      have t1 := HS.out.cell 1 rfl 1 rfl
      go_wp2_with (refine wpList_load_st rfl 24 _ rfl HS.out 2 _ _ rfl rfl _ Try.underlying24 rfl (by rfl) ?_)
      refine (g2 _ (HS.out.fact 0 rfl)).out.mono ?_
      rintro e w3 ⟨rfl, hB⟩
      replace HS := Lib.hid (HS.out.on hB)
      clear hB g2 t0 t1 t4 s1
      have HN := Lib.hid (below_new w3 (.cells #[.int .i64 y0, .int .i64 y1, .int .i64 y2, .int .i64 y3, .int .i64 y4, .int .i64 y5] 28))
      replace HS := Lib.hid (HS.out.on HN.out)
      have s0 := HS.out.cell 2 rfl 0 rfl
      have s2 := HS.out.cell 2 rfl 2 rfl
      go_wp2_with (refine wpList_setres8 rfl 24 _ _ rfl HS.out 0 (w.heap.size + 1 + 1) _ #[.int .i64 0, .int .i64 0, .slice none 0 0] rfl (by omega) (w3.alloc (.cells #[.int .i64 y0, .int .i64 y1, .int .i64 y2, .int .i64 y3, .int .i64 y4, .int .i64 y5] 28)).heap.size _ [] (OwnA.nil (w3.alloc (.cells #[.int .i64 y0, .int .i64 y1, .int .i64 y2, .int .i64 y3, .int .i64 y4, .int .i64 y5] 28)) (w3.alloc (.cells #[.int .i64 y0, .int .i64 y1, .int .i64 y2, .int .i64 y3, .int .i64 y4, .int .i64 y5] 28)).heap.size) (HS.out.lt 0 rfl) rfl rfl (by rfl) rfl (bd_one 0 0 none 0 0) ?_; intro w9 hS9 hO9; have HS9 := Lib.hid hS9; clear hS9 hO9)
      (try simp only [Exit.inBlock, Exit.then]); refine bodyPost_ret (ret_board rfl rfl HS9.out 0 rfl rfl) rfl ?_
      exact ⟨none, 0, rfl, OwnA.nil _ _, HS9.out.below⟩

    have hE0 : Bd.putE m n ls ⟨x0, x1, x2, x3, x4, x5⟩ = 0 := by rw [hE, ← h.1, decide_eq_false hm]; rfl
    have im : decide (m ≤ (l : Int)) = false := decide_eq_false hm
    have im2 : (m ≤ (l : Int)) = False := eq_false hm
    clear hm hE
    have e : Bd.putE m n ls ⟨x0, x1, x2, x3, x4, x5⟩ = 0 := hE0
    have e2 : Bd.put m n ls ⟨x0, x1, x2, x3, x4, x5⟩ = ⟨m, n, Bd.putL ⟨x0, x1, x2, x3, x4, x5⟩ ls⟩ := by unfold Bd.put; rw [e]; rfl
    rw [e2] at hq ⊢
    rw [e]
    have Hl := Lib.hid h.1
    have Hn0 := Lib.hid h.2.2.1
    have Hf := Lib.hid h.2.2.2
    have Hc := Lib.hid hc
    replace hq : q = (Bd.putL ⟨x0, x1, x2, x3, x4, x5⟩ ls).length := hq
    have Hq := Lib.hid hq
    have hpw := (Bd.rows_iff.1 (Bd.isB_iff.1 hb).2.2.2).2
    have hput := Bd.put_eq8 (a := ⟨x0, x1, x2, x3, x4, x5⟩) hpw
    have hpl : Bd.plc8 ⟨x0, x1, x2, x3, x4, x5⟩ ls ≤ ls.length := Bd.plc8_le _ ls
    obtain ⟨P, hP⟩ : ∃ P, P = Bd.plc8 ⟨x0, x1, x2, x3, x4, x5⟩ ls := ⟨_, rfl⟩
    have HPe := Lib.hid hP
    rw [← hP] at hput hpl
    have HFin : Hid (ls.take P ++ [(⟨x0, x1, x2, x3, x4, x5⟩ : Alm)] ++ ls.drop P = Bd.putL ⟨x0, x1, x2, x3, x4, x5⟩ ls) := Lib.hid (by
      have hh2 : Bd.has (⟨x0, x1, x2, x3, x4, x5⟩ : Alm).b (⟨x0, x1, x2, x3, x4, x5⟩ : Alm).c ls = false := hh
      rw [hput, hh2]; simp)
    have HPl := Lib.hid hpl
    clear e e2 hb h hh hr hq hE0 hc hput hpl hP hpw hrx hs
    go_enter Try.func11, Try.ntmps11
    go_wp2_with (refine wpList_load_st rfl 24 _ rfl HS.out 2 _ _ rfl rfl _ Try.underlying24 rfl (by rfl) ?_)
    refine (g1 _ (HS.out.fact 0 rfl)).out.mono ?_
    rintro e w2 ⟨rfl, hB⟩
    replace HS := Lib.hid (HS.out.on hB)
    clear hB g1
    have t0 := HS.out.cell 1 rfl 0 rfl
    have t1 := HS.out.cell 1 rfl 1 rfl
    have t2 := HS.out.cell 1 rfl 2 rfl
    have t3 := HS.out.cell 1 rfl 3 rfl
    have t4 := HS.out.cell 1 rfl 4 rfl
    have t5 := HS.out.cell 1 rfl 5 rfl
    go_wp2_with fail
    refine (g3 _).mono ?_
    rintro e w2a ⟨rfl, hB⟩
    replace HS := Lib.hid (HS.out.on hB)
    clear hB g3 t0 t1 t2 t3 t4 t5
    have t4 := HS.out.cell 1 rfl 4 rfl
    have s1 := HS.out.cell 2 rfl 1 rfl
    have t0 := HS.out.cell 1 rfl 0 rfl
    have t1 := HS.out.cell 1 rfl 1 rfl
    go_wp2_with (refine wpList_load_st rfl 24 _ rfl HS.out 2 _ _ rfl rfl _ Try.underlying24 rfl (by rfl) ?_)
    refine (g2 _ (HS.out.fact 0 rfl)).out.mono ?_
    rintro e w3 ⟨rfl, hB⟩
    replace HS := Lib.hid (HS.out.on hB)
    clear hB g2 t0 t1 t4 s1
    have HN := Lib.hid (below_new w3 (.cells #[.int .i64 y0, .int .i64 y1, .int .i64 y2, .int .i64 y3, .int .i64 y4, .int .i64 y5] 28))
    replace HS := Lib.hid (HS.out.on HN.out)
    have s0 := HS.out.cell 2 rfl 0 rfl
    have s2 := HS.out.cell 2 rfl 2 rfl
    go_wp2_with fail
    obtain ⟨w4, hw4⟩ : ∃ W, W = w3.alloc (.cells #[.int .i64 y0, .int .i64 y1, .int .i64 y2, .int .i64 y3, .int .i64 y4, .int .i64 y5] 28) := ⟨_, rfl⟩
    rw [← hw4] at HS ⊢
    clear hw4 HN
    obtain ⟨p3, hp3⟩ : ∃ p, p = w.heap.size + 1 + 1 := ⟨_, rfl⟩
    obtain ⟨p2, hp2⟩ : ∃ p, p = w.heap.size + 1 := ⟨_, rfl⟩
    obtain ⟨p1, hp1⟩ : ∃ p, p = w.heap.size := ⟨_, rfl⟩
    have Hp3 : Hid (w.heap.size ≤ p3) := Lib.hid (by omega)
    rw [← hp3] at HS ⊢
    rw [← hp2] at HS ⊢
    rw [← hp1] at HS ⊢
    clear hp1 hp2 hp3
    go_loopw [8] (fun i wr => ∃ k : Nat, i = .int .i64 (k : Int) ∧ Hid (k ≤ l ∧ Bd.plc8 ⟨x0, x1, x2, x3, x4, x5⟩ (ls.drop k) + k = P) ∧ Hid (Below w4.heap.size w4 wr)) (fun i _ => l - (intOf i).toNat)
    case atStart => exact ⟨0, rfl, Lib.hid ⟨Nat.zero_le _, by rw [HPe.out]; rfl⟩, Lib.hid (Below.refl _ _)⟩
    case round =>
     obtain ⟨k, rfl, Hg, HB⟩ := hrel
     have HSr := Lib.hid (HS.out.on HB.out)
     have s2 := HSr.out.cell 2 rfl 2 rfl
     by_cases hlt : k < l
     · have kl : k < ls.length := by rw [← Hl.out]; exact hlt
       have HA : Hid (AlmsAt wr wr.heap.size A ls) := Lib.hid (HSr.out.fact 0 rfl)
       obtain ⟨b0, o0, hAe, hb0, h6⟩ := HA.out k kl
       have Hs := Lib.hid (Bd.plc8_drop (a := ⟨x0, x1, x2, x3, x4, x5⟩) kl)
       obtain ⟨y, hy⟩ : ∃ y, y = ls[k]'kl := ⟨_, rfl⟩
       rw [← hy] at h6 Hs
       clear hy
       obtain ⟨z0, z1, z2, z3, z4, z5⟩ := y
       have d0 := h6.c0
       have d1 := h6.c1
       simp only at d0 d1
       subst hAe
       have t0 := HSr.out.cell 1 rfl 0 rfl
       have t1 := HSr.out.cell 1 rfl 1 rfl
       have hpp1 : p1 < wr.heap.size := HSr.out.lt 2 rfl
       have hpp2 : p2 < wr.heap.size := HSr.out.lt 1 rfl
       have i1 : (k : Int) < (l : Int) := by omega
       have i3 : (0 : Int) ≤ (k : Int) := by omega
       have i4 : decide ((k : Int) < (l : Int)) = true := decide_eq_true i1
       have Ik : Hid (wrap64 ((k : Int) + 1) = (k : Int) + 1) := Lib.hid (by have := Hf.out; unfold wrap64; omega)
       have Hk := Lib.hid hlt
       have g := fun W => RLess_any z0 z1 x0 x1 W
       obtain ⟨z, hz⟩ : ∃ z, z = Sp.less z0 z1 x0 x1 := ⟨_, rfl⟩
       simp only [← hz] at g
       have Ha : Hid (Bd.lessA ⟨z0, z1, z2, z3, z4, z5⟩ ⟨x0, x1, x2, x3, x4, x5⟩ = z) := Lib.hid (by rw [hz]; rfl)
       clear h6 kl hlt hz
       cases z
       · have He : Hid (P = k) := Lib.hid (by have := Hg.out.2; rw [Hs.out, Ha.out] at this; simp at this; omega)
         clear Hs Hg Ha
         go_wp2_with fail
         go_region_held3 (fun W => W.cell? ⟨p1, 2, none⟩ = some (.slice (some ⟨b0, o0, none⟩) l c) ∧ W.cell? ⟨b0, o0 + k * 6, none⟩ = some (.int .i64 z0) ∧ W.cell? ⟨b0, o0 + k * 6 + 1, none⟩ = some (.int .i64 z1) ∧ W.cell? ⟨p2, 0, none⟩ = some (.int .i64 x0) ∧ W.cell? ⟨p2, 1, none⟩ = some (.int .i64 x1)) (exact ⟨s2, d0, d1, t0, t1⟩) ((go_at_call 38; refine (g _).mono ?_; rintro e w' ⟨rfl, hB'⟩; have hB2 : Below wr.heap.size wr w' := (by first | exact hB' | exact below_undrew hB'); replace s2 := (hB2.cell (p := ⟨p1, 2, none⟩) hpp1).trans s2; replace d0 := (hB2.cell (p := ⟨b0, o0 + k * 6, none⟩) hb0).trans d0; replace d1 := (hB2.cell (p := ⟨b0, o0 + k * 6 + 1, none⟩) hb0).trans d1; replace t0 := (hB2.cell (p := ⟨p2, 0, none⟩) hpp2).trans t0; replace t1 := (hB2.cell (p := ⟨p2, 1, none⟩) hpp2).trans t1; have HB2 : Hid (Below w4.heap.size w4 w') := Lib.hid (below2 HB.out hB2); clear hB' hB2))
         have Hkl : Hid (k ≤ l) := Lib.hid (Nat.le_of_lt Hk.out)
         have Hkl2 : Hid (k ≤ l) := Lib.hid (Nat.le_of_lt Hk.out)
         have Hfin : Hid (ls.take k ++ [(⟨x0, x1, x2, x3, x4, x5⟩ : Alm)] ++ ls.drop k = Bd.putL ⟨x0, x1, x2, x3, x4, x5⟩ ls) := Lib.hid (by rw [← He.out]; exact HFin.out)
         have HSw := Lib.hid (HS.out.on HB2.out)
         clear s2 d0 d1 t0 t1 g HSr HA
         have HAw : Hid (AlmsAt (w') (w').heap.size (some ⟨b0, o0, none⟩) ls) := Lib.hid (HSw.out.fact 0 rfl)
         have s2 := HSw.out.cell 2 rfl 2 rfl
         have Hz0 : Hid (w.heap.size ≤ (w').heap.size) := Lib.hid HSw.out.below.size
         have Hp3l : Hid (p3 < (w').heap.size) := Lib.hid (HSw.out.lt 0 rfl)
         have Htl : Hid (k = (ls.take k).length) := Lib.hid (by rw [List.length_take]; have := Hl.out; have := Hkl.out; omega)
         have Hdl : Hid (l - k = (ls.drop k).length) := Lib.hid (by rw [List.length_drop]; have := Hl.out; omega)
         have HBr := Lib.hid (Below.refl (w').heap.size (w'))
         go_wp2_with (first
           | (refine wpList_slice_to rfl _ _ rfl (some ⟨b0, o0, none⟩) l c k (w').heap.size ls rfl rfl HAw.out Hn0.out Hc.out Hl.out Hkl.out ?_; intro A3 hA3 hn3; have HA3 := Lib.hid hA3; have HN3 := Lib.hid hn3; clear hA3 hn3)
           | (at_builtin; refine wpList_append_alms rfl _ _ rfl (w').heap.size (.slice none 0 0) [] (ls.take k) rfl (OwnA.nil _ _) A3 k c rfl Htl.out HA3.out HN3.out (Nat.le_refl _) (by have := Htl.out; have := Hkl.out; have := Hf.out; simp only [List.length_nil]; omega) ?_; intro v6 w6 hown6 hgrow6; rw [List.nil_append] at hown6; have O6 := Lib.hid hown6; have HB6 : Hid (Below (w').heap.size (w') w6) := Lib.hid (HBr.out.grown hgrow6 (Nat.le_refl _) (fun _ e => nomatch e)); have HS6 := Lib.hid (HSw.out.on HB6.out); have HN6 := Lib.hid (below_new w6 (.cells #[.int .i64 x0, .int .i64 x1, .int .i64 x2, .int .i64 x3, .int .i64 x4, .int .i64 x5] 28)); have O6n := Lib.hid (O6.out.below HN6.out); have ON6 := Lib.hid (AlmsAt.one11 w6 x0 x1 x2 x3 x4 x5 28); have HB6n := Lib.hid (below2 HB6.out HN6.out); clear hown6 hgrow6 s2)
           | (refine wpList_load_st rfl 28 _ rfl HS6.out 1 _ _ rfl rfl _ Try.underlying28 rfl (by rfl) ?_)
           | (at_builtin; refine wpList_append_alms rfl _ _ rfl (w').heap.size v6 (ls.take k) [(⟨x0, x1, x2, x3, x4, x5⟩ : Alm)] rfl O6n.out (some ⟨w6.heap.size, 0, none⟩) 1 _ rfl rfl ON6.out (fun e => nomatch e) HB6n.out.size (by have := Htl.out; have := Hkl.out; have := Hf.out; simp only [List.length_cons, List.length_nil]; omega) ?_; intro v7 w7 hown7 hgrow7; have O7 := Lib.hid hown7; have HB7 : Hid (Below (w').heap.size (w') w7) := Lib.hid (HB6n.out.grown hgrow7 HB6n.out.size O6n.out.ge9); have HS7 := Lib.hid (HSw.out.on HB7.out); have s72 := HS7.out.cell 2 rfl 2 rfl; have HA7 : Hid (AlmsAt w7 w7.heap.size (some ⟨b0, o0, none⟩) ls) := Lib.hid (HS7.out.fact 0 rfl); clear hown7 hgrow7)
           | (refine wpList_slice_from rfl _ _ rfl (some ⟨b0, o0, none⟩) l c k w7.heap.size ls rfl rfl HA7.out Hn0.out Hc.out Hl.out Hkl2.out ?_; intro A4 hA4 hn4; have HA4 := Lib.hid hA4; have HN4 := Lib.hid hn4; clear hA4 hn4)
           | (at_builtin; refine wpList_append_alms rfl _ _ rfl (w').heap.size v7 (ls.take k ++ [(⟨x0, x1, x2, x3, x4, x5⟩ : Alm)]) (ls.drop k) rfl O7.out A4 (l - k) (c - k) rfl Hdl.out HA4.out HN4.out HB7.out.size (by have := Htl.out; have := Hkl.out; have := Hf.out; have := Hdl.out; simp only [List.length_append, List.length_cons, List.length_nil]; omega) ?_; intro v8 w8 hown8 hgrow8; have O8 := Lib.hid hown8; have HB8 : Hid (Below (w').heap.size (w') w8) := Lib.hid (HB7.out.grown hgrow8 HB7.out.size O7.out.ge9); have HS8 := Lib.hid (HSw.out.on HB8.out); have s80 := HS8.out.cell 2 rfl 0 rfl; have s81 := HS8.out.cell 2 rfl 1 rfl; rw [Hfin.out] at O8; obtain ⟨A5, c5, hv8, _, _, _⟩ := O8.out.slice; rw [← Hq.out] at hv8; subst hv8; clear hown8 hgrow8 s72)
           | (refine wpList_setres8 rfl 24 _ _ rfl HS8.out 0 p3 _ #[.int .i64 m, .int .i64 n, .slice A5 q c5] rfl Hp3.out (w').heap.size _ (Bd.putL ⟨x0, x1, x2, x3, x4, x5⟩ ls) O8.out Hp3l.out rfl rfl (by rfl) rfl (bd_one m n A5 q c5) ?_; intro w9 hS9 hO9; have HS9 := Lib.hid hS9; have HO9 := Lib.hid (hO9.lower Hz0.out); clear hS9 hO9))
         (try simp only [Exit.inBlock, Exit.then]); refine bodyPost_ret (ret_board rfl rfl HS9.out 0 rfl rfl) rfl ?_
         exact ⟨A5, c5, rfl, HO9.out, HS9.out.below⟩
       · have He : Hid (k + 1 ≤ l ∧ Bd.plc8 ⟨x0, x1, x2, x3, x4, x5⟩ (ls.drop (k + 1)) + (k + 1) = P) := Lib.hid (by have := Hg.out.2; rw [Hs.out, Ha.out] at this; simp at this; exact ⟨Hk.out, by omega⟩)
         clear Hs Hg Ha
         go_wp2_with fail
         go_region_held3 (fun W => W.cell? ⟨p1, 2, none⟩ = some (.slice (some ⟨b0, o0, none⟩) l c) ∧ W.cell? ⟨b0, o0 + k * 6, none⟩ = some (.int .i64 z0) ∧ W.cell? ⟨b0, o0 + k * 6 + 1, none⟩ = some (.int .i64 z1) ∧ W.cell? ⟨p2, 0, none⟩ = some (.int .i64 x0) ∧ W.cell? ⟨p2, 1, none⟩ = some (.int .i64 x1)) (exact ⟨s2, d0, d1, t0, t1⟩) ((go_at_call 38; refine (g _).mono ?_; rintro e w' ⟨rfl, hB'⟩; have hB2 : Below wr.heap.size wr w' := (by first | exact hB' | exact below_undrew hB'); replace s2 := (hB2.cell (p := ⟨p1, 2, none⟩) hpp1).trans s2; replace d0 := (hB2.cell (p := ⟨b0, o0 + k * 6, none⟩) hb0).trans d0; replace d1 := (hB2.cell (p := ⟨b0, o0 + k * 6 + 1, none⟩) hb0).trans d1; replace t0 := (hB2.cell (p := ⟨p2, 0, none⟩) hpp2).trans t0; replace t1 := (hB2.cell (p := ⟨p2, 1, none⟩) hpp2).trans t1; have HB2 : Hid (Below w4.heap.size w4 w') := Lib.hid (below2 HB.out hB2); clear hB' hB2))
         go_wp2
         go_roundw
         case rel => exact ⟨k + 1, by first | rfl | (rw [Ik.out]; rfl), He, HB2⟩
         case measure => have := Hk.out; (try rw [Ik.out]); simp [intOf]; omega
     · have ik : ((k : Int) < (l : Int)) = False := eq_false (by omega)
       have i4 : decide ((k : Int) < (l : Int)) = false := decide_eq_false (by omega)
       have He : Hid (P = k) := Lib.hid (by have := Hg.out.2; rw [List.drop_eq_nil_of_le (by have := Hl.out; omega)] at this; simpa [Bd.plc8] using this.symm)
       have Hkl : Hid (k ≤ l) := Lib.hid Hg.out.1
       have Hkl2 := Hkl
       have Hfin : Hid (ls.take k ++ [(⟨x0, x1, x2, x3, x4, x5⟩ : Alm)] ++ ls.drop k = Bd.putL ⟨x0, x1, x2, x3, x4, x5⟩ ls) := Lib.hid (by rw [← He.out]; exact HFin.out)
       clear hlt Hg
       go_wp2_with fail
       go_quiet (fail)
       have HSw := Lib.hid (HS.out.on (below_drew HB.out nq))
       clear s2 HSr
       have HAw : Hid (AlmsAt (wr.drewN nq) (wr.drewN nq).heap.size A ls) := Lib.hid (HSw.out.fact 0 rfl)
       have s2 := HSw.out.cell 2 rfl 2 rfl
       have Hz0 : Hid (w.heap.size ≤ (wr.drewN nq).heap.size) := Lib.hid HSw.out.below.size
       have Hp3l : Hid (p3 < (wr.drewN nq).heap.size) := Lib.hid (HSw.out.lt 0 rfl)
       have Htl : Hid (k = (ls.take k).length) := Lib.hid (by rw [List.length_take]; have := Hl.out; have := Hkl.out; omega)
       have Hdl : Hid (l - k = (ls.drop k).length) := Lib.hid (by rw [List.length_drop]; have := Hl.out; omega)
       have HBr := Lib.hid (Below.refl (wr.drewN nq).heap.size (wr.drewN nq))
       go_wp2_with (first
         | (refine wpList_slice_to rfl _ _ rfl A l c k (wr.drewN nq).heap.size ls rfl rfl HAw.out Hn0.out Hc.out Hl.out Hkl.out ?_; intro A3 hA3 hn3; have HA3 := Lib.hid hA3; have HN3 := Lib.hid hn3; clear hA3 hn3)
         | (at_builtin; refine wpList_append_alms rfl _ _ rfl (wr.drewN nq).heap.size (.slice none 0 0) [] (ls.take k) rfl (OwnA.nil _ _) A3 k c rfl Htl.out HA3.out HN3.out (Nat.le_refl _) (by have := Htl.out; have := Hkl.out; have := Hf.out; simp only [List.length_nil]; omega) ?_; intro v6 w6 hown6 hgrow6; rw [List.nil_append] at hown6; have O6 := Lib.hid hown6; have HB6 : Hid (Below (wr.drewN nq).heap.size (wr.drewN nq) w6) := Lib.hid (HBr.out.grown hgrow6 (Nat.le_refl _) (fun _ e => nomatch e)); have HS6 := Lib.hid (HSw.out.on HB6.out); have HN6 := Lib.hid (below_new w6 (.cells #[.int .i64 x0, .int .i64 x1, .int .i64 x2, .int .i64 x3, .int .i64 x4, .int .i64 x5] 28)); have O6n := Lib.hid (O6.out.below HN6.out); have ON6 := Lib.hid (AlmsAt.one11 w6 x0 x1 x2 x3 x4 x5 28); have HB6n := Lib.hid (below2 HB6.out HN6.out); clear hown6 hgrow6 s2)
         | (refine wpList_load_st rfl 28 _ rfl HS6.out 1 _ _ rfl rfl _ Try.underlying28 rfl (by rfl) ?_)
         | (at_builtin; refine wpList_append_alms rfl _ _ rfl (wr.drewN nq).heap.size v6 (ls.take k) [(⟨x0, x1, x2, x3, x4, x5⟩ : Alm)] rfl O6n.out (some ⟨w6.heap.size, 0, none⟩) 1 _ rfl rfl ON6.out (fun e => nomatch e) HB6n.out.size (by have := Htl.out; have := Hkl.out; have := Hf.out; simp only [List.length_cons, List.length_nil]; omega) ?_; intro v7 w7 hown7 hgrow7; have O7 := Lib.hid hown7; have HB7 : Hid (Below (wr.drewN nq).heap.size (wr.drewN nq) w7) := Lib.hid (HB6n.out.grown hgrow7 HB6n.out.size O6n.out.ge9); have HS7 := Lib.hid (HSw.out.on HB7.out); have s72 := HS7.out.cell 2 rfl 2 rfl; have HA7 : Hid (AlmsAt w7 w7.heap.size A ls) := Lib.hid (HS7.out.fact 0 rfl); clear hown7 hgrow7)
         | (refine wpList_slice_from rfl _ _ rfl A l c k w7.heap.size ls rfl rfl HA7.out Hn0.out Hc.out Hl.out Hkl2.out ?_; intro A4 hA4 hn4; have HA4 := Lib.hid hA4; have HN4 := Lib.hid hn4; clear hA4 hn4)
         | (at_builtin; refine wpList_append_alms rfl _ _ rfl (wr.drewN nq).heap.size v7 (ls.take k ++ [(⟨x0, x1, x2, x3, x4, x5⟩ : Alm)]) (ls.drop k) rfl O7.out A4 (l - k) (c - k) rfl Hdl.out HA4.out HN4.out HB7.out.size (by have := Htl.out; have := Hkl.out; have := Hf.out; have := Hdl.out; simp only [List.length_append, List.length_cons, List.length_nil]; omega) ?_; intro v8 w8 hown8 hgrow8; have O8 := Lib.hid hown8; have HB8 : Hid (Below (wr.drewN nq).heap.size (wr.drewN nq) w8) := Lib.hid (HB7.out.grown hgrow8 HB7.out.size O7.out.ge9); have HS8 := Lib.hid (HSw.out.on HB8.out); have s80 := HS8.out.cell 2 rfl 0 rfl; have s81 := HS8.out.cell 2 rfl 1 rfl; rw [Hfin.out] at O8; obtain ⟨A5, c5, hv8, _, _, _⟩ := O8.out.slice; rw [← Hq.out] at hv8; subst hv8; clear hown8 hgrow8 s72)
         | (refine wpList_setres8 rfl 24 _ _ rfl HS8.out 0 p3 _ #[.int .i64 m, .int .i64 n, .slice A5 q c5] rfl Hp3.out (wr.drewN nq).heap.size _ (Bd.putL ⟨x0, x1, x2, x3, x4, x5⟩ ls) O8.out Hp3l.out rfl rfl (by rfl) rfl (bd_one m n A5 q c5) ?_; intro w9 hS9 hO9; have HS9 := Lib.hid hS9; have HO9 := Lib.hid (hO9.lower Hz0.out); clear hS9 hO9))
       (try simp only [Exit.inBlock, Exit.then]); refine bodyPost_ret (ret_board rfl rfl HS9.out 0 rfl rfl) rfl ?_
       exact ⟨A5, c5, rfl, HO9.out, HS9.out.below⟩
  · have hE0 : Bd.putE m n ls ⟨x0, x1, x2, x3, x4, x5⟩ = 0 := by rw [hE]; rfl
    clear hE
    have e : Bd.putE m n ls ⟨x0, x1, x2, x3, x4, x5⟩ = 0 := hE0
    have e2 : Bd.put m n ls ⟨x0, x1, x2, x3, x4, x5⟩ = ⟨m, n, Bd.putL ⟨x0, x1, x2, x3, x4, x5⟩ ls⟩ := by unfold Bd.put; rw [e]; rfl
    rw [e2] at hq ⊢
    rw [e]
    have Hl := Lib.hid h.1
    have Hn0 := Lib.hid h.2.2.1
    have Hf := Lib.hid h.2.2.2
    have Hc := Lib.hid hc
    replace hq : q = (Bd.putL ⟨x0, x1, x2, x3, x4, x5⟩ ls).length := hq
    have Hq := Lib.hid hq
    have hpw := (Bd.rows_iff.1 (Bd.isB_iff.1 hb).2.2.2).2
    have hput := Bd.put_eq8 (a := ⟨x0, x1, x2, x3, x4, x5⟩) hpw
    have hpl : Bd.plc8 ⟨x0, x1, x2, x3, x4, x5⟩ ls < ls.length := Bd.has_lt hh hpw
    obtain ⟨P, hP⟩ : ∃ P, P = Bd.plc8 ⟨x0, x1, x2, x3, x4, x5⟩ ls := ⟨_, rfl⟩
    have HPe := Lib.hid hP
    rw [← hP] at hput hpl
    have HFin : Hid (ls.take P ++ [(⟨x0, x1, x2, x3, x4, x5⟩ : Alm)] ++ ls.drop (P + 1) = Bd.putL ⟨x0, x1, x2, x3, x4, x5⟩ ls) := Lib.hid (by
      have hh2 : Bd.has (⟨x0, x1, x2, x3, x4, x5⟩ : Alm).b (⟨x0, x1, x2, x3, x4, x5⟩ : Alm).c ls = true := hh
      rw [hput, hh2]; simp)
    have HPl := Lib.hid hpl
    clear e e2 hb h hh hr hq hE0 hc hput hpl hP hpw hrx hs
    go_enter Try.func11, Try.ntmps11
    go_wp2_with (refine wpList_load_st rfl 24 _ rfl HS.out 2 _ _ rfl rfl _ Try.underlying24 rfl (by rfl) ?_)
    refine (g1 _ (HS.out.fact 0 rfl)).out.mono ?_
    rintro e w2 ⟨rfl, hB⟩
    replace HS := Lib.hid (HS.out.on hB)
    clear hB g1
    have t0 := HS.out.cell 1 rfl 0 rfl
    have t1 := HS.out.cell 1 rfl 1 rfl
    have t2 := HS.out.cell 1 rfl 2 rfl
    have t3 := HS.out.cell 1 rfl 3 rfl
    have t4 := HS.out.cell 1 rfl 4 rfl
    have t5 := HS.out.cell 1 rfl 5 rfl
    go_wp2_with fail
    refine (g3 _).mono ?_
    rintro e w2a ⟨rfl, hB⟩
    replace HS := Lib.hid (HS.out.on hB)
    clear hB g3 t0 t1 t2 t3 t4 t5
    have t4 := HS.out.cell 1 rfl 4 rfl
    have s1 := HS.out.cell 2 rfl 1 rfl
    have t0 := HS.out.cell 1 rfl 0 rfl
    have t1 := HS.out.cell 1 rfl 1 rfl
    go_wp2_with (refine wpList_load_st rfl 24 _ rfl HS.out 2 _ _ rfl rfl _ Try.underlying24 rfl (by rfl) ?_)
    refine (g2 _ (HS.out.fact 0 rfl)).out.mono ?_
    rintro e w3 ⟨rfl, hB⟩
    replace HS := Lib.hid (HS.out.on hB)
    clear hB g2 t0 t1 t4 s1
    have HN := Lib.hid (below_new w3 (.cells #[.int .i64 y0, .int .i64 y1, .int .i64 y2, .int .i64 y3, .int .i64 y4, .int .i64 y5] 28))
    replace HS := Lib.hid (HS.out.on HN.out)
    have s0 := HS.out.cell 2 rfl 0 rfl
    have s2 := HS.out.cell 2 rfl 2 rfl
    go_wp2_with fail
    obtain ⟨w4, hw4⟩ : ∃ W, W = w3.alloc (.cells #[.int .i64 y0, .int .i64 y1, .int .i64 y2, .int .i64 y3, .int .i64 y4, .int .i64 y5] 28) := ⟨_, rfl⟩
    rw [← hw4] at HS ⊢
    clear hw4 HN
    obtain ⟨p3, hp3⟩ : ∃ p, p = w.heap.size + 1 + 1 := ⟨_, rfl⟩
    obtain ⟨p2, hp2⟩ : ∃ p, p = w.heap.size + 1 := ⟨_, rfl⟩
    obtain ⟨p1, hp1⟩ : ∃ p, p = w.heap.size := ⟨_, rfl⟩
    have Hp3 : Hid (w.heap.size ≤ p3) := Lib.hid (by omega)
    rw [← hp3] at HS ⊢
    rw [← hp2] at HS ⊢
    rw [← hp1] at HS ⊢
    clear hp1 hp2 hp3
    go_loopw [8] (fun i wr => ∃ k : Nat, i = .int .i64 (k : Int) ∧ Hid (k ≤ l ∧ Bd.plc8 ⟨x0, x1, x2, x3, x4, x5⟩ (ls.drop k) + k = P) ∧ Hid (Below w4.heap.size w4 wr)) (fun i _ => l - (intOf i).toNat)
    case atStart => exact ⟨0, rfl, Lib.hid ⟨Nat.zero_le _, by rw [HPe.out]; rfl⟩, Lib.hid (Below.refl _ _)⟩
    case round =>
     obtain ⟨k, rfl, Hg, HB⟩ := hrel
     have HSr := Lib.hid (HS.out.on HB.out)
     have s2 := HSr.out.cell 2 rfl 2 rfl
     by_cases hlt : k < l
     · have kl : k < ls.length := by rw [← Hl.out]; exact hlt
       have HA : Hid (AlmsAt wr wr.heap.size A ls) := Lib.hid (HSr.out.fact 0 rfl)
       obtain ⟨b0, o0, hAe, hb0, h6⟩ := HA.out k kl
       have Hs := Lib.hid (Bd.plc8_drop (a := ⟨x0, x1, x2, x3, x4, x5⟩) kl)
       obtain ⟨y, hy⟩ : ∃ y, y = ls[k]'kl := ⟨_, rfl⟩
       rw [← hy] at h6 Hs
       clear hy
       obtain ⟨z0, z1, z2, z3, z4, z5⟩ := y
       have d0 := h6.c0
       have d1 := h6.c1
       simp only at d0 d1
       subst hAe
       have t0 := HSr.out.cell 1 rfl 0 rfl
       have t1 := HSr.out.cell 1 rfl 1 rfl
       have hpp1 : p1 < wr.heap.size := HSr.out.lt 2 rfl
       have hpp2 : p2 < wr.heap.size := HSr.out.lt 1 rfl
       have i1 : (k : Int) < (l : Int) := by omega
       have i3 : (0 : Int) ≤ (k : Int) := by omega
       have i4 : decide ((k : Int) < (l : Int)) = true := decide_eq_true i1
       have Ik : Hid (wrap64 ((k : Int) + 1) = (k : Int) + 1) := Lib.hid (by have := Hf.out; unfold wrap64; omega)
       have Hk := Lib.hid hlt
       have g := fun W => RLess_any z0 z1 x0 x1 W
       obtain ⟨z, hz⟩ : ∃ z, z = Sp.less z0 z1 x0 x1 := ⟨_, rfl⟩
       simp only [← hz] at g
       have Ha : Hid (Bd.lessA ⟨z0, z1, z2, z3, z4, z5⟩ ⟨x0, x1, x2, x3, x4, x5⟩ = z) := Lib.hid (by rw [hz]; rfl)
       clear h6 kl hlt hz
       cases z
       · have He : Hid (P = k) := Lib.hid (by have := Hg.out.2; rw [Hs.out, Ha.out] at this; simp at this; omega)
         clear Hs Hg Ha
         go_wp2_with fail
         go_region_held3 (fun W => W.cell? ⟨p1, 2, none⟩ = some (.slice (some ⟨b0, o0, none⟩) l c) ∧ W.cell? ⟨b0, o0 + k * 6, none⟩ = some (.int .i64 z0) ∧ W.cell? ⟨b0, o0 + k * 6 + 1, none⟩ = some (.int .i64 z1) ∧ W.cell? ⟨p2, 0, none⟩ = some (.int .i64 x0) ∧ W.cell? ⟨p2, 1, none⟩ = some (.int .i64 x1)) (exact ⟨s2, d0, d1, t0, t1⟩) ((go_at_call 38; refine (g _).mono ?_; rintro e w' ⟨rfl, hB'⟩; have hB2 : Below wr.heap.size wr w' := (by first | exact hB' | exact below_undrew hB'); replace s2 := (hB2.cell (p := ⟨p1, 2, none⟩) hpp1).trans s2; replace d0 := (hB2.cell (p := ⟨b0, o0 + k * 6, none⟩) hb0).trans d0; replace d1 := (hB2.cell (p := ⟨b0, o0 + k * 6 + 1, none⟩) hb0).trans d1; replace t0 := (hB2.cell (p := ⟨p2, 0, none⟩) hpp2).trans t0; replace t1 := (hB2.cell (p := ⟨p2, 1, none⟩) hpp2).trans t1; have HB2 : Hid (Below w4.heap.size w4 w') := Lib.hid (below2 HB.out hB2); clear hB' hB2))
         have Hkl : Hid (k ≤ l) := Lib.hid (Nat.le_of_lt Hk.out)
         have Hkl2 : Hid (k + 1 ≤ l) := Lib.hid (Hk.out)
         have Hfin : Hid (ls.take k ++ [(⟨x0, x1, x2, x3, x4, x5⟩ : Alm)] ++ ls.drop (k + 1) = Bd.putL ⟨x0, x1, x2, x3, x4, x5⟩ ls) := Lib.hid (by rw [← He.out]; exact HFin.out)
         have HSw := Lib.hid (HS.out.on HB2.out)
         clear s2 d0 d1 t0 t1 g HSr HA
         have HAw : Hid (AlmsAt (w') (w').heap.size (some ⟨b0, o0, none⟩) ls) := Lib.hid (HSw.out.fact 0 rfl)
         have s2 := HSw.out.cell 2 rfl 2 rfl
         have Hz0 : Hid (w.heap.size ≤ (w').heap.size) := Lib.hid HSw.out.below.size
         have Hp3l : Hid (p3 < (w').heap.size) := Lib.hid (HSw.out.lt 0 rfl)
         have Htl : Hid (k = (ls.take k).length) := Lib.hid (by rw [List.length_take]; have := Hl.out; have := Hkl.out; omega)
         have Hdl : Hid (l - (k + 1) = (ls.drop (k + 1)).length) := Lib.hid (by rw [List.length_drop]; have := Hl.out; omega)
         have HBr := Lib.hid (Below.refl (w').heap.size (w'))
         have Ik2 : wrap64 ((k : Int) + 1) = ((k + 1 : Nat) : Int) := by have := Hf.out; have := Hkl.out; unfold wrap64; omega
         have Ik3 : IntKind.i64.wrap ((k : Int) + 1) = ((k + 1 : Nat) : Int) := by have := Hf.out; have := Hkl.out; clear Ik2; rw [IntKind.wrap_i64]; omega
         go_wp2_with (first
           | (refine wpList_slice_to rfl _ _ rfl (some ⟨b0, o0, none⟩) l c k (w').heap.size ls rfl rfl HAw.out Hn0.out Hc.out Hl.out Hkl.out ?_; intro A3 hA3 hn3; have HA3 := Lib.hid hA3; have HN3 := Lib.hid hn3; clear hA3 hn3)
           | (at_builtin; refine wpList_append_alms rfl _ _ rfl (w').heap.size (.slice none 0 0) [] (ls.take k) rfl (OwnA.nil _ _) A3 k c rfl Htl.out HA3.out HN3.out (Nat.le_refl _) (by have := Htl.out; have := Hkl.out; have := Hf.out; simp only [List.length_nil]; omega) ?_; intro v6 w6 hown6 hgrow6; rw [List.nil_append] at hown6; have O6 := Lib.hid hown6; have HB6 : Hid (Below (w').heap.size (w') w6) := Lib.hid (HBr.out.grown hgrow6 (Nat.le_refl _) (fun _ e => nomatch e)); have HS6 := Lib.hid (HSw.out.on HB6.out); have HN6 := Lib.hid (below_new w6 (.cells #[.int .i64 x0, .int .i64 x1, .int .i64 x2, .int .i64 x3, .int .i64 x4, .int .i64 x5] 28)); have O6n := Lib.hid (O6.out.below HN6.out); have ON6 := Lib.hid (AlmsAt.one11 w6 x0 x1 x2 x3 x4 x5 28); have HB6n := Lib.hid (below2 HB6.out HN6.out); clear hown6 hgrow6 s2)
           | (refine wpList_load_st rfl 28 _ rfl HS6.out 1 _ _ rfl rfl _ Try.underlying28 rfl (by rfl) ?_)
           | (at_builtin; refine wpList_append_alms rfl _ _ rfl (w').heap.size v6 (ls.take k) [(⟨x0, x1, x2, x3, x4, x5⟩ : Alm)] rfl O6n.out (some ⟨w6.heap.size, 0, none⟩) 1 _ rfl rfl ON6.out (fun e => nomatch e) HB6n.out.size (by have := Htl.out; have := Hkl.out; have := Hf.out; simp only [List.length_cons, List.length_nil]; omega) ?_; intro v7 w7 hown7 hgrow7; have O7 := Lib.hid hown7; have HB7 : Hid (Below (w').heap.size (w') w7) := Lib.hid (HB6n.out.grown hgrow7 HB6n.out.size O6n.out.ge9); have HS7 := Lib.hid (HSw.out.on HB7.out); have s72 := HS7.out.cell 2 rfl 2 rfl; have HA7 : Hid (AlmsAt w7 w7.heap.size (some ⟨b0, o0, none⟩) ls) := Lib.hid (HS7.out.fact 0 rfl); clear hown7 hgrow7)
           | (refine wpList_slice_from rfl _ _ rfl (some ⟨b0, o0, none⟩) l c (k + 1) w7.heap.size ls rfl rfl HA7.out Hn0.out Hc.out Hl.out Hkl2.out ?_; intro A4 hA4 hn4; have HA4 := Lib.hid hA4; have HN4 := Lib.hid hn4; clear hA4 hn4)
           | (at_builtin; refine wpList_append_alms rfl _ _ rfl (w').heap.size v7 (ls.take k ++ [(⟨x0, x1, x2, x3, x4, x5⟩ : Alm)]) (ls.drop (k + 1)) rfl O7.out A4 (l - (k + 1)) (c - (k + 1)) rfl Hdl.out HA4.out HN4.out HB7.out.size (by have := Htl.out; have := Hkl.out; have := Hf.out; have := Hdl.out; simp only [List.length_append, List.length_cons, List.length_nil]; omega) ?_; intro v8 w8 hown8 hgrow8; have O8 := Lib.hid hown8; have HB8 : Hid (Below (w').heap.size (w') w8) := Lib.hid (HB7.out.grown hgrow8 HB7.out.size O7.out.ge9); have HS8 := Lib.hid (HSw.out.on HB8.out); have s80 := HS8.out.cell 2 rfl 0 rfl; have s81 := HS8.out.cell 2 rfl 1 rfl; rw [Hfin.out] at O8; obtain ⟨A5, c5, hv8, _, _, _⟩ := O8.out.slice; rw [← Hq.out] at hv8; subst hv8; clear hown8 hgrow8 s72)
           | (refine wpList_setres8 rfl 24 _ _ rfl HS8.out 0 p3 _ #[.int .i64 m, .int .i64 n, .slice A5 q c5] rfl Hp3.out (w').heap.size _ (Bd.putL ⟨x0, x1, x2, x3, x4, x5⟩ ls) O8.out Hp3l.out rfl rfl (by rfl) rfl (bd_one m n A5 q c5) ?_; intro w9 hS9 hO9; have HS9 := Lib.hid hS9; have HO9 := Lib.hid (hO9.lower Hz0.out); clear hS9 hO9))
         (try simp only [Exit.inBlock, Exit.then]); refine bodyPost_ret (ret_board rfl rfl HS9.out 0 rfl rfl) rfl ?_
         exact ⟨A5, c5, rfl, HO9.out, HS9.out.below⟩
       · have He : Hid (k + 1 ≤ l ∧ Bd.plc8 ⟨x0, x1, x2, x3, x4, x5⟩ (ls.drop (k + 1)) + (k + 1) = P) := Lib.hid (by have := Hg.out.2; rw [Hs.out, Ha.out] at this; simp at this; exact ⟨Hk.out, by omega⟩)
         clear Hs Hg Ha
         go_wp2_with fail
         go_region_held3 (fun W => W.cell? ⟨p1, 2, none⟩ = some (.slice (some ⟨b0, o0, none⟩) l c) ∧ W.cell? ⟨b0, o0 + k * 6, none⟩ = some (.int .i64 z0) ∧ W.cell? ⟨b0, o0 + k * 6 + 1, none⟩ = some (.int .i64 z1) ∧ W.cell? ⟨p2, 0, none⟩ = some (.int .i64 x0) ∧ W.cell? ⟨p2, 1, none⟩ = some (.int .i64 x1)) (exact ⟨s2, d0, d1, t0, t1⟩) ((go_at_call 38; refine (g _).mono ?_; rintro e w' ⟨rfl, hB'⟩; have hB2 : Below wr.heap.size wr w' := (by first | exact hB' | exact below_undrew hB'); replace s2 := (hB2.cell (p := ⟨p1, 2, none⟩) hpp1).trans s2; replace d0 := (hB2.cell (p := ⟨b0, o0 + k * 6, none⟩) hb0).trans d0; replace d1 := (hB2.cell (p := ⟨b0, o0 + k * 6 + 1, none⟩) hb0).trans d1; replace t0 := (hB2.cell (p := ⟨p2, 0, none⟩) hpp2).trans t0; replace t1 := (hB2.cell (p := ⟨p2, 1, none⟩) hpp2).trans t1; have HB2 : Hid (Below w4.heap.size w4 w') := Lib.hid (below2 HB.out hB2); clear hB' hB2))
         go_wp2
         go_roundw
         case rel => exact ⟨k + 1, by first | rfl | (rw [Ik.out]; rfl), He, HB2⟩
         case measure => have := Hk.out; (try rw [Ik.out]); simp [intOf]; omega
     · have ik : ((k : Int) < (l : Int)) = False := eq_false (by omega)
       have i4 : decide ((k : Int) < (l : Int)) = false := decide_eq_false (by omega)
       have He : Hid (P = k) := Lib.hid (by have := Hg.out.2; rw [List.drop_eq_nil_of_le (by have := Hl.out; omega)] at this; simpa [Bd.plc8] using this.symm)
       have := HPl.out
       have := He.out
       have := Hl.out
       omega
end Go.Proofs.Ythlojadkgpmnmaa
