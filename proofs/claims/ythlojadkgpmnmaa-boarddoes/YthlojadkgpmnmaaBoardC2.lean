/-
  Layer 8 (board): the walks of Put, Drop, Pass.
-/
import Derived.Test.YthlojadkgpmnmaaBoardC0
import Derived.Test.YthlojadkgpmnmaaBoardW7
namespace Go.Proofs.Ythlojadkgpmnmaa
open Go.RowKit

theorem Bd.full_iff {m n : Int} {ls : List Alm} {a : Alm} (h : Bd.isB m n ls = true) : decide (m < ((Bd.putL a ls).length : Int)) = (!Bd.has a.b a.c ls && decide (m ≤ (ls.length : Int))) := by
  have h2 := Bd.isB_iff.1 h
  have hl := Bd.put_len (a := a) (Bd.rows_iff.1 h2.2.2.2).2
  rw [hl]
  cases hh : Bd.has a.b a.c ls
  · simp only [Bool.false_eq_true, if_false, Bool.not_false, Bool.true_and]
    rw [Bool.eq_iff_iff, decide_eq_true_eq, decide_eq_true_eq]
    omega
  · simp only [if_true, Nat.add_zero, Bool.not_true, Bool.false_and]
    exact decide_eq_false (by omega)
theorem Bd.rise_of {m n : Int} {ls : List Alm} (h : Bd.isB m n ls = true) : Bd.rising ls = true := (Bd.rising_iff ls).2 (Bd.rows_iff.1 (Bd.isB_iff.1 h).2.2.2).2

set_option maxRecDepth 10000 in
set_option maxHeartbeats 2000000 in
theorem kk_put (m n : Int) (A : Option Addr) (l c : Nat) (ls : List Alm) (x : Alm) (q : Nat) (w : World) (h : Told w A l c ls) (hq : q = (Bd.put m n ls x).als.length) :
    Calls Try.prog 10 #[.agg #[.int .i64 m, .int .i64 n, .slice A l c], .agg (sixV x)] w (GivesB w (Bd.put m n ls x) q (Bd.putE m n ls x)) := by
  obtain ⟨x0, x1, x2, x3, x4, x5⟩ := x
  have HS := Lib.hid (((St.start w).more (rowF A ls) h.2.1).box3 #[.int .i64 m, .int .i64 n, .slice A l c] #[.int .i64 x0, .int .i64 x1, .int .i64 x2, .int .i64 x3, .int .i64 x4, .int .i64 x5] #[.int .i64 0, .int .i64 0, .slice none 0 0] 24 28 24)
  have g1 := fun W (hA : AlmsAt W W.heap.size A ls) => Lib.hid (right_any m n A l c ls W ⟨h.1, hA, h.2.2⟩)
  have g2 := fun W => takes_any m n A l c x0 x1 x2 x3 x4 x5 W
  unfold sixV
  simp only
  cases hb : Bd.isB m n ls
  · have e : Bd.putE m n ls ⟨x0, x1, x2, x3, x4, x5⟩ = 1 := by unfold Bd.putE; rw [hb]; rfl
    have e2 : Bd.put m n ls ⟨x0, x1, x2, x3, x4, x5⟩ = ⟨0, 0, []⟩ := by unfold Bd.put; rw [e]; rfl
    rw [e2] at hq ⊢
    rw [e]
    simp only [hb] at g1
    obtain rfl : q = 0 := hq
    clear e e2 hb h g2
    go_enter Try.func10, Try.ntmps10
    go_wp2_with (refine wpList_load_st rfl 24 _ rfl HS.out 2 _ _ rfl rfl _ Try.underlying24 rfl (by rfl) ?_)
    refine (hold_any m n A l c _).mono ?_
    rintro e w1 ⟨rfl, hB⟩
    replace HS := Lib.hid ((HS.out.on hB).new #[.int .i64 m, .int .i64 n, .slice A l c] 56)
    clear hB
    go_wp2_with fail
    refine (g1 _ (HS.out.fact 0 rfl)).out.mono ?_
    rintro e w2 ⟨rfl, hB⟩
    replace HS := Lib.hid (HS.out.on hB)
    clear hB g1
    go_wp2_with (refine wpList_setres rfl 24 _ _ rfl HS.out 1 (w.heap.size + 1 + 1) _ #[.int .i64 0, .int .i64 0, .slice none 0 0] rfl (by omega) w2.heap.size _ [] (OwnA.nil w2 w2.heap.size) (HS.out.lt 1 rfl) rfl rfl (by rfl) rfl (bd_one 0 0 none 0 0) ?_; intro w9 hS9 hO9; have HS9 := Lib.hid hS9; clear hS9 hO9)
    (try simp only [Exit.inBlock, Exit.then]); refine bodyPost_ret (ret_board rfl rfl HS9.out 0 rfl rfl) rfl ?_
    exact ⟨none, 0, rfl, OwnA.nil _ _, HS9.out.below⟩

  simp only [hb] at g1
  cases hm : Bd.may n ⟨x0, x1, x2, x3, x4, x5⟩
  · have e : Bd.putE m n ls ⟨x0, x1, x2, x3, x4, x5⟩ = 1 := by
      unfold Bd.putE
      rw [if_pos]
      unfold Bd.may at hm
      rw [Bool.and_eq_false_iff] at hm
      rcases hm with hm | hm
      · rw [hm]; simp
      · have := of_decide_eq_false hm
        rw [decide_eq_true (by simp only at this ⊢; omega)]; simp
    have e2 : Bd.put m n ls ⟨x0, x1, x2, x3, x4, x5⟩ = ⟨0, 0, []⟩ := by unfold Bd.put; rw [e]; rfl
    rw [e2] at hq ⊢
    rw [e]
    simp only [hm] at g2
    obtain rfl : q = 0 := hq
    clear e e2 hb h hm
    go_enter Try.func10, Try.ntmps10
    go_wp2_with (refine wpList_load_st rfl 24 _ rfl HS.out 2 _ _ rfl rfl _ Try.underlying24 rfl (by rfl) ?_)
    refine (hold_any m n A l c _).mono ?_
    rintro e w1 ⟨rfl, hB⟩
    replace HS := Lib.hid ((HS.out.on hB).new #[.int .i64 m, .int .i64 n, .slice A l c] 56)
    clear hB
    go_wp2_with fail
    refine (g1 _ (HS.out.fact 0 rfl)).out.mono ?_
    rintro e w2 ⟨rfl, hB⟩
    replace HS := Lib.hid (HS.out.on hB)
    clear hB g1
    have s0 := HS.out.cell 0 rfl 0 rfl
    have s1 := HS.out.cell 0 rfl 1 rfl
    have s2 := HS.out.cell 0 rfl 2 rfl
    have t0 := HS.out.cell 2 rfl 0 rfl
    have t1 := HS.out.cell 2 rfl 1 rfl
    have t2 := HS.out.cell 2 rfl 2 rfl
    have t3 := HS.out.cell 2 rfl 3 rfl
    have t4 := HS.out.cell 2 rfl 4 rfl
    have t5 := HS.out.cell 2 rfl 5 rfl
    go_wp2_with fail
    refine (g2 _).mono ?_
    rintro e w3 ⟨rfl, hB⟩
    replace HS := Lib.hid (HS.out.on hB)
    clear hB g2 s0 s1 s2 t0 t1 t2 t3 t4 t5
    go_wp2_with (refine wpList_setres rfl 24 _ _ rfl HS.out 1 (w.heap.size + 1 + 1) _ #[.int .i64 0, .int .i64 0, .slice none 0 0] rfl (by omega) w3.heap.size _ [] (OwnA.nil w3 w3.heap.size) (HS.out.lt 1 rfl) rfl rfl (by rfl) rfl (bd_one 0 0 none 0 0) ?_; intro w9 hS9 hO9; have HS9 := Lib.hid hS9; clear hS9 hO9)
    (try simp only [Exit.inBlock, Exit.then]); refine bodyPost_ret (ret_board rfl rfl HS9.out 0 rfl rfl) rfl ?_
    exact ⟨none, 0, rfl, OwnA.nil _ _, HS9.out.below⟩

  simp only [hm] at g2
  have hE : Bd.putE m n ls ⟨x0, x1, x2, x3, x4, x5⟩ = if decide (m < ((Bd.putL ⟨x0, x1, x2, x3, x4, x5⟩ ls).length : Int)) then 81 else 0 := by
    unfold Bd.putE
    unfold Bd.may at hm
    rw [Bool.and_eq_true] at hm
    rw [hb, hm.1, decide_eq_false (by have := of_decide_eq_true hm.2; simp only at this ⊢; omega), Bd.full_iff hb]
    rfl
  have g3 := fun W (hA : AlmsAt W W.heap.size A ls) => Lib.hid (with_any A l c ls x0 x1 x2 x3 x4 x5 W ⟨h.1, hA, h.2.2⟩ (Bd.rise_of hb))
  obtain ⟨C, hC⟩ : ∃ C, C = Bd.putL ⟨x0, x1, x2, x3, x4, x5⟩ ls := ⟨_, rfl⟩
  rw [← hC] at hE
  simp only [← hC] at g3
  have g4 := fun W A2 c2 => tooMany_any m n A2 C.length c2 W
  cases hf : decide (m < (C.length : Int))
  · rw [hf] at hE
    replace hE : Bd.putE m n ls ⟨x0, x1, x2, x3, x4, x5⟩ = 0 := hE
    have e2 : Bd.put m n ls ⟨x0, x1, x2, x3, x4, x5⟩ = ⟨m, n, C⟩ := by unfold Bd.put; rw [hE, hC]; rfl
    rw [e2] at hq ⊢
    rw [hE]
    simp only [hf] at g4
    replace hq : q = C.length := hq
    simp only [← hq] at g4
    have Hq := Lib.hid hq
    clear e2 hb h hm hE hC hf hq
    go_enter Try.func10, Try.ntmps10
    go_wp2_with (refine wpList_load_st rfl 24 _ rfl HS.out 2 _ _ rfl rfl _ Try.underlying24 rfl (by rfl) ?_)
    refine (hold_any m n A l c _).mono ?_
    rintro e w1 ⟨rfl, hB⟩
    have Hp3 := Lib.hid ((HS.out.on hB).lt 0 rfl)
    have Hp2 := Lib.hid ((HS.out.on hB).lt 1 rfl)
    have Hp1 := Lib.hid ((HS.out.on hB).lt 2 rfl)
    have Hle := Lib.hid (HS.out.on hB).below.size
    replace HS := Lib.hid ((HS.out.on hB).new #[.int .i64 m, .int .i64 n, .slice A l c] 56)
    clear hB
    go_wp2_with fail
    refine (g1 _ (HS.out.fact 0 rfl)).out.mono ?_
    rintro e w2 ⟨rfl, hB⟩
    replace HS := Lib.hid (HS.out.on hB)
    clear hB g1
    have s0 := HS.out.cell 0 rfl 0 rfl
    have s1 := HS.out.cell 0 rfl 1 rfl
    have s2 := HS.out.cell 0 rfl 2 rfl
    have t0 := HS.out.cell 2 rfl 0 rfl
    have t1 := HS.out.cell 2 rfl 1 rfl
    have t2 := HS.out.cell 2 rfl 2 rfl
    have t3 := HS.out.cell 2 rfl 3 rfl
    have t4 := HS.out.cell 2 rfl 4 rfl
    have t5 := HS.out.cell 2 rfl 5 rfl
    go_wp2_with fail
    refine (g2 _).mono ?_
    rintro e w3 ⟨rfl, hB⟩
    replace HS := Lib.hid (HS.out.on hB)
    clear hB g2 s0 s1 s2 t0 t1 t2 t3 t4 t5
    have s2 := HS.out.cell 0 rfl 2 rfl
    go_wp2_with (refine wpList_load_st rfl 28 _ rfl HS.out 2 _ _ rfl rfl _ Try.underlying28 rfl (by rfl) ?_)
    refine (g3 _ (HS.out.fact 0 rfl)).out.mono ?_
    rintro e w4 ⟨v, rfl, hO, hB⟩
    obtain ⟨A2, c2, rfl, hA2, hn2, _⟩ := hO.slice
    rw [← Hq.out] at hO ⊢
    have HO := Lib.hid hO
    have Hw1 : Hid (w1.heap.size < w3.heap.size) := Lib.hid (HS.out.lt 0 rfl)
    replace HS := Lib.hid (HS.out.on hB)
    clear hB g3 s2 hO hA2 hn2
    go_wp2_with (first
      | (refine wpList_setcell rfl 54 _ _ rfl HS.out (by have := Hp3.out; have := Hp2.out; have := Hp1.out; simp; omega) Hle.out 2 _ _ w3.heap.size _ C HO.out Hw1.out rfl rfl rfl (by rfl) rfl ?_; intro w5 hS5 hO5; have HS5 := Lib.hid hS5; have HO5 := Lib.hid hO5; clear hS5 hO5 HS HO)
      | (refine wpList_load_st rfl 56 _ rfl HS5.out 0 _ _ rfl rfl _ Try.underlying56 rfl (by rfl) ?_))
    refine (g4 _ A2 c2).mono ?_
    rintro e w6 ⟨rfl, hB⟩
    have HS := Lib.hid (HS5.out.on hB)
    have HO := Lib.hid (HO5.out.below hB)
    clear hB g4 HS5 HO5
    go_wp2_with (refine wpList_load_st rfl 56 _ rfl HS.out 0 _ _ rfl rfl _ Try.underlying56 rfl (by rfl) ?_)
    refine (board_any m n A2 q c2 _).mono ?_
    rintro e w7 ⟨rfl, hB⟩
    replace HS := Lib.hid (HS.out.on hB)
    replace HO := Lib.hid (HO.out.below hB)
    clear hB
    have Hk : Hid (w.heap.size + 1 + 1 < w3.heap.size) := Lib.hid (by have := Hp3.out; have := Hw1.out; omega)
    have Hl3 : Hid (w.heap.size ≤ w3.heap.size) := Lib.hid (by have := Hk.out; omega)
    go_wp2_with (refine wpList_setres rfl 24 _ _ rfl HS.out 1 (w.heap.size + 1 + 1) _ #[.int .i64 m, .int .i64 n, .slice A2 q c2] rfl (by omega) w3.heap.size _ C HO.out Hk.out rfl rfl (by rfl) rfl (bd_one m n A2 q c2) ?_; intro w9 hS9 hO9; have HS9 := Lib.hid hS9; have HO9 := Lib.hid (hO9.lower Hl3.out); clear hS9 hO9)
    (try simp only [Exit.inBlock, Exit.then]); refine bodyPost_ret (ret_board rfl rfl HS9.out 0 rfl rfl) rfl ?_
    exact ⟨A2, c2, rfl, HO9.out, HS9.out.below⟩
  · rw [hf] at hE
    replace hE : Bd.putE m n ls ⟨x0, x1, x2, x3, x4, x5⟩ = 81 := hE
    have e2 : Bd.put m n ls ⟨x0, x1, x2, x3, x4, x5⟩ = ⟨0, 0, []⟩ := by unfold Bd.put; rw [hE]; rfl
    rw [e2] at hq ⊢
    rw [hE]
    simp only [hf] at g4
    obtain rfl : q = 0 := hq
    obtain ⟨qc, hqc⟩ : ∃ q, q = C.length := ⟨_, rfl⟩
    simp only [← hqc] at g4
    have Hq := Lib.hid hqc
    clear e2 hb h hm hE hC hf hqc
    go_enter Try.func10, Try.ntmps10
    go_wp2_with (refine wpList_load_st rfl 24 _ rfl HS.out 2 _ _ rfl rfl _ Try.underlying24 rfl (by rfl) ?_)
    refine (hold_any m n A l c _).mono ?_
    rintro e w1 ⟨rfl, hB⟩
    have Hp3 := Lib.hid ((HS.out.on hB).lt 0 rfl)
    have Hp2 := Lib.hid ((HS.out.on hB).lt 1 rfl)
    have Hp1 := Lib.hid ((HS.out.on hB).lt 2 rfl)
    have Hle := Lib.hid (HS.out.on hB).below.size
    replace HS := Lib.hid ((HS.out.on hB).new #[.int .i64 m, .int .i64 n, .slice A l c] 56)
    clear hB
    go_wp2_with fail
    refine (g1 _ (HS.out.fact 0 rfl)).out.mono ?_
    rintro e w2 ⟨rfl, hB⟩
    replace HS := Lib.hid (HS.out.on hB)
    clear hB g1
    have s0 := HS.out.cell 0 rfl 0 rfl
    have s1 := HS.out.cell 0 rfl 1 rfl
    have s2 := HS.out.cell 0 rfl 2 rfl
    have t0 := HS.out.cell 2 rfl 0 rfl
    have t1 := HS.out.cell 2 rfl 1 rfl
    have t2 := HS.out.cell 2 rfl 2 rfl
    have t3 := HS.out.cell 2 rfl 3 rfl
    have t4 := HS.out.cell 2 rfl 4 rfl
    have t5 := HS.out.cell 2 rfl 5 rfl
    go_wp2_with fail
    refine (g2 _).mono ?_
    rintro e w3 ⟨rfl, hB⟩
    replace HS := Lib.hid (HS.out.on hB)
    clear hB g2 s0 s1 s2 t0 t1 t2 t3 t4 t5
    have s2 := HS.out.cell 0 rfl 2 rfl
    go_wp2_with (refine wpList_load_st rfl 28 _ rfl HS.out 2 _ _ rfl rfl _ Try.underlying28 rfl (by rfl) ?_)
    refine (g3 _ (HS.out.fact 0 rfl)).out.mono ?_
    rintro e w4 ⟨v, rfl, hO, hB⟩
    obtain ⟨A2, c2, rfl, hA2, hn2, _⟩ := hO.slice
    rw [← Hq.out] at hO ⊢
    have HO := Lib.hid hO
    have Hw1 : Hid (w1.heap.size < w3.heap.size) := Lib.hid (HS.out.lt 0 rfl)
    replace HS := Lib.hid (HS.out.on hB)
    clear hB g3 s2 hO hA2 hn2
    go_wp2_with (first
      | (refine wpList_setcell rfl 54 _ _ rfl HS.out (by have := Hp3.out; have := Hp2.out; have := Hp1.out; simp; omega) Hle.out 2 _ _ w3.heap.size _ C HO.out Hw1.out rfl rfl rfl (by rfl) rfl ?_; intro w5 hS5 hO5; have HS5 := Lib.hid hS5; have HO5 := Lib.hid hO5; clear hS5 hO5 HS HO)
      | (refine wpList_load_st rfl 56 _ rfl HS5.out 0 _ _ rfl rfl _ Try.underlying56 rfl (by rfl) ?_))
    refine (g4 _ A2 c2).mono ?_
    rintro e w6 ⟨rfl, hB⟩
    have HS := Lib.hid (HS5.out.on hB)
    have HO := Lib.hid (HO5.out.below hB)
    clear hB g4 HS5 HO5
    go_wp2_with (refine wpList_setres rfl 24 _ _ rfl HS.out 1 (w.heap.size + 1 + 1) _ #[.int .i64 0, .int .i64 0, .slice none 0 0] rfl (by omega) w6.heap.size _ [] (OwnA.nil w6 w6.heap.size) (HS.out.lt 1 rfl) rfl rfl (by rfl) rfl (bd_one 0 0 none 0 0) ?_; intro w9 hS9 hO9; have HS9 := Lib.hid hS9; clear hS9 hO9)
    (try simp only [Exit.inBlock, Exit.then]); refine bodyPost_ret (ret_board rfl rfl HS9.out 0 rfl rfl) rfl ?_
    exact ⟨none, 0, rfl, OwnA.nil _ _, HS9.out.below⟩
end Go.Proofs.Ythlojadkgpmnmaa
