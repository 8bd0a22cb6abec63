/-
  Layer 8 (board): the walks of Drop and Pass.
-/
import Derived.Test.YtplpadblhjdpcaaXJd
import Derived.Test.YtplpadblhjdpcaaXBoardW5p
namespace Go.Proofs.Ytplpadblhjdpcaa
set_option maxRecDepth 10000
open Go.RowKit

/-- One cell of a block is read. -/
theorem wpList_loadc_st {P : Program} {ops : Array Oper} {rest : List Oper} {o : Oper} {a : Act} {w : World} {Q : Exit → Act → World → Prop} (hgd : o.guard = none) (ty : TypeId) (x : Operand) (ho : o.op = .load ty x)
    {w0 : World} {L : List (Nat × Array Value)} {M : List Fact} (hS : St w0 w L M) (i k : Nat) (cs : Array Value) (hi : L[i]? = some (k, cs)) (j : Nat) (v : Value) (hj : cs[j]? = some v) (hx : a.eval x = .pointer (some ⟨k, j, none⟩)) (ha : ∀ w, (isAgg ty).run P w = .ok false w)
    (h : wpList P ops Q rest (a.put o.dst v) w) : wpList P ops Q (o :: rest) a w := by
  refine wpList_plain hgd fun K hK => ?_
  have hc := hS.cell i hi j hj
  unfold Oper.wp execOp
  simp [ho, hx, Instr.loadAt, Instr.sureAddr, loadVar, ha, hc]
  exact hK _ _ h

set_option maxRecDepth 10000 in
set_option maxHeartbeats 2000000 in
theorem kk_pass (m n : Int) (A : Option Addr) (l c : Nat) (ls : List Alm) (t : Int) (q : Nat) (w : World) (h : Told w A l c ls) (hq : q = (Bd.pass m n ls t).als.length) :
    Calls Try.prog 9 #[.agg #[.int .i64 m, .int .i64 n, .slice A l c], .int .i64 t] w (GivesB w (Bd.pass m n ls t) q (Bd.passE m n ls t)) := by
  have HS := Lib.hid (((St.start w).more (rowF A ls) h.2.1).box2 #[.int .i64 m, .int .i64 n, .slice A l c] #[.int .i64 0, .int .i64 0, .slice none 0 0] 24 24)
  have g1 := fun W (hA : AlmsAt W W.heap.size A ls) => Lib.hid (right_any m n A l c ls W ⟨h.1, hA, h.2.2⟩)
  have g2 := fun W => bIsTime_any t W
  have g3 := fun W (hA : AlmsAt W W.heap.size A ls) => Lib.hid (passed_any A l c ls t W ⟨h.1, hA, h.2.2⟩)
  cases hb : Bd.isB m n ls
  · have e : Bd.passE m n ls t = 1 := by unfold Bd.passE; rw [hb]; rfl
    have e2 : Bd.pass m n ls t = ⟨0, 0, []⟩ := by unfold Bd.pass; rw [e]; rfl
    rw [e2] at hq ⊢
    rw [e]
    simp only [hb] at g1
    obtain rfl : q = 0 := hq
    clear e e2 hb h g2 g3
    go_enter Try.func9, Try.ntmps9
    go_wp2_with (refine wpList_load_st rfl 24 _ rfl HS.out 1 _ _ rfl rfl _ Try.underlying24 rfl (by rfl) ?_)
    refine (hold_any m n A l c _).mono ?_
    rintro e w1 ⟨rfl, hB⟩
    have Hp1 := Lib.hid ((HS.out.on hB).lt 1 rfl)
    have Hp2 := Lib.hid ((HS.out.on hB).lt 0 rfl)
    have Hle := Lib.hid (HS.out.on hB).below.size
    replace HS := Lib.hid ((HS.out.on hB).new #[.int .i64 m, .int .i64 n, .slice A l c] 59)
    clear hB
    go_wp2_with fail
    refine (g1 _ (HS.out.fact 0 rfl)).out.mono ?_
    rintro e w2 ⟨rfl, hB⟩
    replace HS := Lib.hid (HS.out.on hB)
    clear hB g1
    go_wp2_with (refine wpList_setres rfl 24 _ _ rfl HS.out 1 (w.heap.size + 1) _ #[.int .i64 0, .int .i64 0, .slice none 0 0] rfl (by omega) w2.heap.size _ [] (OwnA.nil w2 w2.heap.size) (HS.out.lt 1 rfl) rfl rfl (by rfl) rfl (bd_one 0 0 none 0 0) ?_; intro w9 hS9 hO9; have HS9 := Lib.hid hS9; clear hS9 hO9)
    (try simp only [Exit.inBlock, Exit.then]); refine bodyPost_ret (ret_board rfl rfl HS9.out 0 rfl rfl) rfl ?_
    exact ⟨none, 0, rfl, OwnA.nil _ _, HS9.out.below⟩

  simp only [hb] at g1
  cases ht : Am.isT t
  · have e : Bd.passE m n ls t = 1 := by unfold Bd.passE; rw [hb, ht]; rfl
    have e2 : Bd.pass m n ls t = ⟨0, 0, []⟩ := by unfold Bd.pass; rw [e]; rfl
    rw [e2] at hq ⊢
    rw [e]
    simp only [ht] at g2
    obtain rfl : q = 0 := hq
    clear e e2 hb h ht g3
    go_enter Try.func9, Try.ntmps9
    go_wp2_with (refine wpList_load_st rfl 24 _ rfl HS.out 1 _ _ rfl rfl _ Try.underlying24 rfl (by rfl) ?_)
    refine (hold_any m n A l c _).mono ?_
    rintro e w1 ⟨rfl, hB⟩
    have Hp1 := Lib.hid ((HS.out.on hB).lt 1 rfl)
    have Hp2 := Lib.hid ((HS.out.on hB).lt 0 rfl)
    have Hle := Lib.hid (HS.out.on hB).below.size
    replace HS := Lib.hid ((HS.out.on hB).new #[.int .i64 m, .int .i64 n, .slice A l c] 59)
    clear hB
    go_wp2_with fail
    refine (g1 _ (HS.out.fact 0 rfl)).out.mono ?_
    rintro e w2 ⟨rfl, hB⟩
    replace HS := Lib.hid (HS.out.on hB)
    clear hB g1
    go_wp2_with fail
    refine (g2 _).mono ?_
    rintro e w3 ⟨rfl, rfl⟩
    clear g2
    go_wp2_with (refine wpList_setres rfl 24 _ _ rfl HS.out 1 (w.heap.size + 1) _ #[.int .i64 0, .int .i64 0, .slice none 0 0] rfl (by omega) w3.heap.size _ [] (OwnA.nil w3 w3.heap.size) (HS.out.lt 1 rfl) rfl rfl (by rfl) rfl (bd_one 0 0 none 0 0) ?_; intro w9 hS9 hO9; have HS9 := Lib.hid hS9; clear hS9 hO9)
    (try simp only [Exit.inBlock, Exit.then]); refine bodyPost_ret (ret_board rfl rfl HS9.out 0 rfl rfl) rfl ?_
    exact ⟨none, 0, rfl, OwnA.nil _ _, HS9.out.below⟩

  simp only [ht] at g2
  by_cases hp : t < n
  · have e : Bd.passE m n ls t = 62 := by unfold Bd.passE; rw [hb, ht, if_neg (by simp), if_pos hp]
    have e2 : Bd.pass m n ls t = ⟨0, 0, []⟩ := by unfold Bd.pass; rw [e]; rfl
    rw [e2] at hq ⊢
    rw [e]
    obtain rfl : q = 0 := hq
    clear e e2 hb h ht g3
    go_enter Try.func9, Try.ntmps9
    go_wp2_with (refine wpList_load_st rfl 24 _ rfl HS.out 1 _ _ rfl rfl _ Try.underlying24 rfl (by rfl) ?_)
    refine (hold_any m n A l c _).mono ?_
    rintro e w1 ⟨rfl, hB⟩
    have Hp1 := Lib.hid ((HS.out.on hB).lt 1 rfl)
    have Hp2 := Lib.hid ((HS.out.on hB).lt 0 rfl)
    have Hle := Lib.hid (HS.out.on hB).below.size
    replace HS := Lib.hid ((HS.out.on hB).new #[.int .i64 m, .int .i64 n, .slice A l c] 59)
    clear hB
    go_wp2_with fail
    refine (g1 _ (HS.out.fact 0 rfl)).out.mono ?_
    rintro e w2 ⟨rfl, hB⟩
    replace HS := Lib.hid (HS.out.on hB)
    clear hB g1
    go_wp2_with fail
    refine (g2 _).mono ?_
    rintro e w3 ⟨rfl, rfl⟩
    clear g2
    have s1 := HS.out.cell 0 rfl 1 rfl
    go_wp2_with (refine wpList_setres rfl 24 _ _ rfl HS.out 1 (w.heap.size + 1) _ #[.int .i64 0, .int .i64 0, .slice none 0 0] rfl (by omega) w3.heap.size _ [] (OwnA.nil w3 w3.heap.size) (HS.out.lt 1 rfl) rfl rfl (by rfl) rfl (bd_one 0 0 none 0 0) ?_; intro w9 hS9 hO9; have HS9 := Lib.hid hS9; clear hS9 hO9)
    (try simp only [Exit.inBlock, Exit.then]); refine bodyPost_ret (ret_board rfl rfl HS9.out 0 rfl rfl) rfl ?_
    exact ⟨none, 0, rfl, OwnA.nil _ _, HS9.out.below⟩

  have hE : Bd.passE m n ls t = if Bd.isB m t (Bd.passL t ls) then 0 else 1 := by unfold Bd.passE; rw [hb, ht, if_neg (by simp), if_neg hp]
  obtain ⟨C, hC⟩ : ∃ C, C = Bd.passL t ls := ⟨_, rfl⟩
  have hCl : C.length ≤ 1000 := by rw [hC]; unfold Bd.passL; rw [List.length_map, ← h.1]; exact h.2.2.2
  have g4 := fun W A2 c2 (hA : AlmsAt W W.heap.size A2 C) (h0 : A2 = none → c2 = 0) => Lib.hid (right_any m t A2 C.length c2 C W ⟨rfl, hA, h0, hCl⟩)
  rw [← hC] at hE
  simp only [← hC] at g3
  have ip : (t < n) = False := eq_false hp
  cases hr : Bd.isB m t C
  · rw [hr] at hE
    replace hE : Bd.passE m n ls t = 1 := hE
    have e2 : Bd.pass m n ls t = ⟨0, 0, []⟩ := by unfold Bd.pass; rw [hE]; rfl
    rw [e2] at hq ⊢
    rw [hE]
    simp only [hr] at g4
    obtain rfl : q = 0 := hq
    obtain ⟨qc, hqc⟩ : ∃ q, q = C.length := ⟨_, rfl⟩
    simp only [← hqc] at g4
    have Hq := Lib.hid hqc
    clear e2 hb h ht hE hC hr hp hqc hCl
    go_enter Try.func9, Try.ntmps9
    go_wp2_with (refine wpList_load_st rfl 24 _ rfl HS.out 1 _ _ rfl rfl _ Try.underlying24 rfl (by rfl) ?_)
    refine (hold_any m n A l c _).mono ?_
    rintro e w1 ⟨rfl, hB⟩
    have Hp1 := Lib.hid ((HS.out.on hB).lt 1 rfl)
    have Hp2 := Lib.hid ((HS.out.on hB).lt 0 rfl)
    have Hle := Lib.hid (HS.out.on hB).below.size
    replace HS := Lib.hid ((HS.out.on hB).new #[.int .i64 m, .int .i64 n, .slice A l c] 59)
    clear hB
    go_wp2_with fail
    refine (g1 _ (HS.out.fact 0 rfl)).out.mono ?_
    rintro e w2 ⟨rfl, hB⟩
    replace HS := Lib.hid (HS.out.on hB)
    clear hB g1
    go_wp2_with fail
    refine (g2 _).mono ?_
    rintro e w3 ⟨rfl, rfl⟩
    clear g2
    have s1 := HS.out.cell 0 rfl 1 rfl
    have s2 := HS.out.cell 0 rfl 2 rfl
    go_wp2_with fail
    refine (g3 _ (HS.out.fact 0 rfl)).out.mono ?_
    rintro e w4 ⟨v, rfl, hO, hB⟩
    obtain ⟨A2, c2, rfl, hA2, hn2, _⟩ := hO.slice
    rw [← Hq.out] at hO ⊢
    have HO := Lib.hid hO
    have Hw1 : Hid (w1.heap.size < w3.heap.size) := Lib.hid (HS.out.lt 0 rfl)
    replace HS := Lib.hid (HS.out.on hB)
    clear hB g3 s1 s2 hO hA2 hn2
    go_wp2_with (first
      | (refine wpList_setcell rfl 3 _ _ rfl HS.out (by have := Hp2.out; have := Hp1.out; simp; omega) Hle.out 1 _ _ w3.heap.size _ C HO.out Hw1.out rfl rfl rfl (by rfl) rfl ?_; intro w5 hS5 hO5; have HS5 := Lib.hid hS5; have HO5 := Lib.hid hO5; clear hS5 hO5 HS HO)
      | (refine wpList_setcell rfl 57 _ _ rfl HS5.out (by have := Hp2.out; have := Hp1.out; simp; omega) Hle.out 2 _ _ w3.heap.size _ C HO5.out Hw1.out rfl rfl rfl (by rfl) rfl ?_; intro w6 hS6 hO6; have HS6 := Lib.hid hS6; have HO6 := Lib.hid hO6; clear hS6 hO6 HS5 HO5)
      | (refine wpList_load_st rfl 59 _ rfl HS6.out 0 _ _ rfl rfl _ Try.underlying59 rfl (by rfl) ?_))
    refine (g4 _ A2 c2 HO6.out.alms.1 HO6.out.alms.2).out.mono ?_
    rintro e w7 ⟨rfl, hB⟩
    have HS := Lib.hid (HS6.out.on hB)
    have HO := Lib.hid (HO6.out.below hB)
    clear hB g4 HS6 HO6
    go_wp2_with (refine wpList_setres rfl 24 _ _ rfl HS.out 1 (w.heap.size + 1) _ #[.int .i64 0, .int .i64 0, .slice none 0 0] rfl (by omega) w7.heap.size _ [] (OwnA.nil w7 w7.heap.size) (HS.out.lt 1 rfl) rfl rfl (by rfl) rfl (bd_one 0 0 none 0 0) ?_; intro w9 hS9 hO9; have HS9 := Lib.hid hS9; clear hS9 hO9)
    (try simp only [Exit.inBlock, Exit.then]); refine bodyPost_ret (ret_board rfl rfl HS9.out 0 rfl rfl) rfl ?_
    exact ⟨none, 0, rfl, OwnA.nil _ _, HS9.out.below⟩

  · rw [hr] at hE
    replace hE : Bd.passE m n ls t = 0 := hE
    have e2 : Bd.pass m n ls t = ⟨m, t, C⟩ := by unfold Bd.pass; rw [hE, hC]; rfl
    rw [e2] at hq ⊢
    rw [hE]
    simp only [hr] at g4
    replace hq : q = C.length := hq
    simp only [← hq] at g4
    have Hq := Lib.hid hq
    clear e2 hb h ht hE hC hr hp hq hCl
    go_enter Try.func9, Try.ntmps9
    go_wp2_with (refine wpList_load_st rfl 24 _ rfl HS.out 1 _ _ rfl rfl _ Try.underlying24 rfl (by rfl) ?_)
    refine (hold_any m n A l c _).mono ?_
    rintro e w1 ⟨rfl, hB⟩
    have Hp1 := Lib.hid ((HS.out.on hB).lt 1 rfl)
    have Hp2 := Lib.hid ((HS.out.on hB).lt 0 rfl)
    have Hle := Lib.hid (HS.out.on hB).below.size
    replace HS := Lib.hid ((HS.out.on hB).new #[.int .i64 m, .int .i64 n, .slice A l c] 59)
    clear hB
    go_wp2_with fail
    refine (g1 _ (HS.out.fact 0 rfl)).out.mono ?_
    rintro e w2 ⟨rfl, hB⟩
    replace HS := Lib.hid (HS.out.on hB)
    clear hB g1
    go_wp2_with fail
    refine (g2 _).mono ?_
    rintro e w3 ⟨rfl, rfl⟩
    clear g2
    have s1 := HS.out.cell 0 rfl 1 rfl
    have s2 := HS.out.cell 0 rfl 2 rfl
    go_wp2_with fail
    refine (g3 _ (HS.out.fact 0 rfl)).out.mono ?_
    rintro e w4 ⟨v, rfl, hO, hB⟩
    obtain ⟨A2, c2, rfl, hA2, hn2, _⟩ := hO.slice
    rw [← Hq.out] at hO ⊢
    have HO := Lib.hid hO
    have Hw1 : Hid (w1.heap.size < w3.heap.size) := Lib.hid (HS.out.lt 0 rfl)
    replace HS := Lib.hid (HS.out.on hB)
    clear hB g3 s1 s2 hO hA2 hn2
    go_wp2_with (first
      | (refine wpList_setcell rfl 3 _ _ rfl HS.out (by have := Hp2.out; have := Hp1.out; simp; omega) Hle.out 1 _ _ w3.heap.size _ C HO.out Hw1.out rfl rfl rfl (by rfl) rfl ?_; intro w5 hS5 hO5; have HS5 := Lib.hid hS5; have HO5 := Lib.hid hO5; clear hS5 hO5 HS HO)
      | (refine wpList_setcell rfl 57 _ _ rfl HS5.out (by have := Hp2.out; have := Hp1.out; simp; omega) Hle.out 2 _ _ w3.heap.size _ C HO5.out Hw1.out rfl rfl rfl (by rfl) rfl ?_; intro w6 hS6 hO6; have HS6 := Lib.hid hS6; have HO6 := Lib.hid hO6; clear hS6 hO6 HS5 HO5)
      | (refine wpList_load_st rfl 59 _ rfl HS6.out 0 _ _ rfl rfl _ Try.underlying59 rfl (by rfl) ?_))
    refine (g4 _ A2 c2 HO6.out.alms.1 HO6.out.alms.2).out.mono ?_
    rintro e w7 ⟨rfl, hB⟩
    have HS := Lib.hid (HS6.out.on hB)
    have HO := Lib.hid (HO6.out.below hB)
    clear hB g4 HS6 HO6
    go_wp2_with (refine wpList_load_st rfl 59 _ rfl HS.out 0 _ _ rfl rfl _ Try.underlying59 rfl (by rfl) ?_)
    refine (board_any m t A2 q c2 _).mono ?_
    rintro e w8 ⟨rfl, hB⟩
    replace HS := Lib.hid (HS.out.on hB)
    replace HO := Lib.hid (HO.out.below hB)
    clear hB
    have Hk : Hid (w.heap.size + 1 < w3.heap.size) := Lib.hid (by have := Hp2.out; have := Hw1.out; omega)
    have Hl3 : Hid (w.heap.size ≤ w3.heap.size) := Lib.hid (by have := Hk.out; omega)
    go_wp2_with (refine wpList_setres rfl 24 _ _ rfl HS.out 1 (w.heap.size + 1) _ #[.int .i64 m, .int .i64 t, .slice A2 q c2] rfl (by omega) w3.heap.size _ C HO.out Hk.out rfl rfl (by rfl) rfl (bd_one m t A2 q c2) ?_; intro w9 hS9 hO9; have HS9 := Lib.hid hS9; have HO9 := Lib.hid (hO9.lower Hl3.out); clear hS9 hO9)
    (try simp only [Exit.inBlock, Exit.then]); refine bodyPost_ret (ret_board rfl rfl HS9.out 0 rfl rfl) rfl ?_
    exact ⟨A2, c2, rfl, HO9.out, HS9.out.below⟩
end Go.Proofs.Ytplpadblhjdpcaa
