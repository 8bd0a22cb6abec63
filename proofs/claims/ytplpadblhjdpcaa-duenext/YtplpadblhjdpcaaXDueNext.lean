/-
  Layer 9 (due): the law DueNext, over the contracts (printed by tools/gen-duenext.py).
-/
import Derived.Test.YtplpadblhjdpcaaXJa
import Derived.Test.YtplpadblhjdpcaaXJc
import Derived.Deep.Cut
import Derived.Deep.RegionHeld3
namespace Go.Proofs.Ytplpadblhjdpcaa
set_option maxRecDepth 10000
open Go.RowKit

theorem Tu4.drew {w : World} {b o : Nat} {a : Trn} (h : Tu4 w b o a) : Tu4 w.drew b o a := ⟨h.c0, h.c1, h.c2, h.c3⟩
theorem dueNext_far (m n : Int) (A : Option Addr) (l c : Nat) (ls : List Alm) (t : Int) (w : World) (hA : AlmsAt w w.heap.size A ls) (hf : 60 < l) :
    Calls Try.prog 4 #[.agg #[.int .i64 m, .int .i64 n, .slice A l c], .int .i64 t] w fun e w' => e = .returned (.bool true) ∧ Below w.heap.size w w' := by
  have HS0 := Lib.hid (((St.start w).more (rowF A ls) hA).new #[.int .i64 m, .int .i64 n, .slice A l c] 24)
  have HF := fun W => far9_v m n A l c true (by simp; omega) W
  clear hf hA
  go_enter Try.func4, Try.ntmps4
  go_wp2_with fail
  refine (HF _).mono ?_
  rintro e w1 ⟨rfl, hB⟩
  have HS := Lib.hid (HS0.out.on hB)
  clear hB HS0 HF
  obtain ⟨p1, hp1⟩ : ∃ p, p = w.heap.size := ⟨_, rfl⟩
  rw [← hp1] at HS ⊢
  clear hp1
  go_wp2
  go_ret
  exact ⟨rfl, HS.out.below⟩

set_option maxRecDepth 10000 in
set_option maxHeartbeats 4000000 in
theorem dueNext_err (HD : Hid DueK) (HC : Hid ComingK) (m n : Int) (A : Option Addr) (l c : Nat) (ls : List Alm) (t : Int) (w : World) (hl : l = ls.length) (hA : AlmsAt w w.heap.size A ls) (h0 : A = none → c = 0) (hf : l ≤ 60) (hE : Du.turnsE m n ls t ≠ 0) :
    Calls Try.prog 4 #[.agg #[.int .i64 m, .int .i64 n, .slice A l c], .int .i64 t] w fun e w' => e = .returned (.bool true) ∧ Below w.heap.size w w' := by
  obtain ⟨er, her⟩ : ∃ e, e = Du.turnsE m n ls t := ⟨_, rfl⟩
  have hT : Du.turns m n ls t = [] := by unfold Du.turns; rw [if_neg hE]
  obtain ⟨un, hun⟩ : ∃ e, e = (Du.firstA ls).un := ⟨_, rfl⟩
  obtain ⟨fb, hfb⟩ : ∃ e, e = Du.firstB ls := ⟨_, rfl⟩
  have G1 := fun (W : World) (h : AlmsAt W W.heap.size A ls) => Lib.hid (HD.out.next m n A l c ls W ⟨hl, h, h0, by omega⟩)
  have G2 := fun (W : World) (h : AlmsAt W W.heap.size A ls) => Lib.hid (HD.out.turns m n A l c ls t 0 W ⟨hl, h, h0, by omega⟩ (by rw [hT]; rfl))
  simp only [← hun, ← hfb] at G1
  simp only [hT, ← her] at G2
  have n1 : (er == 0) = false := by rw [beq_eq_false_iff_ne, her]; exact hE
  have n2 : (er != 0) = true := by rw [bne, n1]; rfl
  have HS0 := Lib.hid (((St.start w).more (rowF A ls) hA).new #[.int .i64 m, .int .i64 n, .slice A l c] 24)
  have HF := fun W => far9_v m n A l c false (by simp; omega) W
  clear hl hA h0 hf hE her hT hun hfb
  go_enter Try.func4, Try.ntmps4
  go_wp2_with fail
  refine (HF _).mono ?_
  rintro e w1 ⟨rfl, hB⟩
  have HS := Lib.hid (HS0.out.on hB)
  clear hB HS0 HF
  obtain ⟨p1, hp1⟩ : ∃ p, p = w.heap.size := ⟨_, rfl⟩
  rw [← hp1] at HS ⊢
  clear hp1
  go_wp2_with (refine wpList_load_st rfl 24 _ rfl HS.out 0 _ _ rfl rfl _ Try.underlying24 rfl (by rfl) ?_)
  refine (G1 _ (HS.out.fact 0 rfl)).out.mono ?_
  rintro e w2 ⟨rfl, hB⟩
  replace HS := Lib.hid (HS.out.on hB)
  clear hB G1
  go_wp2_with (refine wpList_load_st rfl 24 _ rfl HS.out 0 _ _ rfl rfl _ Try.underlying24 rfl (by rfl) ?_)
  refine (G2 _ (HS.out.fact 0 rfl)).out.mono ?_
  rintro e w3 ⟨A1, c1, rfl, hO, hB⟩
  replace HS := Lib.hid ((HS.out.on hB).more (turnF A1 []) hO.rows.1)
  clear hO hB G2
  go_wp2_with fail
  refine (HC.out _).mono ?_
  rintro e w5 ⟨rfl, hB⟩
  replace HS := Lib.hid (HS.out.on hB)
  clear hB
  go_wp2
  go_ret
  exact ⟨rfl, HS.out.below⟩

set_option maxRecDepth 10000 in
set_option maxHeartbeats 4000000 in
theorem dueNext_none (HD : Hid DueK) (HC : Hid ComingK) (m n : Int) (A : Option Addr) (l c : Nat) (ls : List Alm) (t : Int) (w : World) (hl : l = ls.length) (hA : AlmsAt w w.heap.size A ls) (h0 : A = none → c = 0) (hf : l ≤ 60) (hE : Du.turnsE m n ls t = 0) (hn : Du.first ls = none) :
    Calls Try.prog 4 #[.agg #[.int .i64 m, .int .i64 n, .slice A l c], .int .i64 t] w fun e w' => e = .returned (.bool true) ∧ Below w.heap.size w w' := by
  have hT : Du.turns m n ls t = [] := Du.next_none hn hE
  have ha : Du.firstA ls = Am.zero := by unfold Du.firstA; rw [hn]; rfl
  have hb : Du.firstB ls = false := by unfold Du.firstB; rw [hn]; rfl
  have G1 := fun (W : World) (h : AlmsAt W W.heap.size A ls) => Lib.hid (HD.out.next m n A l c ls W ⟨hl, h, h0, by omega⟩)
  have G2 := fun (W : World) (h : AlmsAt W W.heap.size A ls) => Lib.hid (HD.out.turns m n A l c ls t 0 W ⟨hl, h, h0, by omega⟩ (by rw [hT]; rfl))
  simp only [ha, hb] at G1
  simp only [hT, hE] at G2
  have G1' : ∀ (W : World) (h : AlmsAt W W.heap.size A ls), Hid (Calls Try.prog 13 #[.agg #[.int .i64 m, .int .i64 n, .slice A l c]] W fun e w' => e = .returned (.tuple #[.int .i64 0, .bool false]) ∧ Below W.heap.size W w') := G1
  clear G1
  have G1 := G1'
  have HS0 := Lib.hid (((St.start w).more (rowF A ls) hA).new #[.int .i64 m, .int .i64 n, .slice A l c] 24)
  have HF := fun W => far9_v m n A l c false (by simp; omega) W
  clear hl hA h0 hf hE hT ha hb hn G1'
  go_enter Try.func4, Try.ntmps4
  go_wp2_with fail
  refine (HF _).mono ?_
  rintro e w1 ⟨rfl, hB⟩
  have HS := Lib.hid (HS0.out.on hB)
  clear hB HS0 HF
  obtain ⟨p1, hp1⟩ : ∃ p, p = w.heap.size := ⟨_, rfl⟩
  rw [← hp1] at HS ⊢
  clear hp1
  go_wp2_with (refine wpList_load_st rfl 24 _ rfl HS.out 0 _ _ rfl rfl _ Try.underlying24 rfl (by rfl) ?_)
  refine (G1 _ (HS.out.fact 0 rfl)).out.mono ?_
  rintro e w2 ⟨rfl, hB⟩
  replace HS := Lib.hid (HS.out.on hB)
  clear hB G1
  go_wp2_with (refine wpList_load_st rfl 24 _ rfl HS.out 0 _ _ rfl rfl _ Try.underlying24 rfl (by rfl) ?_)
  refine (G2 _ (HS.out.fact 0 rfl)).out.mono ?_
  rintro e w3 ⟨A1, c1, rfl, hO, hB⟩
  replace HS := Lib.hid ((HS.out.on hB).more (turnF A1 []) hO.rows.1)
  clear hO hB G2
  go_wp2_with fail
  refine (HC.out _).mono ?_
  rintro e w5 ⟨rfl, hB⟩
  replace HS := Lib.hid (HS.out.on hB)
  clear hB
  go_wp2
  go_ret
  exact ⟨rfl, HS.out.below⟩

set_option maxRecDepth 10000 in
set_option maxHeartbeats 4000000 in
theorem dueNext_a (HD : Hid DueK) (HC : Hid ComingK) (m n : Int) (A : Option Addr) (l c : Nat) (ls : List Alm) (t : Int) (w : World) (hl : l = ls.length) (hA : AlmsAt w w.heap.size A ls) (h0 : A = none → c = 0) (hf : l ≤ 60) (hE : Du.turnsE m n ls t = 0) (y0 y1 y2 y3 y4 y5 : Int) (hy : Du.first ls = some ⟨y0, y1, y2, y3, y4, y5⟩) (ht : t < y5) :
    Calls Try.prog 4 #[.agg #[.int .i64 m, .int .i64 n, .slice A l c], .int .i64 t] w fun e w' => e = .returned (.bool true) ∧ Below w.heap.size w w' := by
  have hT := (Du.next_some hy hE).1 ht
  have ha : Du.firstA ls = ⟨y0, y1, y2, y3, y4, y5⟩ := by unfold Du.firstA; rw [hy]; rfl
  have hb : Du.firstB ls = true := by unfold Du.firstB; rw [hy]; rfl
  obtain ⟨q, hq⟩ : ∃ q, q = [].length := ⟨_, rfl⟩
  have G1 := fun (W : World) (h : AlmsAt W W.heap.size A ls) => Lib.hid (HD.out.next m n A l c ls W ⟨hl, h, h0, by omega⟩)
  have G2 := fun (W : World) (h : AlmsAt W W.heap.size A ls) => Lib.hid (HD.out.turns m n A l c ls t q W ⟨hl, h, h0, by omega⟩ (by rw [hT]; exact hq))
  have G3 := fun (W : World) (h : AlmsAt W W.heap.size A ls) => Lib.hid (HD.out.first A l c ls W ⟨hl, h, h0, by omega⟩)
  simp only [ha, hb] at G1 G3
  simp only [sixV] at G3
  simp only [hT, hE] at G2
  have HS0 := Lib.hid (((St.start w).more (rowF A ls) hA).new #[.int .i64 m, .int .i64 n, .slice A l c] 24)
  have HF := fun W => far9_v m n A l c false (by simp; omega) W
  obtain rfl : q = 0 := hq
  have it : (y5 ≤ t) = False := eq_false (by omega)
  clear hl hA h0 hf hE hy ht hT ha hb
  go_enter Try.func4, Try.ntmps4
  go_wp2_with fail
  refine (HF _).mono ?_
  rintro e w1 ⟨rfl, hB⟩
  have HS := Lib.hid (HS0.out.on hB)
  clear hB HS0 HF
  obtain ⟨p1, hp1⟩ : ∃ p, p = w.heap.size := ⟨_, rfl⟩
  rw [← hp1] at HS ⊢
  clear hp1
  go_wp2_with (refine wpList_load_st rfl 24 _ rfl HS.out 0 _ _ rfl rfl _ Try.underlying24 rfl (by rfl) ?_)
  refine (G1 _ (HS.out.fact 0 rfl)).out.mono ?_
  rintro e w2 ⟨rfl, hB⟩
  replace HS := Lib.hid (HS.out.on hB)
  clear hB G1
  go_wp2_with (refine wpList_load_st rfl 24 _ rfl HS.out 0 _ _ rfl rfl _ Try.underlying24 rfl (by rfl) ?_)
  refine (G2 _ (HS.out.fact 0 rfl)).out.mono ?_
  rintro e w3 ⟨A1, c1, rfl, hO, hB⟩
  replace HS := Lib.hid ((HS.out.on hB).more (turnF A1 []) hO.rows.1)
  clear hO hB G2
  have s2 := HS.out.cell 0 rfl 2 rfl
  go_wp2_with fail
  refine (G3 _ (HS.out.fact 1 rfl)).out.mono ?_
  rintro e w4 ⟨rfl, hB⟩
  replace HS := Lib.hid (HS.out.on hB)
  clear hB G3 s2
  go_upto_region 10 with (refine wpList_store_st rfl 36 _ _ rfl HS.out _ #[.int .i64 y0, .int .i64 y1, .int .i64 y2, .int .i64 y3, .int .i64 y4, .int .i64 y5] _ rfl rfl (by rfl) rfl (six_one ⟨y0, y1, y2, y3, y4, y5⟩) ?_; intro p9 v9 hp hS hBn; (try rw [← hp]); clear HS; have HS := Lib.hid hS; clear hS hp hBn)
  have o4 := HS.out.cell 0 rfl 5 rfl
  go_wp2_with fail
  clear o4
  have hS := HS.out
  clear HS
  refine wp_region_held_drew (S := (fun W : World => St w W [] [])) (by kernel_rfl) (by first | exact hS.pick8 _ (by simp) | exact hS.drew.pick8 _ (by simp)) (fun hHeld => ?_)
  refine wpAnyH_ready (rs := [0]) (by kernel_rfl) (by simp) ?_
  refine AllReadyH.cons (o := { dst := some 67, op := Op.call { callee := Callee.value (Operand.func 10), args := #[], argTypes := #[] }, type := 4, pos := _, after := #[], guard := none }) rfl (fun K hK => ?_) AllReadyH.nil
  go_simp
  refine (HC.out _).mono ?_
  rintro e w6 ⟨rfl, hB'⟩
  replace hS : St w w6 [(p9, #[.int .i64 y0, .int .i64 y1, .int .i64 y2, .int .i64 y3, .int .i64 y4, .int .i64 y5]), (p1, #[.int .i64 m, .int .i64 n, .slice A l c])] [turnF A1 [], rowF A ls] := (by first | exact hS.on hB' | exact hS.drew.on hB')
  clear hB'
  go_wp2_with fail
  refine hK.out _ _ (by first | exact hS.pick8 _ (by simp) | exact hS.drew.pick8 _ (by simp)) (fun hHeld => ?_)
  clear hK K
  (try simp only [Act.put, List.setIfInBounds_toArray, List.set_cons_zero, List.set_cons_succ])
  refine wpAnyH_take (i := 1) (oi := { dst := some 68, op := Op.move (Operand.tmp 67), type := 4, pos := _, after := #[{ on := 0, ground := Ground.data }, { on := 0, ground := Ground.chain }], guard := none }) (v := ?_) rfl (by kernel_rfl) (by kernel_rfl) (by kernel_rfl) (fun _ _ _ h => h) (Or.inl ⟨by rfl, ?hy⟩) hHeld ?_
  case hy => intro w0 hSw; clear hSw; go_simp; (try with_reducible rfl)
  (try simp only [Act.put, List.setIfInBounds_toArray, List.set_cons_zero, List.set_cons_succ])
  refine wpAnyH_take (i := 2) (oi := { dst := some 69, op := Op.move (Operand.tmp 7), type := 26, pos := _, after := #[{ on := 1, ground := Ground.guard }], guard := some (1, true) }) (v := ?_) rfl (by kernel_rfl) (by kernel_rfl) (by kernel_rfl) (fun _ _ _ h => h) (Or.inl ⟨by rfl, ?hy⟩) hHeld ?_
  case hy => intro w0 hSw; clear hSw; go_simp; (try with_reducible rfl)
  (try simp only [Act.put, List.setIfInBounds_toArray, List.set_cons_zero, List.set_cons_succ])
  refine wpAnyH_take (i := 3) (oi := { dst := some 70, op := Op.call { callee := Callee.builtin Builtin.len, args := #[Operand.tmp 69], argTypes := #[26] }, type := 3, pos := _, after := #[{ on := 2, ground := Ground.data }, { on := 1, ground := Ground.guard }], guard := some (1, true) }) (v := ?_) rfl (by kernel_rfl) (by kernel_rfl) (by kernel_rfl) (fun _ _ _ h => h) (Or.inl ⟨by rfl, ?hy⟩) hHeld ?_
  case hy => intro w0 hSw; clear hSw; go_simp; (try with_reducible rfl)
  (try simp only [Act.put, List.setIfInBounds_toArray, List.set_cons_zero, List.set_cons_succ])
  refine wpAnyH_take (i := 4) (oi := { dst := some 71, op := Op.binOp BinOp.eql 3 (Operand.tmp 70) (Operand.const (Value.int IntKind.i64 0)) 3, type := 4, pos := _, after := #[{ on := 3, ground := Ground.data }, { on := 1, ground := Ground.guard }], guard := some (1, true) }) (v := ?_) rfl (by kernel_rfl) (by kernel_rfl) (by kernel_rfl) (fun _ _ _ h => h) (Or.inl ⟨by rfl, ?hy⟩) hHeld ?_
  case hy => intro w0 hSw; clear hSw; go_simp; (try with_reducible rfl)
  (try simp only [Act.put, List.setIfInBounds_toArray, List.set_cons_zero, List.set_cons_succ])
  refine wpAnyH_take (i := 5) (oi := { dst := some 72, op := Op.move (Operand.tmp 71), type := 4, pos := _, after := #[{ on := 4, ground := Ground.data }, { on := 1, ground := Ground.chain }, { on := 1, ground := Ground.guard }], guard := some (1, true) }) (v := ?_) rfl (by kernel_rfl) (by kernel_rfl) (by kernel_rfl) (fun _ _ _ h => h) (Or.inl ⟨by rfl, ?hy⟩) hHeld ?_
  case hy => intro w0 hSw; clear hSw; go_simp; (try with_reducible rfl)
  (try simp only [Act.put, List.setIfInBounds_toArray, List.set_cons_zero, List.set_cons_succ])
  refine wpAnyH_take (i := 6) (oi := { dst := some 73, op := Op.move (Operand.tmp 7), type := 26, pos := _, after := #[{ on := 5, ground := Ground.guard }], guard := some (5, false) }) (v := undef) rfl (by kernel_rfl) (by kernel_rfl) (by kernel_rfl) (fun _ _ _ h => h) (Or.inr ⟨by rfl, rfl⟩) hHeld ?_
  (try simp only [Act.put, List.setIfInBounds_toArray, List.set_cons_zero, List.set_cons_succ])
  refine wpAnyH_take (i := 7) (oi := { dst := some 74, op := Op.indexAddr 26 (Operand.tmp 73) (Operand.const (Value.int IntKind.i64 0)), type := 0, pos := _, after := #[{ on := 6, ground := Ground.data }, { on := 5, ground := Ground.guard }], guard := some (5, false) }) (v := undef) rfl (by kernel_rfl) (by kernel_rfl) (by kernel_rfl) (fun _ _ _ h => h) (Or.inr ⟨by rfl, rfl⟩) hHeld ?_
  (try simp only [Act.put, List.setIfInBounds_toArray, List.set_cons_zero, List.set_cons_succ])
  refine wpAnyH_take (i := 8) (oi := { dst := some 75, op := Op.fieldAddr 38 (Operand.tmp 74) 0, type := 0, pos := _, after := #[{ on := 7, ground := Ground.data }, { on := 5, ground := Ground.guard }], guard := some (5, false) }) (v := undef) rfl (by kernel_rfl) (by kernel_rfl) (by kernel_rfl) (fun _ _ _ h => h) (Or.inr ⟨by rfl, rfl⟩) hHeld ?_
  (try simp only [Act.put, List.setIfInBounds_toArray, List.set_cons_zero, List.set_cons_succ])
  refine wpAnyH_take (i := 9) (oi := { dst := some 76, op := Op.load 3 (Operand.tmp 75), type := 3, pos := _, after := #[{ on := 8, ground := Ground.data }, { on := 5, ground := Ground.guard }], guard := some (5, false) }) (v := undef) rfl (by kernel_rfl) (by kernel_rfl) (by kernel_rfl) (fun _ _ _ h => h) (Or.inr ⟨by rfl, rfl⟩) hHeld ?_
  (try simp only [Act.put, List.setIfInBounds_toArray, List.set_cons_zero, List.set_cons_succ])
  refine wpAnyH_take (i := 10) (oi := { dst := some 77, op := Op.move (Operand.tmp 5), type := 3, pos := _, after := #[{ on := 5, ground := Ground.guard }], guard := some (5, false) }) (v := undef) rfl (by kernel_rfl) (by kernel_rfl) (by kernel_rfl) (fun _ _ _ h => h) (Or.inr ⟨by rfl, rfl⟩) hHeld ?_
  (try simp only [Act.put, List.setIfInBounds_toArray, List.set_cons_zero, List.set_cons_succ])
  refine wpAnyH_take (i := 11) (oi := { dst := some 78, op := Op.binOp BinOp.eql 3 (Operand.tmp 76) (Operand.tmp 77) 3, type := 4, pos := _, after := #[{ on := 9, ground := Ground.data }, { on := 10, ground := Ground.data }, { on := 5, ground := Ground.guard }], guard := some (5, false) }) (v := undef) rfl (by kernel_rfl) (by kernel_rfl) (by kernel_rfl) (fun _ _ _ h => h) (Or.inr ⟨by rfl, rfl⟩) hHeld ?_
  (try simp only [Act.put, List.setIfInBounds_toArray, List.set_cons_zero, List.set_cons_succ])
  refine wpAnyH_take (i := 12) (oi := { dst := some 79, op := Op.move (Operand.tmp 78), type := 4, pos := _, after := #[{ on := 11, ground := Ground.data }, { on := 5, ground := Ground.chain }, { on := 5, ground := Ground.guard }], guard := some (5, false) }) (v := undef) rfl (by kernel_rfl) (by kernel_rfl) (by kernel_rfl) (fun _ _ _ h => h) (Or.inr ⟨by rfl, rfl⟩) hHeld ?_
  (try simp only [Act.put, List.setIfInBounds_toArray, List.set_cons_zero, List.set_cons_succ])
  refine wpAnyH_take (i := 13) (oi := { dst := some 80, op := Op.move (Operand.tmp 7), type := 26, pos := _, after := #[{ on := 12, ground := Ground.guard }], guard := some (12, true) }) (v := undef) rfl (by kernel_rfl) (by kernel_rfl) (by kernel_rfl) (fun _ _ _ h => h) (Or.inr ⟨by rfl, rfl⟩) hHeld ?_
  (try simp only [Act.put, List.setIfInBounds_toArray, List.set_cons_zero, List.set_cons_succ])
  refine wpAnyH_take (i := 14) (oi := { dst := some 81, op := Op.indexAddr 26 (Operand.tmp 80) (Operand.const (Value.int IntKind.i64 0)), type := 0, pos := _, after := #[{ on := 13, ground := Ground.data }, { on := 12, ground := Ground.guard }], guard := some (12, true) }) (v := undef) rfl (by kernel_rfl) (by kernel_rfl) (by kernel_rfl) (fun _ _ _ h => h) (Or.inr ⟨by rfl, rfl⟩) hHeld ?_
  (try simp only [Act.put, List.setIfInBounds_toArray, List.set_cons_zero, List.set_cons_succ])
  refine wpAnyH_take (i := 15) (oi := { dst := some 82, op := Op.fieldAddr 38 (Operand.tmp 81) 1, type := 0, pos := _, after := #[{ on := 14, ground := Ground.data }, { on := 12, ground := Ground.guard }], guard := some (12, true) }) (v := undef) rfl (by kernel_rfl) (by kernel_rfl) (by kernel_rfl) (fun _ _ _ h => h) (Or.inr ⟨by rfl, rfl⟩) hHeld ?_
  (try simp only [Act.put, List.setIfInBounds_toArray, List.set_cons_zero, List.set_cons_succ])
  refine wpAnyH_take (i := 16) (oi := { dst := some 83, op := Op.load 34 (Operand.tmp 82), type := 34, pos := _, after := #[{ on := 15, ground := Ground.data }, { on := 12, ground := Ground.guard }], guard := some (12, true) }) (v := undef) rfl (by kernel_rfl) (by kernel_rfl) (by kernel_rfl) (fun _ _ _ h => h) (Or.inr ⟨by rfl, rfl⟩) hHeld ?_
  (try simp only [Act.put, List.setIfInBounds_toArray, List.set_cons_zero, List.set_cons_succ])
  refine wpAnyH_take (i := 17) (oi := { dst := some 84, op := Op.fieldAddr 36 (Operand.tmp 9) 0, type := 0, pos := _, after := #[{ on := 12, ground := Ground.guard }], guard := some (12, true) }) (v := undef) rfl (by kernel_rfl) (by kernel_rfl) (by kernel_rfl) (fun _ _ _ h => h) (Or.inr ⟨by rfl, rfl⟩) hHeld ?_
  (try simp only [Act.put, List.setIfInBounds_toArray, List.set_cons_zero, List.set_cons_succ])
  refine wpAnyH_take (i := 18) (oi := { dst := some 85, op := Op.load 34 (Operand.tmp 84), type := 34, pos := _, after := #[{ on := 17, ground := Ground.data }, { on := 12, ground := Ground.guard }], guard := some (12, true) }) (v := undef) rfl (by kernel_rfl) (by kernel_rfl) (by kernel_rfl) (fun _ _ _ h => h) (Or.inr ⟨by rfl, rfl⟩) hHeld ?_
  (try simp only [Act.put, List.setIfInBounds_toArray, List.set_cons_zero, List.set_cons_succ])
  refine wpAnyH_take (i := 19) (oi := { dst := some 86, op := Op.binOp BinOp.eql 34 (Operand.tmp 83) (Operand.tmp 85) 34, type := 4, pos := _, after := #[{ on := 16, ground := Ground.data }, { on := 18, ground := Ground.data }, { on := 12, ground := Ground.guard }], guard := some (12, true) }) (v := undef) rfl (by kernel_rfl) (by kernel_rfl) (by kernel_rfl) (fun _ _ _ h => h) (Or.inr ⟨by rfl, rfl⟩) hHeld ?_
  (try simp only [Act.put, List.setIfInBounds_toArray, List.set_cons_zero, List.set_cons_succ])
  refine wpAnyH_take (i := 20) (oi := { dst := some 87, op := Op.pick (Operand.tmp 79) (Operand.tmp 86) (Operand.const (Value.bool false)), type := 4, pos := _, after := #[{ on := 12, ground := Ground.data }, { on := 19, ground := Ground.data }, { on := 5, ground := Ground.guard }], guard := some (5, false) }) (v := undef) rfl (by kernel_rfl) (by kernel_rfl) (by kernel_rfl) (fun _ _ _ h => h) (Or.inr ⟨by rfl, rfl⟩) hHeld ?_
  (try simp only [Act.put, List.setIfInBounds_toArray, List.set_cons_zero, List.set_cons_succ])
  refine wpAnyH_take (i := 21) (oi := { dst := some 88, op := Op.pick (Operand.tmp 72) (Operand.const (Value.bool true)) (Operand.tmp 87), type := 4, pos := _, after := #[{ on := 5, ground := Ground.data }, { on := 20, ground := Ground.data }, { on := 1, ground := Ground.guard }], guard := some (1, true) }) (v := ?_) rfl (by kernel_rfl) (by kernel_rfl) (by kernel_rfl) (fun _ _ _ h => h) (Or.inl ⟨by rfl, ?hy⟩) hHeld ?_
  case hy => intro w0 hSw; clear hSw; go_simp; (try with_reducible rfl)
  (try simp only [Act.put, List.setIfInBounds_toArray, List.set_cons_zero, List.set_cons_succ])
  refine wpAnyH_take (i := 22) (oi := { dst := some 89, op := Op.pick (Operand.tmp 68) (Operand.tmp 88) (Operand.const (Value.bool false)), type := 4, pos := _, after := #[{ on := 1, ground := Ground.data }, { on := 21, ground := Ground.data }], guard := none }) (v := ?_) rfl (by kernel_rfl) (by kernel_rfl) (by kernel_rfl) (fun _ _ _ h => h) (Or.inl ⟨by rfl, ?hy⟩) hHeld ?_
  case hy => intro w0 hSw; clear hSw; go_simp; (try with_reducible rfl)
  (try simp only [Act.put, List.setIfInBounds_toArray, List.set_cons_zero, List.set_cons_succ])
  refine wpAnyH_take (i := 23) (oi := { dst := some 4, op := Op.assign (Operand.tmp 89), type := 4, pos := _, after := #[{ on := 22, ground := Ground.data }, { on := 12, ground := Ground.chain }, { on := 0, ground := Ground.phase }, { on := 1, ground := Ground.phase }, { on := 2, ground := Ground.phase }, { on := 3, ground := Ground.phase }, { on := 4, ground := Ground.phase }, { on := 5, ground := Ground.phase }, { on := 6, ground := Ground.phase }, { on := 7, ground := Ground.phase }, { on := 8, ground := Ground.phase }, { on := 9, ground := Ground.phase }, { on := 10, ground := Ground.phase }, { on := 11, ground := Ground.phase }, { on := 12, ground := Ground.phase }, { on := 13, ground := Ground.phase }, { on := 14, ground := Ground.phase }, { on := 15, ground := Ground.phase }, { on := 16, ground := Ground.phase }, { on := 17, ground := Ground.phase }, { on := 18, ground := Ground.phase }, { on := 19, ground := Ground.phase }, { on := 20, ground := Ground.phase }, { on := 21, ground := Ground.phase }, { on := 22, ground := Ground.phase }], guard := none }) (v := ?_) rfl (by kernel_rfl) (by kernel_rfl) (by kernel_rfl) (fun _ _ _ h => h) (Or.inl ⟨by rfl, ?hy⟩) hHeld ?_
  case hy => intro w0 hSw; clear hSw; go_simp; (try with_reducible rfl)
  (try simp only [Act.put, List.setIfInBounds_toArray, List.set_cons_zero, List.set_cons_succ])
  refine wpAnyH_done (by kernel_rfl) ?_ _
  clear hHeld
  have HS := Lib.hid hS
  clear hS
  go_wp2
  go_ret
  exact ⟨rfl, HS.out.below⟩

set_option maxRecDepth 10000 in
set_option maxHeartbeats 4000000 in
theorem dueNext_b (HD : Hid DueK) (HC : Hid ComingK) (m n : Int) (A : Option Addr) (l c : Nat) (ls : List Alm) (t : Int) (w : World) (hl : l = ls.length) (hA : AlmsAt w w.heap.size A ls) (h0 : A = none → c = 0) (hf : l ≤ 60) (hE : Du.turnsE m n ls t = 0) (y0 y1 y2 y3 y4 y5 : Int) (hy : Du.first ls = some ⟨y0, y1, y2, y3, y4, y5⟩) (ht : ¬ t < y5) (z3 : Int) (T : List Trn) (hT : Du.turns m n ls t = ⟨y5, y0, y1, z3⟩ :: T) :
    Calls Try.prog 4 #[.agg #[.int .i64 m, .int .i64 n, .slice A l c], .int .i64 t] w fun e w' => e = .returned (.bool true) ∧ Below w.heap.size w w' := by
  have ha : Du.firstA ls = ⟨y0, y1, y2, y3, y4, y5⟩ := by unfold Du.firstA; rw [hy]; rfl
  have hb : Du.firstB ls = true := by unfold Du.firstB; rw [hy]; rfl
  obtain ⟨q, hq⟩ : ∃ q, q = (⟨y5, y0, y1, z3⟩ :: T).length := ⟨_, rfl⟩
  have G1 := fun (W : World) (h : AlmsAt W W.heap.size A ls) => Lib.hid (HD.out.next m n A l c ls W ⟨hl, h, h0, by omega⟩)
  have G2 := fun (W : World) (h : AlmsAt W W.heap.size A ls) => Lib.hid (HD.out.turns m n A l c ls t q W ⟨hl, h, h0, by omega⟩ (by rw [hT]; exact hq))
  have G3 := fun (W : World) (h : AlmsAt W W.heap.size A ls) => Lib.hid (HD.out.first A l c ls W ⟨hl, h, h0, by omega⟩)
  simp only [ha, hb] at G1 G3
  simp only [sixV] at G3
  simp only [hT, hE] at G2
  have HS0 := Lib.hid (((St.start w).more (rowF A ls) hA).new #[.int .i64 m, .int .i64 n, .slice A l c] 24)
  have HF := fun W => far9_v m n A l c false (by simp; omega) W
  have it : y5 ≤ t := by omega
  have iq : (0 : Int) < (q : Int) := by rw [hq]; simp only [List.length_cons]; omega
  have iq2 : 0 < q := by omega
  have iq3 : ((q : Int) == 0) = false := by rw [beq_eq_false_iff_ne]; omega
  have hsp := fun W => run_eql_sp y0 y1 y0 y1 true (by simp) W
  clear hl hA h0 hf hE hy ht hT ha hb hq
  go_enter Try.func4, Try.ntmps4
  go_wp2_with fail
  refine (HF _).mono ?_
  rintro e w1 ⟨rfl, hB⟩
  have HS := Lib.hid (HS0.out.on hB)
  clear hB HS0 HF
  obtain ⟨p1, hp1⟩ : ∃ p, p = w.heap.size := ⟨_, rfl⟩
  rw [← hp1] at HS ⊢
  clear hp1
  go_wp2_with (refine wpList_load_st rfl 24 _ rfl HS.out 0 _ _ rfl rfl _ Try.underlying24 rfl (by rfl) ?_)
  refine (G1 _ (HS.out.fact 0 rfl)).out.mono ?_
  rintro e w2 ⟨rfl, hB⟩
  replace HS := Lib.hid (HS.out.on hB)
  clear hB G1
  go_wp2_with (refine wpList_load_st rfl 24 _ rfl HS.out 0 _ _ rfl rfl _ Try.underlying24 rfl (by rfl) ?_)
  refine (G2 _ (HS.out.fact 0 rfl)).out.mono ?_
  rintro e w3 ⟨A1, c1, rfl, hO, hB⟩
  replace HS := Lib.hid ((HS.out.on hB).more (turnF A1 (⟨y5, y0, y1, z3⟩ :: T)) hO.rows.1)
  clear hO hB G2
  have s2 := HS.out.cell 0 rfl 2 rfl
  go_wp2_with fail
  refine (G3 _ (HS.out.fact 1 rfl)).out.mono ?_
  rintro e w4 ⟨rfl, hB⟩
  replace HS := Lib.hid (HS.out.on hB)
  clear hB G3 s2
  go_upto_region 10 with (refine wpList_store_st rfl 36 _ _ rfl HS.out _ #[.int .i64 y0, .int .i64 y1, .int .i64 y2, .int .i64 y3, .int .i64 y4, .int .i64 y5] _ rfl rfl (by rfl) rfl (six_one ⟨y0, y1, y2, y3, y4, y5⟩) ?_; intro p9 v9 hp hS hBn; (try rw [← hp]); clear HS; have HS := Lib.hid hS; clear hS hp hBn)
  have o4 := HS.out.cell 0 rfl 5 rfl
  have HA1 : Hid (TrnsAt v9 v9.heap.size A1 (⟨y5, y0, y1, z3⟩ :: T)) := Lib.hid (HS.out.fact 0 rfl)
  obtain ⟨b0, o0, rfl, hb0, h4⟩ := HA1.out 0 (by simp)
  have h4 : Tu4 v9 b0 o0 ⟨y5, y0, y1, z3⟩ := by simpa using h4
  clear HA1
  go_wp2_with fail
  clear o4
  have hS := HS.out
  clear HS
  refine wp_region_held_drew (S := (fun W : World => St w W [(p9, #[.int .i64 y0, .int .i64 y1, .int .i64 y2, .int .i64 y3, .int .i64 y4, .int .i64 y5])] [] ∧ Tu4 W b0 o0 ⟨y5, y0, y1, z3⟩)) (by kernel_rfl) (by first | exact ⟨hS.pick8 _ (by simp), h4⟩ | exact ⟨hS.drew.pick8 _ (by simp), h4.drew⟩) (fun hHeld => ?_)
  refine wpAnyH_ready (rs := [0]) (by kernel_rfl) (by simp) ?_
  refine AllReadyH.cons (o := { dst := some 67, op := Op.call { callee := Callee.value (Operand.func 10), args := #[], argTypes := #[] }, type := 4, pos := _, after := #[], guard := none }) rfl (fun K hK => ?_) AllReadyH.nil
  go_simp
  refine (HC.out _).mono ?_
  rintro e w6 ⟨rfl, hB'⟩
  replace h4 : Tu4 w6 b0 o0 ⟨y5, y0, y1, z3⟩ := (by first | exact h4.below hB' hb0 | exact h4.drew.below hB' hb0)
  replace hS : St w w6 [(p9, #[.int .i64 y0, .int .i64 y1, .int .i64 y2, .int .i64 y3, .int .i64 y4, .int .i64 y5]), (p1, #[.int .i64 m, .int .i64 n, .slice A l c])] [turnF (some ⟨b0, o0, none⟩) (⟨y5, y0, y1, z3⟩ :: T), rowF A ls] := (by first | exact hS.on hB' | exact hS.drew.on hB')
  clear hB'
  go_wp2_with fail
  refine hK.out _ _ (by first | exact ⟨hS.pick8 _ (by simp), h4⟩ | exact ⟨hS.drew.pick8 _ (by simp), h4.drew⟩) (fun hHeld => ?_)
  clear hK K
  (try simp only [Act.put, List.setIfInBounds_toArray, List.set_cons_zero, List.set_cons_succ])
  refine wpAnyH_take (i := 1) (oi := { dst := some 68, op := Op.move (Operand.tmp 67), type := 4, pos := _, after := #[{ on := 0, ground := Ground.data }, { on := 0, ground := Ground.chain }], guard := none }) (v := ?_) rfl (by kernel_rfl) (by kernel_rfl) (by kernel_rfl) (fun _ _ _ h => h) (Or.inl ⟨by rfl, ?hy⟩) hHeld ?_
  case hy => intro w0 hSw; clear hSw; go_simp; (try with_reducible rfl)
  (try simp only [Act.put, List.setIfInBounds_toArray, List.set_cons_zero, List.set_cons_succ])
  refine wpAnyH_take (i := 2) (oi := { dst := some 69, op := Op.move (Operand.tmp 7), type := 26, pos := _, after := #[{ on := 1, ground := Ground.guard }], guard := some (1, true) }) (v := ?_) rfl (by kernel_rfl) (by kernel_rfl) (by kernel_rfl) (fun _ _ _ h => h) (Or.inl ⟨by rfl, ?hy⟩) hHeld ?_
  case hy => intro w0 hSw; clear hSw; go_simp; (try with_reducible rfl)
  (try simp only [Act.put, List.setIfInBounds_toArray, List.set_cons_zero, List.set_cons_succ])
  refine wpAnyH_take (i := 3) (oi := { dst := some 70, op := Op.call { callee := Callee.builtin Builtin.len, args := #[Operand.tmp 69], argTypes := #[26] }, type := 3, pos := _, after := #[{ on := 2, ground := Ground.data }, { on := 1, ground := Ground.guard }], guard := some (1, true) }) (v := ?_) rfl (by kernel_rfl) (by kernel_rfl) (by kernel_rfl) (fun _ _ _ h => h) (Or.inl ⟨by rfl, ?hy⟩) hHeld ?_
  case hy => intro w0 hSw; clear hSw; go_simp; (try with_reducible rfl)
  (try simp only [Act.put, List.setIfInBounds_toArray, List.set_cons_zero, List.set_cons_succ])
  refine wpAnyH_take (i := 4) (oi := { dst := some 71, op := Op.binOp BinOp.eql 3 (Operand.tmp 70) (Operand.const (Value.int IntKind.i64 0)) 3, type := 4, pos := _, after := #[{ on := 3, ground := Ground.data }, { on := 1, ground := Ground.guard }], guard := some (1, true) }) (v := ?_) rfl (by kernel_rfl) (by kernel_rfl) (by kernel_rfl) (fun _ _ _ h => h) (Or.inl ⟨by rfl, ?hy⟩) hHeld ?_
  case hy => intro w0 hSw; clear hSw; go_simp; (try with_reducible rfl)
  (try simp only [Act.put, List.setIfInBounds_toArray, List.set_cons_zero, List.set_cons_succ])
  refine wpAnyH_take (i := 5) (oi := { dst := some 72, op := Op.move (Operand.tmp 71), type := 4, pos := _, after := #[{ on := 4, ground := Ground.data }, { on := 1, ground := Ground.chain }, { on := 1, ground := Ground.guard }], guard := some (1, true) }) (v := ?_) rfl (by kernel_rfl) (by kernel_rfl) (by kernel_rfl) (fun _ _ _ h => h) (Or.inl ⟨by rfl, ?hy⟩) hHeld ?_
  case hy => intro w0 hSw; clear hSw; go_simp; (try with_reducible rfl)
  (try simp only [Act.put, List.setIfInBounds_toArray, List.set_cons_zero, List.set_cons_succ])
  refine wpAnyH_take (i := 6) (oi := { dst := some 73, op := Op.move (Operand.tmp 7), type := 26, pos := _, after := #[{ on := 5, ground := Ground.guard }], guard := some (5, false) }) (v := ?_) rfl (by kernel_rfl) (by kernel_rfl) (by kernel_rfl) (fun _ _ _ h => h) (Or.inl ⟨by rfl, ?hy⟩) hHeld ?_
  case hy => intro w0 hSw; clear hSw; go_simp; (try with_reducible rfl)
  (try simp only [Act.put, List.setIfInBounds_toArray, List.set_cons_zero, List.set_cons_succ])
  refine wpAnyH_take (i := 7) (oi := { dst := some 74, op := Op.indexAddr 26 (Operand.tmp 73) (Operand.const (Value.int IntKind.i64 0)), type := 0, pos := _, after := #[{ on := 6, ground := Ground.data }, { on := 5, ground := Ground.guard }], guard := some (5, false) }) (v := ?_) rfl (by kernel_rfl) (by kernel_rfl) (by kernel_rfl) (fun _ _ _ h => h) (Or.inl ⟨by rfl, ?hy⟩) hHeld ?_
  case hy => intro w0 hSw; clear hSw; go_simp; (try with_reducible rfl)
  (try simp only [Act.put, List.setIfInBounds_toArray, List.set_cons_zero, List.set_cons_succ])
  refine wpAnyH_take (i := 8) (oi := { dst := some 75, op := Op.fieldAddr 38 (Operand.tmp 74) 0, type := 0, pos := _, after := #[{ on := 7, ground := Ground.data }, { on := 5, ground := Ground.guard }], guard := some (5, false) }) (v := ?_) rfl (by kernel_rfl) (by kernel_rfl) (by kernel_rfl) (fun _ _ _ h => h) (Or.inl ⟨by rfl, ?hy⟩) hHeld ?_
  case hy => intro w0 hSw; clear hSw; go_simp; (try with_reducible rfl)
  (try simp only [Act.put, List.setIfInBounds_toArray, List.set_cons_zero, List.set_cons_succ])
  refine wpAnyH_take (i := 9) (oi := { dst := some 76, op := Op.load 3 (Operand.tmp 75), type := 3, pos := _, after := #[{ on := 8, ground := Ground.data }, { on := 5, ground := Ground.guard }], guard := some (5, false) }) (v := ?_) rfl (by kernel_rfl) (by kernel_rfl) (by kernel_rfl) (fun _ _ _ h => h) (Or.inl ⟨by rfl, ?hy⟩) hHeld ?_
  case hy => intro w0 hSw; have q0 := hSw.2.c0; clear hSw; simp only at q0; go_simp; (try with_reducible rfl)
  (try simp only [Act.put, List.setIfInBounds_toArray, List.set_cons_zero, List.set_cons_succ])
  refine wpAnyH_take (i := 10) (oi := { dst := some 77, op := Op.move (Operand.tmp 5), type := 3, pos := _, after := #[{ on := 5, ground := Ground.guard }], guard := some (5, false) }) (v := ?_) rfl (by kernel_rfl) (by kernel_rfl) (by kernel_rfl) (fun _ _ _ h => h) (Or.inl ⟨by rfl, ?hy⟩) hHeld ?_
  case hy => intro w0 hSw; clear hSw; go_simp; (try with_reducible rfl)
  (try simp only [Act.put, List.setIfInBounds_toArray, List.set_cons_zero, List.set_cons_succ])
  refine wpAnyH_take (i := 11) (oi := { dst := some 78, op := Op.binOp BinOp.eql 3 (Operand.tmp 76) (Operand.tmp 77) 3, type := 4, pos := _, after := #[{ on := 9, ground := Ground.data }, { on := 10, ground := Ground.data }, { on := 5, ground := Ground.guard }], guard := some (5, false) }) (v := ?_) rfl (by kernel_rfl) (by kernel_rfl) (by kernel_rfl) (fun _ _ _ h => h) (Or.inl ⟨by rfl, ?hy⟩) hHeld ?_
  case hy => intro w0 hSw; clear hSw; go_simp; (try with_reducible rfl)
  (try simp only [Act.put, List.setIfInBounds_toArray, List.set_cons_zero, List.set_cons_succ])
  refine wpAnyH_take (i := 12) (oi := { dst := some 79, op := Op.move (Operand.tmp 78), type := 4, pos := _, after := #[{ on := 11, ground := Ground.data }, { on := 5, ground := Ground.chain }, { on := 5, ground := Ground.guard }], guard := some (5, false) }) (v := ?_) rfl (by kernel_rfl) (by kernel_rfl) (by kernel_rfl) (fun _ _ _ h => h) (Or.inl ⟨by rfl, ?hy⟩) hHeld ?_
  case hy => intro w0 hSw; clear hSw; go_simp; (try with_reducible rfl)
  (try simp only [Act.put, List.setIfInBounds_toArray, List.set_cons_zero, List.set_cons_succ])
  refine wpAnyH_take (i := 13) (oi := { dst := some 80, op := Op.move (Operand.tmp 7), type := 26, pos := _, after := #[{ on := 12, ground := Ground.guard }], guard := some (12, true) }) (v := ?_) rfl (by kernel_rfl) (by kernel_rfl) (by kernel_rfl) (fun _ _ _ h => h) (Or.inl ⟨by rfl, ?hy⟩) hHeld ?_
  case hy => intro w0 hSw; clear hSw; go_simp; (try with_reducible rfl)
  (try simp only [Act.put, List.setIfInBounds_toArray, List.set_cons_zero, List.set_cons_succ])
  refine wpAnyH_take (i := 14) (oi := { dst := some 81, op := Op.indexAddr 26 (Operand.tmp 80) (Operand.const (Value.int IntKind.i64 0)), type := 0, pos := _, after := #[{ on := 13, ground := Ground.data }, { on := 12, ground := Ground.guard }], guard := some (12, true) }) (v := ?_) rfl (by kernel_rfl) (by kernel_rfl) (by kernel_rfl) (fun _ _ _ h => h) (Or.inl ⟨by rfl, ?hy⟩) hHeld ?_
  case hy => intro w0 hSw; clear hSw; go_simp; (try with_reducible rfl)
  (try simp only [Act.put, List.setIfInBounds_toArray, List.set_cons_zero, List.set_cons_succ])
  refine wpAnyH_take (i := 15) (oi := { dst := some 82, op := Op.fieldAddr 38 (Operand.tmp 81) 1, type := 0, pos := _, after := #[{ on := 14, ground := Ground.data }, { on := 12, ground := Ground.guard }], guard := some (12, true) }) (v := ?_) rfl (by kernel_rfl) (by kernel_rfl) (by kernel_rfl) (fun _ _ _ h => h) (Or.inl ⟨by rfl, ?hy⟩) hHeld ?_
  case hy => intro w0 hSw; clear hSw; go_simp; (try with_reducible rfl)
  (try simp only [Act.put, List.setIfInBounds_toArray, List.set_cons_zero, List.set_cons_succ])
  refine wpAnyH_take (i := 16) (oi := { dst := some 83, op := Op.load 34 (Operand.tmp 82), type := 34, pos := _, after := #[{ on := 15, ground := Ground.data }, { on := 12, ground := Ground.guard }], guard := some (12, true) }) (v := ?_) rfl (by kernel_rfl) (by kernel_rfl) (by kernel_rfl) (fun _ _ _ h => h) (Or.inl ⟨by rfl, ?hy⟩) hHeld ?_
  case hy => intro w0 hSw; have q1 := hSw.2.c1; have q2 := hSw.2.c2; clear hSw; simp only at q1 q2; go_simp; (try with_reducible rfl)
  (try simp only [Act.put, List.setIfInBounds_toArray, List.set_cons_zero, List.set_cons_succ])
  refine wpAnyH_take (i := 17) (oi := { dst := some 84, op := Op.fieldAddr 36 (Operand.tmp 9) 0, type := 0, pos := _, after := #[{ on := 12, ground := Ground.guard }], guard := some (12, true) }) (v := ?_) rfl (by kernel_rfl) (by kernel_rfl) (by kernel_rfl) (fun _ _ _ h => h) (Or.inl ⟨by rfl, ?hy⟩) hHeld ?_
  case hy => intro w0 hSw; clear hSw; go_simp; (try with_reducible rfl)
  (try simp only [Act.put, List.setIfInBounds_toArray, List.set_cons_zero, List.set_cons_succ])
  refine wpAnyH_take (i := 18) (oi := { dst := some 85, op := Op.load 34 (Operand.tmp 84), type := 34, pos := _, after := #[{ on := 17, ground := Ground.data }, { on := 12, ground := Ground.guard }], guard := some (12, true) }) (v := ?_) rfl (by kernel_rfl) (by kernel_rfl) (by kernel_rfl) (fun _ _ _ h => h) (Or.inl ⟨by rfl, ?hy⟩) hHeld ?_
  case hy => intro w0 hSw; have q0 := hSw.1.cell 0 rfl 0 rfl; have q1 := hSw.1.cell 0 rfl 1 rfl; clear hSw; go_simp; (try with_reducible rfl)
  (try simp only [Act.put, List.setIfInBounds_toArray, List.set_cons_zero, List.set_cons_succ])
  refine wpAnyH_take (i := 19) (oi := { dst := some 86, op := Op.binOp BinOp.eql 34 (Operand.tmp 83) (Operand.tmp 85) 34, type := 4, pos := _, after := #[{ on := 16, ground := Ground.data }, { on := 18, ground := Ground.data }, { on := 12, ground := Ground.guard }], guard := some (12, true) }) (v := ?_) rfl (by kernel_rfl) (by kernel_rfl) (by kernel_rfl) (fun _ _ _ h => h) (Or.inl ⟨by rfl, ?hy⟩) hHeld ?_
  case hy => intro w0 hSw; clear hSw; go_simp; (try with_reducible rfl)
  (try simp only [Act.put, List.setIfInBounds_toArray, List.set_cons_zero, List.set_cons_succ])
  refine wpAnyH_take (i := 20) (oi := { dst := some 87, op := Op.pick (Operand.tmp 79) (Operand.tmp 86) (Operand.const (Value.bool false)), type := 4, pos := _, after := #[{ on := 12, ground := Ground.data }, { on := 19, ground := Ground.data }, { on := 5, ground := Ground.guard }], guard := some (5, false) }) (v := ?_) rfl (by kernel_rfl) (by kernel_rfl) (by kernel_rfl) (fun _ _ _ h => h) (Or.inl ⟨by rfl, ?hy⟩) hHeld ?_
  case hy => intro w0 hSw; clear hSw; go_simp; (try with_reducible rfl)
  (try simp only [Act.put, List.setIfInBounds_toArray, List.set_cons_zero, List.set_cons_succ])
  refine wpAnyH_take (i := 21) (oi := { dst := some 88, op := Op.pick (Operand.tmp 72) (Operand.const (Value.bool true)) (Operand.tmp 87), type := 4, pos := _, after := #[{ on := 5, ground := Ground.data }, { on := 20, ground := Ground.data }, { on := 1, ground := Ground.guard }], guard := some (1, true) }) (v := ?_) rfl (by kernel_rfl) (by kernel_rfl) (by kernel_rfl) (fun _ _ _ h => h) (Or.inl ⟨by rfl, ?hy⟩) hHeld ?_
  case hy => intro w0 hSw; clear hSw; go_simp; (try with_reducible rfl)
  (try simp only [Act.put, List.setIfInBounds_toArray, List.set_cons_zero, List.set_cons_succ])
  refine wpAnyH_take (i := 22) (oi := { dst := some 89, op := Op.pick (Operand.tmp 68) (Operand.tmp 88) (Operand.const (Value.bool false)), type := 4, pos := _, after := #[{ on := 1, ground := Ground.data }, { on := 21, ground := Ground.data }], guard := none }) (v := ?_) rfl (by kernel_rfl) (by kernel_rfl) (by kernel_rfl) (fun _ _ _ h => h) (Or.inl ⟨by rfl, ?hy⟩) hHeld ?_
  case hy => intro w0 hSw; clear hSw; go_simp; (try with_reducible rfl)
  (try simp only [Act.put, List.setIfInBounds_toArray, List.set_cons_zero, List.set_cons_succ])
  refine wpAnyH_take (i := 23) (oi := { dst := some 4, op := Op.assign (Operand.tmp 89), type := 4, pos := _, after := #[{ on := 22, ground := Ground.data }, { on := 12, ground := Ground.chain }, { on := 0, ground := Ground.phase }, { on := 1, ground := Ground.phase }, { on := 2, ground := Ground.phase }, { on := 3, ground := Ground.phase }, { on := 4, ground := Ground.phase }, { on := 5, ground := Ground.phase }, { on := 6, ground := Ground.phase }, { on := 7, ground := Ground.phase }, { on := 8, ground := Ground.phase }, { on := 9, ground := Ground.phase }, { on := 10, ground := Ground.phase }, { on := 11, ground := Ground.phase }, { on := 12, ground := Ground.phase }, { on := 13, ground := Ground.phase }, { on := 14, ground := Ground.phase }, { on := 15, ground := Ground.phase }, { on := 16, ground := Ground.phase }, { on := 17, ground := Ground.phase }, { on := 18, ground := Ground.phase }, { on := 19, ground := Ground.phase }, { on := 20, ground := Ground.phase }, { on := 21, ground := Ground.phase }, { on := 22, ground := Ground.phase }], guard := none }) (v := ?_) rfl (by kernel_rfl) (by kernel_rfl) (by kernel_rfl) (fun _ _ _ h => h) (Or.inl ⟨by rfl, ?hy⟩) hHeld ?_
  case hy => intro w0 hSw; clear hSw; go_simp; (try with_reducible rfl)
  (try simp only [Act.put, List.setIfInBounds_toArray, List.set_cons_zero, List.set_cons_succ])
  refine wpAnyH_done (by kernel_rfl) ?_ _
  clear hHeld
  have HS := Lib.hid hS
  clear hS
  go_wp2
  go_ret
  exact ⟨rfl, HS.out.below⟩


theorem dueNext_walk (HD : Hid DueK) (HC : Hid ComingK) (m n : Int) (A : Option Addr) (c : Nat) (ls : List Alm) (t : Int) (w : World) (hA : AlmsAt w w.heap.size A ls) (h0 : A = none → c = 0) :
    Calls Try.prog 4 #[.agg #[.int .i64 m, .int .i64 n, .slice A ls.length c], .int .i64 t] w fun e w' => e = .returned (.bool true) ∧ Below w.heap.size w w' := by
  by_cases hf : 60 < ls.length
  · exact dueNext_far m n A ls.length c ls t w hA hf
  by_cases hE : Du.turnsE m n ls t = 0
  · cases hy : Du.first ls with
    | none => exact dueNext_none HD HC m n A ls.length c ls t w rfl hA h0 (by omega) hE hy
    | some y =>
      obtain ⟨y0, y1, y2, y3, y4, y5⟩ := y
      by_cases ht : t < y5
      · exact dueNext_a HD HC m n A ls.length c ls t w rfl hA h0 (by omega) hE y0 y1 y2 y3 y4 y5 hy ht
      · obtain ⟨⟨z0, z1, z2, z3⟩, T, hT, e0, e1, e2⟩ := (Du.next_some hy hE).2 (by simp only; omega)
        simp only at e0 e1 e2
        subst e0
        subst e1
        subst e2
        exact dueNext_b HD HC m n A ls.length c ls t w rfl hA h0 (by omega) hE z1 z2 y2 y3 y4 z0 hy ht z3 T hT
  · exact dueNext_err HD HC m n A ls.length c ls t w rfl hA h0 (by omega) hE
end Go.Proofs.Ytplpadblhjdpcaa
