/-
  Layer 4 (spot): the walk of the law SpotOrder, case by case.
-/
import Derived.Test.YtndpcnimebedcaaDoorSpotOrderM
import Derived.Deep.RegionHeld3
namespace Go.Proofs.YtndpcnimebedcaaDoor
open Go.RowKit


set_option maxRecDepth 10000 in
set_option maxHeartbeats 4000000 in
theorem order_tf1 (a0 a1 b0 b1 c0 c1 n m e f : Int) (w : World) (HE : Hid (Errs w)) (lab : Sp.less a0 a1 b0 b1 = true) (lba : Sp.less b0 b1 a0 a1 = false) (lbc : Sp.less b0 b1 c0 c1 = false) (x0 : (a0 == b0) = true) (x1 : (a1 == b1) = false)
    (hN1 : ∀ W, Calls Tryd.prog 9 #[.agg #[.int .i64 a0, .int .i64 a1]] W fun x w' => x = .returned (.tuple #[.int .i64 n, .int .i64 e]) ∧ Below W.heap.size W w')
    (hN2 : ∀ W, Calls Tryd.prog 9 #[.agg #[.int .i64 b0, .int .i64 b1]] W fun x w' => x = .returned (.tuple #[.int .i64 m, .int .i64 f]) ∧ Below W.heap.size W w')
    (h3 : ((e == 0) = false) ∨ ((e == 0) = true ∧ (f == 0) = false) ∨ ((e == 0) = true ∧ (f == 0) = true ∧ decide (n < m) = true)) :
    Calls Tryd.prog 5 #[.agg #[.int .i64 a0, .int .i64 a1], .agg #[.int .i64 b0, .int .i64 b1], .agg #[.int .i64 c0, .int .i64 c1]] w fun e w' => e = .returned (.bool true) ∧ Below w.heap.size w w' := by
  go_enter Tryd.func5, Tryd.ntmps5
  go_wp2_with fail
  refine (hN1 _).mono ?_
  rintro x w1 ⟨rfl, hB1⟩
  have ka := (((Two.new w a0 a1 23).alloc (.cells #[.int .i64 b0, .int .i64 b1] 23)).alloc (.cells #[.int .i64 c0, .int .i64 c1] 23)).below hB1
  have kb := ((Two.new1 w (.cells #[.int .i64 a0, .int .i64 a1] 23) b0 b1 23).alloc (.cells #[.int .i64 c0, .int .i64 c1] 23)).below hB1
  have kc := (Two.new2 w (.cells #[.int .i64 a0, .int .i64 a1] 23) (.cells #[.int .i64 b0, .int .i64 b1] 23) c0 c1 23).below hB1
  have hB0 := below2 (below_new3 _ _ _ _) hB1
  clear hN1 hB1
  have kb0 := kb.c0
  have kb1 := kb.c1
  go_wp2_with fail
  refine (hN2 _).mono ?_
  rintro x w2 ⟨rfl, hB1⟩
  replace ka := ka.below hB1
  replace kb := kb.below hB1
  replace kc := kc.below hB1
  replace hB0 := below2 hB0 hB1
  clear hN2 hB1 kb0 kb1
  have ka0 := ka.c0
  have ka1 := ka.c1
  have kb0 := kb.c0
  have kb1 := kb.c1
  rcases h3 with h3 | ⟨h3, h4⟩ | ⟨h3, h4, h5⟩
  · go_wp2_with fail
    refine (Less_v _ _ _ _ _ _ lab).mono ?_
    rintro x w4 ⟨rfl, hB1⟩
    replace ka := ka.below hB1
    replace kb := kb.below hB1
    replace kc := kc.below hB1
    replace hB0 := below2 hB0 hB1
    clear ka0 ka1 kb0 kb1 hB1
    have ka0 := ka.c0
    have ka1 := ka.c1
    have kb0 := kb.c0
    have kb1 := kb.c1
    have kc0 := kc.c0
    have kc1 := kc.c1
    go_wp2_with fail
    refine (Less_v _ _ _ _ _ _ (by assumption)).mono ?_
    rintro x w5 ⟨rfl, hB1⟩
    replace ka := ka.below hB1
    replace kb := kb.below hB1
    replace kc := kc.below hB1
    replace hB0 := below2 hB0 hB1
    clear ka0 ka1 kb0 kb1 kc0 kc1 hB1
    have ka0 := ka.c0
    have ka1 := ka.c1
    have kb0 := kb.c0
    have kb1 := kb.c1
    go_wp2_with fail
    refine (Less_v _ _ _ _ _ _ (by assumption)).mono ?_
    rintro x w7 ⟨rfl, hB1⟩
    replace ka := ka.below hB1
    replace kb := kb.below hB1
    replace kc := kc.below hB1
    replace hB0 := below2 hB0 hB1
    clear ka0 ka1 kb0 kb1 hB1
    have ka0 := ka.c0
    have ka1 := ka.c1
    have kb0 := kb.c0
    have kb1 := kb.c1
    go_wp2_with fail
    refine (Less_v _ _ _ _ _ _ (by assumption)).mono ?_
    rintro x w8 ⟨rfl, hB1⟩
    replace ka := ka.below hB1
    replace kb := kb.below hB1
    replace kc := kc.below hB1
    replace hB0 := below2 hB0 hB1
    clear ka0 ka1 kb0 kb1 hB1
    have ka0 := ka.c0
    have ka1 := ka.c1
    have kb0 := kb.c0
    have kb1 := kb.c1
    go_wp2_with fail
    refine wp_region_held_drew (S := (fun W : World => W.cell? ⟨w.heap.size, 0, none⟩ = some (.int .i64 a0) ∧ W.cell? ⟨w.heap.size, 1, none⟩ = some (.int .i64 a1) ∧ W.cell? ⟨w.heap.size + 1, 0, none⟩ = some (.int .i64 b0) ∧ W.cell? ⟨w.heap.size + 1, 1, none⟩ = some (.int .i64 b1))) (by kernel_rfl) ⟨ka.c0, ka.c1, kb.c0, kb.c1⟩ (fun hHeld => ?_)
    refine wpAnyH_ready (rs := [0]) (by kernel_rfl) (by simp) ?_
    refine AllReadyH.cons (o := { dst := some 60, op := Op.call { callee := Callee.value (Operand.func 17), args := #[], argTypes := #[] }, type := 4, pos := "law.go:70", after := #[], guard := none }) rfl (fun K hK => ?_) AllReadyH.nil
    go_simp
    refine (spots_any _ (by first | exact HE.out.below hB0 | exact HE.out.below (below_drew hB0 1))).mono ?_
    rintro e w' ⟨rfl, hB'⟩
    replace ka : Two w' w.heap.size a0 a1 := (by first | exact ka.below hB' | exact (ka.drew).below hB')
    replace kb : Two w' (w.heap.size + 1) b0 b1 := (by first | exact kb.below hB' | exact (kb.drew).below hB')
    replace hB0 : Below w.heap.size w w' := (by first | exact below2 hB0 hB' | exact below2 (below_drew hB0 1) hB')
    clear hB'
    go_wp2_with fail
    refine hK.out _ _ ⟨ka.c0, ka.c1, kb.c0, kb.c1⟩ (fun hHeld => ?_)
    clear hK K
    (try simp only [Act.put, List.setIfInBounds_toArray, List.set_cons_zero, List.set_cons_succ])
    refine wpAnyH_take (i := 1) (oi := { dst := some 61, op := Op.move (Operand.tmp 60), type := 4, pos := "law.go:70", after := #[{ on := 0, ground := Ground.data }, { on := 0, ground := Ground.chain }], guard := none }) (v := ?_) rfl (by kernel_rfl) (by kernel_rfl) (by kernel_rfl) (fun _ _ _ h => h) (Or.inl ⟨by rfl, ?hy⟩) hHeld ?_
    case hy => intro w0 hSw; (try dsimp only at hSw); go_simp; (try with_reducible rfl)
    (try simp only [Act.put, List.setIfInBounds_toArray, List.set_cons_zero, List.set_cons_succ])
    refine wpAnyH_take (i := 2) (oi := { dst := some 62, op := Op.load 23 (Operand.tmp 3), type := 23, pos := "law.go:70", after := #[{ on := 1, ground := Ground.guard }], guard := some (1, true) }) (v := ?_) rfl (by kernel_rfl) (by kernel_rfl) (by kernel_rfl) (fun _ _ _ h => h) (Or.inl ⟨by rfl, ?hy⟩) hHeld ?_
    case hy => intro w0 hSw; (try dsimp only at hSw); go_simp; (try with_reducible rfl)
    (try simp only [Act.put, List.setIfInBounds_toArray, List.set_cons_zero, List.set_cons_succ])
    refine wpAnyH_take (i := 3) (oi := { dst := some 63, op := Op.load 23 (Operand.tmp 4), type := 23, pos := "law.go:70", after := #[{ on := 1, ground := Ground.guard }], guard := some (1, true) }) (v := ?_) rfl (by kernel_rfl) (by kernel_rfl) (by kernel_rfl) (fun _ _ _ h => h) (Or.inl ⟨by rfl, ?hy⟩) hHeld ?_
    case hy => intro w0 hSw; (try dsimp only at hSw); go_simp; (try with_reducible rfl)
    (try simp only [Act.put, List.setIfInBounds_toArray, List.set_cons_zero, List.set_cons_succ])
    refine wpAnyH_take (i := 4) (oi := { dst := some 64, op := Op.binOp BinOp.eql 23 (Operand.tmp 62) (Operand.tmp 63) 23, type := 4, pos := "law.go:70", after := #[{ on := 2, ground := Ground.data }, { on := 3, ground := Ground.data }, { on := 1, ground := Ground.guard }], guard := some (1, true) }) (v := ?_) rfl (by kernel_rfl) (by kernel_rfl) (by kernel_rfl) (fun _ _ _ h => h) (Or.inl ⟨by rfl, ?hy⟩) hHeld ?_
    case hy => intro w0 hSw; (try dsimp only at hSw); go_simp; (try with_reducible rfl)
    (try simp only [Act.put, List.setIfInBounds_toArray, List.set_cons_zero, List.set_cons_succ])
    refine wpAnyH_take (i := 5) (oi := { dst := some 65, op := Op.load 23 (Operand.tmp 3), type := 23, pos := "law.go:70", after := #[{ on := 1, ground := Ground.guard }], guard := some (1, true) }) (v := ?_) rfl (by kernel_rfl) (by kernel_rfl) (by kernel_rfl) (fun _ _ _ h => h) (Or.inl ⟨by rfl, ?hy⟩) hHeld ?_
    case hy => intro w0 hSw; (try dsimp only at hSw); go_simp; (try with_reducible rfl)
    (try simp only [Act.put, List.setIfInBounds_toArray, List.set_cons_zero, List.set_cons_succ])
    refine wpAnyH_take (i := 6) (oi := { dst := some 66, op := Op.load 23 (Operand.tmp 4), type := 23, pos := "law.go:70", after := #[{ on := 1, ground := Ground.guard }], guard := some (1, true) }) (v := ?_) rfl (by kernel_rfl) (by kernel_rfl) (by kernel_rfl) (fun _ _ _ h => h) (Or.inl ⟨by rfl, ?hy⟩) hHeld ?_
    case hy => intro w0 hSw; (try dsimp only at hSw); go_simp; (try with_reducible rfl)
    (try simp only [Act.put, List.setIfInBounds_toArray, List.set_cons_zero, List.set_cons_succ])
    refine wpAnyH_ready (rs := [7]) (by kernel_rfl) (by simp) ?_
    refine AllReadyH.cons (o := { dst := some 67, op := Op.call { callee := Callee.value (Operand.func 20), args := #[Operand.tmp 65, Operand.tmp 66], argTypes := #[23, 23] }, type := 4, pos := "law.go:70", after := #[{ on := 5, ground := Ground.data }, { on := 6, ground := Ground.data }, { on := 1, ground := Ground.chain }, { on := 1, ground := Ground.guard }], guard := some (1, true) }) rfl (fun K hK => ?_) AllReadyH.nil
    go_simp
    refine (Less_v _ _ _ _ _ _ (by assumption)).mono ?_
    rintro e w' ⟨rfl, hB'⟩
    replace ka : Two w' w.heap.size a0 a1 := (by first | exact ka.below hB' | exact (ka.drew).below hB')
    replace kb : Two w' (w.heap.size + 1) b0 b1 := (by first | exact kb.below hB' | exact (kb.drew).below hB')
    replace hB0 : Below w.heap.size w w' := (by first | exact below2 hB0 hB' | exact below2 (below_drew hB0 1) hB')
    clear hB'
    go_wp2_with fail
    refine hK.out _ _ ⟨ka.c0, ka.c1, kb.c0, kb.c1⟩ (fun hHeld => ?_)
    clear hK K
    (try simp only [Act.put, List.setIfInBounds_toArray, List.set_cons_zero, List.set_cons_succ])
    refine wpAnyH_take (i := 8) (oi := { dst := some 68, op := Op.unOp UnOp.not 4 (Operand.tmp 67), type := 4, pos := "law.go:70", after := #[{ on := 7, ground := Ground.data }, { on := 1, ground := Ground.guard }], guard := some (1, true) }) (v := ?_) rfl (by kernel_rfl) (by kernel_rfl) (by kernel_rfl) (fun _ _ _ h => h) (Or.inl ⟨by rfl, ?hy⟩) hHeld ?_
    case hy => intro w0 hSw; (try dsimp only at hSw); go_simp; (try with_reducible rfl)
    (try simp only [Act.put, List.setIfInBounds_toArray, List.set_cons_zero, List.set_cons_succ])
    refine wpAnyH_take (i := 9) (oi := { dst := some 69, op := Op.move (Operand.tmp 68), type := 4, pos := "law.go:70", after := #[{ on := 8, ground := Ground.data }, { on := 7, ground := Ground.chain }, { on := 1, ground := Ground.guard }], guard := some (1, true) }) (v := ?_) rfl (by kernel_rfl) (by kernel_rfl) (by kernel_rfl) (fun _ _ _ h => h) (Or.inl ⟨by rfl, ?hy⟩) hHeld ?_
    case hy => intro w0 hSw; (try dsimp only at hSw); go_simp; (try with_reducible rfl)
    (try simp only [Act.put, List.setIfInBounds_toArray, List.set_cons_zero, List.set_cons_succ])
    refine wpAnyH_take (i := 10) (oi := { dst := some 70, op := Op.load 23 (Operand.tmp 4), type := 23, pos := "law.go:70", after := #[{ on := 9, ground := Ground.guard }], guard := some (9, true) }) (v := undef) rfl (by kernel_rfl) (by kernel_rfl) (by kernel_rfl) (fun _ _ _ h => h) (Or.inr ⟨by rfl, rfl⟩) hHeld ?_
    (try simp only [Act.put, List.setIfInBounds_toArray, List.set_cons_zero, List.set_cons_succ])
    refine wpAnyH_take (i := 11) (oi := { dst := some 71, op := Op.load 23 (Operand.tmp 3), type := 23, pos := "law.go:70", after := #[{ on := 9, ground := Ground.guard }], guard := some (9, true) }) (v := undef) rfl (by kernel_rfl) (by kernel_rfl) (by kernel_rfl) (fun _ _ _ h => h) (Or.inr ⟨by rfl, rfl⟩) hHeld ?_
    (try simp only [Act.put, List.setIfInBounds_toArray, List.set_cons_zero, List.set_cons_succ])
    refine wpAnyH_take (i := 12) (oi := { dst := some 72, op := Op.call { callee := Callee.value (Operand.func 20), args := #[Operand.tmp 70, Operand.tmp 71], argTypes := #[23, 23] }, type := 4, pos := "law.go:70", after := #[{ on := 10, ground := Ground.data }, { on := 11, ground := Ground.data }, { on := 9, ground := Ground.chain }, { on := 9, ground := Ground.guard }], guard := some (9, true) }) (v := undef) rfl (by kernel_rfl) (by kernel_rfl) (by kernel_rfl) (fun _ _ _ h => h) (Or.inr ⟨by rfl, rfl⟩) hHeld ?_
    (try simp only [Act.put, List.setIfInBounds_toArray, List.set_cons_zero, List.set_cons_succ])
    refine wpAnyH_take (i := 13) (oi := { dst := some 73, op := Op.unOp UnOp.not 4 (Operand.tmp 72), type := 4, pos := "law.go:70", after := #[{ on := 12, ground := Ground.data }, { on := 9, ground := Ground.guard }], guard := some (9, true) }) (v := undef) rfl (by kernel_rfl) (by kernel_rfl) (by kernel_rfl) (fun _ _ _ h => h) (Or.inr ⟨by rfl, rfl⟩) hHeld ?_
    (try simp only [Act.put, List.setIfInBounds_toArray, List.set_cons_zero, List.set_cons_succ])
    refine wpAnyH_take (i := 14) (oi := { dst := some 74, op := Op.pick (Operand.tmp 69) (Operand.tmp 73) (Operand.const (Value.bool false)), type := 4, pos := "law.go:70", after := #[{ on := 9, ground := Ground.data }, { on := 13, ground := Ground.data }, { on := 1, ground := Ground.guard }], guard := some (1, true) }) (v := ?_) rfl (by kernel_rfl) (by kernel_rfl) (by kernel_rfl) (fun _ _ _ h => h) (Or.inl ⟨by rfl, ?hy⟩) hHeld ?_
    case hy => intro w0 hSw; (try dsimp only at hSw); go_simp; (try with_reducible rfl)
    (try simp only [Act.put, List.setIfInBounds_toArray, List.set_cons_zero, List.set_cons_succ])
    refine wpAnyH_take (i := 15) (oi := { dst := some 75, op := Op.binOp BinOp.eql 4 (Operand.tmp 64) (Operand.tmp 74) 4, type := 4, pos := "law.go:70", after := #[{ on := 4, ground := Ground.data }, { on := 14, ground := Ground.data }, { on := 1, ground := Ground.guard }], guard := some (1, true) }) (v := ?_) rfl (by kernel_rfl) (by kernel_rfl) (by kernel_rfl) (fun _ _ _ h => h) (Or.inl ⟨by rfl, ?hy⟩) hHeld ?_
    case hy => intro w0 hSw; (try dsimp only at hSw); go_simp; (try with_reducible rfl)
    (try simp only [Act.put, List.setIfInBounds_toArray, List.set_cons_zero, List.set_cons_succ])
    refine wpAnyH_take (i := 16) (oi := { dst := some 76, op := Op.pick (Operand.tmp 61) (Operand.tmp 75) (Operand.const (Value.bool false)), type := 4, pos := "law.go:70", after := #[{ on := 1, ground := Ground.data }, { on := 15, ground := Ground.data }], guard := none }) (v := ?_) rfl (by kernel_rfl) (by kernel_rfl) (by kernel_rfl) (fun _ _ _ h => h) (Or.inl ⟨by rfl, ?hy⟩) hHeld ?_
    case hy => intro w0 hSw; (try dsimp only at hSw); go_simp; (try with_reducible rfl)
    (try simp only [Act.put, List.setIfInBounds_toArray, List.set_cons_zero, List.set_cons_succ])
    refine wpAnyH_take (i := 17) (oi := { dst := some 6, op := Op.assign (Operand.tmp 76), type := 4, pos := "law.go:70", after := #[{ on := 16, ground := Ground.data }, { on := 12, ground := Ground.chain }, { on := 0, ground := Ground.phase }, { on := 1, ground := Ground.phase }, { on := 2, ground := Ground.phase }, { on := 3, ground := Ground.phase }, { on := 4, ground := Ground.phase }, { on := 5, ground := Ground.phase }, { on := 6, ground := Ground.phase }, { on := 7, ground := Ground.phase }, { on := 8, ground := Ground.phase }, { on := 9, ground := Ground.phase }, { on := 10, ground := Ground.phase }, { on := 11, ground := Ground.phase }, { on := 12, ground := Ground.phase }, { on := 13, ground := Ground.phase }, { on := 14, ground := Ground.phase }, { on := 15, ground := Ground.phase }, { on := 16, ground := Ground.phase }], guard := none }) (v := ?_) rfl (by kernel_rfl) (by kernel_rfl) (by kernel_rfl) (fun _ _ _ h => h) (Or.inl ⟨by rfl, ?hy⟩) hHeld ?_
    case hy => intro w0 hSw; (try dsimp only at hSw); go_simp; (try with_reducible rfl)
    (try simp only [Act.put, List.setIfInBounds_toArray, List.set_cons_zero, List.set_cons_succ])
    refine wpAnyH_done (by kernel_rfl) ?_ _
    go_wp2
    go_ret
    exact ⟨rfl, hB0⟩

  · go_wp2_with fail
    refine (Less_v _ _ _ _ _ _ lab).mono ?_
    rintro x w4 ⟨rfl, hB1⟩
    replace ka := ka.below hB1
    replace kb := kb.below hB1
    replace kc := kc.below hB1
    replace hB0 := below2 hB0 hB1
    clear ka0 ka1 kb0 kb1 hB1
    have ka0 := ka.c0
    have ka1 := ka.c1
    have kb0 := kb.c0
    have kb1 := kb.c1
    have kc0 := kc.c0
    have kc1 := kc.c1
    go_wp2_with fail
    refine (Less_v _ _ _ _ _ _ (by assumption)).mono ?_
    rintro x w5 ⟨rfl, hB1⟩
    replace ka := ka.below hB1
    replace kb := kb.below hB1
    replace kc := kc.below hB1
    replace hB0 := below2 hB0 hB1
    clear ka0 ka1 kb0 kb1 kc0 kc1 hB1
    have ka0 := ka.c0
    have ka1 := ka.c1
    have kb0 := kb.c0
    have kb1 := kb.c1
    go_wp2_with fail
    refine (Less_v _ _ _ _ _ _ (by assumption)).mono ?_
    rintro x w7 ⟨rfl, hB1⟩
    replace ka := ka.below hB1
    replace kb := kb.below hB1
    replace kc := kc.below hB1
    replace hB0 := below2 hB0 hB1
    clear ka0 ka1 kb0 kb1 hB1
    have ka0 := ka.c0
    have ka1 := ka.c1
    have kb0 := kb.c0
    have kb1 := kb.c1
    go_wp2_with fail
    refine (Less_v _ _ _ _ _ _ (by assumption)).mono ?_
    rintro x w8 ⟨rfl, hB1⟩
    replace ka := ka.below hB1
    replace kb := kb.below hB1
    replace kc := kc.below hB1
    replace hB0 := below2 hB0 hB1
    clear ka0 ka1 kb0 kb1 hB1
    have ka0 := ka.c0
    have ka1 := ka.c1
    have kb0 := kb.c0
    have kb1 := kb.c1
    go_wp2_with fail
    refine wp_region_held_drew (S := (fun W : World => W.cell? ⟨w.heap.size, 0, none⟩ = some (.int .i64 a0) ∧ W.cell? ⟨w.heap.size, 1, none⟩ = some (.int .i64 a1) ∧ W.cell? ⟨w.heap.size + 1, 0, none⟩ = some (.int .i64 b0) ∧ W.cell? ⟨w.heap.size + 1, 1, none⟩ = some (.int .i64 b1))) (by kernel_rfl) ⟨ka.c0, ka.c1, kb.c0, kb.c1⟩ (fun hHeld => ?_)
    refine wpAnyH_ready (rs := [0]) (by kernel_rfl) (by simp) ?_
    refine AllReadyH.cons (o := { dst := some 60, op := Op.call { callee := Callee.value (Operand.func 17), args := #[], argTypes := #[] }, type := 4, pos := "law.go:70", after := #[], guard := none }) rfl (fun K hK => ?_) AllReadyH.nil
    go_simp
    refine (spots_any _ (by first | exact HE.out.below hB0 | exact HE.out.below (below_drew hB0 1))).mono ?_
    rintro e w' ⟨rfl, hB'⟩
    replace ka : Two w' w.heap.size a0 a1 := (by first | exact ka.below hB' | exact (ka.drew).below hB')
    replace kb : Two w' (w.heap.size + 1) b0 b1 := (by first | exact kb.below hB' | exact (kb.drew).below hB')
    replace hB0 : Below w.heap.size w w' := (by first | exact below2 hB0 hB' | exact below2 (below_drew hB0 1) hB')
    clear hB'
    go_wp2_with fail
    refine hK.out _ _ ⟨ka.c0, ka.c1, kb.c0, kb.c1⟩ (fun hHeld => ?_)
    clear hK K
    (try simp only [Act.put, List.setIfInBounds_toArray, List.set_cons_zero, List.set_cons_succ])
    refine wpAnyH_take (i := 1) (oi := { dst := some 61, op := Op.move (Operand.tmp 60), type := 4, pos := "law.go:70", after := #[{ on := 0, ground := Ground.data }, { on := 0, ground := Ground.chain }], guard := none }) (v := ?_) rfl (by kernel_rfl) (by kernel_rfl) (by kernel_rfl) (fun _ _ _ h => h) (Or.inl ⟨by rfl, ?hy⟩) hHeld ?_
    case hy => intro w0 hSw; (try dsimp only at hSw); go_simp; (try with_reducible rfl)
    (try simp only [Act.put, List.setIfInBounds_toArray, List.set_cons_zero, List.set_cons_succ])
    refine wpAnyH_take (i := 2) (oi := { dst := some 62, op := Op.load 23 (Operand.tmp 3), type := 23, pos := "law.go:70", after := #[{ on := 1, ground := Ground.guard }], guard := some (1, true) }) (v := ?_) rfl (by kernel_rfl) (by kernel_rfl) (by kernel_rfl) (fun _ _ _ h => h) (Or.inl ⟨by rfl, ?hy⟩) hHeld ?_
    case hy => intro w0 hSw; (try dsimp only at hSw); go_simp; (try with_reducible rfl)
    (try simp only [Act.put, List.setIfInBounds_toArray, List.set_cons_zero, List.set_cons_succ])
    refine wpAnyH_take (i := 3) (oi := { dst := some 63, op := Op.load 23 (Operand.tmp 4), type := 23, pos := "law.go:70", after := #[{ on := 1, ground := Ground.guard }], guard := some (1, true) }) (v := ?_) rfl (by kernel_rfl) (by kernel_rfl) (by kernel_rfl) (fun _ _ _ h => h) (Or.inl ⟨by rfl, ?hy⟩) hHeld ?_
    case hy => intro w0 hSw; (try dsimp only at hSw); go_simp; (try with_reducible rfl)
    (try simp only [Act.put, List.setIfInBounds_toArray, List.set_cons_zero, List.set_cons_succ])
    refine wpAnyH_take (i := 4) (oi := { dst := some 64, op := Op.binOp BinOp.eql 23 (Operand.tmp 62) (Operand.tmp 63) 23, type := 4, pos := "law.go:70", after := #[{ on := 2, ground := Ground.data }, { on := 3, ground := Ground.data }, { on := 1, ground := Ground.guard }], guard := some (1, true) }) (v := ?_) rfl (by kernel_rfl) (by kernel_rfl) (by kernel_rfl) (fun _ _ _ h => h) (Or.inl ⟨by rfl, ?hy⟩) hHeld ?_
    case hy => intro w0 hSw; (try dsimp only at hSw); go_simp; (try with_reducible rfl)
    (try simp only [Act.put, List.setIfInBounds_toArray, List.set_cons_zero, List.set_cons_succ])
    refine wpAnyH_take (i := 5) (oi := { dst := some 65, op := Op.load 23 (Operand.tmp 3), type := 23, pos := "law.go:70", after := #[{ on := 1, ground := Ground.guard }], guard := some (1, true) }) (v := ?_) rfl (by kernel_rfl) (by kernel_rfl) (by kernel_rfl) (fun _ _ _ h => h) (Or.inl ⟨by rfl, ?hy⟩) hHeld ?_
    case hy => intro w0 hSw; (try dsimp only at hSw); go_simp; (try with_reducible rfl)
    (try simp only [Act.put, List.setIfInBounds_toArray, List.set_cons_zero, List.set_cons_succ])
    refine wpAnyH_take (i := 6) (oi := { dst := some 66, op := Op.load 23 (Operand.tmp 4), type := 23, pos := "law.go:70", after := #[{ on := 1, ground := Ground.guard }], guard := some (1, true) }) (v := ?_) rfl (by kernel_rfl) (by kernel_rfl) (by kernel_rfl) (fun _ _ _ h => h) (Or.inl ⟨by rfl, ?hy⟩) hHeld ?_
    case hy => intro w0 hSw; (try dsimp only at hSw); go_simp; (try with_reducible rfl)
    (try simp only [Act.put, List.setIfInBounds_toArray, List.set_cons_zero, List.set_cons_succ])
    refine wpAnyH_ready (rs := [7]) (by kernel_rfl) (by simp) ?_
    refine AllReadyH.cons (o := { dst := some 67, op := Op.call { callee := Callee.value (Operand.func 20), args := #[Operand.tmp 65, Operand.tmp 66], argTypes := #[23, 23] }, type := 4, pos := "law.go:70", after := #[{ on := 5, ground := Ground.data }, { on := 6, ground := Ground.data }, { on := 1, ground := Ground.chain }, { on := 1, ground := Ground.guard }], guard := some (1, true) }) rfl (fun K hK => ?_) AllReadyH.nil
    go_simp
    refine (Less_v _ _ _ _ _ _ (by assumption)).mono ?_
    rintro e w' ⟨rfl, hB'⟩
    replace ka : Two w' w.heap.size a0 a1 := (by first | exact ka.below hB' | exact (ka.drew).below hB')
    replace kb : Two w' (w.heap.size + 1) b0 b1 := (by first | exact kb.below hB' | exact (kb.drew).below hB')
    replace hB0 : Below w.heap.size w w' := (by first | exact below2 hB0 hB' | exact below2 (below_drew hB0 1) hB')
    clear hB'
    go_wp2_with fail
    refine hK.out _ _ ⟨ka.c0, ka.c1, kb.c0, kb.c1⟩ (fun hHeld => ?_)
    clear hK K
    (try simp only [Act.put, List.setIfInBounds_toArray, List.set_cons_zero, List.set_cons_succ])
    refine wpAnyH_take (i := 8) (oi := { dst := some 68, op := Op.unOp UnOp.not 4 (Operand.tmp 67), type := 4, pos := "law.go:70", after := #[{ on := 7, ground := Ground.data }, { on := 1, ground := Ground.guard }], guard := some (1, true) }) (v := ?_) rfl (by kernel_rfl) (by kernel_rfl) (by kernel_rfl) (fun _ _ _ h => h) (Or.inl ⟨by rfl, ?hy⟩) hHeld ?_
    case hy => intro w0 hSw; (try dsimp only at hSw); go_simp; (try with_reducible rfl)
    (try simp only [Act.put, List.setIfInBounds_toArray, List.set_cons_zero, List.set_cons_succ])
    refine wpAnyH_take (i := 9) (oi := { dst := some 69, op := Op.move (Operand.tmp 68), type := 4, pos := "law.go:70", after := #[{ on := 8, ground := Ground.data }, { on := 7, ground := Ground.chain }, { on := 1, ground := Ground.guard }], guard := some (1, true) }) (v := ?_) rfl (by kernel_rfl) (by kernel_rfl) (by kernel_rfl) (fun _ _ _ h => h) (Or.inl ⟨by rfl, ?hy⟩) hHeld ?_
    case hy => intro w0 hSw; (try dsimp only at hSw); go_simp; (try with_reducible rfl)
    (try simp only [Act.put, List.setIfInBounds_toArray, List.set_cons_zero, List.set_cons_succ])
    refine wpAnyH_take (i := 10) (oi := { dst := some 70, op := Op.load 23 (Operand.tmp 4), type := 23, pos := "law.go:70", after := #[{ on := 9, ground := Ground.guard }], guard := some (9, true) }) (v := undef) rfl (by kernel_rfl) (by kernel_rfl) (by kernel_rfl) (fun _ _ _ h => h) (Or.inr ⟨by rfl, rfl⟩) hHeld ?_
    (try simp only [Act.put, List.setIfInBounds_toArray, List.set_cons_zero, List.set_cons_succ])
    refine wpAnyH_take (i := 11) (oi := { dst := some 71, op := Op.load 23 (Operand.tmp 3), type := 23, pos := "law.go:70", after := #[{ on := 9, ground := Ground.guard }], guard := some (9, true) }) (v := undef) rfl (by kernel_rfl) (by kernel_rfl) (by kernel_rfl) (fun _ _ _ h => h) (Or.inr ⟨by rfl, rfl⟩) hHeld ?_
    (try simp only [Act.put, List.setIfInBounds_toArray, List.set_cons_zero, List.set_cons_succ])
    refine wpAnyH_take (i := 12) (oi := { dst := some 72, op := Op.call { callee := Callee.value (Operand.func 20), args := #[Operand.tmp 70, Operand.tmp 71], argTypes := #[23, 23] }, type := 4, pos := "law.go:70", after := #[{ on := 10, ground := Ground.data }, { on := 11, ground := Ground.data }, { on := 9, ground := Ground.chain }, { on := 9, ground := Ground.guard }], guard := some (9, true) }) (v := undef) rfl (by kernel_rfl) (by kernel_rfl) (by kernel_rfl) (fun _ _ _ h => h) (Or.inr ⟨by rfl, rfl⟩) hHeld ?_
    (try simp only [Act.put, List.setIfInBounds_toArray, List.set_cons_zero, List.set_cons_succ])
    refine wpAnyH_take (i := 13) (oi := { dst := some 73, op := Op.unOp UnOp.not 4 (Operand.tmp 72), type := 4, pos := "law.go:70", after := #[{ on := 12, ground := Ground.data }, { on := 9, ground := Ground.guard }], guard := some (9, true) }) (v := undef) rfl (by kernel_rfl) (by kernel_rfl) (by kernel_rfl) (fun _ _ _ h => h) (Or.inr ⟨by rfl, rfl⟩) hHeld ?_
    (try simp only [Act.put, List.setIfInBounds_toArray, List.set_cons_zero, List.set_cons_succ])
    refine wpAnyH_take (i := 14) (oi := { dst := some 74, op := Op.pick (Operand.tmp 69) (Operand.tmp 73) (Operand.const (Value.bool false)), type := 4, pos := "law.go:70", after := #[{ on := 9, ground := Ground.data }, { on := 13, ground := Ground.data }, { on := 1, ground := Ground.guard }], guard := some (1, true) }) (v := ?_) rfl (by kernel_rfl) (by kernel_rfl) (by kernel_rfl) (fun _ _ _ h => h) (Or.inl ⟨by rfl, ?hy⟩) hHeld ?_
    case hy => intro w0 hSw; (try dsimp only at hSw); go_simp; (try with_reducible rfl)
    (try simp only [Act.put, List.setIfInBounds_toArray, List.set_cons_zero, List.set_cons_succ])
    refine wpAnyH_take (i := 15) (oi := { dst := some 75, op := Op.binOp BinOp.eql 4 (Operand.tmp 64) (Operand.tmp 74) 4, type := 4, pos := "law.go:70", after := #[{ on := 4, ground := Ground.data }, { on := 14, ground := Ground.data }, { on := 1, ground := Ground.guard }], guard := some (1, true) }) (v := ?_) rfl (by kernel_rfl) (by kernel_rfl) (by kernel_rfl) (fun _ _ _ h => h) (Or.inl ⟨by rfl, ?hy⟩) hHeld ?_
    case hy => intro w0 hSw; (try dsimp only at hSw); go_simp; (try with_reducible rfl)
    (try simp only [Act.put, List.setIfInBounds_toArray, List.set_cons_zero, List.set_cons_succ])
    refine wpAnyH_take (i := 16) (oi := { dst := some 76, op := Op.pick (Operand.tmp 61) (Operand.tmp 75) (Operand.const (Value.bool false)), type := 4, pos := "law.go:70", after := #[{ on := 1, ground := Ground.data }, { on := 15, ground := Ground.data }], guard := none }) (v := ?_) rfl (by kernel_rfl) (by kernel_rfl) (by kernel_rfl) (fun _ _ _ h => h) (Or.inl ⟨by rfl, ?hy⟩) hHeld ?_
    case hy => intro w0 hSw; (try dsimp only at hSw); go_simp; (try with_reducible rfl)
    (try simp only [Act.put, List.setIfInBounds_toArray, List.set_cons_zero, List.set_cons_succ])
    refine wpAnyH_take (i := 17) (oi := { dst := some 6, op := Op.assign (Operand.tmp 76), type := 4, pos := "law.go:70", after := #[{ on := 16, ground := Ground.data }, { on := 12, ground := Ground.chain }, { on := 0, ground := Ground.phase }, { on := 1, ground := Ground.phase }, { on := 2, ground := Ground.phase }, { on := 3, ground := Ground.phase }, { on := 4, ground := Ground.phase }, { on := 5, ground := Ground.phase }, { on := 6, ground := Ground.phase }, { on := 7, ground := Ground.phase }, { on := 8, ground := Ground.phase }, { on := 9, ground := Ground.phase }, { on := 10, ground := Ground.phase }, { on := 11, ground := Ground.phase }, { on := 12, ground := Ground.phase }, { on := 13, ground := Ground.phase }, { on := 14, ground := Ground.phase }, { on := 15, ground := Ground.phase }, { on := 16, ground := Ground.phase }], guard := none }) (v := ?_) rfl (by kernel_rfl) (by kernel_rfl) (by kernel_rfl) (fun _ _ _ h => h) (Or.inl ⟨by rfl, ?hy⟩) hHeld ?_
    case hy => intro w0 hSw; (try dsimp only at hSw); go_simp; (try with_reducible rfl)
    (try simp only [Act.put, List.setIfInBounds_toArray, List.set_cons_zero, List.set_cons_succ])
    refine wpAnyH_done (by kernel_rfl) ?_ _
    go_wp2
    go_ret
    exact ⟨rfl, hB0⟩

  · go_wp2_with fail
    refine (Less_v _ _ _ _ _ _ (by assumption)).mono ?_
    rintro x w3 ⟨rfl, hB1⟩
    replace ka := ka.below hB1
    replace kb := kb.below hB1
    replace kc := kc.below hB1
    replace hB0 := below2 hB0 hB1
    clear ka0 ka1 kb0 kb1 hB1
    have ka0 := ka.c0
    have ka1 := ka.c1
    have kb0 := kb.c0
    have kb1 := kb.c1
    go_wp2_with fail
    refine (Less_v _ _ _ _ _ _ lab).mono ?_
    rintro x w4 ⟨rfl, hB1⟩
    replace ka := ka.below hB1
    replace kb := kb.below hB1
    replace kc := kc.below hB1
    replace hB0 := below2 hB0 hB1
    clear ka0 ka1 kb0 kb1 hB1
    have ka0 := ka.c0
    have ka1 := ka.c1
    have kb0 := kb.c0
    have kb1 := kb.c1
    have kc0 := kc.c0
    have kc1 := kc.c1
    go_wp2_with fail
    refine (Less_v _ _ _ _ _ _ (by assumption)).mono ?_
    rintro x w5 ⟨rfl, hB1⟩
    replace ka := ka.below hB1
    replace kb := kb.below hB1
    replace kc := kc.below hB1
    replace hB0 := below2 hB0 hB1
    clear ka0 ka1 kb0 kb1 kc0 kc1 hB1
    have ka0 := ka.c0
    have ka1 := ka.c1
    have kb0 := kb.c0
    have kb1 := kb.c1
    go_wp2_with fail
    refine (Less_v _ _ _ _ _ _ (by assumption)).mono ?_
    rintro x w7 ⟨rfl, hB1⟩
    replace ka := ka.below hB1
    replace kb := kb.below hB1
    replace kc := kc.below hB1
    replace hB0 := below2 hB0 hB1
    clear ka0 ka1 kb0 kb1 hB1
    have ka0 := ka.c0
    have ka1 := ka.c1
    have kb0 := kb.c0
    have kb1 := kb.c1
    go_wp2_with fail
    refine (Less_v _ _ _ _ _ _ (by assumption)).mono ?_
    rintro x w8 ⟨rfl, hB1⟩
    replace ka := ka.below hB1
    replace kb := kb.below hB1
    replace kc := kc.below hB1
    replace hB0 := below2 hB0 hB1
    clear ka0 ka1 kb0 kb1 hB1
    have ka0 := ka.c0
    have ka1 := ka.c1
    have kb0 := kb.c0
    have kb1 := kb.c1
    go_wp2_with fail
    refine wp_region_held_drew (S := (fun W : World => W.cell? ⟨w.heap.size, 0, none⟩ = some (.int .i64 a0) ∧ W.cell? ⟨w.heap.size, 1, none⟩ = some (.int .i64 a1) ∧ W.cell? ⟨w.heap.size + 1, 0, none⟩ = some (.int .i64 b0) ∧ W.cell? ⟨w.heap.size + 1, 1, none⟩ = some (.int .i64 b1))) (by kernel_rfl) ⟨ka.c0, ka.c1, kb.c0, kb.c1⟩ (fun hHeld => ?_)
    refine wpAnyH_ready (rs := [0]) (by kernel_rfl) (by simp) ?_
    refine AllReadyH.cons (o := { dst := some 60, op := Op.call { callee := Callee.value (Operand.func 17), args := #[], argTypes := #[] }, type := 4, pos := "law.go:70", after := #[], guard := none }) rfl (fun K hK => ?_) AllReadyH.nil
    go_simp
    refine (spots_any _ (by first | exact HE.out.below hB0 | exact HE.out.below (below_drew hB0 1))).mono ?_
    rintro e w' ⟨rfl, hB'⟩
    replace ka : Two w' w.heap.size a0 a1 := (by first | exact ka.below hB' | exact (ka.drew).below hB')
    replace kb : Two w' (w.heap.size + 1) b0 b1 := (by first | exact kb.below hB' | exact (kb.drew).below hB')
    replace hB0 : Below w.heap.size w w' := (by first | exact below2 hB0 hB' | exact below2 (below_drew hB0 1) hB')
    clear hB'
    go_wp2_with fail
    refine hK.out _ _ ⟨ka.c0, ka.c1, kb.c0, kb.c1⟩ (fun hHeld => ?_)
    clear hK K
    (try simp only [Act.put, List.setIfInBounds_toArray, List.set_cons_zero, List.set_cons_succ])
    refine wpAnyH_take (i := 1) (oi := { dst := some 61, op := Op.move (Operand.tmp 60), type := 4, pos := "law.go:70", after := #[{ on := 0, ground := Ground.data }, { on := 0, ground := Ground.chain }], guard := none }) (v := ?_) rfl (by kernel_rfl) (by kernel_rfl) (by kernel_rfl) (fun _ _ _ h => h) (Or.inl ⟨by rfl, ?hy⟩) hHeld ?_
    case hy => intro w0 hSw; (try dsimp only at hSw); go_simp; (try with_reducible rfl)
    (try simp only [Act.put, List.setIfInBounds_toArray, List.set_cons_zero, List.set_cons_succ])
    refine wpAnyH_take (i := 2) (oi := { dst := some 62, op := Op.load 23 (Operand.tmp 3), type := 23, pos := "law.go:70", after := #[{ on := 1, ground := Ground.guard }], guard := some (1, true) }) (v := ?_) rfl (by kernel_rfl) (by kernel_rfl) (by kernel_rfl) (fun _ _ _ h => h) (Or.inl ⟨by rfl, ?hy⟩) hHeld ?_
    case hy => intro w0 hSw; (try dsimp only at hSw); go_simp; (try with_reducible rfl)
    (try simp only [Act.put, List.setIfInBounds_toArray, List.set_cons_zero, List.set_cons_succ])
    refine wpAnyH_take (i := 3) (oi := { dst := some 63, op := Op.load 23 (Operand.tmp 4), type := 23, pos := "law.go:70", after := #[{ on := 1, ground := Ground.guard }], guard := some (1, true) }) (v := ?_) rfl (by kernel_rfl) (by kernel_rfl) (by kernel_rfl) (fun _ _ _ h => h) (Or.inl ⟨by rfl, ?hy⟩) hHeld ?_
    case hy => intro w0 hSw; (try dsimp only at hSw); go_simp; (try with_reducible rfl)
    (try simp only [Act.put, List.setIfInBounds_toArray, List.set_cons_zero, List.set_cons_succ])
    refine wpAnyH_take (i := 4) (oi := { dst := some 64, op := Op.binOp BinOp.eql 23 (Operand.tmp 62) (Operand.tmp 63) 23, type := 4, pos := "law.go:70", after := #[{ on := 2, ground := Ground.data }, { on := 3, ground := Ground.data }, { on := 1, ground := Ground.guard }], guard := some (1, true) }) (v := ?_) rfl (by kernel_rfl) (by kernel_rfl) (by kernel_rfl) (fun _ _ _ h => h) (Or.inl ⟨by rfl, ?hy⟩) hHeld ?_
    case hy => intro w0 hSw; (try dsimp only at hSw); go_simp; (try with_reducible rfl)
    (try simp only [Act.put, List.setIfInBounds_toArray, List.set_cons_zero, List.set_cons_succ])
    refine wpAnyH_take (i := 5) (oi := { dst := some 65, op := Op.load 23 (Operand.tmp 3), type := 23, pos := "law.go:70", after := #[{ on := 1, ground := Ground.guard }], guard := some (1, true) }) (v := ?_) rfl (by kernel_rfl) (by kernel_rfl) (by kernel_rfl) (fun _ _ _ h => h) (Or.inl ⟨by rfl, ?hy⟩) hHeld ?_
    case hy => intro w0 hSw; (try dsimp only at hSw); go_simp; (try with_reducible rfl)
    (try simp only [Act.put, List.setIfInBounds_toArray, List.set_cons_zero, List.set_cons_succ])
    refine wpAnyH_take (i := 6) (oi := { dst := some 66, op := Op.load 23 (Operand.tmp 4), type := 23, pos := "law.go:70", after := #[{ on := 1, ground := Ground.guard }], guard := some (1, true) }) (v := ?_) rfl (by kernel_rfl) (by kernel_rfl) (by kernel_rfl) (fun _ _ _ h => h) (Or.inl ⟨by rfl, ?hy⟩) hHeld ?_
    case hy => intro w0 hSw; (try dsimp only at hSw); go_simp; (try with_reducible rfl)
    (try simp only [Act.put, List.setIfInBounds_toArray, List.set_cons_zero, List.set_cons_succ])
    refine wpAnyH_ready (rs := [7]) (by kernel_rfl) (by simp) ?_
    refine AllReadyH.cons (o := { dst := some 67, op := Op.call { callee := Callee.value (Operand.func 20), args := #[Operand.tmp 65, Operand.tmp 66], argTypes := #[23, 23] }, type := 4, pos := "law.go:70", after := #[{ on := 5, ground := Ground.data }, { on := 6, ground := Ground.data }, { on := 1, ground := Ground.chain }, { on := 1, ground := Ground.guard }], guard := some (1, true) }) rfl (fun K hK => ?_) AllReadyH.nil
    go_simp
    refine (Less_v _ _ _ _ _ _ (by assumption)).mono ?_
    rintro e w' ⟨rfl, hB'⟩
    replace ka : Two w' w.heap.size a0 a1 := (by first | exact ka.below hB' | exact (ka.drew).below hB')
    replace kb : Two w' (w.heap.size + 1) b0 b1 := (by first | exact kb.below hB' | exact (kb.drew).below hB')
    replace hB0 : Below w.heap.size w w' := (by first | exact below2 hB0 hB' | exact below2 (below_drew hB0 1) hB')
    clear hB'
    go_wp2_with fail
    refine hK.out _ _ ⟨ka.c0, ka.c1, kb.c0, kb.c1⟩ (fun hHeld => ?_)
    clear hK K
    (try simp only [Act.put, List.setIfInBounds_toArray, List.set_cons_zero, List.set_cons_succ])
    refine wpAnyH_take (i := 8) (oi := { dst := some 68, op := Op.unOp UnOp.not 4 (Operand.tmp 67), type := 4, pos := "law.go:70", after := #[{ on := 7, ground := Ground.data }, { on := 1, ground := Ground.guard }], guard := some (1, true) }) (v := ?_) rfl (by kernel_rfl) (by kernel_rfl) (by kernel_rfl) (fun _ _ _ h => h) (Or.inl ⟨by rfl, ?hy⟩) hHeld ?_
    case hy => intro w0 hSw; (try dsimp only at hSw); go_simp; (try with_reducible rfl)
    (try simp only [Act.put, List.setIfInBounds_toArray, List.set_cons_zero, List.set_cons_succ])
    refine wpAnyH_take (i := 9) (oi := { dst := some 69, op := Op.move (Operand.tmp 68), type := 4, pos := "law.go:70", after := #[{ on := 8, ground := Ground.data }, { on := 7, ground := Ground.chain }, { on := 1, ground := Ground.guard }], guard := some (1, true) }) (v := ?_) rfl (by kernel_rfl) (by kernel_rfl) (by kernel_rfl) (fun _ _ _ h => h) (Or.inl ⟨by rfl, ?hy⟩) hHeld ?_
    case hy => intro w0 hSw; (try dsimp only at hSw); go_simp; (try with_reducible rfl)
    (try simp only [Act.put, List.setIfInBounds_toArray, List.set_cons_zero, List.set_cons_succ])
    refine wpAnyH_take (i := 10) (oi := { dst := some 70, op := Op.load 23 (Operand.tmp 4), type := 23, pos := "law.go:70", after := #[{ on := 9, ground := Ground.guard }], guard := some (9, true) }) (v := undef) rfl (by kernel_rfl) (by kernel_rfl) (by kernel_rfl) (fun _ _ _ h => h) (Or.inr ⟨by rfl, rfl⟩) hHeld ?_
    (try simp only [Act.put, List.setIfInBounds_toArray, List.set_cons_zero, List.set_cons_succ])
    refine wpAnyH_take (i := 11) (oi := { dst := some 71, op := Op.load 23 (Operand.tmp 3), type := 23, pos := "law.go:70", after := #[{ on := 9, ground := Ground.guard }], guard := some (9, true) }) (v := undef) rfl (by kernel_rfl) (by kernel_rfl) (by kernel_rfl) (fun _ _ _ h => h) (Or.inr ⟨by rfl, rfl⟩) hHeld ?_
    (try simp only [Act.put, List.setIfInBounds_toArray, List.set_cons_zero, List.set_cons_succ])
    refine wpAnyH_take (i := 12) (oi := { dst := some 72, op := Op.call { callee := Callee.value (Operand.func 20), args := #[Operand.tmp 70, Operand.tmp 71], argTypes := #[23, 23] }, type := 4, pos := "law.go:70", after := #[{ on := 10, ground := Ground.data }, { on := 11, ground := Ground.data }, { on := 9, ground := Ground.chain }, { on := 9, ground := Ground.guard }], guard := some (9, true) }) (v := undef) rfl (by kernel_rfl) (by kernel_rfl) (by kernel_rfl) (fun _ _ _ h => h) (Or.inr ⟨by rfl, rfl⟩) hHeld ?_
    (try simp only [Act.put, List.setIfInBounds_toArray, List.set_cons_zero, List.set_cons_succ])
    refine wpAnyH_take (i := 13) (oi := { dst := some 73, op := Op.unOp UnOp.not 4 (Operand.tmp 72), type := 4, pos := "law.go:70", after := #[{ on := 12, ground := Ground.data }, { on := 9, ground := Ground.guard }], guard := some (9, true) }) (v := undef) rfl (by kernel_rfl) (by kernel_rfl) (by kernel_rfl) (fun _ _ _ h => h) (Or.inr ⟨by rfl, rfl⟩) hHeld ?_
    (try simp only [Act.put, List.setIfInBounds_toArray, List.set_cons_zero, List.set_cons_succ])
    refine wpAnyH_take (i := 14) (oi := { dst := some 74, op := Op.pick (Operand.tmp 69) (Operand.tmp 73) (Operand.const (Value.bool false)), type := 4, pos := "law.go:70", after := #[{ on := 9, ground := Ground.data }, { on := 13, ground := Ground.data }, { on := 1, ground := Ground.guard }], guard := some (1, true) }) (v := ?_) rfl (by kernel_rfl) (by kernel_rfl) (by kernel_rfl) (fun _ _ _ h => h) (Or.inl ⟨by rfl, ?hy⟩) hHeld ?_
    case hy => intro w0 hSw; (try dsimp only at hSw); go_simp; (try with_reducible rfl)
    (try simp only [Act.put, List.setIfInBounds_toArray, List.set_cons_zero, List.set_cons_succ])
    refine wpAnyH_take (i := 15) (oi := { dst := some 75, op := Op.binOp BinOp.eql 4 (Operand.tmp 64) (Operand.tmp 74) 4, type := 4, pos := "law.go:70", after := #[{ on := 4, ground := Ground.data }, { on := 14, ground := Ground.data }, { on := 1, ground := Ground.guard }], guard := some (1, true) }) (v := ?_) rfl (by kernel_rfl) (by kernel_rfl) (by kernel_rfl) (fun _ _ _ h => h) (Or.inl ⟨by rfl, ?hy⟩) hHeld ?_
    case hy => intro w0 hSw; (try dsimp only at hSw); go_simp; (try with_reducible rfl)
    (try simp only [Act.put, List.setIfInBounds_toArray, List.set_cons_zero, List.set_cons_succ])
    refine wpAnyH_take (i := 16) (oi := { dst := some 76, op := Op.pick (Operand.tmp 61) (Operand.tmp 75) (Operand.const (Value.bool false)), type := 4, pos := "law.go:70", after := #[{ on := 1, ground := Ground.data }, { on := 15, ground := Ground.data }], guard := none }) (v := ?_) rfl (by kernel_rfl) (by kernel_rfl) (by kernel_rfl) (fun _ _ _ h => h) (Or.inl ⟨by rfl, ?hy⟩) hHeld ?_
    case hy => intro w0 hSw; (try dsimp only at hSw); go_simp; (try with_reducible rfl)
    (try simp only [Act.put, List.setIfInBounds_toArray, List.set_cons_zero, List.set_cons_succ])
    refine wpAnyH_take (i := 17) (oi := { dst := some 6, op := Op.assign (Operand.tmp 76), type := 4, pos := "law.go:70", after := #[{ on := 16, ground := Ground.data }, { on := 12, ground := Ground.chain }, { on := 0, ground := Ground.phase }, { on := 1, ground := Ground.phase }, { on := 2, ground := Ground.phase }, { on := 3, ground := Ground.phase }, { on := 4, ground := Ground.phase }, { on := 5, ground := Ground.phase }, { on := 6, ground := Ground.phase }, { on := 7, ground := Ground.phase }, { on := 8, ground := Ground.phase }, { on := 9, ground := Ground.phase }, { on := 10, ground := Ground.phase }, { on := 11, ground := Ground.phase }, { on := 12, ground := Ground.phase }, { on := 13, ground := Ground.phase }, { on := 14, ground := Ground.phase }, { on := 15, ground := Ground.phase }, { on := 16, ground := Ground.phase }], guard := none }) (v := ?_) rfl (by kernel_rfl) (by kernel_rfl) (by kernel_rfl) (fun _ _ _ h => h) (Or.inl ⟨by rfl, ?hy⟩) hHeld ?_
    case hy => intro w0 hSw; (try dsimp only at hSw); go_simp; (try with_reducible rfl)
    (try simp only [Act.put, List.setIfInBounds_toArray, List.set_cons_zero, List.set_cons_succ])
    refine wpAnyH_done (by kernel_rfl) ?_ _
    go_wp2
    go_ret
    exact ⟨rfl, hB0⟩


set_option maxRecDepth 10000 in
set_option maxHeartbeats 4000000 in
theorem order_tf2 (a0 a1 b0 b1 c0 c1 n m e f : Int) (w : World) (HE : Hid (Errs w)) (lab : Sp.less a0 a1 b0 b1 = true) (lba : Sp.less b0 b1 a0 a1 = false) (lbc : Sp.less b0 b1 c0 c1 = false) (x0 : (a0 == b0) = false)
    (hN1 : ∀ W, Calls Tryd.prog 9 #[.agg #[.int .i64 a0, .int .i64 a1]] W fun x w' => x = .returned (.tuple #[.int .i64 n, .int .i64 e]) ∧ Below W.heap.size W w')
    (hN2 : ∀ W, Calls Tryd.prog 9 #[.agg #[.int .i64 b0, .int .i64 b1]] W fun x w' => x = .returned (.tuple #[.int .i64 m, .int .i64 f]) ∧ Below W.heap.size W w')
    (h3 : ((e == 0) = false) ∨ ((e == 0) = true ∧ (f == 0) = false) ∨ ((e == 0) = true ∧ (f == 0) = true ∧ decide (n < m) = true)) :
    Calls Tryd.prog 5 #[.agg #[.int .i64 a0, .int .i64 a1], .agg #[.int .i64 b0, .int .i64 b1], .agg #[.int .i64 c0, .int .i64 c1]] w fun e w' => e = .returned (.bool true) ∧ Below w.heap.size w w' := by
  go_enter Tryd.func5, Tryd.ntmps5
  go_wp2_with fail
  refine (hN1 _).mono ?_
  rintro x w1 ⟨rfl, hB1⟩
  have ka := (((Two.new w a0 a1 23).alloc (.cells #[.int .i64 b0, .int .i64 b1] 23)).alloc (.cells #[.int .i64 c0, .int .i64 c1] 23)).below hB1
  have kb := ((Two.new1 w (.cells #[.int .i64 a0, .int .i64 a1] 23) b0 b1 23).alloc (.cells #[.int .i64 c0, .int .i64 c1] 23)).below hB1
  have kc := (Two.new2 w (.cells #[.int .i64 a0, .int .i64 a1] 23) (.cells #[.int .i64 b0, .int .i64 b1] 23) c0 c1 23).below hB1
  have hB0 := below2 (below_new3 _ _ _ _) hB1
  clear hN1 hB1
  have kb0 := kb.c0
  have kb1 := kb.c1
  go_wp2_with fail
  refine (hN2 _).mono ?_
  rintro x w2 ⟨rfl, hB1⟩
  replace ka := ka.below hB1
  replace kb := kb.below hB1
  replace kc := kc.below hB1
  replace hB0 := below2 hB0 hB1
  clear hN2 hB1 kb0 kb1
  have ka0 := ka.c0
  have ka1 := ka.c1
  have kb0 := kb.c0
  have kb1 := kb.c1
  rcases h3 with h3 | ⟨h3, h4⟩ | ⟨h3, h4, h5⟩
  · go_wp2_with fail
    refine (Less_v _ _ _ _ _ _ lab).mono ?_
    rintro x w4 ⟨rfl, hB1⟩
    replace ka := ka.below hB1
    replace kb := kb.below hB1
    replace kc := kc.below hB1
    replace hB0 := below2 hB0 hB1
    clear ka0 ka1 kb0 kb1 hB1
    have ka0 := ka.c0
    have ka1 := ka.c1
    have kb0 := kb.c0
    have kb1 := kb.c1
    have kc0 := kc.c0
    have kc1 := kc.c1
    go_wp2_with fail
    refine (Less_v _ _ _ _ _ _ (by assumption)).mono ?_
    rintro x w5 ⟨rfl, hB1⟩
    replace ka := ka.below hB1
    replace kb := kb.below hB1
    replace kc := kc.below hB1
    replace hB0 := below2 hB0 hB1
    clear ka0 ka1 kb0 kb1 kc0 kc1 hB1
    have ka0 := ka.c0
    have ka1 := ka.c1
    have kb0 := kb.c0
    have kb1 := kb.c1
    go_wp2_with fail
    refine (Less_v _ _ _ _ _ _ (by assumption)).mono ?_
    rintro x w7 ⟨rfl, hB1⟩
    replace ka := ka.below hB1
    replace kb := kb.below hB1
    replace kc := kc.below hB1
    replace hB0 := below2 hB0 hB1
    clear ka0 ka1 kb0 kb1 hB1
    have ka0 := ka.c0
    have ka1 := ka.c1
    have kb0 := kb.c0
    have kb1 := kb.c1
    go_wp2_with fail
    refine (Less_v _ _ _ _ _ _ (by assumption)).mono ?_
    rintro x w8 ⟨rfl, hB1⟩
    replace ka := ka.below hB1
    replace kb := kb.below hB1
    replace kc := kc.below hB1
    replace hB0 := below2 hB0 hB1
    clear ka0 ka1 kb0 kb1 hB1
    have ka0 := ka.c0
    have ka1 := ka.c1
    have kb0 := kb.c0
    have kb1 := kb.c1
    go_wp2_with fail
    refine wp_region_held_drew (S := (fun W : World => W.cell? ⟨w.heap.size, 0, none⟩ = some (.int .i64 a0) ∧ W.cell? ⟨w.heap.size, 1, none⟩ = some (.int .i64 a1) ∧ W.cell? ⟨w.heap.size + 1, 0, none⟩ = some (.int .i64 b0) ∧ W.cell? ⟨w.heap.size + 1, 1, none⟩ = some (.int .i64 b1))) (by kernel_rfl) ⟨ka.c0, ka.c1, kb.c0, kb.c1⟩ (fun hHeld => ?_)
    refine wpAnyH_ready (rs := [0]) (by kernel_rfl) (by simp) ?_
    refine AllReadyH.cons (o := { dst := some 60, op := Op.call { callee := Callee.value (Operand.func 17), args := #[], argTypes := #[] }, type := 4, pos := "law.go:70", after := #[], guard := none }) rfl (fun K hK => ?_) AllReadyH.nil
    go_simp
    refine (spots_any _ (by first | exact HE.out.below hB0 | exact HE.out.below (below_drew hB0 1))).mono ?_
    rintro e w' ⟨rfl, hB'⟩
    replace ka : Two w' w.heap.size a0 a1 := (by first | exact ka.below hB' | exact (ka.drew).below hB')
    replace kb : Two w' (w.heap.size + 1) b0 b1 := (by first | exact kb.below hB' | exact (kb.drew).below hB')
    replace hB0 : Below w.heap.size w w' := (by first | exact below2 hB0 hB' | exact below2 (below_drew hB0 1) hB')
    clear hB'
    go_wp2_with fail
    refine hK.out _ _ ⟨ka.c0, ka.c1, kb.c0, kb.c1⟩ (fun hHeld => ?_)
    clear hK K
    (try simp only [Act.put, List.setIfInBounds_toArray, List.set_cons_zero, List.set_cons_succ])
    refine wpAnyH_take (i := 1) (oi := { dst := some 61, op := Op.move (Operand.tmp 60), type := 4, pos := "law.go:70", after := #[{ on := 0, ground := Ground.data }, { on := 0, ground := Ground.chain }], guard := none }) (v := ?_) rfl (by kernel_rfl) (by kernel_rfl) (by kernel_rfl) (fun _ _ _ h => h) (Or.inl ⟨by rfl, ?hy⟩) hHeld ?_
    case hy => intro w0 hSw; (try dsimp only at hSw); go_simp; (try with_reducible rfl)
    (try simp only [Act.put, List.setIfInBounds_toArray, List.set_cons_zero, List.set_cons_succ])
    refine wpAnyH_take (i := 2) (oi := { dst := some 62, op := Op.load 23 (Operand.tmp 3), type := 23, pos := "law.go:70", after := #[{ on := 1, ground := Ground.guard }], guard := some (1, true) }) (v := ?_) rfl (by kernel_rfl) (by kernel_rfl) (by kernel_rfl) (fun _ _ _ h => h) (Or.inl ⟨by rfl, ?hy⟩) hHeld ?_
    case hy => intro w0 hSw; (try dsimp only at hSw); go_simp; (try with_reducible rfl)
    (try simp only [Act.put, List.setIfInBounds_toArray, List.set_cons_zero, List.set_cons_succ])
    refine wpAnyH_take (i := 3) (oi := { dst := some 63, op := Op.load 23 (Operand.tmp 4), type := 23, pos := "law.go:70", after := #[{ on := 1, ground := Ground.guard }], guard := some (1, true) }) (v := ?_) rfl (by kernel_rfl) (by kernel_rfl) (by kernel_rfl) (fun _ _ _ h => h) (Or.inl ⟨by rfl, ?hy⟩) hHeld ?_
    case hy => intro w0 hSw; (try dsimp only at hSw); go_simp; (try with_reducible rfl)
    (try simp only [Act.put, List.setIfInBounds_toArray, List.set_cons_zero, List.set_cons_succ])
    refine wpAnyH_take (i := 4) (oi := { dst := some 64, op := Op.binOp BinOp.eql 23 (Operand.tmp 62) (Operand.tmp 63) 23, type := 4, pos := "law.go:70", after := #[{ on := 2, ground := Ground.data }, { on := 3, ground := Ground.data }, { on := 1, ground := Ground.guard }], guard := some (1, true) }) (v := ?_) rfl (by kernel_rfl) (by kernel_rfl) (by kernel_rfl) (fun _ _ _ h => h) (Or.inl ⟨by rfl, ?hy⟩) hHeld ?_
    case hy => intro w0 hSw; (try dsimp only at hSw); go_simp; (try with_reducible rfl)
    (try simp only [Act.put, List.setIfInBounds_toArray, List.set_cons_zero, List.set_cons_succ])
    refine wpAnyH_take (i := 5) (oi := { dst := some 65, op := Op.load 23 (Operand.tmp 3), type := 23, pos := "law.go:70", after := #[{ on := 1, ground := Ground.guard }], guard := some (1, true) }) (v := ?_) rfl (by kernel_rfl) (by kernel_rfl) (by kernel_rfl) (fun _ _ _ h => h) (Or.inl ⟨by rfl, ?hy⟩) hHeld ?_
    case hy => intro w0 hSw; (try dsimp only at hSw); go_simp; (try with_reducible rfl)
    (try simp only [Act.put, List.setIfInBounds_toArray, List.set_cons_zero, List.set_cons_succ])
    refine wpAnyH_take (i := 6) (oi := { dst := some 66, op := Op.load 23 (Operand.tmp 4), type := 23, pos := "law.go:70", after := #[{ on := 1, ground := Ground.guard }], guard := some (1, true) }) (v := ?_) rfl (by kernel_rfl) (by kernel_rfl) (by kernel_rfl) (fun _ _ _ h => h) (Or.inl ⟨by rfl, ?hy⟩) hHeld ?_
    case hy => intro w0 hSw; (try dsimp only at hSw); go_simp; (try with_reducible rfl)
    (try simp only [Act.put, List.setIfInBounds_toArray, List.set_cons_zero, List.set_cons_succ])
    refine wpAnyH_ready (rs := [7]) (by kernel_rfl) (by simp) ?_
    refine AllReadyH.cons (o := { dst := some 67, op := Op.call { callee := Callee.value (Operand.func 20), args := #[Operand.tmp 65, Operand.tmp 66], argTypes := #[23, 23] }, type := 4, pos := "law.go:70", after := #[{ on := 5, ground := Ground.data }, { on := 6, ground := Ground.data }, { on := 1, ground := Ground.chain }, { on := 1, ground := Ground.guard }], guard := some (1, true) }) rfl (fun K hK => ?_) AllReadyH.nil
    go_simp
    refine (Less_v _ _ _ _ _ _ (by assumption)).mono ?_
    rintro e w' ⟨rfl, hB'⟩
    replace ka : Two w' w.heap.size a0 a1 := (by first | exact ka.below hB' | exact (ka.drew).below hB')
    replace kb : Two w' (w.heap.size + 1) b0 b1 := (by first | exact kb.below hB' | exact (kb.drew).below hB')
    replace hB0 : Below w.heap.size w w' := (by first | exact below2 hB0 hB' | exact below2 (below_drew hB0 1) hB')
    clear hB'
    go_wp2_with fail
    refine hK.out _ _ ⟨ka.c0, ka.c1, kb.c0, kb.c1⟩ (fun hHeld => ?_)
    clear hK K
    (try simp only [Act.put, List.setIfInBounds_toArray, List.set_cons_zero, List.set_cons_succ])
    refine wpAnyH_take (i := 8) (oi := { dst := some 68, op := Op.unOp UnOp.not 4 (Operand.tmp 67), type := 4, pos := "law.go:70", after := #[{ on := 7, ground := Ground.data }, { on := 1, ground := Ground.guard }], guard := some (1, true) }) (v := ?_) rfl (by kernel_rfl) (by kernel_rfl) (by kernel_rfl) (fun _ _ _ h => h) (Or.inl ⟨by rfl, ?hy⟩) hHeld ?_
    case hy => intro w0 hSw; (try dsimp only at hSw); go_simp; (try with_reducible rfl)
    (try simp only [Act.put, List.setIfInBounds_toArray, List.set_cons_zero, List.set_cons_succ])
    refine wpAnyH_take (i := 9) (oi := { dst := some 69, op := Op.move (Operand.tmp 68), type := 4, pos := "law.go:70", after := #[{ on := 8, ground := Ground.data }, { on := 7, ground := Ground.chain }, { on := 1, ground := Ground.guard }], guard := some (1, true) }) (v := ?_) rfl (by kernel_rfl) (by kernel_rfl) (by kernel_rfl) (fun _ _ _ h => h) (Or.inl ⟨by rfl, ?hy⟩) hHeld ?_
    case hy => intro w0 hSw; (try dsimp only at hSw); go_simp; (try with_reducible rfl)
    (try simp only [Act.put, List.setIfInBounds_toArray, List.set_cons_zero, List.set_cons_succ])
    refine wpAnyH_take (i := 10) (oi := { dst := some 70, op := Op.load 23 (Operand.tmp 4), type := 23, pos := "law.go:70", after := #[{ on := 9, ground := Ground.guard }], guard := some (9, true) }) (v := undef) rfl (by kernel_rfl) (by kernel_rfl) (by kernel_rfl) (fun _ _ _ h => h) (Or.inr ⟨by rfl, rfl⟩) hHeld ?_
    (try simp only [Act.put, List.setIfInBounds_toArray, List.set_cons_zero, List.set_cons_succ])
    refine wpAnyH_take (i := 11) (oi := { dst := some 71, op := Op.load 23 (Operand.tmp 3), type := 23, pos := "law.go:70", after := #[{ on := 9, ground := Ground.guard }], guard := some (9, true) }) (v := undef) rfl (by kernel_rfl) (by kernel_rfl) (by kernel_rfl) (fun _ _ _ h => h) (Or.inr ⟨by rfl, rfl⟩) hHeld ?_
    (try simp only [Act.put, List.setIfInBounds_toArray, List.set_cons_zero, List.set_cons_succ])
    refine wpAnyH_take (i := 12) (oi := { dst := some 72, op := Op.call { callee := Callee.value (Operand.func 20), args := #[Operand.tmp 70, Operand.tmp 71], argTypes := #[23, 23] }, type := 4, pos := "law.go:70", after := #[{ on := 10, ground := Ground.data }, { on := 11, ground := Ground.data }, { on := 9, ground := Ground.chain }, { on := 9, ground := Ground.guard }], guard := some (9, true) }) (v := undef) rfl (by kernel_rfl) (by kernel_rfl) (by kernel_rfl) (fun _ _ _ h => h) (Or.inr ⟨by rfl, rfl⟩) hHeld ?_
    (try simp only [Act.put, List.setIfInBounds_toArray, List.set_cons_zero, List.set_cons_succ])
    refine wpAnyH_take (i := 13) (oi := { dst := some 73, op := Op.unOp UnOp.not 4 (Operand.tmp 72), type := 4, pos := "law.go:70", after := #[{ on := 12, ground := Ground.data }, { on := 9, ground := Ground.guard }], guard := some (9, true) }) (v := undef) rfl (by kernel_rfl) (by kernel_rfl) (by kernel_rfl) (fun _ _ _ h => h) (Or.inr ⟨by rfl, rfl⟩) hHeld ?_
    (try simp only [Act.put, List.setIfInBounds_toArray, List.set_cons_zero, List.set_cons_succ])
    refine wpAnyH_take (i := 14) (oi := { dst := some 74, op := Op.pick (Operand.tmp 69) (Operand.tmp 73) (Operand.const (Value.bool false)), type := 4, pos := "law.go:70", after := #[{ on := 9, ground := Ground.data }, { on := 13, ground := Ground.data }, { on := 1, ground := Ground.guard }], guard := some (1, true) }) (v := ?_) rfl (by kernel_rfl) (by kernel_rfl) (by kernel_rfl) (fun _ _ _ h => h) (Or.inl ⟨by rfl, ?hy⟩) hHeld ?_
    case hy => intro w0 hSw; (try dsimp only at hSw); go_simp; (try with_reducible rfl)
    (try simp only [Act.put, List.setIfInBounds_toArray, List.set_cons_zero, List.set_cons_succ])
    refine wpAnyH_take (i := 15) (oi := { dst := some 75, op := Op.binOp BinOp.eql 4 (Operand.tmp 64) (Operand.tmp 74) 4, type := 4, pos := "law.go:70", after := #[{ on := 4, ground := Ground.data }, { on := 14, ground := Ground.data }, { on := 1, ground := Ground.guard }], guard := some (1, true) }) (v := ?_) rfl (by kernel_rfl) (by kernel_rfl) (by kernel_rfl) (fun _ _ _ h => h) (Or.inl ⟨by rfl, ?hy⟩) hHeld ?_
    case hy => intro w0 hSw; (try dsimp only at hSw); go_simp; (try with_reducible rfl)
    (try simp only [Act.put, List.setIfInBounds_toArray, List.set_cons_zero, List.set_cons_succ])
    refine wpAnyH_take (i := 16) (oi := { dst := some 76, op := Op.pick (Operand.tmp 61) (Operand.tmp 75) (Operand.const (Value.bool false)), type := 4, pos := "law.go:70", after := #[{ on := 1, ground := Ground.data }, { on := 15, ground := Ground.data }], guard := none }) (v := ?_) rfl (by kernel_rfl) (by kernel_rfl) (by kernel_rfl) (fun _ _ _ h => h) (Or.inl ⟨by rfl, ?hy⟩) hHeld ?_
    case hy => intro w0 hSw; (try dsimp only at hSw); go_simp; (try with_reducible rfl)
    (try simp only [Act.put, List.setIfInBounds_toArray, List.set_cons_zero, List.set_cons_succ])
    refine wpAnyH_take (i := 17) (oi := { dst := some 6, op := Op.assign (Operand.tmp 76), type := 4, pos := "law.go:70", after := #[{ on := 16, ground := Ground.data }, { on := 12, ground := Ground.chain }, { on := 0, ground := Ground.phase }, { on := 1, ground := Ground.phase }, { on := 2, ground := Ground.phase }, { on := 3, ground := Ground.phase }, { on := 4, ground := Ground.phase }, { on := 5, ground := Ground.phase }, { on := 6, ground := Ground.phase }, { on := 7, ground := Ground.phase }, { on := 8, ground := Ground.phase }, { on := 9, ground := Ground.phase }, { on := 10, ground := Ground.phase }, { on := 11, ground := Ground.phase }, { on := 12, ground := Ground.phase }, { on := 13, ground := Ground.phase }, { on := 14, ground := Ground.phase }, { on := 15, ground := Ground.phase }, { on := 16, ground := Ground.phase }], guard := none }) (v := ?_) rfl (by kernel_rfl) (by kernel_rfl) (by kernel_rfl) (fun _ _ _ h => h) (Or.inl ⟨by rfl, ?hy⟩) hHeld ?_
    case hy => intro w0 hSw; (try dsimp only at hSw); go_simp; (try with_reducible rfl)
    (try simp only [Act.put, List.setIfInBounds_toArray, List.set_cons_zero, List.set_cons_succ])
    refine wpAnyH_done (by kernel_rfl) ?_ _
    go_wp2
    go_ret
    exact ⟨rfl, hB0⟩
  · go_wp2_with fail
    refine (Less_v _ _ _ _ _ _ lab).mono ?_
    rintro x w4 ⟨rfl, hB1⟩
    replace ka := ka.below hB1
    replace kb := kb.below hB1
    replace kc := kc.below hB1
    replace hB0 := below2 hB0 hB1
    clear ka0 ka1 kb0 kb1 hB1
    have ka0 := ka.c0
    have ka1 := ka.c1
    have kb0 := kb.c0
    have kb1 := kb.c1
    have kc0 := kc.c0
    have kc1 := kc.c1
    go_wp2_with fail
    refine (Less_v _ _ _ _ _ _ (by assumption)).mono ?_
    rintro x w5 ⟨rfl, hB1⟩
    replace ka := ka.below hB1
    replace kb := kb.below hB1
    replace kc := kc.below hB1
    replace hB0 := below2 hB0 hB1
    clear ka0 ka1 kb0 kb1 kc0 kc1 hB1
    have ka0 := ka.c0
    have ka1 := ka.c1
    have kb0 := kb.c0
    have kb1 := kb.c1
    go_wp2_with fail
    refine (Less_v _ _ _ _ _ _ (by assumption)).mono ?_
    rintro x w7 ⟨rfl, hB1⟩
    replace ka := ka.below hB1
    replace kb := kb.below hB1
    replace kc := kc.below hB1
    replace hB0 := below2 hB0 hB1
    clear ka0 ka1 kb0 kb1 hB1
    have ka0 := ka.c0
    have ka1 := ka.c1
    have kb0 := kb.c0
    have kb1 := kb.c1
    go_wp2_with fail
    refine (Less_v _ _ _ _ _ _ (by assumption)).mono ?_
    rintro x w8 ⟨rfl, hB1⟩
    replace ka := ka.below hB1
    replace kb := kb.below hB1
    replace kc := kc.below hB1
    replace hB0 := below2 hB0 hB1
    clear ka0 ka1 kb0 kb1 hB1
    have ka0 := ka.c0
    have ka1 := ka.c1
    have kb0 := kb.c0
    have kb1 := kb.c1
    go_wp2_with fail
    refine wp_region_held_drew (S := (fun W : World => W.cell? ⟨w.heap.size, 0, none⟩ = some (.int .i64 a0) ∧ W.cell? ⟨w.heap.size, 1, none⟩ = some (.int .i64 a1) ∧ W.cell? ⟨w.heap.size + 1, 0, none⟩ = some (.int .i64 b0) ∧ W.cell? ⟨w.heap.size + 1, 1, none⟩ = some (.int .i64 b1))) (by kernel_rfl) ⟨ka.c0, ka.c1, kb.c0, kb.c1⟩ (fun hHeld => ?_)
    refine wpAnyH_ready (rs := [0]) (by kernel_rfl) (by simp) ?_
    refine AllReadyH.cons (o := { dst := some 60, op := Op.call { callee := Callee.value (Operand.func 17), args := #[], argTypes := #[] }, type := 4, pos := "law.go:70", after := #[], guard := none }) rfl (fun K hK => ?_) AllReadyH.nil
    go_simp
    refine (spots_any _ (by first | exact HE.out.below hB0 | exact HE.out.below (below_drew hB0 1))).mono ?_
    rintro e w' ⟨rfl, hB'⟩
    replace ka : Two w' w.heap.size a0 a1 := (by first | exact ka.below hB' | exact (ka.drew).below hB')
    replace kb : Two w' (w.heap.size + 1) b0 b1 := (by first | exact kb.below hB' | exact (kb.drew).below hB')
    replace hB0 : Below w.heap.size w w' := (by first | exact below2 hB0 hB' | exact below2 (below_drew hB0 1) hB')
    clear hB'
    go_wp2_with fail
    refine hK.out _ _ ⟨ka.c0, ka.c1, kb.c0, kb.c1⟩ (fun hHeld => ?_)
    clear hK K
    (try simp only [Act.put, List.setIfInBounds_toArray, List.set_cons_zero, List.set_cons_succ])
    refine wpAnyH_take (i := 1) (oi := { dst := some 61, op := Op.move (Operand.tmp 60), type := 4, pos := "law.go:70", after := #[{ on := 0, ground := Ground.data }, { on := 0, ground := Ground.chain }], guard := none }) (v := ?_) rfl (by kernel_rfl) (by kernel_rfl) (by kernel_rfl) (fun _ _ _ h => h) (Or.inl ⟨by rfl, ?hy⟩) hHeld ?_
    case hy => intro w0 hSw; (try dsimp only at hSw); go_simp; (try with_reducible rfl)
    (try simp only [Act.put, List.setIfInBounds_toArray, List.set_cons_zero, List.set_cons_succ])
    refine wpAnyH_take (i := 2) (oi := { dst := some 62, op := Op.load 23 (Operand.tmp 3), type := 23, pos := "law.go:70", after := #[{ on := 1, ground := Ground.guard }], guard := some (1, true) }) (v := ?_) rfl (by kernel_rfl) (by kernel_rfl) (by kernel_rfl) (fun _ _ _ h => h) (Or.inl ⟨by rfl, ?hy⟩) hHeld ?_
    case hy => intro w0 hSw; (try dsimp only at hSw); go_simp; (try with_reducible rfl)
    (try simp only [Act.put, List.setIfInBounds_toArray, List.set_cons_zero, List.set_cons_succ])
    refine wpAnyH_take (i := 3) (oi := { dst := some 63, op := Op.load 23 (Operand.tmp 4), type := 23, pos := "law.go:70", after := #[{ on := 1, ground := Ground.guard }], guard := some (1, true) }) (v := ?_) rfl (by kernel_rfl) (by kernel_rfl) (by kernel_rfl) (fun _ _ _ h => h) (Or.inl ⟨by rfl, ?hy⟩) hHeld ?_
    case hy => intro w0 hSw; (try dsimp only at hSw); go_simp; (try with_reducible rfl)
    (try simp only [Act.put, List.setIfInBounds_toArray, List.set_cons_zero, List.set_cons_succ])
    refine wpAnyH_take (i := 4) (oi := { dst := some 64, op := Op.binOp BinOp.eql 23 (Operand.tmp 62) (Operand.tmp 63) 23, type := 4, pos := "law.go:70", after := #[{ on := 2, ground := Ground.data }, { on := 3, ground := Ground.data }, { on := 1, ground := Ground.guard }], guard := some (1, true) }) (v := ?_) rfl (by kernel_rfl) (by kernel_rfl) (by kernel_rfl) (fun _ _ _ h => h) (Or.inl ⟨by rfl, ?hy⟩) hHeld ?_
    case hy => intro w0 hSw; (try dsimp only at hSw); go_simp; (try with_reducible rfl)
    (try simp only [Act.put, List.setIfInBounds_toArray, List.set_cons_zero, List.set_cons_succ])
    refine wpAnyH_take (i := 5) (oi := { dst := some 65, op := Op.load 23 (Operand.tmp 3), type := 23, pos := "law.go:70", after := #[{ on := 1, ground := Ground.guard }], guard := some (1, true) }) (v := ?_) rfl (by kernel_rfl) (by kernel_rfl) (by kernel_rfl) (fun _ _ _ h => h) (Or.inl ⟨by rfl, ?hy⟩) hHeld ?_
    case hy => intro w0 hSw; (try dsimp only at hSw); go_simp; (try with_reducible rfl)
    (try simp only [Act.put, List.setIfInBounds_toArray, List.set_cons_zero, List.set_cons_succ])
    refine wpAnyH_take (i := 6) (oi := { dst := some 66, op := Op.load 23 (Operand.tmp 4), type := 23, pos := "law.go:70", after := #[{ on := 1, ground := Ground.guard }], guard := some (1, true) }) (v := ?_) rfl (by kernel_rfl) (by kernel_rfl) (by kernel_rfl) (fun _ _ _ h => h) (Or.inl ⟨by rfl, ?hy⟩) hHeld ?_
    case hy => intro w0 hSw; (try dsimp only at hSw); go_simp; (try with_reducible rfl)
    (try simp only [Act.put, List.setIfInBounds_toArray, List.set_cons_zero, List.set_cons_succ])
    refine wpAnyH_ready (rs := [7]) (by kernel_rfl) (by simp) ?_
    refine AllReadyH.cons (o := { dst := some 67, op := Op.call { callee := Callee.value (Operand.func 20), args := #[Operand.tmp 65, Operand.tmp 66], argTypes := #[23, 23] }, type := 4, pos := "law.go:70", after := #[{ on := 5, ground := Ground.data }, { on := 6, ground := Ground.data }, { on := 1, ground := Ground.chain }, { on := 1, ground := Ground.guard }], guard := some (1, true) }) rfl (fun K hK => ?_) AllReadyH.nil
    go_simp
    refine (Less_v _ _ _ _ _ _ (by assumption)).mono ?_
    rintro e w' ⟨rfl, hB'⟩
    replace ka : Two w' w.heap.size a0 a1 := (by first | exact ka.below hB' | exact (ka.drew).below hB')
    replace kb : Two w' (w.heap.size + 1) b0 b1 := (by first | exact kb.below hB' | exact (kb.drew).below hB')
    replace hB0 : Below w.heap.size w w' := (by first | exact below2 hB0 hB' | exact below2 (below_drew hB0 1) hB')
    clear hB'
    go_wp2_with fail
    refine hK.out _ _ ⟨ka.c0, ka.c1, kb.c0, kb.c1⟩ (fun hHeld => ?_)
    clear hK K
    (try simp only [Act.put, List.setIfInBounds_toArray, List.set_cons_zero, List.set_cons_succ])
    refine wpAnyH_take (i := 8) (oi := { dst := some 68, op := Op.unOp UnOp.not 4 (Operand.tmp 67), type := 4, pos := "law.go:70", after := #[{ on := 7, ground := Ground.data }, { on := 1, ground := Ground.guard }], guard := some (1, true) }) (v := ?_) rfl (by kernel_rfl) (by kernel_rfl) (by kernel_rfl) (fun _ _ _ h => h) (Or.inl ⟨by rfl, ?hy⟩) hHeld ?_
    case hy => intro w0 hSw; (try dsimp only at hSw); go_simp; (try with_reducible rfl)
    (try simp only [Act.put, List.setIfInBounds_toArray, List.set_cons_zero, List.set_cons_succ])
    refine wpAnyH_take (i := 9) (oi := { dst := some 69, op := Op.move (Operand.tmp 68), type := 4, pos := "law.go:70", after := #[{ on := 8, ground := Ground.data }, { on := 7, ground := Ground.chain }, { on := 1, ground := Ground.guard }], guard := some (1, true) }) (v := ?_) rfl (by kernel_rfl) (by kernel_rfl) (by kernel_rfl) (fun _ _ _ h => h) (Or.inl ⟨by rfl, ?hy⟩) hHeld ?_
    case hy => intro w0 hSw; (try dsimp only at hSw); go_simp; (try with_reducible rfl)
    (try simp only [Act.put, List.setIfInBounds_toArray, List.set_cons_zero, List.set_cons_succ])
    refine wpAnyH_take (i := 10) (oi := { dst := some 70, op := Op.load 23 (Operand.tmp 4), type := 23, pos := "law.go:70", after := #[{ on := 9, ground := Ground.guard }], guard := some (9, true) }) (v := undef) rfl (by kernel_rfl) (by kernel_rfl) (by kernel_rfl) (fun _ _ _ h => h) (Or.inr ⟨by rfl, rfl⟩) hHeld ?_
    (try simp only [Act.put, List.setIfInBounds_toArray, List.set_cons_zero, List.set_cons_succ])
    refine wpAnyH_take (i := 11) (oi := { dst := some 71, op := Op.load 23 (Operand.tmp 3), type := 23, pos := "law.go:70", after := #[{ on := 9, ground := Ground.guard }], guard := some (9, true) }) (v := undef) rfl (by kernel_rfl) (by kernel_rfl) (by kernel_rfl) (fun _ _ _ h => h) (Or.inr ⟨by rfl, rfl⟩) hHeld ?_
    (try simp only [Act.put, List.setIfInBounds_toArray, List.set_cons_zero, List.set_cons_succ])
    refine wpAnyH_take (i := 12) (oi := { dst := some 72, op := Op.call { callee := Callee.value (Operand.func 20), args := #[Operand.tmp 70, Operand.tmp 71], argTypes := #[23, 23] }, type := 4, pos := "law.go:70", after := #[{ on := 10, ground := Ground.data }, { on := 11, ground := Ground.data }, { on := 9, ground := Ground.chain }, { on := 9, ground := Ground.guard }], guard := some (9, true) }) (v := undef) rfl (by kernel_rfl) (by kernel_rfl) (by kernel_rfl) (fun _ _ _ h => h) (Or.inr ⟨by rfl, rfl⟩) hHeld ?_
    (try simp only [Act.put, List.setIfInBounds_toArray, List.set_cons_zero, List.set_cons_succ])
    refine wpAnyH_take (i := 13) (oi := { dst := some 73, op := Op.unOp UnOp.not 4 (Operand.tmp 72), type := 4, pos := "law.go:70", after := #[{ on := 12, ground := Ground.data }, { on := 9, ground := Ground.guard }], guard := some (9, true) }) (v := undef) rfl (by kernel_rfl) (by kernel_rfl) (by kernel_rfl) (fun _ _ _ h => h) (Or.inr ⟨by rfl, rfl⟩) hHeld ?_
    (try simp only [Act.put, List.setIfInBounds_toArray, List.set_cons_zero, List.set_cons_succ])
    refine wpAnyH_take (i := 14) (oi := { dst := some 74, op := Op.pick (Operand.tmp 69) (Operand.tmp 73) (Operand.const (Value.bool false)), type := 4, pos := "law.go:70", after := #[{ on := 9, ground := Ground.data }, { on := 13, ground := Ground.data }, { on := 1, ground := Ground.guard }], guard := some (1, true) }) (v := ?_) rfl (by kernel_rfl) (by kernel_rfl) (by kernel_rfl) (fun _ _ _ h => h) (Or.inl ⟨by rfl, ?hy⟩) hHeld ?_
    case hy => intro w0 hSw; (try dsimp only at hSw); go_simp; (try with_reducible rfl)
    (try simp only [Act.put, List.setIfInBounds_toArray, List.set_cons_zero, List.set_cons_succ])
    refine wpAnyH_take (i := 15) (oi := { dst := some 75, op := Op.binOp BinOp.eql 4 (Operand.tmp 64) (Operand.tmp 74) 4, type := 4, pos := "law.go:70", after := #[{ on := 4, ground := Ground.data }, { on := 14, ground := Ground.data }, { on := 1, ground := Ground.guard }], guard := some (1, true) }) (v := ?_) rfl (by kernel_rfl) (by kernel_rfl) (by kernel_rfl) (fun _ _ _ h => h) (Or.inl ⟨by rfl, ?hy⟩) hHeld ?_
    case hy => intro w0 hSw; (try dsimp only at hSw); go_simp; (try with_reducible rfl)
    (try simp only [Act.put, List.setIfInBounds_toArray, List.set_cons_zero, List.set_cons_succ])
    refine wpAnyH_take (i := 16) (oi := { dst := some 76, op := Op.pick (Operand.tmp 61) (Operand.tmp 75) (Operand.const (Value.bool false)), type := 4, pos := "law.go:70", after := #[{ on := 1, ground := Ground.data }, { on := 15, ground := Ground.data }], guard := none }) (v := ?_) rfl (by kernel_rfl) (by kernel_rfl) (by kernel_rfl) (fun _ _ _ h => h) (Or.inl ⟨by rfl, ?hy⟩) hHeld ?_
    case hy => intro w0 hSw; (try dsimp only at hSw); go_simp; (try with_reducible rfl)
    (try simp only [Act.put, List.setIfInBounds_toArray, List.set_cons_zero, List.set_cons_succ])
    refine wpAnyH_take (i := 17) (oi := { dst := some 6, op := Op.assign (Operand.tmp 76), type := 4, pos := "law.go:70", after := #[{ on := 16, ground := Ground.data }, { on := 12, ground := Ground.chain }, { on := 0, ground := Ground.phase }, { on := 1, ground := Ground.phase }, { on := 2, ground := Ground.phase }, { on := 3, ground := Ground.phase }, { on := 4, ground := Ground.phase }, { on := 5, ground := Ground.phase }, { on := 6, ground := Ground.phase }, { on := 7, ground := Ground.phase }, { on := 8, ground := Ground.phase }, { on := 9, ground := Ground.phase }, { on := 10, ground := Ground.phase }, { on := 11, ground := Ground.phase }, { on := 12, ground := Ground.phase }, { on := 13, ground := Ground.phase }, { on := 14, ground := Ground.phase }, { on := 15, ground := Ground.phase }, { on := 16, ground := Ground.phase }], guard := none }) (v := ?_) rfl (by kernel_rfl) (by kernel_rfl) (by kernel_rfl) (fun _ _ _ h => h) (Or.inl ⟨by rfl, ?hy⟩) hHeld ?_
    case hy => intro w0 hSw; (try dsimp only at hSw); go_simp; (try with_reducible rfl)
    (try simp only [Act.put, List.setIfInBounds_toArray, List.set_cons_zero, List.set_cons_succ])
    refine wpAnyH_done (by kernel_rfl) ?_ _
    go_wp2
    go_ret
    exact ⟨rfl, hB0⟩
  · go_wp2_with fail
    refine (Less_v _ _ _ _ _ _ (by assumption)).mono ?_
    rintro x w3 ⟨rfl, hB1⟩
    replace ka := ka.below hB1
    replace kb := kb.below hB1
    replace kc := kc.below hB1
    replace hB0 := below2 hB0 hB1
    clear ka0 ka1 kb0 kb1 hB1
    have ka0 := ka.c0
    have ka1 := ka.c1
    have kb0 := kb.c0
    have kb1 := kb.c1
    go_wp2_with fail
    refine (Less_v _ _ _ _ _ _ lab).mono ?_
    rintro x w4 ⟨rfl, hB1⟩
    replace ka := ka.below hB1
    replace kb := kb.below hB1
    replace kc := kc.below hB1
    replace hB0 := below2 hB0 hB1
    clear ka0 ka1 kb0 kb1 hB1
    have ka0 := ka.c0
    have ka1 := ka.c1
    have kb0 := kb.c0
    have kb1 := kb.c1
    have kc0 := kc.c0
    have kc1 := kc.c1
    go_wp2_with fail
    refine (Less_v _ _ _ _ _ _ (by assumption)).mono ?_
    rintro x w5 ⟨rfl, hB1⟩
    replace ka := ka.below hB1
    replace kb := kb.below hB1
    replace kc := kc.below hB1
    replace hB0 := below2 hB0 hB1
    clear ka0 ka1 kb0 kb1 kc0 kc1 hB1
    have ka0 := ka.c0
    have ka1 := ka.c1
    have kb0 := kb.c0
    have kb1 := kb.c1
    go_wp2_with fail
    refine (Less_v _ _ _ _ _ _ (by assumption)).mono ?_
    rintro x w7 ⟨rfl, hB1⟩
    replace ka := ka.below hB1
    replace kb := kb.below hB1
    replace kc := kc.below hB1
    replace hB0 := below2 hB0 hB1
    clear ka0 ka1 kb0 kb1 hB1
    have ka0 := ka.c0
    have ka1 := ka.c1
    have kb0 := kb.c0
    have kb1 := kb.c1
    go_wp2_with fail
    refine (Less_v _ _ _ _ _ _ (by assumption)).mono ?_
    rintro x w8 ⟨rfl, hB1⟩
    replace ka := ka.below hB1
    replace kb := kb.below hB1
    replace kc := kc.below hB1
    replace hB0 := below2 hB0 hB1
    clear ka0 ka1 kb0 kb1 hB1
    have ka0 := ka.c0
    have ka1 := ka.c1
    have kb0 := kb.c0
    have kb1 := kb.c1
    go_wp2_with fail
    refine wp_region_held_drew (S := (fun W : World => W.cell? ⟨w.heap.size, 0, none⟩ = some (.int .i64 a0) ∧ W.cell? ⟨w.heap.size, 1, none⟩ = some (.int .i64 a1) ∧ W.cell? ⟨w.heap.size + 1, 0, none⟩ = some (.int .i64 b0) ∧ W.cell? ⟨w.heap.size + 1, 1, none⟩ = some (.int .i64 b1))) (by kernel_rfl) ⟨ka.c0, ka.c1, kb.c0, kb.c1⟩ (fun hHeld => ?_)
    refine wpAnyH_ready (rs := [0]) (by kernel_rfl) (by simp) ?_
    refine AllReadyH.cons (o := { dst := some 60, op := Op.call { callee := Callee.value (Operand.func 17), args := #[], argTypes := #[] }, type := 4, pos := "law.go:70", after := #[], guard := none }) rfl (fun K hK => ?_) AllReadyH.nil
    go_simp
    refine (spots_any _ (by first | exact HE.out.below hB0 | exact HE.out.below (below_drew hB0 1))).mono ?_
    rintro e w' ⟨rfl, hB'⟩
    replace ka : Two w' w.heap.size a0 a1 := (by first | exact ka.below hB' | exact (ka.drew).below hB')
    replace kb : Two w' (w.heap.size + 1) b0 b1 := (by first | exact kb.below hB' | exact (kb.drew).below hB')
    replace hB0 : Below w.heap.size w w' := (by first | exact below2 hB0 hB' | exact below2 (below_drew hB0 1) hB')
    clear hB'
    go_wp2_with fail
    refine hK.out _ _ ⟨ka.c0, ka.c1, kb.c0, kb.c1⟩ (fun hHeld => ?_)
    clear hK K
    (try simp only [Act.put, List.setIfInBounds_toArray, List.set_cons_zero, List.set_cons_succ])
    refine wpAnyH_take (i := 1) (oi := { dst := some 61, op := Op.move (Operand.tmp 60), type := 4, pos := "law.go:70", after := #[{ on := 0, ground := Ground.data }, { on := 0, ground := Ground.chain }], guard := none }) (v := ?_) rfl (by kernel_rfl) (by kernel_rfl) (by kernel_rfl) (fun _ _ _ h => h) (Or.inl ⟨by rfl, ?hy⟩) hHeld ?_
    case hy => intro w0 hSw; (try dsimp only at hSw); go_simp; (try with_reducible rfl)
    (try simp only [Act.put, List.setIfInBounds_toArray, List.set_cons_zero, List.set_cons_succ])
    refine wpAnyH_take (i := 2) (oi := { dst := some 62, op := Op.load 23 (Operand.tmp 3), type := 23, pos := "law.go:70", after := #[{ on := 1, ground := Ground.guard }], guard := some (1, true) }) (v := ?_) rfl (by kernel_rfl) (by kernel_rfl) (by kernel_rfl) (fun _ _ _ h => h) (Or.inl ⟨by rfl, ?hy⟩) hHeld ?_
    case hy => intro w0 hSw; (try dsimp only at hSw); go_simp; (try with_reducible rfl)
    (try simp only [Act.put, List.setIfInBounds_toArray, List.set_cons_zero, List.set_cons_succ])
    refine wpAnyH_take (i := 3) (oi := { dst := some 63, op := Op.load 23 (Operand.tmp 4), type := 23, pos := "law.go:70", after := #[{ on := 1, ground := Ground.guard }], guard := some (1, true) }) (v := ?_) rfl (by kernel_rfl) (by kernel_rfl) (by kernel_rfl) (fun _ _ _ h => h) (Or.inl ⟨by rfl, ?hy⟩) hHeld ?_
    case hy => intro w0 hSw; (try dsimp only at hSw); go_simp; (try with_reducible rfl)
    (try simp only [Act.put, List.setIfInBounds_toArray, List.set_cons_zero, List.set_cons_succ])
    refine wpAnyH_take (i := 4) (oi := { dst := some 64, op := Op.binOp BinOp.eql 23 (Operand.tmp 62) (Operand.tmp 63) 23, type := 4, pos := "law.go:70", after := #[{ on := 2, ground := Ground.data }, { on := 3, ground := Ground.data }, { on := 1, ground := Ground.guard }], guard := some (1, true) }) (v := ?_) rfl (by kernel_rfl) (by kernel_rfl) (by kernel_rfl) (fun _ _ _ h => h) (Or.inl ⟨by rfl, ?hy⟩) hHeld ?_
    case hy => intro w0 hSw; (try dsimp only at hSw); go_simp; (try with_reducible rfl)
    (try simp only [Act.put, List.setIfInBounds_toArray, List.set_cons_zero, List.set_cons_succ])
    refine wpAnyH_take (i := 5) (oi := { dst := some 65, op := Op.load 23 (Operand.tmp 3), type := 23, pos := "law.go:70", after := #[{ on := 1, ground := Ground.guard }], guard := some (1, true) }) (v := ?_) rfl (by kernel_rfl) (by kernel_rfl) (by kernel_rfl) (fun _ _ _ h => h) (Or.inl ⟨by rfl, ?hy⟩) hHeld ?_
    case hy => intro w0 hSw; (try dsimp only at hSw); go_simp; (try with_reducible rfl)
    (try simp only [Act.put, List.setIfInBounds_toArray, List.set_cons_zero, List.set_cons_succ])
    refine wpAnyH_take (i := 6) (oi := { dst := some 66, op := Op.load 23 (Operand.tmp 4), type := 23, pos := "law.go:70", after := #[{ on := 1, ground := Ground.guard }], guard := some (1, true) }) (v := ?_) rfl (by kernel_rfl) (by kernel_rfl) (by kernel_rfl) (fun _ _ _ h => h) (Or.inl ⟨by rfl, ?hy⟩) hHeld ?_
    case hy => intro w0 hSw; (try dsimp only at hSw); go_simp; (try with_reducible rfl)
    (try simp only [Act.put, List.setIfInBounds_toArray, List.set_cons_zero, List.set_cons_succ])
    refine wpAnyH_ready (rs := [7]) (by kernel_rfl) (by simp) ?_
    refine AllReadyH.cons (o := { dst := some 67, op := Op.call { callee := Callee.value (Operand.func 20), args := #[Operand.tmp 65, Operand.tmp 66], argTypes := #[23, 23] }, type := 4, pos := "law.go:70", after := #[{ on := 5, ground := Ground.data }, { on := 6, ground := Ground.data }, { on := 1, ground := Ground.chain }, { on := 1, ground := Ground.guard }], guard := some (1, true) }) rfl (fun K hK => ?_) AllReadyH.nil
    go_simp
    refine (Less_v _ _ _ _ _ _ (by assumption)).mono ?_
    rintro e w' ⟨rfl, hB'⟩
    replace ka : Two w' w.heap.size a0 a1 := (by first | exact ka.below hB' | exact (ka.drew).below hB')
    replace kb : Two w' (w.heap.size + 1) b0 b1 := (by first | exact kb.below hB' | exact (kb.drew).below hB')
    replace hB0 : Below w.heap.size w w' := (by first | exact below2 hB0 hB' | exact below2 (below_drew hB0 1) hB')
    clear hB'
    go_wp2_with fail
    refine hK.out _ _ ⟨ka.c0, ka.c1, kb.c0, kb.c1⟩ (fun hHeld => ?_)
    clear hK K
    (try simp only [Act.put, List.setIfInBounds_toArray, List.set_cons_zero, List.set_cons_succ])
    refine wpAnyH_take (i := 8) (oi := { dst := some 68, op := Op.unOp UnOp.not 4 (Operand.tmp 67), type := 4, pos := "law.go:70", after := #[{ on := 7, ground := Ground.data }, { on := 1, ground := Ground.guard }], guard := some (1, true) }) (v := ?_) rfl (by kernel_rfl) (by kernel_rfl) (by kernel_rfl) (fun _ _ _ h => h) (Or.inl ⟨by rfl, ?hy⟩) hHeld ?_
    case hy => intro w0 hSw; (try dsimp only at hSw); go_simp; (try with_reducible rfl)
    (try simp only [Act.put, List.setIfInBounds_toArray, List.set_cons_zero, List.set_cons_succ])
    refine wpAnyH_take (i := 9) (oi := { dst := some 69, op := Op.move (Operand.tmp 68), type := 4, pos := "law.go:70", after := #[{ on := 8, ground := Ground.data }, { on := 7, ground := Ground.chain }, { on := 1, ground := Ground.guard }], guard := some (1, true) }) (v := ?_) rfl (by kernel_rfl) (by kernel_rfl) (by kernel_rfl) (fun _ _ _ h => h) (Or.inl ⟨by rfl, ?hy⟩) hHeld ?_
    case hy => intro w0 hSw; (try dsimp only at hSw); go_simp; (try with_reducible rfl)
    (try simp only [Act.put, List.setIfInBounds_toArray, List.set_cons_zero, List.set_cons_succ])
    refine wpAnyH_take (i := 10) (oi := { dst := some 70, op := Op.load 23 (Operand.tmp 4), type := 23, pos := "law.go:70", after := #[{ on := 9, ground := Ground.guard }], guard := some (9, true) }) (v := undef) rfl (by kernel_rfl) (by kernel_rfl) (by kernel_rfl) (fun _ _ _ h => h) (Or.inr ⟨by rfl, rfl⟩) hHeld ?_
    (try simp only [Act.put, List.setIfInBounds_toArray, List.set_cons_zero, List.set_cons_succ])
    refine wpAnyH_take (i := 11) (oi := { dst := some 71, op := Op.load 23 (Operand.tmp 3), type := 23, pos := "law.go:70", after := #[{ on := 9, ground := Ground.guard }], guard := some (9, true) }) (v := undef) rfl (by kernel_rfl) (by kernel_rfl) (by kernel_rfl) (fun _ _ _ h => h) (Or.inr ⟨by rfl, rfl⟩) hHeld ?_
    (try simp only [Act.put, List.setIfInBounds_toArray, List.set_cons_zero, List.set_cons_succ])
    refine wpAnyH_take (i := 12) (oi := { dst := some 72, op := Op.call { callee := Callee.value (Operand.func 20), args := #[Operand.tmp 70, Operand.tmp 71], argTypes := #[23, 23] }, type := 4, pos := "law.go:70", after := #[{ on := 10, ground := Ground.data }, { on := 11, ground := Ground.data }, { on := 9, ground := Ground.chain }, { on := 9, ground := Ground.guard }], guard := some (9, true) }) (v := undef) rfl (by kernel_rfl) (by kernel_rfl) (by kernel_rfl) (fun _ _ _ h => h) (Or.inr ⟨by rfl, rfl⟩) hHeld ?_
    (try simp only [Act.put, List.setIfInBounds_toArray, List.set_cons_zero, List.set_cons_succ])
    refine wpAnyH_take (i := 13) (oi := { dst := some 73, op := Op.unOp UnOp.not 4 (Operand.tmp 72), type := 4, pos := "law.go:70", after := #[{ on := 12, ground := Ground.data }, { on := 9, ground := Ground.guard }], guard := some (9, true) }) (v := undef) rfl (by kernel_rfl) (by kernel_rfl) (by kernel_rfl) (fun _ _ _ h => h) (Or.inr ⟨by rfl, rfl⟩) hHeld ?_
    (try simp only [Act.put, List.setIfInBounds_toArray, List.set_cons_zero, List.set_cons_succ])
    refine wpAnyH_take (i := 14) (oi := { dst := some 74, op := Op.pick (Operand.tmp 69) (Operand.tmp 73) (Operand.const (Value.bool false)), type := 4, pos := "law.go:70", after := #[{ on := 9, ground := Ground.data }, { on := 13, ground := Ground.data }, { on := 1, ground := Ground.guard }], guard := some (1, true) }) (v := ?_) rfl (by kernel_rfl) (by kernel_rfl) (by kernel_rfl) (fun _ _ _ h => h) (Or.inl ⟨by rfl, ?hy⟩) hHeld ?_
    case hy => intro w0 hSw; (try dsimp only at hSw); go_simp; (try with_reducible rfl)
    (try simp only [Act.put, List.setIfInBounds_toArray, List.set_cons_zero, List.set_cons_succ])
    refine wpAnyH_take (i := 15) (oi := { dst := some 75, op := Op.binOp BinOp.eql 4 (Operand.tmp 64) (Operand.tmp 74) 4, type := 4, pos := "law.go:70", after := #[{ on := 4, ground := Ground.data }, { on := 14, ground := Ground.data }, { on := 1, ground := Ground.guard }], guard := some (1, true) }) (v := ?_) rfl (by kernel_rfl) (by kernel_rfl) (by kernel_rfl) (fun _ _ _ h => h) (Or.inl ⟨by rfl, ?hy⟩) hHeld ?_
    case hy => intro w0 hSw; (try dsimp only at hSw); go_simp; (try with_reducible rfl)
    (try simp only [Act.put, List.setIfInBounds_toArray, List.set_cons_zero, List.set_cons_succ])
    refine wpAnyH_take (i := 16) (oi := { dst := some 76, op := Op.pick (Operand.tmp 61) (Operand.tmp 75) (Operand.const (Value.bool false)), type := 4, pos := "law.go:70", after := #[{ on := 1, ground := Ground.data }, { on := 15, ground := Ground.data }], guard := none }) (v := ?_) rfl (by kernel_rfl) (by kernel_rfl) (by kernel_rfl) (fun _ _ _ h => h) (Or.inl ⟨by rfl, ?hy⟩) hHeld ?_
    case hy => intro w0 hSw; (try dsimp only at hSw); go_simp; (try with_reducible rfl)
    (try simp only [Act.put, List.setIfInBounds_toArray, List.set_cons_zero, List.set_cons_succ])
    refine wpAnyH_take (i := 17) (oi := { dst := some 6, op := Op.assign (Operand.tmp 76), type := 4, pos := "law.go:70", after := #[{ on := 16, ground := Ground.data }, { on := 12, ground := Ground.chain }, { on := 0, ground := Ground.phase }, { on := 1, ground := Ground.phase }, { on := 2, ground := Ground.phase }, { on := 3, ground := Ground.phase }, { on := 4, ground := Ground.phase }, { on := 5, ground := Ground.phase }, { on := 6, ground := Ground.phase }, { on := 7, ground := Ground.phase }, { on := 8, ground := Ground.phase }, { on := 9, ground := Ground.phase }, { on := 10, ground := Ground.phase }, { on := 11, ground := Ground.phase }, { on := 12, ground := Ground.phase }, { on := 13, ground := Ground.phase }, { on := 14, ground := Ground.phase }, { on := 15, ground := Ground.phase }, { on := 16, ground := Ground.phase }], guard := none }) (v := ?_) rfl (by kernel_rfl) (by kernel_rfl) (by kernel_rfl) (fun _ _ _ h => h) (Or.inl ⟨by rfl, ?hy⟩) hHeld ?_
    case hy => intro w0 hSw; (try dsimp only at hSw); go_simp; (try with_reducible rfl)
    (try simp only [Act.put, List.setIfInBounds_toArray, List.set_cons_zero, List.set_cons_succ])
    refine wpAnyH_done (by kernel_rfl) ?_ _
    go_wp2
    go_ret
    exact ⟨rfl, hB0⟩

end Go.Proofs.YtndpcnimebedcaaDoor
