/-
  Layer 6 (alarm): the walk of wake.
-/
import Derived.Test.YthlojadkgpmnmaaAlarmMeth
import Derived.Deep.RegionHeld3
namespace Go.Proofs.Ythlojadkgpmnmaa
open Go.RowKit

theorem exec_load_sixT {o : Oper} {a : Act} {w : World} (ty : TypeId) (x : Operand) (ho : o.op = .load ty x) {k : Nat} {al : Alm} (hx : a.eval x = .pointer (some ⟨k, 0, none⟩)) (h : Six w k al) (d : TypeDesc)
    (hu : Try.prog.underlying ty = some d) (hd : (match d with | .struct _ | .array _ _ => true | _ => false) = true) (hi : (Try.prog.info? ty).map (·.size) = some 6) :
    (execOp a.eval o).run Try.prog w = .ok (.value (.agg (sixV al))) w := by
  obtain ⟨t, hb⟩ := h.blk
  have hl := run_loadVar_row (P := Try.prog) w k t ty (sixV al) (0, 0) d hb hu (by cases d <;> first | rfl | exact hd) (by rw [hi]; rfl)
  unfold execOp
  simp only [ho, hx, Instr.loadAt, Instr.sureAddr, Sem.run_bind, Sem.run_pure, Result.andThen_ok, hl]
theorem wp_store_six {P : Program} {o : Oper} {a : Act} {w : World} {K : Act → World → Prop} {Q : Exit → Act → World → Prop} (ty : TypeId) (x y : Operand) (ho : o.op = .store ty x y)
    (g : Nat) (al al' : Alm) (hx : a.eval x = .pointer (some ⟨g, 0, none⟩)) (hy : a.eval y = .agg (sixV al')) (h6 : Six w g al) (hi : (P.info? ty).map (·.size) = some 6)
    (h : ∀ w', w' = w.setRow g (sixV al') → K (a.put o.dst undef) w') : o.wp P a w K Q := by
  obtain ⟨t, hb⟩ := h6.blk
  exact wp_store_row ty x y ho g (sixV al') hx hy t _ hb hi rfl (six_one _) (h _ rfl)

set_option maxRecDepth 10000 in
set_option maxHeartbeats 4000000 in
theorem wake_any (b c ph pr si un t l : Int) (w : World) (Iw : Hid (IntKind.i64.wrap (t + Am.wait pr) = t + Am.wait pr)) :
    Calls Try.prog 48 #[.agg #[.int .i64 b, .int .i64 c, .int .i64 ph, .int .i64 pr, .int .i64 si, .int .i64 un], .int .i64 t, .int .i64 l] w fun e w' => e = .returned (.tuple #[.agg (sixV (Am.inA ⟨b, c, ph, pr, si, un⟩ 6 t (t + Am.wait pr))), .int .i64 (Am.inE ⟨b, c, ph, pr, si, un⟩ 6 t)]) ∧ Below w.heap.size w w' := by
  have g1 := fun W => inTime_any b c ph pr si un 6 t (t + Am.wait pr) W
  have g2 := fun W => AWait_any0 pr W
  obtain ⟨X, hX⟩ : ∃ X, X = Am.inA ⟨b, c, ph, pr, si, un⟩ 6 t (t + Am.wait pr) := ⟨_, rfl⟩
  obtain ⟨Y, hY⟩ : ∃ Y, Y = Am.inE ⟨b, c, ph, pr, si, un⟩ 6 t := ⟨_, rfl⟩
  rw [← hX, ← hY] at g1 ⊢
  clear hX hY
  obtain ⟨x, hx⟩ : ∃ x, x = Am.wait pr := ⟨_, rfl⟩
  rw [← hx] at g1 g2 Iw
  clear hx
  have ka := (Six.new w b c ph pr si un 70).alloc (.cells #[.int .i64 0, .int .i64 0, .int .i64 0, .int .i64 0, .int .i64 0, .int .i64 0] 28)
  have kz := Six.new1 w (.cells #[.int .i64 b, .int .i64 c, .int .i64 ph, .int .i64 pr, .int .i64 si, .int .i64 un] 70) 0 0 0 0 0 0 28
  have hB0 := below_new2 w (.cells #[.int .i64 b, .int .i64 c, .int .i64 ph, .int .i64 pr, .int .i64 si, .int .i64 un] 70) (.cells #[.int .i64 0, .int .i64 0, .int .i64 0, .int .i64 0, .int .i64 0, .int .i64 0] 28)
  go_enter Try.func48, Try.ntmps48
  go_wp2_with fail
  refine wp_region_held_drew (S := (fun W : World => Six W w.heap.size ⟨b, c, ph, pr, si, un⟩)) (by kernel_rfl) (by first | exact ka | exact ⟨ka.blk⟩) (fun hHeld => ?_)
  refine wpAnyH_take (i := 0) (oi := { dst := some 8, op := Op.load 70 (Operand.tmp 3), type := 70, pos := _, after := #[], guard := none }) (v := ?_) rfl (by kernel_rfl) (by kernel_rfl) (by kernel_rfl) (fun _ _ _ h => h) (Or.inl ⟨by rfl, ?hy⟩) hHeld ?_
  case hy => (intro w0 hSw; refine exec_load_sixT 70 (Operand.tmp 3) ?_ ?_ hSw _ Try.underlying70 rfl (by rfl) <;> rfl)
  (try simp only [Act.put, List.setIfInBounds_toArray, List.set_cons_zero, List.set_cons_succ])
  refine wpAnyH_take (i := 1) (oi := { dst := some 9, op := Op.move (Operand.tmp 1), type := 3, pos := _, after := #[], guard := none }) (v := ?_) rfl (by kernel_rfl) (by kernel_rfl) (by kernel_rfl) (fun _ _ _ h => h) (Or.inl ⟨by rfl, ?hy⟩) hHeld ?_
  case hy => intro w0 hSw; (try dsimp only at hSw); go_simp; (try with_reducible rfl)
  (try simp only [Act.put, List.setIfInBounds_toArray, List.set_cons_zero, List.set_cons_succ])
  refine wpAnyH_take (i := 2) (oi := { dst := some 10, op := Op.move (Operand.tmp 1), type := 3, pos := _, after := #[], guard := none }) (v := ?_) rfl (by kernel_rfl) (by kernel_rfl) (by kernel_rfl) (fun _ _ _ h => h) (Or.inl ⟨by rfl, ?hy⟩) hHeld ?_
  case hy => intro w0 hSw; (try dsimp only at hSw); go_simp; (try with_reducible rfl)
  (try simp only [Act.put, List.setIfInBounds_toArray, List.set_cons_zero, List.set_cons_succ])
  refine wpAnyH_take (i := 3) (oi := { dst := some 11, op := Op.fieldAddr 70 (Operand.tmp 3) 0, type := 0, pos := _, after := #[], guard := none }) (v := ?_) rfl (by kernel_rfl) (by kernel_rfl) (by kernel_rfl) (fun _ _ _ h => h) (Or.inl ⟨by rfl, ?hy⟩) hHeld ?_
  case hy => intro w0 hSw; (try dsimp only at hSw); go_simp; (try with_reducible rfl)
  (try simp only [Act.put, List.setIfInBounds_toArray, List.set_cons_zero, List.set_cons_succ])
  refine wpAnyH_take (i := 4) (oi := { dst := some 12, op := Op.fieldAddr 28 (Operand.tmp 11) 2, type := 0, pos := _, after := #[{ on := 3, ground := Ground.data }], guard := none }) (v := ?_) rfl (by kernel_rfl) (by kernel_rfl) (by kernel_rfl) (fun _ _ _ h => h) (Or.inl ⟨by rfl, ?hy⟩) hHeld ?_
  case hy => intro w0 hSw; (try dsimp only at hSw); go_simp; (try with_reducible rfl)
  (try simp only [Act.put, List.setIfInBounds_toArray, List.set_cons_zero, List.set_cons_succ])
  refine wpAnyH_take (i := 5) (oi := { dst := some 13, op := Op.load 3 (Operand.tmp 12), type := 3, pos := _, after := #[{ on := 4, ground := Ground.data }], guard := none }) (v := ?_) rfl (by kernel_rfl) (by kernel_rfl) (by kernel_rfl) (fun _ _ _ h => h) (Or.inl ⟨by rfl, ?hy⟩) hHeld ?_
  case hy => intro w0 hSw; have q3 := hSw.c3; (try dsimp only at q3); go_simp; (try with_reducible rfl)
  (try simp only [Act.put, List.setIfInBounds_toArray, List.set_cons_zero, List.set_cons_succ])
  refine wpAnyH_ready (rs := [6]) (by kernel_rfl) (by simp) ?_
  refine AllReadyH.cons (o := { dst := some 14, op := Op.call { callee := Callee.value (Operand.func 59), args := #[Operand.tmp 13], argTypes := #[3] }, type := 3, pos := _, after := #[{ on := 5, ground := Ground.data }], guard := none }) rfl (fun K hK => ?_) AllReadyH.nil
  go_simp
  refine (g2 _).mono ?_
  rintro e w1 ⟨rfl, hw1⟩
  replace ka : Six w1 w.heap.size ⟨b, c, ph, pr, si, un⟩ := by rw [hw1]; exact ⟨ka.blk⟩
  replace kz : Six w1 (w.heap.size + 1) ⟨0, 0, 0, 0, 0, 0⟩ := by rw [hw1]; exact ⟨kz.blk⟩
  replace hB0 : Below w.heap.size w w1 := by rw [hw1]; exact below2 hB0 ⟨rfl, rfl, rfl, Nat.le_refl _, fun _ _ => rfl⟩
  clear hw1 g2
  go_wp2_with fail
  refine hK.out _ _ (by first | exact ka | exact ⟨ka.blk⟩) (fun hHeld => ?_)
  clear hK K
  (try simp only [Act.put, List.setIfInBounds_toArray, List.set_cons_zero, List.set_cons_succ])
  refine wpAnyH_take (i := 7) (oi := { dst := some 15, op := Op.binOp BinOp.add 3 (Operand.tmp 10) (Operand.tmp 14) 3, type := 3, pos := _, after := #[{ on := 2, ground := Ground.data }, { on := 6, ground := Ground.data }], guard := none }) (v := ?_) rfl (by kernel_rfl) (by kernel_rfl) (by kernel_rfl) (fun _ _ _ h => h) (Or.inl ⟨by rfl, ?hy⟩) hHeld ?_
  case hy => intro w0 hSw; go_simp; rw [Iw.out]; (try with_reducible rfl)
  (try simp only [Act.put, List.setIfInBounds_toArray, List.set_cons_zero, List.set_cons_succ])
  refine wpAnyH_ready (rs := [8]) (by kernel_rfl) (by simp) ?_
  refine AllReadyH.cons (o := { dst := some 16, op := Op.call { callee := Callee.value (Operand.func 60), args := #[Operand.tmp 8, Operand.const (Value.int IntKind.i64 6), Operand.tmp 9, Operand.tmp 15], argTypes := #[70, 3, 3, 3] }, type := 67, pos := _, after := #[{ on := 0, ground := Ground.data }, { on := 1, ground := Ground.data }, { on := 7, ground := Ground.data }, { on := 6, ground := Ground.chain }], guard := none }) rfl (fun K hK => ?_) AllReadyH.nil
  go_simp
  refine (g1 _).mono ?_
  rintro e w2 ⟨rfl, hB'⟩
  replace ka := ka.below hB'
  replace kz := kz.below hB'
  replace hB0 := below2 hB0 hB'
  clear hB' g1
  go_wp2_with fail
  refine hK.out _ _ (by first | exact ka | exact ⟨ka.blk⟩) (fun hHeld => ?_)
  clear hK K
  (try simp only [Act.put, List.setIfInBounds_toArray, List.set_cons_zero, List.set_cons_succ])
  refine wpAnyH_take (i := 9) (oi := { dst := some 17, op := Op.extract (Operand.tmp 16) 0, type := 28, pos := _, after := #[{ on := 8, ground := Ground.data }], guard := none }) (v := ?_) rfl (by kernel_rfl) (by kernel_rfl) (by kernel_rfl) (fun _ _ _ h => h) (Or.inl ⟨by rfl, ?hy⟩) hHeld ?_
  case hy => intro w0 hSw; (try dsimp only at hSw); go_simp; (try with_reducible rfl)
  (try simp only [Act.put, List.setIfInBounds_toArray, List.set_cons_zero, List.set_cons_succ])
  refine wpAnyH_take (i := 10) (oi := { dst := some 18, op := Op.extract (Operand.tmp 16) 1, type := 32, pos := _, after := #[{ on := 8, ground := Ground.data }], guard := none }) (v := ?_) rfl (by kernel_rfl) (by kernel_rfl) (by kernel_rfl) (fun _ _ _ h => h) (Or.inl ⟨by rfl, ?hy⟩) hHeld ?_
  case hy => intro w0 hSw; (try dsimp only at hSw); go_simp; (try with_reducible rfl)
  (try simp only [Act.put, List.setIfInBounds_toArray, List.set_cons_zero, List.set_cons_succ])
  refine wpAnyH_ready (rs := [11]) (by kernel_rfl) (by simp) ?_
  refine AllReadyH.cons (o := { dst := none, op := Op.store 28 (Operand.tmp 6) (Operand.tmp 17), type := 0, pos := _, after := #[{ on := 9, ground := Ground.data }, { on := 8, ground := Ground.chain }, { on := 0, ground := Ground.phase }, { on := 1, ground := Ground.phase }, { on := 2, ground := Ground.phase }, { on := 3, ground := Ground.phase }, { on := 4, ground := Ground.phase }, { on := 5, ground := Ground.phase }, { on := 6, ground := Ground.phase }, { on := 7, ground := Ground.phase }, { on := 8, ground := Ground.phase }, { on := 9, ground := Ground.phase }, { on := 10, ground := Ground.phase }], guard := none }) rfl (fun K hK => ?_) AllReadyH.nil
  rw [if_pos (by rfl)]
  refine wp_store_six 28 _ _ rfl (w.heap.size + 1) _ X rfl rfl kz (by rfl) ?_
  intro w3 hw3
  replace ka := ka.put6O (by omega) hw3
  replace kz := kz.put6 hw3
  replace hB0 := below_put6 hB0 (by omega) hw3
  clear hw3
  refine hK.out _ _ (by first | exact ka | exact ⟨ka.blk⟩) (fun hHeld => ?_)
  clear hK K
  (try simp only [Act.put])
  refine wpAnyH_take (i := 12) (oi := { dst := some 7, op := Op.assign (Operand.tmp 18), type := 32, pos := _, after := #[{ on := 10, ground := Ground.data }, { on := 11, ground := Ground.chain }, { on := 0, ground := Ground.phase }, { on := 1, ground := Ground.phase }, { on := 2, ground := Ground.phase }, { on := 3, ground := Ground.phase }, { on := 4, ground := Ground.phase }, { on := 5, ground := Ground.phase }, { on := 6, ground := Ground.phase }, { on := 7, ground := Ground.phase }, { on := 8, ground := Ground.phase }, { on := 9, ground := Ground.phase }, { on := 10, ground := Ground.phase }, { on := 11, ground := Ground.phase }], guard := none }) (v := ?_) rfl (by kernel_rfl) (by kernel_rfl) (by kernel_rfl) (fun _ _ _ h => h) (Or.inl ⟨by rfl, ?hy⟩) hHeld ?_
  case hy => intro w0 hSw; (try dsimp only at hSw); go_simp; (try with_reducible rfl)
  (try simp only [Act.put, List.setIfInBounds_toArray, List.set_cons_zero, List.set_cons_succ])
  refine wpAnyH_done (by kernel_rfl) ?_ _
  clear hHeld
  have K3 := Lib.hid kz
  have HB := Lib.hid hB0
  clear ka kz hB0
  go_wp2
  (try simp only [Exit.inBlock, Exit.then]); refine bodyPost_ret (ret_alarm (a := X) rfl rfl K3.out) rfl ?_
  exact ⟨rfl, HB.out⟩
end Go.Proofs.Ythlojadkgpmnmaa
