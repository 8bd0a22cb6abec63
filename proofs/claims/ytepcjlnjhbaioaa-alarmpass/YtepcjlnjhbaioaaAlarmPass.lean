/-
  Layer 6 (alarm): the walk of the law AlarmPass.
-/
import Derived.Test.YtepcjlnjhbaioaaAlarmRung
import Derived.Deep.RegionHeld3
namespace Go.Proofs.Ytepcjlnjhbaioaa
open Go.RowKit

theorem alarmPass_skip (b c ph pr si un t t' : Int) (w : World) (h : t' < t ∨ (t ≤ t' ∧ decide (1000000000 < un) = true)) :
    Calls Try.prog 6 #[.agg #[.int .i64 b, .int .i64 c, .int .i64 ph, .int .i64 pr, .int .i64 si, .int .i64 un], .int .i64 t, .int .i64 t'] w fun e w' => e = .returned (.bool true) ∧ Below w.heap.size w w' := by
  rcases h with h | ⟨h, h'⟩
  all_goals (
    go_enter Try.func6, Try.ntmps6
    go_wp2
    go_ret
    exact ⟨rfl, below_new _ _⟩)

set_option maxRecDepth 10000 in
set_option maxHeartbeats 4000000 in
theorem alarmPass_main (b c ph pr si un t t' : Int) (w : World) (ht : t ≤ t') (hu : un ≤ 1000000000) :
    Calls Try.prog 6 #[.agg #[.int .i64 b, .int .i64 c, .int .i64 ph, .int .i64 pr, .int .i64 si, .int .i64 un], .int .i64 t, .int .i64 t'] w fun e w' => e = .returned (.bool true) ∧ Below w.heap.size w w' := by
  obtain ⟨a1, ha1⟩ : ∃ a1, a1 = Am.pass ⟨b, c, ph, pr, si, un⟩ t := ⟨_, rfl⟩
  obtain ⟨a2, ha2⟩ : ∃ a2, a2 = Am.pass ⟨b, c, ph, pr, si, un⟩ t' := ⟨_, rfl⟩
  have hk := Am.pass_keeps ⟨b, c, ph, pr, si, un⟩ t
  have e2 := Am.pass_two (a := ⟨b, c, ph, pr, si, un⟩) ht hu
  have e3 := Am.pass_again ⟨b, c, ph, pr, si, un⟩ t
  rw [← ha1] at hk e2 e3
  rw [← ha2] at e2
  have h1 := fun W => APass_any b c ph pr si un t W
  have h3 := fun W => APass_any b c ph pr si un t' W
  rw [← ha1] at h1
  rw [← ha2] at h3
  clear ha1 ha2
  obtain ⟨b1, c1, p1, r1, s1, u1⟩ := a1
  obtain ⟨b2, c2, p2, r2, s2, u2⟩ := a2
  obtain ⟨k1, k2, k3, k4, k5⟩ := hk
  simp only at k1 k2 k3 k4 k5
  subst k1 k2 k3 k4
  have h2 := fun W => APass_any b1 c1 p1 r1 s1 u1 t' W
  have h4 := fun W => APass_any b1 c1 p1 r1 s1 u1 t W
  rw [e2] at h2
  rw [e3] at h4
  simp only [sixV] at h1 h2 h3 h4
  have d1 : decide (t' < t) = false := decide_eq_false (by omega)
  have d2 : decide (1000000000 < un) = false := decide_eq_false (by omega)
  have d3 : decide (u1 < un) = false := decide_eq_false (by omega)
  clear e2 e3 k5 ht hu
  go_enter Try.func6, Try.ntmps6
  go_wp2_with fail
  refine (h1 _).mono ?_
  rintro e w1 ⟨rfl, hB1⟩
  have ka := ((Six.new w b1 c1 ph r1 s1 un 25).below hB1).alloc (.cells #[.int .i64 b1, .int .i64 c1, .int .i64 p1, .int .i64 r1, .int .i64 s1, .int .i64 u1] 25)
  have kb := Six.new w1 b1 c1 p1 r1 s1 u1 25
  have hB0 := below2 (below2 (below_new _ _) hB1) (below_new w1 (.cells #[.int .i64 b1, .int .i64 c1, .int .i64 p1, .int .i64 r1, .int .i64 s1, .int .i64 u1] 25))
  clear h1 hB1
  go_wp2_with fail
  refine (h2 _).mono ?_
  rintro e w2 ⟨rfl, hB1⟩
  replace ka := (ka.below hB1).alloc (.cells #[.int .i64 b2, .int .i64 c2, .int .i64 p2, .int .i64 r2, .int .i64 s2, .int .i64 u2] 25)
  replace kb := (kb.below hB1).alloc (.cells #[.int .i64 b2, .int .i64 c2, .int .i64 p2, .int .i64 r2, .int .i64 s2, .int .i64 u2] 25)
  have kc := Six.new w2 b2 c2 p2 r2 s2 u2 25
  replace hB0 := below2 (below2 hB0 hB1) (below_new w2 (.cells #[.int .i64 b2, .int .i64 c2, .int .i64 p2, .int .i64 r2, .int .i64 s2, .int .i64 u2] 25))
  have q0 := ka.c0
  have q1 := ka.c1
  have q2 := ka.c2
  have q3 := ka.c3
  have q4 := ka.c4
  have q5 := ka.c5
  clear h2 hB1
  go_wp2_with fail
  refine (h3 _).mono ?_
  rintro e w3 ⟨rfl, hB1⟩
  clear q0 q1 q2 q3 q4 q5 h3
  replace ka := (ka.below hB1).alloc (.cells #[.int .i64 b2, .int .i64 c2, .int .i64 p2, .int .i64 r2, .int .i64 s2, .int .i64 u2] 25)
  replace kb := (kb.below hB1).alloc (.cells #[.int .i64 b2, .int .i64 c2, .int .i64 p2, .int .i64 r2, .int .i64 s2, .int .i64 u2] 25)
  replace kc := (kc.below hB1).alloc (.cells #[.int .i64 b2, .int .i64 c2, .int .i64 p2, .int .i64 r2, .int .i64 s2, .int .i64 u2] 25)
  have kd := Six.new w3 b2 c2 p2 r2 s2 u2 25
  replace hB0 := below2 (below2 hB0 hB1) (below_new w3 (.cells #[.int .i64 b2, .int .i64 c2, .int .i64 p2, .int .i64 r2, .int .i64 s2, .int .i64 u2] 25))
  have q0 := ka.c0
  have q1 := ka.c1
  have q3 := ka.c3
  have q4 := ka.c4
  have q5 := ka.c5
  have v0 := kb.c0
  have v1 := kb.c1
  have v3 := kb.c3
  have v4 := kb.c4
  have v5 := kb.c5
  clear hB1 ka
  go_wp2_with fail
  clear q0 q1 q3 q4 q5 v0 v1 v3 v4 v5
  refine wp_region_held_drew (S := (fun W : World => Six W w1.heap.size ⟨b1, c1, p1, r1, s1, u1⟩ ∧ Six W w2.heap.size ⟨b2, c2, p2, r2, s2, u2⟩ ∧ Six W w3.heap.size ⟨b2, c2, p2, r2, s2, u2⟩)) (by kernel_rfl) ⟨⟨kb.blk⟩, ⟨kc.blk⟩, ⟨kd.blk⟩⟩ (fun hHeld => ?_)
  refine wpAnyH_ready (rs := [0]) (by kernel_rfl) (by simp) ?_
  refine AllReadyH.cons (o := { dst := some 57, op := Op.call { callee := Callee.value (Operand.func 13), args := #[], argTypes := #[] }, type := 4, pos := _, after := #[], guard := none }) rfl (fun K hK => ?_) AllReadyH.nil
  go_simp
  refine (rung_any _).mono ?_
  rintro e w' ⟨rfl, hB'⟩
  replace kb := kb.below (by first | exact below_undrew hB' | exact hB')
  replace kc := kc.below (by first | exact below_undrew hB' | exact hB')
  replace kd := kd.below (by first | exact below_undrew hB' | exact hB')
  replace hB0 := below2 hB0 (by first | exact below_undrew hB' | exact hB')
  clear hB'
  go_wp2_with fail
  refine hK.out _ _ ⟨⟨kb.blk⟩, ⟨kc.blk⟩, ⟨kd.blk⟩⟩ (fun hHeld => ?_)
  clear hK K
  (try simp only [Act.put, List.setIfInBounds_toArray, List.set_cons_zero, List.set_cons_succ])
  refine wpAnyH_take (i := 1) (oi := { dst := some 58, op := Op.move (Operand.tmp 57), type := 4, pos := _, after := #[{ on := 0, ground := Ground.data }, { on := 0, ground := Ground.chain }], guard := none }) (v := ?_) rfl (by kernel_rfl) (by kernel_rfl) (by kernel_rfl) (fun _ _ _ h => h) (Or.inl ⟨by rfl, ?hy⟩) hHeld ?_
  case hy => intro w0 hSw; (try dsimp only at hSw); go_simp; (try with_reducible rfl)
  (try simp only [Act.put, List.setIfInBounds_toArray, List.set_cons_zero, List.set_cons_succ])
  refine wpAnyH_take (i := 2) (oi := { dst := some 59, op := Op.load 25 (Operand.tmp 8), type := 25, pos := _, after := #[{ on := 1, ground := Ground.guard }], guard := some (1, true) }) (v := ?_) rfl (by kernel_rfl) (by kernel_rfl) (by kernel_rfl) (fun _ _ _ h => h) (Or.inl ⟨by rfl, ?hy⟩) hHeld ?_
  case hy => (intro w0 hSw; refine exec_load_six (Operand.tmp 8) ?_ ?_ hSw.2.1 <;> rfl)
  (try simp only [Act.put, List.setIfInBounds_toArray, List.set_cons_zero, List.set_cons_succ])
  refine wpAnyH_take (i := 3) (oi := { dst := some 60, op := Op.load 25 (Operand.tmp 9), type := 25, pos := _, after := #[{ on := 1, ground := Ground.guard }], guard := some (1, true) }) (v := ?_) rfl (by kernel_rfl) (by kernel_rfl) (by kernel_rfl) (fun _ _ _ h => h) (Or.inl ⟨by rfl, ?hy⟩) hHeld ?_
  case hy => (intro w0 hSw; refine exec_load_six (Operand.tmp 9) ?_ ?_ hSw.2.2 <;> rfl)
  (try simp only [Act.put, List.setIfInBounds_toArray, List.set_cons_zero, List.set_cons_succ])
  refine wpAnyH_take (i := 4) (oi := { dst := some 61, op := Op.binOp BinOp.eql 25 (Operand.tmp 59) (Operand.tmp 60) 25, type := 4, pos := _, after := #[{ on := 2, ground := Ground.data }, { on := 3, ground := Ground.data }, { on := 1, ground := Ground.guard }], guard := some (1, true) }) (v := ?_) rfl (by kernel_rfl) (by kernel_rfl) (by kernel_rfl) (fun _ _ _ h => h) (Or.inl ⟨by rfl, ?hy⟩) hHeld ?_
  case hy => intro w0 hSw; (try dsimp only at hSw); go_simp; (try with_reducible rfl)
  (try simp only [Act.put, List.setIfInBounds_toArray, List.set_cons_zero, List.set_cons_succ])
  refine wpAnyH_take (i := 5) (oi := { dst := some 62, op := Op.pick (Operand.tmp 58) (Operand.tmp 61) (Operand.const (Value.bool false)), type := 4, pos := _, after := #[{ on := 1, ground := Ground.data }, { on := 4, ground := Ground.data }], guard := none }) (v := ?_) rfl (by kernel_rfl) (by kernel_rfl) (by kernel_rfl) (fun _ _ _ h => h) (Or.inl ⟨by rfl, ?hy⟩) hHeld ?_
  case hy => intro w0 hSw; (try dsimp only at hSw); go_simp; (try with_reducible rfl)
  (try simp only [Act.put, List.setIfInBounds_toArray, List.set_cons_zero, List.set_cons_succ])
  refine wpAnyH_take (i := 6) (oi := { dst := some 63, op := Op.move (Operand.tmp 62), type := 4, pos := _, after := #[{ on := 5, ground := Ground.data }, { on := 1, ground := Ground.chain }], guard := none }) (v := ?_) rfl (by kernel_rfl) (by kernel_rfl) (by kernel_rfl) (fun _ _ _ h => h) (Or.inl ⟨by rfl, ?hy⟩) hHeld ?_
  case hy => intro w0 hSw; (try dsimp only at hSw); go_simp; (try with_reducible rfl)
  (try simp only [Act.put, List.setIfInBounds_toArray, List.set_cons_zero, List.set_cons_succ])
  refine wpAnyH_take (i := 7) (oi := { dst := some 64, op := Op.load 25 (Operand.tmp 7), type := 25, pos := _, after := #[{ on := 6, ground := Ground.guard }], guard := some (6, true) }) (v := ?_) rfl (by kernel_rfl) (by kernel_rfl) (by kernel_rfl) (fun _ _ _ h => h) (Or.inl ⟨by rfl, ?hy⟩) hHeld ?_
  case hy => (intro w0 hSw; refine exec_load_six (Operand.tmp 7) ?_ ?_ hSw.1 <;> rfl)
  (try simp only [Act.put, List.setIfInBounds_toArray, List.set_cons_zero, List.set_cons_succ])
  refine wpAnyH_take (i := 8) (oi := { dst := some 65, op := Op.move (Operand.tmp 1), type := 3, pos := _, after := #[{ on := 6, ground := Ground.guard }], guard := some (6, true) }) (v := ?_) rfl (by kernel_rfl) (by kernel_rfl) (by kernel_rfl) (fun _ _ _ h => h) (Or.inl ⟨by rfl, ?hy⟩) hHeld ?_
  case hy => intro w0 hSw; (try dsimp only at hSw); go_simp; (try with_reducible rfl)
  (try simp only [Act.put, List.setIfInBounds_toArray, List.set_cons_zero, List.set_cons_succ])
  refine wpAnyH_take (i := 10) (oi := { dst := some 67, op := Op.load 25 (Operand.tmp 7), type := 25, pos := _, after := #[{ on := 6, ground := Ground.guard }], guard := some (6, true) }) (v := ?_) rfl (by kernel_rfl) (by kernel_rfl) (by kernel_rfl) (fun _ _ _ h => h) (Or.inl ⟨by rfl, ?hy⟩) hHeld ?_
  case hy => (intro w0 hSw; refine exec_load_six (Operand.tmp 7) ?_ ?_ hSw.1 <;> rfl)
  (try simp only [Act.put, List.setIfInBounds_toArray, List.set_cons_zero, List.set_cons_succ])
  refine wpAnyH_ready (rs := [9]) (by kernel_rfl) (by simp) ?_
  refine AllReadyH.cons (o := { dst := some 66, op := Op.call { callee := Callee.value (Operand.func 20), args := #[Operand.tmp 64, Operand.tmp 65], argTypes := #[25, 3] }, type := 25, pos := _, after := #[{ on := 7, ground := Ground.data }, { on := 8, ground := Ground.data }, { on := 6, ground := Ground.chain }, { on := 6, ground := Ground.guard }], guard := some (6, true) }) rfl (fun K hK => ?_) AllReadyH.nil
  go_simp
  refine (h4 _).mono ?_
  rintro e w' ⟨rfl, hB'⟩
  replace kb := kb.below (by first | exact below_undrew hB' | exact hB')
  replace kc := kc.below (by first | exact below_undrew hB' | exact hB')
  replace kd := kd.below (by first | exact below_undrew hB' | exact hB')
  replace hB0 := below2 hB0 (by first | exact below_undrew hB' | exact hB')
  clear hB'
  go_wp2_with fail
  refine hK.out _ _ ⟨⟨kb.blk⟩, ⟨kc.blk⟩, ⟨kd.blk⟩⟩ (fun hHeld => ?_)
  clear hK K
  (try simp only [Act.put, List.setIfInBounds_toArray, List.set_cons_zero, List.set_cons_succ])
  refine wpAnyH_take (i := 11) (oi := { dst := some 68, op := Op.binOp BinOp.eql 25 (Operand.tmp 66) (Operand.tmp 67) 25, type := 4, pos := _, after := #[{ on := 9, ground := Ground.data }, { on := 10, ground := Ground.data }, { on := 6, ground := Ground.guard }], guard := some (6, true) }) (v := ?_) rfl (by kernel_rfl) (by kernel_rfl) (by kernel_rfl) (fun _ _ _ h => h) (Or.inl ⟨by rfl, ?hy⟩) hHeld ?_
  case hy => intro w0 hSw; (try dsimp only at hSw); go_simp; (try with_reducible rfl)
  (try simp only [Act.put, List.setIfInBounds_toArray, List.set_cons_zero, List.set_cons_succ])
  refine wpAnyH_take (i := 12) (oi := { dst := some 69, op := Op.pick (Operand.tmp 63) (Operand.tmp 68) (Operand.const (Value.bool false)), type := 4, pos := _, after := #[{ on := 6, ground := Ground.data }, { on := 11, ground := Ground.data }], guard := none }) (v := ?_) rfl (by kernel_rfl) (by kernel_rfl) (by kernel_rfl) (fun _ _ _ h => h) (Or.inl ⟨by rfl, ?hy⟩) hHeld ?_
  case hy => intro w0 hSw; (try dsimp only at hSw); go_simp; (try with_reducible rfl)
  (try simp only [Act.put, List.setIfInBounds_toArray, List.set_cons_zero, List.set_cons_succ])
  refine wpAnyH_take (i := 13) (oi := { dst := some 6, op := Op.assign (Operand.tmp 69), type := 4, pos := _, after := #[{ on := 12, ground := Ground.data }, { on := 9, ground := Ground.chain }, { on := 0, ground := Ground.phase }, { on := 1, ground := Ground.phase }, { on := 2, ground := Ground.phase }, { on := 3, ground := Ground.phase }, { on := 4, ground := Ground.phase }, { on := 5, ground := Ground.phase }, { on := 6, ground := Ground.phase }, { on := 7, ground := Ground.phase }, { on := 8, ground := Ground.phase }, { on := 9, ground := Ground.phase }, { on := 10, ground := Ground.phase }, { on := 11, ground := Ground.phase }, { on := 12, ground := Ground.phase }], guard := none }) (v := ?_) rfl (by kernel_rfl) (by kernel_rfl) (by kernel_rfl) (fun _ _ _ h => h) (Or.inl ⟨by rfl, ?hy⟩) hHeld ?_
  case hy => intro w0 hSw; (try dsimp only at hSw); go_simp; (try with_reducible rfl)
  (try simp only [Act.put, List.setIfInBounds_toArray, List.set_cons_zero, List.set_cons_succ])
  refine wpAnyH_done (by kernel_rfl) ?_ _
  clear hHeld
  have HB := Lib.hid hB0
  clear kb kc kd hB0
  go_wp2
  go_ret
  exact ⟨rfl, HB.out⟩

theorem alarmPass_walk (b c ph pr si un t t' : Int) (w : World) :
    Calls Try.prog 6 #[.agg #[.int .i64 b, .int .i64 c, .int .i64 ph, .int .i64 pr, .int .i64 si, .int .i64 un], .int .i64 t, .int .i64 t'] w fun e w' => e = .returned (.bool true) ∧ Below w.heap.size w w' := by
  by_cases h : t' < t
  · exact alarmPass_skip b c ph pr si un t t' w (Or.inl h)
  · by_cases h' : 1000000000 < un
    · exact alarmPass_skip b c ph pr si un t t' w (Or.inr ⟨by omega, decide_eq_true h'⟩)
    · exact alarmPass_main b c ph pr si un t t' w (by omega) (by omega)
end Go.Proofs.Ytepcjlnjhbaioaa
