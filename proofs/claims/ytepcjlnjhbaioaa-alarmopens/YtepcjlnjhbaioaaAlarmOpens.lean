/-
  Layer 6 (alarm): the walk of the law AlarmOpens.
-/
import Derived.Test.YtepcjlnjhbaioaaAlarmRung
import Derived.Deep.RegionHeld3
namespace Go.Proofs.Ytepcjlnjhbaioaa
open Go.RowKit

set_option maxRecDepth 10000 in
set_option maxHeartbeats 4000000 in
theorem alarmOpens_walk (sb sc b c ph pr si un p t : Int) (w : World) :
    Calls Try.prog 3 #[.agg #[.int .i64 sb, .int .i64 sc], .agg #[.int .i64 b, .int .i64 c, .int .i64 ph, .int .i64 pr, .int .i64 si, .int .i64 un], .int .i64 p, .int .i64 t] w fun e w' => e = .returned (.bool true) ∧ Below w.heap.size w w' := by
  have h1 := fun W => AOpen_any sb sc p t W
  have h2 := fun W => ROpen_any sb sc p t W
  have h3 := fun W => ARaise_any b c ph pr si un p t W
  have h4 := fun W => RRaise_any b c ph pr si un p t W
  have h5 := fun W => AIs_any b c ph pr si un W
  have h6 := fun W => RAIs_any b c ph pr si un W
  have h7 := fun W => AWait_any p W
  have h8 := fun W => RWait_any p W
  obtain ⟨a1, ha1⟩ : ∃ a1, a1 = Am.opn sb sc p t := ⟨_, rfl⟩
  obtain ⟨e1, he1⟩ : ∃ e1, e1 = Am.openE sb sc p t := ⟨_, rfl⟩
  obtain ⟨a2, ha2⟩ : ∃ a2, a2 = Am.raise ⟨b, c, ph, pr, si, un⟩ p t := ⟨_, rfl⟩
  obtain ⟨e2, he2⟩ : ∃ e2, e2 = Am.raiseE ⟨b, c, ph, pr, si, un⟩ p t := ⟨_, rfl⟩
  obtain ⟨rt, hrt⟩ : ∃ rt, rt = Am.right ⟨b, c, ph, pr, si, un⟩ := ⟨_, rfl⟩
  obtain ⟨wt, hwt⟩ : ∃ wt, wt = Am.wait p := ⟨_, rfl⟩
  rw [← ha1, ← he1] at h1 h2
  rw [← ha2, ← he2] at h3 h4
  rw [← hrt] at h5 h6
  rw [← hwt] at h7 h8
  clear ha1 he1 ha2 he2 hrt hwt
  obtain ⟨b1, c1, p1, r1, s1, u1⟩ := a1
  obtain ⟨b2, c2, p2, r2, s2, u2⟩ := a2
  simp only [sixV] at h1 h2 h3 h4
  go_enter Try.func3, Try.ntmps3
  have ks := (Two.new w sb sc 23).alloc (.cells #[.int .i64 b, .int .i64 c, .int .i64 ph, .int .i64 pr, .int .i64 si, .int .i64 un] 25)
  have ka := Six.new1 w (.cells #[.int .i64 sb, .int .i64 sc] 23) b c ph pr si un 25
  have hB0 := below_new2 w (.cells #[.int .i64 sb, .int .i64 sc] 23) (.cells #[.int .i64 b, .int .i64 c, .int .i64 ph, .int .i64 pr, .int .i64 si, .int .i64 un] 25)
  go_wp2_with fail
  refine (h1 _).mono ?_
  rintro e w1 ⟨rfl, hB1⟩
  replace ks := (ks.below hB1).alloc (.cells #[.int .i64 b1, .int .i64 c1, .int .i64 p1, .int .i64 r1, .int .i64 s1, .int .i64 u1] 25)
  replace ka := (ka.below hB1).alloc (.cells #[.int .i64 b1, .int .i64 c1, .int .i64 p1, .int .i64 r1, .int .i64 s1, .int .i64 u1] 25)
  have kb := Six.new w1 b1 c1 p1 r1 s1 u1 25
  replace hB0 := below2 (below2 hB0 hB1) (below_new w1 (.cells #[.int .i64 b1, .int .i64 c1, .int .i64 p1, .int .i64 r1, .int .i64 s1, .int .i64 u1] 25))
  clear h1 hB1
  have q0 := ks.c0
  have q1 := ks.c1
  go_wp2_with fail
  refine (h2 _).mono ?_
  rintro e w2 ⟨rfl, hB1⟩
  clear q0 q1
  replace ks := (ks.below hB1).alloc (.cells #[.int .i64 b1, .int .i64 c1, .int .i64 p1, .int .i64 r1, .int .i64 s1, .int .i64 u1] 25)
  replace ka := (ka.below hB1).alloc (.cells #[.int .i64 b1, .int .i64 c1, .int .i64 p1, .int .i64 r1, .int .i64 s1, .int .i64 u1] 25)
  replace kb := (kb.below hB1).alloc (.cells #[.int .i64 b1, .int .i64 c1, .int .i64 p1, .int .i64 r1, .int .i64 s1, .int .i64 u1] 25)
  have kc := Six.new w2 b1 c1 p1 r1 s1 u1 25
  replace hB0 := below2 (below2 hB0 hB1) (below_new w2 (.cells #[.int .i64 b1, .int .i64 c1, .int .i64 p1, .int .i64 r1, .int .i64 s1, .int .i64 u1] 25))
  clear h2 hB1
  have q0 := ka.c0
  have q1 := ka.c1
  have q2 := ka.c2
  have q3 := ka.c3
  have q4 := ka.c4
  have q5 := ka.c5
  go_wp2_with fail
  refine (h3 _).mono ?_
  rintro e w3 ⟨rfl, hB1⟩
  clear q0 q1 q2 q3 q4 q5
  replace ks := (ks.below hB1).alloc (.cells #[.int .i64 b2, .int .i64 c2, .int .i64 p2, .int .i64 r2, .int .i64 s2, .int .i64 u2] 25)
  replace ka := (ka.below hB1).alloc (.cells #[.int .i64 b2, .int .i64 c2, .int .i64 p2, .int .i64 r2, .int .i64 s2, .int .i64 u2] 25)
  replace kb := (kb.below hB1).alloc (.cells #[.int .i64 b2, .int .i64 c2, .int .i64 p2, .int .i64 r2, .int .i64 s2, .int .i64 u2] 25)
  replace kc := (kc.below hB1).alloc (.cells #[.int .i64 b2, .int .i64 c2, .int .i64 p2, .int .i64 r2, .int .i64 s2, .int .i64 u2] 25)
  have kd := Six.new w3 b2 c2 p2 r2 s2 u2 25
  replace hB0 := below2 (below2 hB0 hB1) (below_new w3 (.cells #[.int .i64 b2, .int .i64 c2, .int .i64 p2, .int .i64 r2, .int .i64 s2, .int .i64 u2] 25))
  clear h3 hB1
  have q0 := ka.c0
  have q1 := ka.c1
  have q2 := ka.c2
  have q3 := ka.c3
  have q4 := ka.c4
  have q5 := ka.c5
  go_wp2_with fail
  refine (h4 _).mono ?_
  rintro e w4 ⟨rfl, hB1⟩
  clear q0 q1 q2 q3 q4 q5
  replace ks := (ks.below hB1).alloc (.cells #[.int .i64 b2, .int .i64 c2, .int .i64 p2, .int .i64 r2, .int .i64 s2, .int .i64 u2] 25)
  replace ka := (ka.below hB1).alloc (.cells #[.int .i64 b2, .int .i64 c2, .int .i64 p2, .int .i64 r2, .int .i64 s2, .int .i64 u2] 25)
  replace kb := (kb.below hB1).alloc (.cells #[.int .i64 b2, .int .i64 c2, .int .i64 p2, .int .i64 r2, .int .i64 s2, .int .i64 u2] 25)
  replace kc := (kc.below hB1).alloc (.cells #[.int .i64 b2, .int .i64 c2, .int .i64 p2, .int .i64 r2, .int .i64 s2, .int .i64 u2] 25)
  replace kd := (kd.below hB1).alloc (.cells #[.int .i64 b2, .int .i64 c2, .int .i64 p2, .int .i64 r2, .int .i64 s2, .int .i64 u2] 25)
  have kx := Six.new w4 b2 c2 p2 r2 s2 u2 25
  replace hB0 := below2 (below2 hB0 hB1) (below_new w4 (.cells #[.int .i64 b2, .int .i64 c2, .int .i64 p2, .int .i64 r2, .int .i64 s2, .int .i64 u2] 25))
  clear h4 hB1
  clear ks
  go_wp2_with fail
  refine wp_region_held_drew (S := (fun W : World => Six W (w.heap.size + 1) ⟨b, c, ph, pr, si, un⟩ ∧ Six W w1.heap.size ⟨b1, c1, p1, r1, s1, u1⟩ ∧ Six W w2.heap.size ⟨b1, c1, p1, r1, s1, u1⟩ ∧ Six W w3.heap.size ⟨b2, c2, p2, r2, s2, u2⟩ ∧ Six W w4.heap.size ⟨b2, c2, p2, r2, s2, u2⟩)) (by kernel_rfl) ⟨⟨ka.blk⟩, ⟨kb.blk⟩, ⟨kc.blk⟩, ⟨kd.blk⟩, ⟨kx.blk⟩⟩ (fun hHeld => ?_)
  refine wpAnyH_ready (rs := [0]) (by kernel_rfl) (by simp) ?_
  refine AllReadyH.cons (o := { dst := some 45, op := Op.call { callee := Callee.value (Operand.func 13), args := #[], argTypes := #[] }, type := 4, pos := _, after := #[], guard := none }) rfl (fun K hK => ?_) AllReadyH.nil
  go_simp
  refine (rung_any _).mono ?_
  rintro e w' ⟨rfl, hB'⟩
  replace ka := ka.below (by first | exact below_undrew hB' | exact hB')
  replace kb := kb.below (by first | exact below_undrew hB' | exact hB')
  replace kc := kc.below (by first | exact below_undrew hB' | exact hB')
  replace kd := kd.below (by first | exact below_undrew hB' | exact hB')
  replace kx := kx.below (by first | exact below_undrew hB' | exact hB')
  replace hB0 := below2 hB0 (by first | exact below_undrew hB' | exact hB')
  clear hB'
  go_wp2_with fail
  refine hK.out _ _ ⟨⟨ka.blk⟩, ⟨kb.blk⟩, ⟨kc.blk⟩, ⟨kd.blk⟩, ⟨kx.blk⟩⟩ (fun hHeld => ?_)
  clear hK K
  (try simp only [Act.put, List.setIfInBounds_toArray, List.set_cons_zero, List.set_cons_succ])
  refine wpAnyH_take (i := 1) (oi := { dst := some 46, op := Op.move (Operand.tmp 45), type := 4, pos := _, after := #[{ on := 0, ground := Ground.data }, { on := 0, ground := Ground.chain }], guard := none }) (v := ?_) rfl (by kernel_rfl) (by kernel_rfl) (by kernel_rfl) (fun _ _ _ h => h) (Or.inl ⟨by rfl, ?hy⟩) hHeld ?_
  case hy => intro w0 hSw; (try dsimp only at hSw); go_simp; (try with_reducible rfl)
  (try simp only [Act.put, List.setIfInBounds_toArray, List.set_cons_zero, List.set_cons_succ])
  refine wpAnyH_take (i := 2) (oi := { dst := some 47, op := Op.load 25 (Operand.tmp 5), type := 25, pos := _, after := #[{ on := 1, ground := Ground.guard }], guard := some (1, true) }) (v := ?_) rfl (by kernel_rfl) (by kernel_rfl) (by kernel_rfl) (fun _ _ _ h => h) (Or.inl ⟨by rfl, ?hy⟩) hHeld ?_
  case hy => (intro w0 hSw; refine exec_load_six (Operand.tmp 5) ?_ ?_ hSw.1 <;> rfl)
  (try simp only [Act.put, List.setIfInBounds_toArray, List.set_cons_zero, List.set_cons_succ])
  refine wpAnyH_take (i := 4) (oi := { dst := some 49, op := Op.load 25 (Operand.tmp 5), type := 25, pos := _, after := #[{ on := 1, ground := Ground.guard }], guard := some (1, true) }) (v := ?_) rfl (by kernel_rfl) (by kernel_rfl) (by kernel_rfl) (fun _ _ _ h => h) (Or.inl ⟨by rfl, ?hy⟩) hHeld ?_
  case hy => (intro w0 hSw; refine exec_load_six (Operand.tmp 5) ?_ ?_ hSw.1 <;> rfl)
  (try simp only [Act.put, List.setIfInBounds_toArray, List.set_cons_zero, List.set_cons_succ])
  refine wpAnyH_ready (rs := [3]) (by kernel_rfl) (by simp) ?_
  refine AllReadyH.cons (o := { dst := some 48, op := Op.call { callee := Callee.value (Operand.func 14), args := #[Operand.tmp 47], argTypes := #[25] }, type := 4, pos := _, after := #[{ on := 2, ground := Ground.data }, { on := 1, ground := Ground.chain }, { on := 1, ground := Ground.guard }], guard := some (1, true) }) rfl (fun K hK => ?_) AllReadyH.nil
  go_simp
  refine (h5 _).mono ?_
  rintro e w' ⟨rfl, hB'⟩
  replace ka := ka.below (by first | exact below_undrew hB' | exact hB')
  replace kb := kb.below (by first | exact below_undrew hB' | exact hB')
  replace kc := kc.below (by first | exact below_undrew hB' | exact hB')
  replace kd := kd.below (by first | exact below_undrew hB' | exact hB')
  replace kx := kx.below (by first | exact below_undrew hB' | exact hB')
  replace hB0 := below2 hB0 (by first | exact below_undrew hB' | exact hB')
  clear hB'
  go_wp2_with fail
  refine hK.out _ _ ⟨⟨ka.blk⟩, ⟨kb.blk⟩, ⟨kc.blk⟩, ⟨kd.blk⟩, ⟨kx.blk⟩⟩ (fun hHeld => ?_)
  clear hK K
  (try simp only [Act.put, List.setIfInBounds_toArray, List.set_cons_zero, List.set_cons_succ])
  refine wpAnyH_ready (rs := [5]) (by kernel_rfl) (by simp) ?_
  refine AllReadyH.cons (o := { dst := some 50, op := Op.call { callee := Callee.value (Operand.func 15), args := #[Operand.tmp 49], argTypes := #[25] }, type := 4, pos := _, after := #[{ on := 4, ground := Ground.data }, { on := 3, ground := Ground.chain }, { on := 1, ground := Ground.guard }], guard := some (1, true) }) rfl (fun K hK => ?_) AllReadyH.nil
  go_simp
  refine (h6 _).mono ?_
  rintro e w' ⟨rfl, hB'⟩
  replace ka := ka.below (by first | exact below_undrew hB' | exact hB')
  replace kb := kb.below (by first | exact below_undrew hB' | exact hB')
  replace kc := kc.below (by first | exact below_undrew hB' | exact hB')
  replace kd := kd.below (by first | exact below_undrew hB' | exact hB')
  replace kx := kx.below (by first | exact below_undrew hB' | exact hB')
  replace hB0 := below2 hB0 (by first | exact below_undrew hB' | exact hB')
  clear hB'
  go_wp2_with fail
  refine hK.out _ _ ⟨⟨ka.blk⟩, ⟨kb.blk⟩, ⟨kc.blk⟩, ⟨kd.blk⟩, ⟨kx.blk⟩⟩ (fun hHeld => ?_)
  clear hK K
  (try simp only [Act.put, List.setIfInBounds_toArray, List.set_cons_zero, List.set_cons_succ])
  refine wpAnyH_take (i := 6) (oi := { dst := some 51, op := Op.binOp BinOp.eql 4 (Operand.tmp 48) (Operand.tmp 50) 4, type := 4, pos := _, after := #[{ on := 3, ground := Ground.data }, { on := 5, ground := Ground.data }, { on := 1, ground := Ground.guard }], guard := some (1, true) }) (v := ?_) rfl (by kernel_rfl) (by kernel_rfl) (by kernel_rfl) (fun _ _ _ h => h) (Or.inl ⟨by rfl, ?hy⟩) hHeld ?_
  case hy => intro w0 hSw; (try dsimp only at hSw); go_simp; (try with_reducible rfl)
  (try simp only [Act.put, List.setIfInBounds_toArray, List.set_cons_zero, List.set_cons_succ])
  refine wpAnyH_take (i := 7) (oi := { dst := some 52, op := Op.pick (Operand.tmp 46) (Operand.tmp 51) (Operand.const (Value.bool false)), type := 4, pos := _, after := #[{ on := 1, ground := Ground.data }, { on := 6, ground := Ground.data }], guard := none }) (v := ?_) rfl (by kernel_rfl) (by kernel_rfl) (by kernel_rfl) (fun _ _ _ h => h) (Or.inl ⟨by rfl, ?hy⟩) hHeld ?_
  case hy => intro w0 hSw; (try dsimp only at hSw); go_simp; (try with_reducible rfl)
  (try simp only [Act.put, List.setIfInBounds_toArray, List.set_cons_zero, List.set_cons_succ])
  refine wpAnyH_take (i := 8) (oi := { dst := some 53, op := Op.move (Operand.tmp 52), type := 4, pos := _, after := #[{ on := 7, ground := Ground.data }, { on := 5, ground := Ground.chain }], guard := none }) (v := ?_) rfl (by kernel_rfl) (by kernel_rfl) (by kernel_rfl) (fun _ _ _ h => h) (Or.inl ⟨by rfl, ?hy⟩) hHeld ?_
  case hy => intro w0 hSw; (try dsimp only at hSw); go_simp; (try with_reducible rfl)
  (try simp only [Act.put, List.setIfInBounds_toArray, List.set_cons_zero, List.set_cons_succ])
  refine wpAnyH_take (i := 9) (oi := { dst := some 54, op := Op.move (Operand.tmp 2), type := 3, pos := _, after := #[{ on := 8, ground := Ground.guard }], guard := some (8, true) }) (v := ?_) rfl (by kernel_rfl) (by kernel_rfl) (by kernel_rfl) (fun _ _ _ h => h) (Or.inl ⟨by rfl, ?hy⟩) hHeld ?_
  case hy => intro w0 hSw; (try dsimp only at hSw); go_simp; (try with_reducible rfl)
  (try simp only [Act.put, List.setIfInBounds_toArray, List.set_cons_zero, List.set_cons_succ])
  refine wpAnyH_take (i := 11) (oi := { dst := some 56, op := Op.move (Operand.tmp 2), type := 3, pos := _, after := #[{ on := 8, ground := Ground.guard }], guard := some (8, true) }) (v := ?_) rfl (by kernel_rfl) (by kernel_rfl) (by kernel_rfl) (fun _ _ _ h => h) (Or.inl ⟨by rfl, ?hy⟩) hHeld ?_
  case hy => intro w0 hSw; (try dsimp only at hSw); go_simp; (try with_reducible rfl)
  (try simp only [Act.put, List.setIfInBounds_toArray, List.set_cons_zero, List.set_cons_succ])
  refine wpAnyH_ready (rs := [10]) (by kernel_rfl) (by simp) ?_
  refine AllReadyH.cons (o := { dst := some 55, op := Op.call { callee := Callee.value (Operand.func 16), args := #[Operand.tmp 54], argTypes := #[3] }, type := 3, pos := _, after := #[{ on := 9, ground := Ground.data }, { on := 8, ground := Ground.chain }, { on := 8, ground := Ground.guard }], guard := some (8, true) }) rfl (fun K hK => ?_) AllReadyH.nil
  go_simp
  refine (h7 _).mono ?_
  rintro e w' ⟨rfl, hB'⟩
  replace ka := ka.below (by first | exact below_undrew hB' | exact hB')
  replace kb := kb.below (by first | exact below_undrew hB' | exact hB')
  replace kc := kc.below (by first | exact below_undrew hB' | exact hB')
  replace kd := kd.below (by first | exact below_undrew hB' | exact hB')
  replace kx := kx.below (by first | exact below_undrew hB' | exact hB')
  replace hB0 := below2 hB0 (by first | exact below_undrew hB' | exact hB')
  clear hB'
  go_wp2_with fail
  refine hK.out _ _ ⟨⟨ka.blk⟩, ⟨kb.blk⟩, ⟨kc.blk⟩, ⟨kd.blk⟩, ⟨kx.blk⟩⟩ (fun hHeld => ?_)
  clear hK K
  (try simp only [Act.put, List.setIfInBounds_toArray, List.set_cons_zero, List.set_cons_succ])
  refine wpAnyH_ready (rs := [12]) (by kernel_rfl) (by simp) ?_
  refine AllReadyH.cons (o := { dst := some 57, op := Op.call { callee := Callee.value (Operand.func 17), args := #[Operand.tmp 56], argTypes := #[3] }, type := 3, pos := _, after := #[{ on := 11, ground := Ground.data }, { on := 10, ground := Ground.chain }, { on := 8, ground := Ground.guard }], guard := some (8, true) }) rfl (fun K hK => ?_) AllReadyH.nil
  go_simp
  refine (h8 _).mono ?_
  rintro e w' ⟨rfl, rfl⟩
  go_wp2_with fail
  refine hK.out _ _ ⟨⟨ka.blk⟩, ⟨kb.blk⟩, ⟨kc.blk⟩, ⟨kd.blk⟩, ⟨kx.blk⟩⟩ (fun hHeld => ?_)
  clear hK K
  (try simp only [Act.put, List.setIfInBounds_toArray, List.set_cons_zero, List.set_cons_succ])
  refine wpAnyH_take (i := 13) (oi := { dst := some 58, op := Op.binOp BinOp.eql 3 (Operand.tmp 55) (Operand.tmp 57) 3, type := 4, pos := _, after := #[{ on := 10, ground := Ground.data }, { on := 12, ground := Ground.data }, { on := 8, ground := Ground.guard }], guard := some (8, true) }) (v := ?_) rfl (by kernel_rfl) (by kernel_rfl) (by kernel_rfl) (fun _ _ _ h => h) (Or.inl ⟨by rfl, ?hy⟩) hHeld ?_
  case hy => intro w0 hSw; (try dsimp only at hSw); go_simp; (try with_reducible rfl)
  (try simp only [Act.put, List.setIfInBounds_toArray, List.set_cons_zero, List.set_cons_succ])
  refine wpAnyH_take (i := 14) (oi := { dst := some 59, op := Op.pick (Operand.tmp 53) (Operand.tmp 58) (Operand.const (Value.bool false)), type := 4, pos := _, after := #[{ on := 8, ground := Ground.data }, { on := 13, ground := Ground.data }], guard := none }) (v := ?_) rfl (by kernel_rfl) (by kernel_rfl) (by kernel_rfl) (fun _ _ _ h => h) (Or.inl ⟨by rfl, ?hy⟩) hHeld ?_
  case hy => intro w0 hSw; (try dsimp only at hSw); go_simp; (try with_reducible rfl)
  (try simp only [Act.put, List.setIfInBounds_toArray, List.set_cons_zero, List.set_cons_succ])
  refine wpAnyH_take (i := 15) (oi := { dst := some 60, op := Op.move (Operand.tmp 59), type := 4, pos := _, after := #[{ on := 14, ground := Ground.data }, { on := 12, ground := Ground.chain }], guard := none }) (v := ?_) rfl (by kernel_rfl) (by kernel_rfl) (by kernel_rfl) (fun _ _ _ h => h) (Or.inl ⟨by rfl, ?hy⟩) hHeld ?_
  case hy => intro w0 hSw; (try dsimp only at hSw); go_simp; (try with_reducible rfl)
  (try simp only [Act.put, List.setIfInBounds_toArray, List.set_cons_zero, List.set_cons_succ])
  refine wpAnyH_take (i := 16) (oi := { dst := some 61, op := Op.load 25 (Operand.tmp 9), type := 25, pos := _, after := #[{ on := 15, ground := Ground.guard }], guard := some (15, true) }) (v := ?_) rfl (by kernel_rfl) (by kernel_rfl) (by kernel_rfl) (fun _ _ _ h => h) (Or.inl ⟨by rfl, ?hy⟩) hHeld ?_
  case hy => (intro w0 hSw; refine exec_load_six (Operand.tmp 9) ?_ ?_ hSw.2.1 <;> rfl)
  (try simp only [Act.put, List.setIfInBounds_toArray, List.set_cons_zero, List.set_cons_succ])
  refine wpAnyH_take (i := 17) (oi := { dst := some 62, op := Op.load 25 (Operand.tmp 11), type := 25, pos := _, after := #[{ on := 15, ground := Ground.guard }], guard := some (15, true) }) (v := ?_) rfl (by kernel_rfl) (by kernel_rfl) (by kernel_rfl) (fun _ _ _ h => h) (Or.inl ⟨by rfl, ?hy⟩) hHeld ?_
  case hy => (intro w0 hSw; refine exec_load_six (Operand.tmp 11) ?_ ?_ hSw.2.2.1 <;> rfl)
  (try simp only [Act.put, List.setIfInBounds_toArray, List.set_cons_zero, List.set_cons_succ])
  refine wpAnyH_take (i := 18) (oi := { dst := some 63, op := Op.binOp BinOp.eql 25 (Operand.tmp 61) (Operand.tmp 62) 25, type := 4, pos := _, after := #[{ on := 16, ground := Ground.data }, { on := 17, ground := Ground.data }, { on := 15, ground := Ground.guard }], guard := some (15, true) }) (v := ?_) rfl (by kernel_rfl) (by kernel_rfl) (by kernel_rfl) (fun _ _ _ h => h) (Or.inl ⟨by rfl, ?hy⟩) hHeld ?_
  case hy => intro w0 hSw; (try dsimp only at hSw); go_simp; (try with_reducible rfl)
  (try simp only [Act.put, List.setIfInBounds_toArray, List.set_cons_zero, List.set_cons_succ])
  refine wpAnyH_take (i := 19) (oi := { dst := some 64, op := Op.pick (Operand.tmp 60) (Operand.tmp 63) (Operand.const (Value.bool false)), type := 4, pos := _, after := #[{ on := 15, ground := Ground.data }, { on := 18, ground := Ground.data }], guard := none }) (v := ?_) rfl (by kernel_rfl) (by kernel_rfl) (by kernel_rfl) (fun _ _ _ h => h) (Or.inl ⟨by rfl, ?hy⟩) hHeld ?_
  case hy => intro w0 hSw; (try dsimp only at hSw); go_simp; (try with_reducible rfl)
  (try simp only [Act.put, List.setIfInBounds_toArray, List.set_cons_zero, List.set_cons_succ])
  refine wpAnyH_take (i := 20) (oi := { dst := some 65, op := Op.move (Operand.tmp 64), type := 4, pos := _, after := #[{ on := 19, ground := Ground.data }, { on := 15, ground := Ground.chain }], guard := none }) (v := ?_) rfl (by kernel_rfl) (by kernel_rfl) (by kernel_rfl) (fun _ _ _ h => h) (Or.inl ⟨by rfl, ?hy⟩) hHeld ?_
  case hy => intro w0 hSw; (try dsimp only at hSw); go_simp; (try with_reducible rfl)
  (try simp only [Act.put, List.setIfInBounds_toArray, List.set_cons_zero, List.set_cons_succ])
  refine wpAnyH_take (i := 21) (oi := { dst := some 66, op := Op.move (Operand.tmp 10), type := 26, pos := _, after := #[{ on := 20, ground := Ground.guard }], guard := some (20, true) }) (v := ?_) rfl (by kernel_rfl) (by kernel_rfl) (by kernel_rfl) (fun _ _ _ h => h) (Or.inl ⟨by rfl, ?hy⟩) hHeld ?_
  case hy => intro w0 hSw; (try dsimp only at hSw); go_simp; (try with_reducible rfl)
  (try simp only [Act.put, List.setIfInBounds_toArray, List.set_cons_zero, List.set_cons_succ])
  refine wpAnyH_take (i := 22) (oi := { dst := some 67, op := Op.move (Operand.tmp 12), type := 26, pos := _, after := #[{ on := 20, ground := Ground.guard }], guard := some (20, true) }) (v := ?_) rfl (by kernel_rfl) (by kernel_rfl) (by kernel_rfl) (fun _ _ _ h => h) (Or.inl ⟨by rfl, ?hy⟩) hHeld ?_
  case hy => intro w0 hSw; (try dsimp only at hSw); go_simp; (try with_reducible rfl)
  (try simp only [Act.put, List.setIfInBounds_toArray, List.set_cons_zero, List.set_cons_succ])
  refine wpAnyH_take (i := 23) (oi := { dst := some 68, op := Op.binOp BinOp.eql 26 (Operand.tmp 66) (Operand.tmp 67) 26, type := 4, pos := _, after := #[{ on := 21, ground := Ground.data }, { on := 22, ground := Ground.data }, { on := 20, ground := Ground.guard }], guard := some (20, true) }) (v := ?_) rfl (by kernel_rfl) (by kernel_rfl) (by kernel_rfl) (fun _ _ _ h => h) (Or.inl ⟨by rfl, ?hy⟩) hHeld ?_
  case hy => intro w0 hSw; (try dsimp only at hSw); go_simp; (try with_reducible rfl)
  (try simp only [Act.put, List.setIfInBounds_toArray, List.set_cons_zero, List.set_cons_succ])
  refine wpAnyH_take (i := 24) (oi := { dst := some 69, op := Op.pick (Operand.tmp 65) (Operand.tmp 68) (Operand.const (Value.bool false)), type := 4, pos := _, after := #[{ on := 20, ground := Ground.data }, { on := 23, ground := Ground.data }], guard := none }) (v := ?_) rfl (by kernel_rfl) (by kernel_rfl) (by kernel_rfl) (fun _ _ _ h => h) (Or.inl ⟨by rfl, ?hy⟩) hHeld ?_
  case hy => intro w0 hSw; (try dsimp only at hSw); go_simp; (try with_reducible rfl)
  (try simp only [Act.put, List.setIfInBounds_toArray, List.set_cons_zero, List.set_cons_succ])
  refine wpAnyH_take (i := 25) (oi := { dst := some 70, op := Op.move (Operand.tmp 69), type := 4, pos := _, after := #[{ on := 24, ground := Ground.data }, { on := 20, ground := Ground.chain }], guard := none }) (v := ?_) rfl (by kernel_rfl) (by kernel_rfl) (by kernel_rfl) (fun _ _ _ h => h) (Or.inl ⟨by rfl, ?hy⟩) hHeld ?_
  case hy => intro w0 hSw; (try dsimp only at hSw); go_simp; (try with_reducible rfl)
  (try simp only [Act.put, List.setIfInBounds_toArray, List.set_cons_zero, List.set_cons_succ])
  refine wpAnyH_take (i := 26) (oi := { dst := some 71, op := Op.load 25 (Operand.tmp 13), type := 25, pos := _, after := #[{ on := 25, ground := Ground.guard }], guard := some (25, true) }) (v := ?_) rfl (by kernel_rfl) (by kernel_rfl) (by kernel_rfl) (fun _ _ _ h => h) (Or.inl ⟨by rfl, ?hy⟩) hHeld ?_
  case hy => (intro w0 hSw; refine exec_load_six (Operand.tmp 13) ?_ ?_ hSw.2.2.2.1 <;> rfl)
  (try simp only [Act.put, List.setIfInBounds_toArray, List.set_cons_zero, List.set_cons_succ])
  refine wpAnyH_take (i := 27) (oi := { dst := some 72, op := Op.load 25 (Operand.tmp 15), type := 25, pos := _, after := #[{ on := 25, ground := Ground.guard }], guard := some (25, true) }) (v := ?_) rfl (by kernel_rfl) (by kernel_rfl) (by kernel_rfl) (fun _ _ _ h => h) (Or.inl ⟨by rfl, ?hy⟩) hHeld ?_
  case hy => (intro w0 hSw; refine exec_load_six (Operand.tmp 15) ?_ ?_ hSw.2.2.2.2 <;> rfl)
  (try simp only [Act.put, List.setIfInBounds_toArray, List.set_cons_zero, List.set_cons_succ])
  refine wpAnyH_take (i := 28) (oi := { dst := some 73, op := Op.binOp BinOp.eql 25 (Operand.tmp 71) (Operand.tmp 72) 25, type := 4, pos := _, after := #[{ on := 26, ground := Ground.data }, { on := 27, ground := Ground.data }, { on := 25, ground := Ground.guard }], guard := some (25, true) }) (v := ?_) rfl (by kernel_rfl) (by kernel_rfl) (by kernel_rfl) (fun _ _ _ h => h) (Or.inl ⟨by rfl, ?hy⟩) hHeld ?_
  case hy => intro w0 hSw; (try dsimp only at hSw); go_simp; (try with_reducible rfl)
  (try simp only [Act.put, List.setIfInBounds_toArray, List.set_cons_zero, List.set_cons_succ])
  refine wpAnyH_take (i := 29) (oi := { dst := some 74, op := Op.pick (Operand.tmp 70) (Operand.tmp 73) (Operand.const (Value.bool false)), type := 4, pos := _, after := #[{ on := 25, ground := Ground.data }, { on := 28, ground := Ground.data }], guard := none }) (v := ?_) rfl (by kernel_rfl) (by kernel_rfl) (by kernel_rfl) (fun _ _ _ h => h) (Or.inl ⟨by rfl, ?hy⟩) hHeld ?_
  case hy => intro w0 hSw; (try dsimp only at hSw); go_simp; (try with_reducible rfl)
  (try simp only [Act.put, List.setIfInBounds_toArray, List.set_cons_zero, List.set_cons_succ])
  refine wpAnyH_take (i := 30) (oi := { dst := some 75, op := Op.move (Operand.tmp 74), type := 4, pos := _, after := #[{ on := 29, ground := Ground.data }, { on := 25, ground := Ground.chain }], guard := none }) (v := ?_) rfl (by kernel_rfl) (by kernel_rfl) (by kernel_rfl) (fun _ _ _ h => h) (Or.inl ⟨by rfl, ?hy⟩) hHeld ?_
  case hy => intro w0 hSw; (try dsimp only at hSw); go_simp; (try with_reducible rfl)
  (try simp only [Act.put, List.setIfInBounds_toArray, List.set_cons_zero, List.set_cons_succ])
  refine wpAnyH_take (i := 31) (oi := { dst := some 76, op := Op.move (Operand.tmp 14), type := 26, pos := _, after := #[{ on := 30, ground := Ground.guard }], guard := some (30, true) }) (v := ?_) rfl (by kernel_rfl) (by kernel_rfl) (by kernel_rfl) (fun _ _ _ h => h) (Or.inl ⟨by rfl, ?hy⟩) hHeld ?_
  case hy => intro w0 hSw; (try dsimp only at hSw); go_simp; (try with_reducible rfl)
  (try simp only [Act.put, List.setIfInBounds_toArray, List.set_cons_zero, List.set_cons_succ])
  refine wpAnyH_take (i := 32) (oi := { dst := some 77, op := Op.move (Operand.tmp 16), type := 26, pos := _, after := #[{ on := 30, ground := Ground.guard }], guard := some (30, true) }) (v := ?_) rfl (by kernel_rfl) (by kernel_rfl) (by kernel_rfl) (fun _ _ _ h => h) (Or.inl ⟨by rfl, ?hy⟩) hHeld ?_
  case hy => intro w0 hSw; (try dsimp only at hSw); go_simp; (try with_reducible rfl)
  (try simp only [Act.put, List.setIfInBounds_toArray, List.set_cons_zero, List.set_cons_succ])
  refine wpAnyH_take (i := 33) (oi := { dst := some 78, op := Op.binOp BinOp.eql 26 (Operand.tmp 76) (Operand.tmp 77) 26, type := 4, pos := _, after := #[{ on := 31, ground := Ground.data }, { on := 32, ground := Ground.data }, { on := 30, ground := Ground.guard }], guard := some (30, true) }) (v := ?_) rfl (by kernel_rfl) (by kernel_rfl) (by kernel_rfl) (fun _ _ _ h => h) (Or.inl ⟨by rfl, ?hy⟩) hHeld ?_
  case hy => intro w0 hSw; (try dsimp only at hSw); go_simp; (try with_reducible rfl)
  (try simp only [Act.put, List.setIfInBounds_toArray, List.set_cons_zero, List.set_cons_succ])
  refine wpAnyH_take (i := 34) (oi := { dst := some 79, op := Op.pick (Operand.tmp 75) (Operand.tmp 78) (Operand.const (Value.bool false)), type := 4, pos := _, after := #[{ on := 30, ground := Ground.data }, { on := 33, ground := Ground.data }], guard := none }) (v := ?_) rfl (by kernel_rfl) (by kernel_rfl) (by kernel_rfl) (fun _ _ _ h => h) (Or.inl ⟨by rfl, ?hy⟩) hHeld ?_
  case hy => intro w0 hSw; (try dsimp only at hSw); go_simp; (try with_reducible rfl)
  (try simp only [Act.put, List.setIfInBounds_toArray, List.set_cons_zero, List.set_cons_succ])
  refine wpAnyH_take (i := 35) (oi := { dst := some 8, op := Op.assign (Operand.tmp 79), type := 4, pos := _, after := _, guard := none }) (v := ?_) rfl (by kernel_rfl) (by kernel_rfl) (by kernel_rfl) (fun _ _ _ h => h) (Or.inl ⟨by rfl, ?hy⟩) hHeld ?_
  case hy => intro w0 hSw; (try dsimp only at hSw); go_simp; (try with_reducible rfl)
  (try simp only [Act.put, List.setIfInBounds_toArray, List.set_cons_zero, List.set_cons_succ])
  refine wpAnyH_done (by kernel_rfl) ?_ _
  clear hHeld
  have HB := Lib.hid hB0
  clear ka kb kc kd kx hB0
  go_wp2
  go_ret
  exact ⟨rfl, HB.out⟩
end Go.Proofs.Ytepcjlnjhbaioaa
