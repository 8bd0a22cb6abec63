/-
  Layer 15 (slots): the references' Load, Save, Crash, New (printed by tools/gen-refslo2.py).
-/
import Derived.Test.YteepemibmjpnfaaXRefSlo1
import Derived.Test.YteepemibmjpnfaaXRefFile3
import Derived.Test.YteepemibmjpnfaaXSloStore
namespace Go.Proofs.Yteepemibmjpnfaa
set_option maxRecDepth 10000
open Go.RowKit

set_option maxHeartbeats 1000000 in
theorem slLoad_no (sm sn : Int) (sk sl sx sy : ByteArray) (w : World)
    (pI : ∀ (W : World), Hid (Calls Try.prog 24 #[.agg #[.int .i64 sm, .string sk, .string sl, .int .i64 sn, .string sx, .string sy]] W fun e w' => e = .returned (.bool false) ∧ Below W.heap.size W w')) :
    Calls Try.prog 10 #[.agg #[.int .i64 sm, .string sk, .string sl, .int .i64 sn, .string sx, .string sy]] w fun e w' => e = .returned (.tuple #[.string ⟨#[]⟩, .int .i64 0, .int .i64 1]) ∧ Below w.heap.size w w' := by
  have S0 := Lib.hid ((St.start w).new #[.int .i64 sm, .string sk, .string sl, .int .i64 sn, .string sx, .string sy] 25)
  go_enter Try.func10, Try.ntmps10
  go_wp2_with (refine wpList_loadg_st (by rfl) 25 _ rfl S0.out 0 _ _ rfl rfl _ Try.underlying25 rfl (by rfl) ?_)
  refine (pI _).out.mono ?_
  rintro e w1 ⟨rfl, hB⟩
  have S1 := Lib.hid (S0.out.on hB)
  clear hB S0
  clear pI
  go_wp2
  go_ret3
  exact ⟨rfl, S1.out.below⟩

set_option maxHeartbeats 4000000 in
theorem slLoad_yes (sm sn : Int) (sk sl sx sy : ByteArray) (ra rb c : ByteArray) (n i : Int) (w : World)
    (pI : ∀ (W : World), Hid (Calls Try.prog 24 #[.agg #[.int .i64 sm, .string sk, .string sl, .int .i64 sn, .string sx, .string sy]] W fun e w' => e = .returned (.bool true) ∧ Below W.heap.size W w'))
    (pA : ∀ (W : World), Hid (Calls Try.prog 25 #[.agg #[.int .i64 sm, .string sk, .string sl]] W fun e w' => e = .returned (.string ra) ∧ Below W.heap.size W w'))
    (pB : ∀ (W : World), Hid (Calls Try.prog 25 #[.agg #[.int .i64 sn, .string sx, .string sy]] W fun e w' => e = .returned (.string rb) ∧ Below W.heap.size W w'))
    (pC : ∀ (W : World), Hid (Calls Try.prog 16 #[.string ra, .string rb] W fun e w' => e = .returned (.tuple #[.string c, .int .i64 n, .int .i64 i]) ∧ Below W.heap.size W w')) :
    Calls Try.prog 10 #[.agg #[.int .i64 sm, .string sk, .string sl, .int .i64 sn, .string sx, .string sy]] w fun e w' => e = .returned (.tuple #[.string c, .int .i64 n, .int .i64 0]) ∧ Below w.heap.size w w' := by
  have S0 := Lib.hid ((St.start w).new #[.int .i64 sm, .string sk, .string sl, .int .i64 sn, .string sx, .string sy] 25)
  go_enter Try.func10, Try.ntmps10
  go_wp2_with (refine wpList_loadg_st (by rfl) 25 _ rfl S0.out 0 _ _ rfl rfl _ Try.underlying25 rfl (by rfl) ?_)
  refine (pI _).out.mono ?_
  rintro e w1 ⟨rfl, hB⟩
  have S1 := Lib.hid (S0.out.on hB)
  clear hB S0
  clear pI
  obtain ⟨p0, hp0⟩ : ∃ p, p = w.heap.size := ⟨_, rfl⟩
  rw [← hp0] at S1 ⊢
  clear hp0
  go_wp2_with fail
  have hS : St w w1.drew [(p0, #[.int .i64 sm, .string sk, .string sl, .int .i64 sn, .string sx, .string sy])] [] := S1.out.drew
  clear S1
  refine wp_region_held_drew (S := (fun W : World => St w W [(p0, #[.int .i64 sm, .string sk, .string sl, .int .i64 sn, .string sx, .string sy])] [])) (by kernel_rfl) hS (fun hHeld => ?_)
  refine wpAnyH_take (i := 0) (oi := { dst := some 12, op := Op.fieldAddr 25 (Operand.tmp 1) 0, type := 0, pos := _, after := #[], guard := none }) (v := ?_) rfl (by kernel_rfl) (by kernel_rfl) (by kernel_rfl) (fun _ _ _ h => h) (Or.inl ⟨by rfl, ?hy⟩) hHeld ?_
  case hy => intro w0 hSw; (try dsimp only at hSw); go_simp; (try with_reducible rfl)
  (try simp only [Act.put, List.setIfInBounds_toArray, List.set_cons_zero, List.set_cons_succ])
  refine wpAnyH_take (i := 1) (oi := { dst := some 13, op := Op.load 23 (Operand.tmp 12), type := 23, pos := _, after := #[{ on := 0, ground := Ground.data }], guard := none }) (v := ?_) rfl (by kernel_rfl) (by kernel_rfl) (by kernel_rfl) (fun _ _ _ h => h) (Or.inl ⟨by rfl, ?hy⟩) hHeld ?_
  case hy => intro w0 hSw; have d0 := hSw.cell 0 rfl 0 rfl; have d1 := hSw.cell 0 rfl 1 rfl; have d2 := hSw.cell 0 rfl 2 rfl; clear hSw; go_simp; (try with_reducible rfl)
  (try simp only [Act.put, List.setIfInBounds_toArray, List.set_cons_zero, List.set_cons_succ])
  refine wpAnyH_take (i := 3) (oi := { dst := some 15, op := Op.fieldAddr 25 (Operand.tmp 1) 1, type := 0, pos := _, after := #[], guard := none }) (v := ?_) rfl (by kernel_rfl) (by kernel_rfl) (by kernel_rfl) (fun _ _ _ h => h) (Or.inl ⟨by rfl, ?hy⟩) hHeld ?_
  case hy => intro w0 hSw; (try dsimp only at hSw); go_simp; (try with_reducible rfl)
  (try simp only [Act.put, List.setIfInBounds_toArray, List.set_cons_zero, List.set_cons_succ])
  refine wpAnyH_take (i := 4) (oi := { dst := some 16, op := Op.load 23 (Operand.tmp 15), type := 23, pos := _, after := #[{ on := 3, ground := Ground.data }], guard := none }) (v := ?_) rfl (by kernel_rfl) (by kernel_rfl) (by kernel_rfl) (fun _ _ _ h => h) (Or.inl ⟨by rfl, ?hy⟩) hHeld ?_
  case hy => intro w0 hSw; have d0 := hSw.cell 0 rfl 3 rfl; have d1 := hSw.cell 0 rfl 4 rfl; have d2 := hSw.cell 0 rfl 5 rfl; clear hSw; go_simp; (try with_reducible rfl)
  (try simp only [Act.put, List.setIfInBounds_toArray, List.set_cons_zero, List.set_cons_succ])
  refine wpAnyH_ready (rs := [2]) (by kernel_rfl) (by simp) ?_
  refine AllReadyH.cons (o := { dst := some 14, op := Op.call { callee := Callee.value (Operand.func 25), args := #[Operand.tmp 13], argTypes := #[23] }, type := 9, pos := _, after := #[{ on := 1, ground := Ground.data }], guard := none }) rfl (fun K hK => ?_) AllReadyH.nil
  go_simp
  refine (pA _).out.mono ?_
  rintro e y1 ⟨rfl, hB'⟩
  replace hS := hS.on hB'
  clear hB'
  go_wp2_with fail
  refine hK.out _ _ hS (fun hHeld => ?_)
  clear hK K
  (try simp only [Act.put, List.setIfInBounds_toArray, List.set_cons_zero, List.set_cons_succ])
  refine wpAnyH_ready (rs := [5]) (by kernel_rfl) (by simp) ?_
  refine AllReadyH.cons (o := { dst := some 17, op := Op.call { callee := Callee.value (Operand.func 25), args := #[Operand.tmp 16], argTypes := #[23] }, type := 9, pos := _, after := #[{ on := 4, ground := Ground.data }, { on := 2, ground := Ground.chain }], guard := none }) rfl (fun K hK => ?_) AllReadyH.nil
  go_simp
  refine (pB _).out.mono ?_
  rintro e y2 ⟨rfl, hB'⟩
  replace hS := hS.on hB'
  clear hB'
  go_wp2_with fail
  refine hK.out _ _ hS (fun hHeld => ?_)
  clear hK K
  (try simp only [Act.put, List.setIfInBounds_toArray, List.set_cons_zero, List.set_cons_succ])
  refine wpAnyH_ready (rs := [6]) (by kernel_rfl) (by simp) ?_
  refine AllReadyH.cons (o := { dst := some 18, op := Op.call { callee := Callee.value (Operand.func 16), args := #[Operand.tmp 14, Operand.tmp 17], argTypes := #[9, 9] }, type := 34, pos := _, after := #[{ on := 2, ground := Ground.data }, { on := 5, ground := Ground.data }, { on := 5, ground := Ground.chain }], guard := none }) rfl (fun K hK => ?_) AllReadyH.nil
  go_simp
  refine (pC _).out.mono ?_
  rintro e y3 ⟨rfl, hB'⟩
  replace hS := hS.on hB'
  clear hB'
  go_wp2_with fail
  refine hK.out _ _ hS (fun hHeld => ?_)
  clear hK K
  (try simp only [Act.put, List.setIfInBounds_toArray, List.set_cons_zero, List.set_cons_succ])
  refine wpAnyH_take (i := 7) (oi := { dst := some 11, op := Op.move (Operand.tmp 18), type := 34, pos := _, after := #[{ on := 6, ground := Ground.data }], guard := none }) (v := ?_) rfl (by kernel_rfl) (by kernel_rfl) (by kernel_rfl) (fun _ _ _ h => h) (Or.inl ⟨by rfl, ?hy⟩) hHeld ?_
  case hy => intro w0 hSw; (try dsimp only at hSw); go_simp; (try with_reducible rfl)
  (try simp only [Act.put, List.setIfInBounds_toArray, List.set_cons_zero, List.set_cons_succ])
  refine wpAnyH_take (i := 8) (oi := { dst := some 19, op := Op.extract (Operand.tmp 11) 0, type := 9, pos := _, after := #[{ on := 7, ground := Ground.data }], guard := none }) (v := ?_) rfl (by kernel_rfl) (by kernel_rfl) (by kernel_rfl) (fun _ _ _ h => h) (Or.inl ⟨by rfl, ?hy⟩) hHeld ?_
  case hy => intro w0 hSw; (try dsimp only at hSw); go_simp; (try with_reducible rfl)
  (try simp only [Act.put, List.setIfInBounds_toArray, List.set_cons_zero, List.set_cons_succ])
  refine wpAnyH_take (i := 9) (oi := { dst := some 20, op := Op.extract (Operand.tmp 11) 1, type := 3, pos := _, after := #[{ on := 7, ground := Ground.data }, { on := 11, ground := Ground.gcOnly Departure.lateStores }], guard := none }) (v := ?_) rfl (by kernel_rfl) (by kernel_rfl) (by kernel_rfl) (fun _ _ _ h => h) (Or.inl ⟨by rfl, ?hy⟩) hHeld ?_
  case hy => intro w0 hSw; (try dsimp only at hSw); go_simp; (try with_reducible rfl)
  (try simp only [Act.put, List.setIfInBounds_toArray, List.set_cons_zero, List.set_cons_succ])
  refine wpAnyH_take (i := 10) (oi := { dst := some 21, op := Op.extract (Operand.tmp 11) 2, type := 3, pos := _, after := #[{ on := 7, ground := Ground.data }, { on := 12, ground := Ground.gcOnly Departure.lateStores }], guard := none }) (v := ?_) rfl (by kernel_rfl) (by kernel_rfl) (by kernel_rfl) (fun _ _ _ h => h) (Or.inl ⟨by rfl, ?hy⟩) hHeld ?_
  case hy => intro w0 hSw; (try dsimp only at hSw); go_simp; (try with_reducible rfl)
  (try simp only [Act.put, List.setIfInBounds_toArray, List.set_cons_zero, List.set_cons_succ])
  refine wpAnyH_take (i := 11) (oi := { dst := some 5, op := Op.assign (Operand.tmp 19), type := 9, pos := _, after := #[{ on := 8, ground := Ground.data }, { on := 6, ground := Ground.chain }, { on := 0, ground := Ground.phase }, { on := 1, ground := Ground.phase }, { on := 2, ground := Ground.phase }, { on := 3, ground := Ground.phase }, { on := 4, ground := Ground.phase }, { on := 5, ground := Ground.phase }, { on := 6, ground := Ground.phase }, { on := 7, ground := Ground.phase }, { on := 8, ground := Ground.phase }, { on := 9, ground := Ground.textOnly Departure.lateStores }, { on := 10, ground := Ground.textOnly Departure.lateStores }], guard := none }) (v := ?_) rfl (by kernel_rfl) (by kernel_rfl) (by kernel_rfl) (fun _ _ _ h => h) (Or.inl ⟨by rfl, ?hy⟩) hHeld ?_
  case hy => intro w0 hSw; (try dsimp only at hSw); go_simp; (try with_reducible rfl)
  (try simp only [Act.put, List.setIfInBounds_toArray, List.set_cons_zero, List.set_cons_succ])
  refine wpAnyH_take (i := 12) (oi := { dst := some 6, op := Op.assign (Operand.tmp 20), type := 3, pos := _, after := #[{ on := 9, ground := Ground.data }, { on := 11, ground := Ground.chain }, { on := 0, ground := Ground.phase }, { on := 1, ground := Ground.phase }, { on := 2, ground := Ground.phase }, { on := 3, ground := Ground.phase }, { on := 4, ground := Ground.phase }, { on := 5, ground := Ground.phase }, { on := 6, ground := Ground.phase }, { on := 7, ground := Ground.phase }, { on := 8, ground := Ground.phase }, { on := 9, ground := Ground.phase }, { on := 10, ground := Ground.textOnly Departure.lateStores }, { on := 11, ground := Ground.phase }], guard := none }) (v := ?_) rfl (by kernel_rfl) (by kernel_rfl) (by kernel_rfl) (fun _ _ _ h => h) (Or.inl ⟨by rfl, ?hy⟩) hHeld ?_
  case hy => intro w0 hSw; (try dsimp only at hSw); go_simp; (try with_reducible rfl)
  (try simp only [Act.put, List.setIfInBounds_toArray, List.set_cons_zero, List.set_cons_succ])
  refine wpAnyH_take (i := 13) (oi := { dst := some 7, op := Op.assign (Operand.tmp 21), type := 3, pos := _, after := #[{ on := 10, ground := Ground.data }, { on := 12, ground := Ground.chain }, { on := 0, ground := Ground.phase }, { on := 1, ground := Ground.phase }, { on := 2, ground := Ground.phase }, { on := 3, ground := Ground.phase }, { on := 4, ground := Ground.phase }, { on := 5, ground := Ground.phase }, { on := 6, ground := Ground.phase }, { on := 7, ground := Ground.phase }, { on := 8, ground := Ground.phase }, { on := 9, ground := Ground.phase }, { on := 10, ground := Ground.phase }, { on := 11, ground := Ground.phase }, { on := 12, ground := Ground.phase }], guard := none }) (v := ?_) rfl (by kernel_rfl) (by kernel_rfl) (by kernel_rfl) (fun _ _ _ h => h) (Or.inl ⟨by rfl, ?hy⟩) hHeld ?_
  case hy => intro w0 hSw; (try dsimp only at hSw); go_simp; (try with_reducible rfl)
  (try simp only [Act.put, List.setIfInBounds_toArray, List.set_cons_zero, List.set_cons_succ])
  refine wpAnyH_done (by kernel_rfl) ?_ _
  clear hHeld pA pB pC
  have S2 := Lib.hid hS
  clear hS
  go_wp2
  go_ret3
  exact ⟨rfl, S2.out.below⟩

theorem SLLoad_any (s : Slo) (w : World) (h1 : s.a.kept.size ≤ 9000 ∧ s.a.loose.size ≤ 9000) (h2 : s.b.kept.size ≤ 9000 ∧ s.b.loose.size ≤ 9000) :
    Calls Try.prog 10 #[.agg (Sl.v s)] w fun e w' => e = .returned (.tuple #[.string (strOf (Sl.loadT s)), .int .i64 (Sl.loadN s), .int .i64 (Sl.badE s)]) ∧ Below w.heap.size w w' := by
  have pI := fun W => Lib.hid (SLIs_any s W h1 h2)
  cases hi : Sl.is s
  · rw [hi] at pI
    have e1 : Sl.loadT s = [] := by unfold Sl.loadT; rw [hi]; rfl
    have e2 : Sl.loadN s = 0 := by unfold Sl.loadN; rw [hi]; rfl
    have e3 : Sl.badE s = 1 := by unfold Sl.badE; rw [hi]; rfl
    rw [e1, e2, e3]
    exact slLoad_no s.a.most s.b.most s.a.kept s.a.loose s.b.kept s.b.loose w pI
  · rw [hi] at pI
    have e1 : Sl.loadT s = (Sl.best s).1 := by unfold Sl.loadT; rw [hi]; rfl
    have e2 : Sl.loadN s = (Sl.best s).2.1 := by unfold Sl.loadN; rw [hi]; rfl
    have e3 : Sl.badE s = 0 := by unfold Sl.badE; rw [hi]; rfl
    rw [e1, e2, e3]
    have z1 := Fi.read_size s.a
    have z2 := Fi.read_size s.b
    exact slLoad_yes s.a.most s.b.most s.a.kept s.a.loose s.b.kept s.b.loose _ _ _ _ _ w pI (fun W => Lib.hid (FRRead_any _ _ _ h1 W)) (fun W => Lib.hid (FRRead_any _ _ _ h2 W)) (fun W => Lib.hid (SLBetter_any (Fi.read s.a) (Fi.read s.b) W (by omega) (by omega)))
end Go.Proofs.Yteepemibmjpnfaa
