/-
  Layer 15 (slots): the landed code: the pair's better, each, the closures, New, Load, Crash (printed by tools/gen-slow3.py).
-/
import Derived.Test.YteepemibmjpnfaaSloW1
import Derived.Test.YteepemibmjpnfaaSloW2
import Derived.Test.YteepemibmjpnfaaFileW3
namespace Go.Proofs.Yteepemibmjpnfaa
set_option maxRecDepth 10000
open Go.RowKit

theorem lt15b {w : World} {k : Nat} {cs : Array Value} (h : ∃ t, w.heap[k]? = some (.cells cs t (0, 0))) : k < w.heap.size := by
  obtain ⟨t, h⟩ := h; exact (Array.getElem?_eq_some_iff.1 h).1

set_option maxHeartbeats 4000000 in
theorem sbest_go (sm sn : Int) (sk sl sx sy : ByteArray) (ra rb c : ByteArray) (n i : Int) (w : World)
    (pA : ∀ W : World, Hid (Calls Try.prog 43 #[.agg #[.int .i64 sm, .string sk, .string sl]] W fun e w' => e = .returned (.string ra) ∧ Below W.heap.size W w'))
    (pB : ∀ W : World, Hid (Calls Try.prog 43 #[.agg #[.int .i64 sn, .string sx, .string sy]] W fun e w' => e = .returned (.string rb) ∧ Below W.heap.size W w'))
    (pC : ∀ W : World, Hid (Calls Try.prog 15 #[.string ra, .string rb] W fun e w' => e = .returned (.tuple #[.string c, .int .i64 n, .int .i64 i]) ∧ Below W.heap.size W w')) :
    Calls Try.prog 23 #[.agg #[.int .i64 sm, .string sk, .string sl, .int .i64 sn, .string sx, .string sy]] w fun e w' => e = .returned (.tuple #[.string c, .int .i64 n, .int .i64 i]) ∧ Below w.heap.size w w' := by
  have S0 := Lib.hid ((St.start w).new #[.int .i64 sm, .string sk, .string sl, .int .i64 sn, .string sx, .string sy] 47)
  go_enter Try.func23, Try.ntmps23
  go_wp2_with fail
  obtain ⟨w1, hw1⟩ : ∃ x, x = w.alloc (.cells #[.int .i64 sm, .string sk, .string sl, .int .i64 sn, .string sx, .string sy] 47) := ⟨_, rfl⟩
  obtain ⟨p0, hp0⟩ : ∃ p, p = w.heap.size := ⟨_, rfl⟩
  rw [← hw1, ← hp0] at S0 ⊢
  clear hp0 hw1
  have hS : St w w1.drew [(p0, #[.int .i64 sm, .string sk, .string sl, .int .i64 sn, .string sx, .string sy])] [] := S0.out.drew
  clear S0
  refine wp_region_held_drew (S := (fun W : World => St w W [(p0, #[.int .i64 sm, .string sk, .string sl, .int .i64 sn, .string sx, .string sy])] [])) (by kernel_rfl) hS (fun hHeld => ?_)
  refine wpAnyH_take (i := 0) (oi := { dst := some 5, op := Op.indexAddr 47 (Operand.tmp 1) (Operand.const (Value.int IntKind.i64 0)), type := 0, pos := _, after := #[], guard := none }) (v := ?_) rfl (by kernel_rfl) (by kernel_rfl) (by kernel_rfl) (fun _ _ _ h => h) (Or.inl ⟨by rfl, ?hy⟩) hHeld ?_
  case hy => intro w0 hSw; (try dsimp only at hSw); go_simp; (try with_reducible rfl)
  (try simp only [Act.put, List.setIfInBounds_toArray, List.set_cons_zero, List.set_cons_succ])
  refine wpAnyH_take (i := 1) (oi := { dst := some 6, op := Op.load 23 (Operand.tmp 5), type := 23, pos := _, after := #[{ on := 0, ground := Ground.data }], guard := none }) (v := ?_) rfl (by kernel_rfl) (by kernel_rfl) (by kernel_rfl) (fun _ _ _ h => h) (Or.inl ⟨by rfl, ?hy⟩) hHeld ?_
  case hy => intro w0 hSw; have d0 := hSw.cell 0 rfl 0 rfl; have d1 := hSw.cell 0 rfl 1 rfl; have d2 := hSw.cell 0 rfl 2 rfl; clear hSw; go_simp; (try with_reducible rfl)
  (try simp only [Act.put, List.setIfInBounds_toArray, List.set_cons_zero, List.set_cons_succ])
  refine wpAnyH_take (i := 3) (oi := { dst := some 8, op := Op.indexAddr 47 (Operand.tmp 1) (Operand.const (Value.int IntKind.i64 1)), type := 0, pos := _, after := #[], guard := none }) (v := ?_) rfl (by kernel_rfl) (by kernel_rfl) (by kernel_rfl) (fun _ _ _ h => h) (Or.inl ⟨by rfl, ?hy⟩) hHeld ?_
  case hy => intro w0 hSw; (try dsimp only at hSw); go_simp; (try with_reducible rfl)
  (try simp only [Act.put, List.setIfInBounds_toArray, List.set_cons_zero, List.set_cons_succ])
  refine wpAnyH_take (i := 4) (oi := { dst := some 9, op := Op.load 23 (Operand.tmp 8), type := 23, pos := _, after := #[{ on := 3, ground := Ground.data }], guard := none }) (v := ?_) rfl (by kernel_rfl) (by kernel_rfl) (by kernel_rfl) (fun _ _ _ h => h) (Or.inl ⟨by rfl, ?hy⟩) hHeld ?_
  case hy => intro w0 hSw; have d0 := hSw.cell 0 rfl 3 rfl; have d1 := hSw.cell 0 rfl 4 rfl; have d2 := hSw.cell 0 rfl 5 rfl; clear hSw; go_simp; (try with_reducible rfl)
  (try simp only [Act.put, List.setIfInBounds_toArray, List.set_cons_zero, List.set_cons_succ])
  refine wpAnyH_ready (rs := [2]) (by kernel_rfl) (by simp) ?_
  refine AllReadyH.cons (o := { dst := some 7, op := Op.call { callee := Callee.value (Operand.func 43), args := #[Operand.tmp 6], argTypes := #[23] }, type := 9, pos := _, after := #[{ on := 1, ground := Ground.data }], guard := none }) rfl (fun K hK => ?_) AllReadyH.nil
  go_simp
  refine (pA _).out.mono ?_
  rintro e y1 ⟨rfl, hB'⟩
  replace hS := hS.on hB'
  clear hB'
  go_wp2_with fail
  refine hK.out _ _ hS (fun hHeld => ?_)
  clear hK K
  (try simp only [Act.put, List.setIfInBounds_toArray, List.set_cons_zero, List.set_cons_succ])
  refine wpAnyH_ready (rs := [5]) (by kernel_rfl) (by simp) ?_
  refine AllReadyH.cons (o := { dst := some 10, op := Op.call { callee := Callee.value (Operand.func 43), args := #[Operand.tmp 9], argTypes := #[23] }, type := 9, pos := _, after := #[{ on := 4, ground := Ground.data }, { on := 2, ground := Ground.chain }], guard := none }) rfl (fun K hK => ?_) AllReadyH.nil
  go_simp
  refine (pB _).out.mono ?_
  rintro e y2 ⟨rfl, hB'⟩
  replace hS := hS.on hB'
  clear hB'
  go_wp2_with fail
  refine hK.out _ _ hS (fun hHeld => ?_)
  clear hK K
  (try simp only [Act.put, List.setIfInBounds_toArray, List.set_cons_zero, List.set_cons_succ])
  refine wpAnyH_ready (rs := [6]) (by kernel_rfl) (by simp) ?_
  refine AllReadyH.cons (o := { dst := some 11, op := Op.call { callee := Callee.value (Operand.func 15), args := #[Operand.tmp 7, Operand.tmp 10], argTypes := #[9, 9] }, type := 34, pos := _, after := #[{ on := 2, ground := Ground.data }, { on := 5, ground := Ground.data }, { on := 5, ground := Ground.chain }], guard := none }) rfl (fun K hK => ?_) AllReadyH.nil
  go_simp
  refine (pC _).out.mono ?_
  rintro e y3 ⟨rfl, hB'⟩
  replace hS := hS.on hB'
  clear hB'
  go_wp2_with fail
  refine hK.out _ _ hS (fun hHeld => ?_)
  clear hK K
  (try simp only [Act.put, List.setIfInBounds_toArray, List.set_cons_zero, List.set_cons_succ])
  refine wpAnyH_take (i := 7) (oi := { dst := some 12, op := Op.extract (Operand.tmp 11) 0, type := 9, pos := _, after := #[{ on := 6, ground := Ground.data }], guard := none }) (v := ?_) rfl (by kernel_rfl) (by kernel_rfl) (by kernel_rfl) (fun _ _ _ h => h) (Or.inl ⟨by rfl, ?hy⟩) hHeld ?_
  case hy => intro w0 hSw; (try dsimp only at hSw); go_simp; (try with_reducible rfl)
  (try simp only [Act.put, List.setIfInBounds_toArray, List.set_cons_zero, List.set_cons_succ])
  refine wpAnyH_take (i := 8) (oi := { dst := some 13, op := Op.extract (Operand.tmp 11) 1, type := 3, pos := _, after := #[{ on := 6, ground := Ground.data }], guard := none }) (v := ?_) rfl (by kernel_rfl) (by kernel_rfl) (by kernel_rfl) (fun _ _ _ h => h) (Or.inl ⟨by rfl, ?hy⟩) hHeld ?_
  case hy => intro w0 hSw; (try dsimp only at hSw); go_simp; (try with_reducible rfl)
  (try simp only [Act.put, List.setIfInBounds_toArray, List.set_cons_zero, List.set_cons_succ])
  refine wpAnyH_take (i := 9) (oi := { dst := some 14, op := Op.extract (Operand.tmp 11) 2, type := 3, pos := _, after := #[{ on := 6, ground := Ground.data }], guard := none }) (v := ?_) rfl (by kernel_rfl) (by kernel_rfl) (by kernel_rfl) (fun _ _ _ h => h) (Or.inl ⟨by rfl, ?hy⟩) hHeld ?_
  case hy => intro w0 hSw; (try dsimp only at hSw); go_simp; (try with_reducible rfl)
  (try simp only [Act.put, List.setIfInBounds_toArray, List.set_cons_zero, List.set_cons_succ])
  refine wpAnyH_take (i := 10) (oi := { dst := some 2, op := Op.assign (Operand.tmp 12), type := 9, pos := _, after := #[{ on := 7, ground := Ground.data }, { on := 6, ground := Ground.chain }, { on := 0, ground := Ground.phase }, { on := 1, ground := Ground.phase }, { on := 2, ground := Ground.phase }, { on := 3, ground := Ground.phase }, { on := 4, ground := Ground.phase }, { on := 5, ground := Ground.phase }, { on := 6, ground := Ground.phase }, { on := 7, ground := Ground.phase }, { on := 8, ground := Ground.phase }, { on := 9, ground := Ground.phase }], guard := none }) (v := ?_) rfl (by kernel_rfl) (by kernel_rfl) (by kernel_rfl) (fun _ _ _ h => h) (Or.inl ⟨by rfl, ?hy⟩) hHeld ?_
  case hy => intro w0 hSw; (try dsimp only at hSw); go_simp; (try with_reducible rfl)
  (try simp only [Act.put, List.setIfInBounds_toArray, List.set_cons_zero, List.set_cons_succ])
  refine wpAnyH_take (i := 11) (oi := { dst := some 3, op := Op.assign (Operand.tmp 13), type := 3, pos := _, after := #[{ on := 8, ground := Ground.data }, { on := 10, ground := Ground.chain }, { on := 0, ground := Ground.phase }, { on := 1, ground := Ground.phase }, { on := 2, ground := Ground.phase }, { on := 3, ground := Ground.phase }, { on := 4, ground := Ground.phase }, { on := 5, ground := Ground.phase }, { on := 6, ground := Ground.phase }, { on := 7, ground := Ground.phase }, { on := 8, ground := Ground.phase }, { on := 9, ground := Ground.phase }, { on := 10, ground := Ground.phase }], guard := none }) (v := ?_) rfl (by kernel_rfl) (by kernel_rfl) (by kernel_rfl) (fun _ _ _ h => h) (Or.inl ⟨by rfl, ?hy⟩) hHeld ?_
  case hy => intro w0 hSw; (try dsimp only at hSw); go_simp; (try with_reducible rfl)
  (try simp only [Act.put, List.setIfInBounds_toArray, List.set_cons_zero, List.set_cons_succ])
  refine wpAnyH_take (i := 12) (oi := { dst := some 4, op := Op.assign (Operand.tmp 14), type := 3, pos := _, after := #[{ on := 9, ground := Ground.data }, { on := 11, ground := Ground.chain }, { on := 0, ground := Ground.phase }, { on := 1, ground := Ground.phase }, { on := 2, ground := Ground.phase }, { on := 3, ground := Ground.phase }, { on := 4, ground := Ground.phase }, { on := 5, ground := Ground.phase }, { on := 6, ground := Ground.phase }, { on := 7, ground := Ground.phase }, { on := 8, ground := Ground.phase }, { on := 9, ground := Ground.phase }, { on := 10, ground := Ground.phase }, { on := 11, ground := Ground.phase }], guard := none }) (v := ?_) rfl (by kernel_rfl) (by kernel_rfl) (by kernel_rfl) (fun _ _ _ h => h) (Or.inl ⟨by rfl, ?hy⟩) hHeld ?_
  case hy => intro w0 hSw; (try dsimp only at hSw); go_simp; (try with_reducible rfl)
  (try simp only [Act.put, List.setIfInBounds_toArray, List.set_cons_zero, List.set_cons_succ])
  refine wpAnyH_done (by kernel_rfl) ?_ _
  clear hHeld pA pB pC
  have S2 := Lib.hid hS
  clear hS
  go_wp2
  go_ret3
  exact ⟨rfl, S2.out.below⟩
theorem sbest_any (s : Slo) (hs : Sl.small s) (w : World) :
    Calls Try.prog 23 #[.agg (Sl.v s)] w fun e w' => e = .returned (.tuple #[.string (strOf (Sl.best s).1), .int .i64 (Sl.best s).2.1, .int .i64 (Sl.best s).2.2]) ∧ Below w.heap.size w w' := by
  have z1 := Fi.read_size s.a
  have z2 := Fi.read_size s.b
  have h1 := hs.1
  have h2 := hs.2
  unfold Fi.small at h1 h2
  have h := sbest_go s.a.most s.b.most s.a.kept s.a.loose s.b.kept s.b.loose _ _ _ _ _ w (fun W => Lib.hid (fread_any _ _ _ h1 W)) (fun W => Lib.hid (fread_any _ _ _ h2 W)) (fun W => Lib.hid (sBetter_any (Fi.read s.a) (Fi.read s.b) W (by omega) (by omega)))
  exact h

set_option maxHeartbeats 1000000 in
theorem sload_no (sm sn : Int) (sk sl sx sy : ByteArray) (w : World)
    (pO : ∀ W : World, Calls Try.prog 21 #[.agg #[.int .i64 sm, .string sk, .string sl, .int .i64 sn, .string sx, .string sy]] W fun e w' => e = .returned (.agg #[.int .i64 sm, .string sk, .string sl, .int .i64 sn, .string sx, .string sy]) ∧ Below W.heap.size W w')
    (pI : ∀ W : World, Calls Try.prog 22 #[.agg #[.int .i64 sm, .string sk, .string sl, .int .i64 sn, .string sx, .string sy]] W fun e w' => e = .returned (.bool false) ∧ Below W.heap.size W w') :
    Calls Try.prog 9 #[.agg #[.int .i64 sm, .string sk, .string sl, .int .i64 sn, .string sx, .string sy]] w fun e w' => e = .returned (.tuple #[.string ⟨#[]⟩, .int .i64 0, .int .i64 1]) ∧ Below w.heap.size w w' := by
  have S0 := Lib.hid ((St.start w).new #[.int .i64 sm, .string sk, .string sl, .int .i64 sn, .string sx, .string sy] 25)
  go_enter Try.func9, Try.ntmps9
  go_wp2_with (refine wpList_loadg_st (by rfl) 25 _ rfl S0.out 0 _ _ rfl rfl _ Try.underlying25 rfl (by rfl) ?_)
  refine (pO _).mono ?_
  rintro e w1 ⟨rfl, hB⟩
  have S1 := Lib.hid (S0.out.on hB)
  clear hB S0
  go_wp2_with (first
    | (refine wpList_store_st rfl 49 _ _ rfl S1.out _ #[.int .i64 sm, .string sk, .string sl, .int .i64 sn, .string sx, .string sy] _ rfl rfl (by rfl) rfl (sl_one15 _ _ _ _ _ _) ?_; intro q1 w2 hp hS hBn; (try rw [← hp]); have S2 := Lib.hid hS; have Hpq1 := Lib.hid hp; clear hS hp hBn)
    | (refine wpList_loadg_st (by rfl) 47 _ rfl S2.out 0 _ _ rfl rfl _ Try.underlying47 rfl (by rfl) ?_))
  refine (pI _).mono ?_
  rintro e w3 ⟨rfl, hB⟩
  have S3 := Lib.hid (S2.out.on hB)
  clear hB S2
  go_wp2
  go_ret3
  exact ⟨rfl, S3.out.below⟩
set_option maxHeartbeats 1000000 in
theorem sload_yes (sm sn : Int) (sk sl sx sy : ByteArray) (c : ByteArray) (n i : Int) (w : World)
    (pO : ∀ W : World, Calls Try.prog 21 #[.agg #[.int .i64 sm, .string sk, .string sl, .int .i64 sn, .string sx, .string sy]] W fun e w' => e = .returned (.agg #[.int .i64 sm, .string sk, .string sl, .int .i64 sn, .string sx, .string sy]) ∧ Below W.heap.size W w')
    (pI : ∀ W : World, Calls Try.prog 22 #[.agg #[.int .i64 sm, .string sk, .string sl, .int .i64 sn, .string sx, .string sy]] W fun e w' => e = .returned (.bool true) ∧ Below W.heap.size W w')
    (pC : ∀ W : World, Calls Try.prog 23 #[.agg #[.int .i64 sm, .string sk, .string sl, .int .i64 sn, .string sx, .string sy]] W fun e w' => e = .returned (.tuple #[.string c, .int .i64 n, .int .i64 i]) ∧ Below W.heap.size W w') :
    Calls Try.prog 9 #[.agg #[.int .i64 sm, .string sk, .string sl, .int .i64 sn, .string sx, .string sy]] w fun e w' => e = .returned (.tuple #[.string c, .int .i64 n, .int .i64 0]) ∧ Below w.heap.size w w' := by
  have S0 := Lib.hid ((St.start w).new #[.int .i64 sm, .string sk, .string sl, .int .i64 sn, .string sx, .string sy] 25)
  go_enter Try.func9, Try.ntmps9
  go_wp2_with (refine wpList_loadg_st (by rfl) 25 _ rfl S0.out 0 _ _ rfl rfl _ Try.underlying25 rfl (by rfl) ?_)
  refine (pO _).mono ?_
  rintro e w1 ⟨rfl, hB⟩
  have S1 := Lib.hid (S0.out.on hB)
  clear hB S0
  go_wp2_with (first
    | (refine wpList_store_st rfl 49 _ _ rfl S1.out _ #[.int .i64 sm, .string sk, .string sl, .int .i64 sn, .string sx, .string sy] _ rfl rfl (by rfl) rfl (sl_one15 _ _ _ _ _ _) ?_; intro q1 w2 hp hS hBn; (try rw [← hp]); have S2 := Lib.hid hS; have Hpq1 := Lib.hid hp; clear hS hp hBn)
    | (refine wpList_loadg_st (by rfl) 47 _ rfl S2.out 0 _ _ rfl rfl _ Try.underlying47 rfl (by rfl) ?_))
  refine (pI _).mono ?_
  rintro e w3 ⟨rfl, hB⟩
  have S3 := Lib.hid (S2.out.on hB)
  clear hB S2
  go_wp2_with (refine wpList_loadg_st (by rfl) 47 _ rfl S3.out 0 _ _ rfl rfl _ Try.underlying47 rfl (by rfl) ?_)
  refine (pC _).mono ?_
  rintro e w4 ⟨rfl, hB⟩
  have S4 := Lib.hid (S3.out.on hB)
  clear hB S3
  go_wp2
  go_ret3
  exact ⟨rfl, S4.out.below⟩
theorem sload_any (s : Slo) (hs : Sl.small s) (w : World) :
    Calls Try.prog 9 #[.agg (Sl.v s)] w fun e w' => e = .returned (.tuple #[.string (strOf (Sl.loadT s)), .int .i64 (Sl.loadN s), .int .i64 (Sl.badE s)]) ∧ Below w.heap.size w w' := by
  have pO := fun W => sof_any s.a.most s.b.most s.a.kept s.a.loose s.b.kept s.b.loose W
  have pI := fun W => sright_any s hs W
  have pC := fun W => sbest_any s hs W
  cases hi : Sl.is s
  · rw [hi] at pI
    have e1 : Sl.loadT s = [] := by unfold Sl.loadT; rw [hi]; rfl
    have e2 : Sl.loadN s = 0 := by unfold Sl.loadN; rw [hi]; rfl
    have e3 : Sl.badE s = 1 := by unfold Sl.badE; rw [hi]; rfl
    rw [e1, e2, e3]
    exact sload_no _ _ _ _ _ _ w pO pI
  · rw [hi] at pI
    have e1 : Sl.loadT s = (Sl.best s).1 := by unfold Sl.loadT; rw [hi]; rfl
    have e2 : Sl.loadN s = (Sl.best s).2.1 := by unfold Sl.loadN; rw [hi]; rfl
    have e3 : Sl.badE s = 0 := by unfold Sl.badE; rw [hi]; rfl
    rw [e1, e2, e3]
    exact sload_yes _ _ _ _ _ _ _ _ _ w pO pI pC

/-- A number in a box. -/
def boxF15 (b : Nat) (n : Int) : Fact := ⟨fun W => W.cell? ⟨b, 0, none⟩ = some (.int .i64 n) ∧ b < W.heap.size, fun _ _ h hB => ⟨(hB.cell (p := ⟨b, 0, none⟩) h.2).trans h.1, Nat.lt_of_lt_of_le h.2 hB.size⟩⟩

set_option maxHeartbeats 400000 in
theorem scl_crash (m u : Int) (k l : ByteArray) (b : Nat) (ym E : Int) (yk yl : ByteArray) (w : World) (hb : (boxF15 b u).on w)
    (p1 : ∀ W : World, Calls Try.prog 34 #[.agg #[.int .i64 m, .string k, .string l], .int .i64 u] W fun e w' => e = .returned (.tuple #[.agg #[.int .i64 ym, .string yk, .string yl], .int .i64 E]) ∧ Below W.heap.size W w') :
    Calls Try.prog 33 #[.agg #[.int .i64 m, .string k, .string l], .pointer (some ⟨b, 0, none⟩)] w fun e w' => e = .returned (.tuple #[.agg #[.int .i64 ym, .string yk, .string yl], .int .i64 E]) ∧ Below w.heap.size w w' := by
  have hF := FilAt.new1 w (.cells #[.int .i64 m, .string k, .string l] 23) 0 ⟨#[]⟩ ⟨#[]⟩ 23
  have hB := below_new2 w (.cells #[.int .i64 m, .string k, .string l] 23) (.cells #[.int .i64 0, .string ⟨#[]⟩, .string ⟨#[]⟩] 23)
  have d0 := ((boxF15 b u).lasts _ _ hb hB).1
  have HF := Lib.hid hF
  have HB := Lib.hid hB
  clear hF hB hb
  go_enter Try.func33, Try.ntmps33
  go_wp2_with fail
  refine (p1 _).mono ?_
  rintro e w1 ⟨rfl, hB⟩
  have HF2 := Lib.hid (HF.out.below hB)
  have HB2 := Lib.hid (below2 HB.out hB)
  clear p1 hB d0 HF HB
  have a0 := HF2.out.f0
  have a1 := HF2.out.f1
  have a2 := HF2.out.f2
  have b0 := HF2.out.c0
  have b1 := HF2.out.c1
  have b2 := HF2.out.c2
  go_wp2_with fail
  (try simp only [Exit.inBlock, Exit.then]); refine bodyPost_ret (ret_file rfl rfl (((HF2.out.set0 ym).set1 _).set2 _)) rfl ?_
  exact ⟨rfl, below_set3 HB2.out (by omega) _ _ _⟩

set_option maxHeartbeats 400000 in
theorem scl_new (m u : Int) (k l : ByteArray) (b : Nat) (ym E : Int) (yk yl : ByteArray) (w : World) (hb : (boxF15 b u).on w)
    (p1 : ∀ W : World, Calls Try.prog 39 #[.int .i64 u] W fun e w' => e = .returned (.tuple #[.agg #[.int .i64 ym, .string yk, .string yl], .int .i64 E]) ∧ Below W.heap.size W w') :
    Calls Try.prog 38 #[.agg #[.int .i64 m, .string k, .string l], .pointer (some ⟨b, 0, none⟩)] w fun e w' => e = .returned (.tuple #[.agg #[.int .i64 ym, .string yk, .string yl], .int .i64 E]) ∧ Below w.heap.size w w' := by
  have hF := FilAt.new1 w (.cells #[.int .i64 m, .string k, .string l] 23) 0 ⟨#[]⟩ ⟨#[]⟩ 23
  have hB := below_new2 w (.cells #[.int .i64 m, .string k, .string l] 23) (.cells #[.int .i64 0, .string ⟨#[]⟩, .string ⟨#[]⟩] 23)
  have d0 := ((boxF15 b u).lasts _ _ hb hB).1
  have HF := Lib.hid hF
  have HB := Lib.hid hB
  clear hF hB hb
  go_enter Try.func38, Try.ntmps38
  go_wp2_with fail
  refine (p1 _).mono ?_
  rintro e w1 ⟨rfl, hB⟩
  have HF2 := Lib.hid (HF.out.below hB)
  have HB2 := Lib.hid (below2 HB.out hB)
  clear p1 hB d0 HF HB
  have a0 := HF2.out.f0
  have a1 := HF2.out.f1
  have a2 := HF2.out.f2
  have b0 := HF2.out.c0
  have b1 := HF2.out.c1
  have b2 := HF2.out.c2
  go_wp2_with fail
  (try simp only [Exit.inBlock, Exit.then]); refine bodyPost_ret (ret_file rfl rfl (((HF2.out.set0 ym).set1 _).set2 _)) rfl ?_
  exact ⟨rfl, below_set3 HB2.out (by omega) _ _ _⟩

set_option maxHeartbeats 2000000 in
theorem seach_crash_no (sm sn : Int) (sk sl sx sy : ByteArray) (u : Int) (B : Nat) (am ea : Int) (ak al : ByteArray) (w : World) (hb : (boxF15 B u).on w) (h : (ea != 0) = true)
    (pA : ∀ W : World, (boxF15 B u).on W → Calls Try.prog 33 #[.agg #[.int .i64 sm, .string sk, .string sl], .pointer (some ⟨B, 0, none⟩)] W fun e w' => e = .returned (.tuple #[.agg #[.int .i64 am, .string ak, .string al], .int .i64 ea]) ∧ Below W.heap.size W w') :
    Calls Try.prog 32 #[.agg #[.int .i64 sm, .string sk, .string sl, .int .i64 sn, .string sx, .string sy], .func (.func 33) #[] #[.pointer (some ⟨B, 0, none⟩)]] w fun e w' => e = .returned (.tuple #[.agg #[.int .i64 0, .string ⟨#[]⟩, .string ⟨#[]⟩, .int .i64 0, .string ⟨#[]⟩, .string ⟨#[]⟩], .int .i64 ea]) ∧ Below w.heap.size w w' := by
  have S0 := Lib.hid (((St.start w).more (boxF15 B u) hb).box2 #[.int .i64 sm, .string sk, .string sl, .int .i64 sn, .string sx, .string sy] #[.int .i64 0, .string ⟨#[]⟩, .string ⟨#[]⟩, .int .i64 0, .string ⟨#[]⟩, .string ⟨#[]⟩] 47 25)
  go_enter Try.func32, Try.ntmps32
  go_wp2_with fail
  refine wp_loop_rounds 3 ?_
  rw [rounds_succ]
  go_wp2_with (refine wpList_loadm_st (by rfl) 23 _ rfl S0.out 1 _ _ rfl 0 rfl [.int .i64 sm, .string sk, .string sl] rfl _ Try.underlying23 rfl (by rfl) ?_)
  refine (pA _ (S0.out.fact 0 rfl)).mono ?_
  rintro e w1 ⟨rfl, hB⟩
  have S1 := Lib.hid (S0.out.on hB)
  clear hB S0 pA
  obtain ⟨p0, hp0⟩ : ∃ p, p = w.heap.size := ⟨_, rfl⟩
  obtain ⟨k0, hk0⟩ : ∃ p, p = w.heap.size + 1 := ⟨_, rfl⟩
  have Hk : Hid (w.heap.size ≤ k0) := Lib.hid (by omega)
  have Hp : Hid (w.heap.size ≤ p0) := Lib.hid (by omega)
  have Hne : Hid (p0 ≠ k0) := Lib.hid (by omega)
  rw [← hk0, ← hp0] at S1
  (try rw [← hk0])
  (try rw [← hp0])
  clear hp0 hk0
  go_wp2_with (first
    | (refine wpList_store_st rfl 23 _ _ rfl S1.out _ #[.int .i64 am, .string ak, .string al] _ rfl rfl (by rfl) rfl (fil_one15 _ _ _) ?_; intro q1 w2 hp hS hBn; (try rw [← hp]); have S2 := Lib.hid hS; have Hpq1 := Lib.hid hp; clear hS hp hBn)
    | (refine wpList_storew_st rfl 25 _ _ rfl (S2.out.sub (L' := [(k0, #[.int .i64 0, .string ⟨#[]⟩, .string ⟨#[]⟩, .int .i64 0, .string ⟨#[]⟩, .string ⟨#[]⟩])]) (by simp)) Hk.out (by simp) #[.int .i64 0, .string ⟨#[]⟩, .string ⟨#[]⟩, .int .i64 0, .string ⟨#[]⟩, .string ⟨#[]⟩] rfl rfl (by rfl) rfl (sl_one15 _ _ _ _ _ _) ?_; intro w3 hS; have S3 := Lib.hid hS; clear hS))
  (try simp only [Exit.inBlock, Exit.then]); refine bodyPost_ret (ret_slots rfl rfl S3.out rfl) rfl ?_
  exact ⟨rfl, S3.out.below⟩
set_option maxHeartbeats 2000000 in
theorem seach_crash_yes (sm sn : Int) (sk sl sx sy : ByteArray) (u : Int) (B : Nat) (am bm : Int) (ak al bk bl2 : ByteArray) (w : World) (hb : (boxF15 B u).on w)
    (pA : ∀ W : World, (boxF15 B u).on W → Calls Try.prog 33 #[.agg #[.int .i64 sm, .string sk, .string sl], .pointer (some ⟨B, 0, none⟩)] W fun e w' => e = .returned (.tuple #[.agg #[.int .i64 am, .string ak, .string al], .int .i64 0]) ∧ Below W.heap.size W w')
    (pB : ∀ W : World, (boxF15 B u).on W → Calls Try.prog 33 #[.agg #[.int .i64 sn, .string sx, .string sy], .pointer (some ⟨B, 0, none⟩)] W fun e w' => e = .returned (.tuple #[.agg #[.int .i64 bm, .string bk, .string bl2], .int .i64 0]) ∧ Below W.heap.size W w')
    (pT : ∀ W : World, Calls Try.prog 30 #[.agg #[.int .i64 am, .string ak, .string al, .int .i64 bm, .string bk, .string bl2]] W fun e w' => e = .returned (.agg #[.int .i64 am, .string ak, .string al, .int .i64 bm, .string bk, .string bl2]) ∧ Below W.heap.size W w') :
    Calls Try.prog 32 #[.agg #[.int .i64 sm, .string sk, .string sl, .int .i64 sn, .string sx, .string sy], .func (.func 33) #[] #[.pointer (some ⟨B, 0, none⟩)]] w fun e w' => e = .returned (.tuple #[.agg #[.int .i64 am, .string ak, .string al, .int .i64 bm, .string bk, .string bl2], .int .i64 0]) ∧ Below w.heap.size w w' := by
  have Hbx := Lib.hid hb
  have S0 := Lib.hid (((St.start w).more (boxF15 B u) hb).box2 #[.int .i64 sm, .string sk, .string sl, .int .i64 sn, .string sx, .string sy] #[.int .i64 0, .string ⟨#[]⟩, .string ⟨#[]⟩, .int .i64 0, .string ⟨#[]⟩, .string ⟨#[]⟩] 47 25)
  go_enter Try.func32, Try.ntmps32
  go_wp2_with fail
  refine wp_loop_rounds 3 ?_
  rw [rounds_succ]
  go_wp2_with (refine wpList_loadm_st (by rfl) 23 _ rfl S0.out 1 _ _ rfl 0 rfl [.int .i64 sm, .string sk, .string sl] rfl _ Try.underlying23 rfl (by rfl) ?_)
  refine (pA _ (S0.out.fact 0 rfl)).mono ?_
  rintro e w1 ⟨rfl, hB⟩
  have S1 := Lib.hid (S0.out.on hB)
  clear hB S0 pA
  obtain ⟨p0, hp0⟩ : ∃ p, p = w.heap.size := ⟨_, rfl⟩
  obtain ⟨k0, hk0⟩ : ∃ p, p = w.heap.size + 1 := ⟨_, rfl⟩
  have Hk : Hid (w.heap.size ≤ k0) := Lib.hid (by omega)
  have Hp : Hid (w.heap.size ≤ p0) := Lib.hid (by omega)
  have Hne : Hid (p0 ≠ k0) := Lib.hid (by omega)
  rw [← hk0, ← hp0] at S1
  (try rw [← hk0])
  (try rw [← hp0])
  clear hp0 hk0
  clear hb
  go_wp2_with (first
    | (refine wpList_store_st rfl 23 _ _ rfl S1.out _ #[.int .i64 am, .string ak, .string al] _ rfl rfl (by rfl) rfl (fil_one15 _ _ _) ?_; intro q1 w2 hp hS hBn; (try rw [← hp]); have S2 := Lib.hid hS; have Hpq1 := Lib.hid hp; clear hS hp hBn)
    | (refine wpList_loadg_st (by rfl) 23 _ rfl S2.out 0 _ _ rfl rfl _ Try.underlying23 rfl (by rfl) ?_)
    | (refine wpList_storem_st rfl 23 _ _ rfl (S2.out.sub (L' := [(p0, #[.int .i64 sm, .string sk, .string sl, .int .i64 sn, .string sx, .string sy]), (k0, #[.int .i64 0, .string ⟨#[]⟩, .string ⟨#[]⟩, .int .i64 0, .string ⟨#[]⟩, .string ⟨#[]⟩])]) (by simp)) Hp.out (by intro u hu; rcases List.mem_singleton.1 hu with rfl; exact fun h => Hne.out h.symm) 0 (.int .i64 am) (.string ak) (.string al) #[.int .i64 am, .string ak, .string al, .int .i64 sn, .string sx, .string sy] rfl (show 0 + 3 ≤ 6 by decide) rfl rfl (by rfl) (fil_one15 _ _ _) ?_; intro w3 hS; have S3 := Lib.hid hS; clear hS))
  rw [rounds_succ]
  go_wp2_with (refine wpList_loadm_st (by rfl) 23 _ rfl S3.out 0 _ _ rfl 3 rfl [.int .i64 sn, .string sx, .string sy] rfl _ Try.underlying23 rfl (by rfl) ?_)
  refine (pB _ ((boxF15 B u).lasts _ _ Hbx.out S3.out.below)).mono ?_
  rintro e w4 ⟨rfl, hB⟩
  have S4 := Lib.hid (S3.out.on hB)
  clear hB S3 pB
  go_wp2_with (first
    | (refine wpList_store_st rfl 23 _ _ rfl S4.out _ #[.int .i64 bm, .string bk, .string bl2] _ rfl rfl (by rfl) rfl (fil_one15 _ _ _) ?_; intro q2 w5 hp hS hBn; (try rw [← hp]); have S5 := Lib.hid hS; have Hpq2 := Lib.hid hp; clear hS hp hBn)
    | (refine wpList_loadg_st (by rfl) 23 _ rfl S5.out 0 _ _ rfl rfl _ Try.underlying23 rfl (by rfl) ?_)
    | (refine wpList_storem_st rfl 23 _ _ rfl (S5.out.sub (L' := [(p0, #[.int .i64 am, .string ak, .string al, .int .i64 sn, .string sx, .string sy]), (k0, #[.int .i64 0, .string ⟨#[]⟩, .string ⟨#[]⟩, .int .i64 0, .string ⟨#[]⟩, .string ⟨#[]⟩])]) (by simp)) Hp.out (by intro u hu; rcases List.mem_singleton.1 hu with rfl; exact fun h => Hne.out h.symm) 3 (.int .i64 bm) (.string bk) (.string bl2) #[.int .i64 am, .string ak, .string al, .int .i64 bm, .string bk, .string bl2] rfl (show 3 + 3 ≤ 6 by decide) rfl rfl (by rfl) (fil_one15 _ _ _) ?_; intro w6 hS; have S6 := Lib.hid hS; clear hS))
  rw [rounds_succ]
  go_wp2_with (refine wpList_loadg_st (by rfl) 47 _ rfl S6.out 0 _ _ rfl rfl _ Try.underlying47 rfl (by rfl) ?_)
  refine (pT _).mono ?_
  rintro e w7 ⟨rfl, hB⟩
  have S7 := Lib.hid (S6.out.on hB)
  clear hB S6 pT
  go_wp2_with (refine wpList_storew_st rfl 25 _ _ rfl (S7.out.sub (L' := [(k0, #[.int .i64 0, .string ⟨#[]⟩, .string ⟨#[]⟩, .int .i64 0, .string ⟨#[]⟩, .string ⟨#[]⟩])]) (by simp)) Hk.out (by simp) #[.int .i64 am, .string ak, .string al, .int .i64 bm, .string bk, .string bl2] rfl rfl (by rfl) rfl (sl_one15 _ _ _ _ _ _) ?_; intro w8 hS; have S8 := Lib.hid hS; clear hS)
  (try simp only [Exit.inBlock, Exit.then]); refine bodyPost_ret (ret_slots rfl rfl S8.out rfl) rfl ?_
  exact ⟨rfl, S8.out.below⟩

set_option maxHeartbeats 2000000 in
theorem seach_new_no (sm sn : Int) (sk sl sx sy : ByteArray) (u : Int) (B : Nat) (am ea : Int) (ak al : ByteArray) (w : World) (hb : (boxF15 B u).on w) (h : (ea != 0) = true)
    (pA : ∀ W : World, (boxF15 B u).on W → Calls Try.prog 38 #[.agg #[.int .i64 sm, .string sk, .string sl], .pointer (some ⟨B, 0, none⟩)] W fun e w' => e = .returned (.tuple #[.agg #[.int .i64 am, .string ak, .string al], .int .i64 ea]) ∧ Below W.heap.size W w') :
    Calls Try.prog 32 #[.agg #[.int .i64 sm, .string sk, .string sl, .int .i64 sn, .string sx, .string sy], .func (.func 38) #[] #[.pointer (some ⟨B, 0, none⟩)]] w fun e w' => e = .returned (.tuple #[.agg #[.int .i64 0, .string ⟨#[]⟩, .string ⟨#[]⟩, .int .i64 0, .string ⟨#[]⟩, .string ⟨#[]⟩], .int .i64 ea]) ∧ Below w.heap.size w w' := by
  have S0 := Lib.hid (((St.start w).more (boxF15 B u) hb).box2 #[.int .i64 sm, .string sk, .string sl, .int .i64 sn, .string sx, .string sy] #[.int .i64 0, .string ⟨#[]⟩, .string ⟨#[]⟩, .int .i64 0, .string ⟨#[]⟩, .string ⟨#[]⟩] 47 25)
  go_enter Try.func32, Try.ntmps32
  go_wp2_with fail
  refine wp_loop_rounds 3 ?_
  rw [rounds_succ]
  go_wp2_with (refine wpList_loadm_st (by rfl) 23 _ rfl S0.out 1 _ _ rfl 0 rfl [.int .i64 sm, .string sk, .string sl] rfl _ Try.underlying23 rfl (by rfl) ?_)
  refine (pA _ (S0.out.fact 0 rfl)).mono ?_
  rintro e w1 ⟨rfl, hB⟩
  have S1 := Lib.hid (S0.out.on hB)
  clear hB S0 pA
  obtain ⟨p0, hp0⟩ : ∃ p, p = w.heap.size := ⟨_, rfl⟩
  obtain ⟨k0, hk0⟩ : ∃ p, p = w.heap.size + 1 := ⟨_, rfl⟩
  have Hk : Hid (w.heap.size ≤ k0) := Lib.hid (by omega)
  have Hp : Hid (w.heap.size ≤ p0) := Lib.hid (by omega)
  have Hne : Hid (p0 ≠ k0) := Lib.hid (by omega)
  rw [← hk0, ← hp0] at S1
  (try rw [← hk0])
  (try rw [← hp0])
  clear hp0 hk0
  go_wp2_with (first
    | (refine wpList_store_st rfl 23 _ _ rfl S1.out _ #[.int .i64 am, .string ak, .string al] _ rfl rfl (by rfl) rfl (fil_one15 _ _ _) ?_; intro q1 w2 hp hS hBn; (try rw [← hp]); have S2 := Lib.hid hS; have Hpq1 := Lib.hid hp; clear hS hp hBn)
    | (refine wpList_storew_st rfl 25 _ _ rfl (S2.out.sub (L' := [(k0, #[.int .i64 0, .string ⟨#[]⟩, .string ⟨#[]⟩, .int .i64 0, .string ⟨#[]⟩, .string ⟨#[]⟩])]) (by simp)) Hk.out (by simp) #[.int .i64 0, .string ⟨#[]⟩, .string ⟨#[]⟩, .int .i64 0, .string ⟨#[]⟩, .string ⟨#[]⟩] rfl rfl (by rfl) rfl (sl_one15 _ _ _ _ _ _) ?_; intro w3 hS; have S3 := Lib.hid hS; clear hS))
  (try simp only [Exit.inBlock, Exit.then]); refine bodyPost_ret (ret_slots rfl rfl S3.out rfl) rfl ?_
  exact ⟨rfl, S3.out.below⟩
set_option maxHeartbeats 2000000 in
theorem seach_new_yes (sm sn : Int) (sk sl sx sy : ByteArray) (u : Int) (B : Nat) (am bm : Int) (ak al bk bl2 : ByteArray) (w : World) (hb : (boxF15 B u).on w)
    (pA : ∀ W : World, (boxF15 B u).on W → Calls Try.prog 38 #[.agg #[.int .i64 sm, .string sk, .string sl], .pointer (some ⟨B, 0, none⟩)] W fun e w' => e = .returned (.tuple #[.agg #[.int .i64 am, .string ak, .string al], .int .i64 0]) ∧ Below W.heap.size W w')
    (pB : ∀ W : World, (boxF15 B u).on W → Calls Try.prog 38 #[.agg #[.int .i64 sn, .string sx, .string sy], .pointer (some ⟨B, 0, none⟩)] W fun e w' => e = .returned (.tuple #[.agg #[.int .i64 bm, .string bk, .string bl2], .int .i64 0]) ∧ Below W.heap.size W w')
    (pT : ∀ W : World, Calls Try.prog 30 #[.agg #[.int .i64 am, .string ak, .string al, .int .i64 bm, .string bk, .string bl2]] W fun e w' => e = .returned (.agg #[.int .i64 am, .string ak, .string al, .int .i64 bm, .string bk, .string bl2]) ∧ Below W.heap.size W w') :
    Calls Try.prog 32 #[.agg #[.int .i64 sm, .string sk, .string sl, .int .i64 sn, .string sx, .string sy], .func (.func 38) #[] #[.pointer (some ⟨B, 0, none⟩)]] w fun e w' => e = .returned (.tuple #[.agg #[.int .i64 am, .string ak, .string al, .int .i64 bm, .string bk, .string bl2], .int .i64 0]) ∧ Below w.heap.size w w' := by
  have Hbx := Lib.hid hb
  have S0 := Lib.hid (((St.start w).more (boxF15 B u) hb).box2 #[.int .i64 sm, .string sk, .string sl, .int .i64 sn, .string sx, .string sy] #[.int .i64 0, .string ⟨#[]⟩, .string ⟨#[]⟩, .int .i64 0, .string ⟨#[]⟩, .string ⟨#[]⟩] 47 25)
  go_enter Try.func32, Try.ntmps32
  go_wp2_with fail
  refine wp_loop_rounds 3 ?_
  rw [rounds_succ]
  go_wp2_with (refine wpList_loadm_st (by rfl) 23 _ rfl S0.out 1 _ _ rfl 0 rfl [.int .i64 sm, .string sk, .string sl] rfl _ Try.underlying23 rfl (by rfl) ?_)
  refine (pA _ (S0.out.fact 0 rfl)).mono ?_
  rintro e w1 ⟨rfl, hB⟩
  have S1 := Lib.hid (S0.out.on hB)
  clear hB S0 pA
  obtain ⟨p0, hp0⟩ : ∃ p, p = w.heap.size := ⟨_, rfl⟩
  obtain ⟨k0, hk0⟩ : ∃ p, p = w.heap.size + 1 := ⟨_, rfl⟩
  have Hk : Hid (w.heap.size ≤ k0) := Lib.hid (by omega)
  have Hp : Hid (w.heap.size ≤ p0) := Lib.hid (by omega)
  have Hne : Hid (p0 ≠ k0) := Lib.hid (by omega)
  rw [← hk0, ← hp0] at S1
  (try rw [← hk0])
  (try rw [← hp0])
  clear hp0 hk0
  clear hb
  go_wp2_with (first
    | (refine wpList_store_st rfl 23 _ _ rfl S1.out _ #[.int .i64 am, .string ak, .string al] _ rfl rfl (by rfl) rfl (fil_one15 _ _ _) ?_; intro q1 w2 hp hS hBn; (try rw [← hp]); have S2 := Lib.hid hS; have Hpq1 := Lib.hid hp; clear hS hp hBn)
    | (refine wpList_loadg_st (by rfl) 23 _ rfl S2.out 0 _ _ rfl rfl _ Try.underlying23 rfl (by rfl) ?_)
    | (refine wpList_storem_st rfl 23 _ _ rfl (S2.out.sub (L' := [(p0, #[.int .i64 sm, .string sk, .string sl, .int .i64 sn, .string sx, .string sy]), (k0, #[.int .i64 0, .string ⟨#[]⟩, .string ⟨#[]⟩, .int .i64 0, .string ⟨#[]⟩, .string ⟨#[]⟩])]) (by simp)) Hp.out (by intro u hu; rcases List.mem_singleton.1 hu with rfl; exact fun h => Hne.out h.symm) 0 (.int .i64 am) (.string ak) (.string al) #[.int .i64 am, .string ak, .string al, .int .i64 sn, .string sx, .string sy] rfl (show 0 + 3 ≤ 6 by decide) rfl rfl (by rfl) (fil_one15 _ _ _) ?_; intro w3 hS; have S3 := Lib.hid hS; clear hS))
  rw [rounds_succ]
  go_wp2_with (refine wpList_loadm_st (by rfl) 23 _ rfl S3.out 0 _ _ rfl 3 rfl [.int .i64 sn, .string sx, .string sy] rfl _ Try.underlying23 rfl (by rfl) ?_)
  refine (pB _ ((boxF15 B u).lasts _ _ Hbx.out S3.out.below)).mono ?_
  rintro e w4 ⟨rfl, hB⟩
  have S4 := Lib.hid (S3.out.on hB)
  clear hB S3 pB
  go_wp2_with (first
    | (refine wpList_store_st rfl 23 _ _ rfl S4.out _ #[.int .i64 bm, .string bk, .string bl2] _ rfl rfl (by rfl) rfl (fil_one15 _ _ _) ?_; intro q2 w5 hp hS hBn; (try rw [← hp]); have S5 := Lib.hid hS; have Hpq2 := Lib.hid hp; clear hS hp hBn)
    | (refine wpList_loadg_st (by rfl) 23 _ rfl S5.out 0 _ _ rfl rfl _ Try.underlying23 rfl (by rfl) ?_)
    | (refine wpList_storem_st rfl 23 _ _ rfl (S5.out.sub (L' := [(p0, #[.int .i64 am, .string ak, .string al, .int .i64 sn, .string sx, .string sy]), (k0, #[.int .i64 0, .string ⟨#[]⟩, .string ⟨#[]⟩, .int .i64 0, .string ⟨#[]⟩, .string ⟨#[]⟩])]) (by simp)) Hp.out (by intro u hu; rcases List.mem_singleton.1 hu with rfl; exact fun h => Hne.out h.symm) 3 (.int .i64 bm) (.string bk) (.string bl2) #[.int .i64 am, .string ak, .string al, .int .i64 bm, .string bk, .string bl2] rfl (show 3 + 3 ≤ 6 by decide) rfl rfl (by rfl) (fil_one15 _ _ _) ?_; intro w6 hS; have S6 := Lib.hid hS; clear hS))
  rw [rounds_succ]
  go_wp2_with (refine wpList_loadg_st (by rfl) 47 _ rfl S6.out 0 _ _ rfl rfl _ Try.underlying47 rfl (by rfl) ?_)
  refine (pT _).mono ?_
  rintro e w7 ⟨rfl, hB⟩
  have S7 := Lib.hid (S6.out.on hB)
  clear hB S6 pT
  go_wp2_with (refine wpList_storew_st rfl 25 _ _ rfl (S7.out.sub (L' := [(k0, #[.int .i64 0, .string ⟨#[]⟩, .string ⟨#[]⟩, .int .i64 0, .string ⟨#[]⟩, .string ⟨#[]⟩])]) (by simp)) Hk.out (by simp) #[.int .i64 am, .string ak, .string al, .int .i64 bm, .string bk, .string bl2] rfl rfl (by rfl) rfl (sl_one15 _ _ _ _ _ _) ?_; intro w8 hS; have S8 := Lib.hid hS; clear hS)
  (try simp only [Exit.inBlock, Exit.then]); refine bodyPost_ret (ret_slots rfl rfl S8.out rfl) rfl ?_
  exact ⟨rfl, S8.out.below⟩

set_option maxHeartbeats 2000000 in
theorem scrash_no (sm sn : Int) (sk sl sx sy : ByteArray) (d : Int) (w : World)
    (pO : ∀ W : World, Calls Try.prog 21 #[.agg #[.int .i64 sm, .string sk, .string sl, .int .i64 sn, .string sx, .string sy]] W fun e w' => e = .returned (.agg #[.int .i64 sm, .string sk, .string sl, .int .i64 sn, .string sx, .string sy]) ∧ Below W.heap.size W w')
    (pI : ∀ W : World, Calls Try.prog 22 #[.agg #[.int .i64 sm, .string sk, .string sl, .int .i64 sn, .string sx, .string sy]] W fun e w' => e = .returned (.bool false) ∧ Below W.heap.size W w') :
    Calls Try.prog 13 #[.agg #[.int .i64 sm, .string sk, .string sl, .int .i64 sn, .string sx, .string sy], .int .i64 d] w fun e w' => e = .returned (.tuple #[.agg #[.int .i64 0, .string ⟨#[]⟩, .string ⟨#[]⟩, .int .i64 0, .string ⟨#[]⟩, .string ⟨#[]⟩], .int .i64 1]) ∧ Below w.heap.size w w' := by
  have S0 := Lib.hid ((St.start w).box3 #[.int .i64 sm, .string sk, .string sl, .int .i64 sn, .string sx, .string sy] #[.int .i64 d] #[.int .i64 0, .string ⟨#[]⟩, .string ⟨#[]⟩, .int .i64 0, .string ⟨#[]⟩, .string ⟨#[]⟩] 25 3 25)
  go_enter Try.func13, Try.ntmps13
  go_wp2_with (refine wpList_loadg_st (by rfl) 25 _ rfl S0.out 2 _ _ rfl rfl _ Try.underlying25 rfl (by rfl) ?_)
  refine (pO _).mono ?_
  rintro e w1 ⟨rfl, hB⟩
  have S1 := Lib.hid (S0.out.on hB)
  clear hB S0 pO
  obtain ⟨p0, hp0⟩ : ∃ p, p = w.heap.size := ⟨_, rfl⟩
  obtain ⟨k0, hk0⟩ : ∃ p, p = w.heap.size + 1 + 1 := ⟨_, rfl⟩
  have Hk : Hid (w.heap.size ≤ k0) := Lib.hid (by omega)
  rw [← hk0] at S1
  (try rw [← hk0])
  clear hk0 hp0
  go_wp2_with (first
    | (refine wpList_store_st rfl 49 _ _ rfl S1.out _ #[.int .i64 sm, .string sk, .string sl, .int .i64 sn, .string sx, .string sy] _ rfl rfl (by rfl) rfl (sl_one15 _ _ _ _ _ _) ?_; intro q1 w2 hp hS hBn; (try rw [← hp]); have S2 := Lib.hid hS; have Hpq1 := Lib.hid hp; clear hS hp hBn)
    | (refine wpList_loadg_st (by rfl) 47 _ rfl S2.out 0 _ _ rfl rfl _ Try.underlying47 rfl (by rfl) ?_))
  refine (pI _).mono ?_
  rintro e w3 ⟨rfl, hB⟩
  have S3 := Lib.hid (S2.out.on hB)
  clear hB S2 pI
  go_wp2_with (refine wpList_storew_st rfl 25 _ _ rfl (S3.out.sub (L' := [(k0, #[.int .i64 0, .string ⟨#[]⟩, .string ⟨#[]⟩, .int .i64 0, .string ⟨#[]⟩, .string ⟨#[]⟩])]) (by simp)) Hk.out (by simp) #[.int .i64 0, .string ⟨#[]⟩, .string ⟨#[]⟩, .int .i64 0, .string ⟨#[]⟩, .string ⟨#[]⟩] rfl rfl (by rfl) rfl (sl_one15 _ _ _ _ _ _) ?_; intro w4 hS; have S4 := Lib.hid hS; clear hS)
  (try simp only [Exit.inBlock, Exit.then]); refine bodyPost_ret (ret_slots rfl rfl S4.out rfl) rfl ?_
  exact ⟨rfl, S4.out.below⟩

set_option maxHeartbeats 2000000 in
theorem scrash_yes (sm sn : Int) (sk sl sx sy : ByteArray) (d : Int) (am bm : Int) (ak al bk bl2 : ByteArray) (w : World)
    (pO : ∀ W : World, Calls Try.prog 21 #[.agg #[.int .i64 sm, .string sk, .string sl, .int .i64 sn, .string sx, .string sy]] W fun e w' => e = .returned (.agg #[.int .i64 sm, .string sk, .string sl, .int .i64 sn, .string sx, .string sy]) ∧ Below W.heap.size W w')
    (pI : ∀ W : World, Calls Try.prog 22 #[.agg #[.int .i64 sm, .string sk, .string sl, .int .i64 sn, .string sx, .string sy]] W fun e w' => e = .returned (.bool true) ∧ Below W.heap.size W w')
    (pE : ∀ (B : Nat) (W : World), (boxF15 B d).on W → Calls Try.prog 32 #[.agg #[.int .i64 sm, .string sk, .string sl, .int .i64 sn, .string sx, .string sy], .func (.func 33) #[] #[.pointer (some ⟨B, 0, none⟩)]] W fun e w' => e = .returned (.tuple #[.agg #[.int .i64 am, .string ak, .string al, .int .i64 bm, .string bk, .string bl2], .int .i64 0]) ∧ Below W.heap.size W w') :
    Calls Try.prog 13 #[.agg #[.int .i64 sm, .string sk, .string sl, .int .i64 sn, .string sx, .string sy], .int .i64 d] w fun e w' => e = .returned (.tuple #[.agg #[.int .i64 am, .string ak, .string al, .int .i64 bm, .string bk, .string bl2], .int .i64 0]) ∧ Below w.heap.size w w' := by
  have S0 := Lib.hid ((St.start w).box3 #[.int .i64 sm, .string sk, .string sl, .int .i64 sn, .string sx, .string sy] #[.int .i64 d] #[.int .i64 0, .string ⟨#[]⟩, .string ⟨#[]⟩, .int .i64 0, .string ⟨#[]⟩, .string ⟨#[]⟩] 25 3 25)
  go_enter Try.func13, Try.ntmps13
  go_wp2_with (refine wpList_loadg_st (by rfl) 25 _ rfl S0.out 2 _ _ rfl rfl _ Try.underlying25 rfl (by rfl) ?_)
  refine (pO _).mono ?_
  rintro e w1 ⟨rfl, hB⟩
  have S1 := Lib.hid (S0.out.on hB)
  clear hB S0 pO
  obtain ⟨p0, hp0⟩ : ∃ p, p = w.heap.size := ⟨_, rfl⟩
  obtain ⟨k0, hk0⟩ : ∃ p, p = w.heap.size + 1 + 1 := ⟨_, rfl⟩
  have Hk : Hid (w.heap.size ≤ k0) := Lib.hid (by omega)
  rw [← hk0] at S1
  (try rw [← hk0])
  clear hk0 hp0
  go_wp2_with (first
    | (refine wpList_store_st rfl 49 _ _ rfl S1.out _ #[.int .i64 sm, .string sk, .string sl, .int .i64 sn, .string sx, .string sy] _ rfl rfl (by rfl) rfl (sl_one15 _ _ _ _ _ _) ?_; intro q1 w2 hp hS hBn; (try rw [← hp]); have S2 := Lib.hid hS; have Hpq1 := Lib.hid hp; clear hS hp hBn)
    | (refine wpList_loadg_st (by rfl) 47 _ rfl S2.out 0 _ _ rfl rfl _ Try.underlying47 rfl (by rfl) ?_))
  refine (pI _).mono ?_
  rintro e w3 ⟨rfl, hB⟩
  have S3 := Lib.hid (S2.out.on hB)
  clear hB S2 pI
  have hbx : (boxF15 (w.heap.size + 1) d).on w3 := ⟨S3.out.cell 2 rfl 0 rfl, lt15b (S3.out.live (w.heap.size + 1, #[.int .i64 d]) (by simp))⟩
  have Hbx := Lib.hid hbx
  clear hbx
  go_wp2_with (refine wpList_loadg_st (by rfl) 47 _ rfl S3.out 0 _ _ rfl rfl _ Try.underlying47 rfl (by rfl) ?_)
  refine (pE _ _ Hbx.out).mono ?_
  rintro e w4 ⟨rfl, hB⟩
  have S4 := Lib.hid (S3.out.on hB)
  clear hB S3 pE Hbx
  go_wp2_with (refine wpList_storew_st rfl 25 _ _ rfl (S4.out.sub (L' := [(k0, #[.int .i64 0, .string ⟨#[]⟩, .string ⟨#[]⟩, .int .i64 0, .string ⟨#[]⟩, .string ⟨#[]⟩])]) (by simp)) Hk.out (by simp) #[.int .i64 am, .string ak, .string al, .int .i64 bm, .string bk, .string bl2] rfl rfl (by rfl) rfl (sl_one15 _ _ _ _ _ _) ?_; intro w5 hS; have S5 := Lib.hid hS; clear hS)
  (try simp only [Exit.inBlock, Exit.then]); refine bodyPost_ret (ret_slots rfl rfl S5.out rfl) rfl ?_
  exact ⟨rfl, S5.out.below⟩

theorem scrash_any (s : Slo) (d : Int) (hs : Sl.small s) (w : World) :
    Calls Try.prog 13 #[.agg (Sl.v s), .int .i64 d] w fun e w' => e = .returned (.tuple #[.agg (Sl.v (Sl.crash s d)), .int .i64 (Sl.badE s)]) ∧ Below w.heap.size w w' := by
  have pO := fun W => sof_any s.a.most s.b.most s.a.kept s.a.loose s.b.kept s.b.loose W
  have pI := fun W => sright_any s hs W
  cases hi : Sl.is s
  · rw [hi] at pI
    have e1 : Sl.crash s d = Sl.no := by unfold Sl.crash; rw [hi]; rfl
    have e3 : Sl.badE s = 1 := by unfold Sl.badE; rw [hi]; rfl
    rw [e1, e3]
    exact scrash_no _ _ _ _ _ _ d w pO pI
  · rw [hi] at pI
    have h2 := Sl.is_iff.1 hi
    have e1 : Sl.crash s d = ⟨Fi.crash s.a d, Fi.crash s.b d⟩ := by unfold Sl.crash; rw [hi]; rfl
    have e3 : Sl.badE s = 0 := by unfold Sl.badE; rw [hi]; rfl
    have ea : Fi.badE s.a = 0 := by unfold Fi.badE; rw [h2.1]; rfl
    have eb : Fi.badE s.b = 0 := by unfold Fi.badE; rw [h2.2.1]; rfl
    rw [e1, e3]
    have pa := fun W => fcrash_any s.a.most s.a.kept s.a.loose d hs.1 W
    have pb := fun W => fcrash_any s.b.most s.b.kept s.b.loose d hs.2 W
    have ea' : Fi.badE ⟨s.a.most, s.a.kept, s.a.loose⟩ = 0 := ea
    have eb' : Fi.badE ⟨s.b.most, s.b.kept, s.b.loose⟩ = 0 := eb
    rw [ea'] at pa
    rw [eb'] at pb
    exact scrash_yes _ _ _ _ _ _ d _ _ _ _ _ _ w pO pI (fun B W hb => seach_crash_yes _ _ _ _ _ _ d B _ _ _ _ _ _ W hb (fun W' hb' => scl_crash _ d _ _ B _ _ _ _ W' hb' pa) (fun W' hb' => scl_crash _ d _ _ B _ _ _ _ W' hb' pb) (fun W' => stold_any _ _ _ _ _ _ W'))

theorem run_field_pair15 (m n : Int) (k l x y : ByteArray) (w : World) : (Instr.field 49 (.agg #[.int .i64 m, .string k, .string l, .int .i64 n, .string x, .string y]) 0).run Try.prog w = .ok (.agg #[.int .i64 m, .string k, .string l, .int .i64 n, .string x, .string y]) w := by kernel_rfl

set_option maxHeartbeats 2000000 in
theorem snew_go (u am bm E : Int) (ak al bk bl2 : ByteArray) (w : World)
    (pE : ∀ (B : Nat) (W : World), (boxF15 B u).on W → Calls Try.prog 32 #[.agg #[.int .i64 0, .string ⟨#[]⟩, .string ⟨#[]⟩, .int .i64 0, .string ⟨#[]⟩, .string ⟨#[]⟩], .func (.func 38) #[] #[.pointer (some ⟨B, 0, none⟩)]] W fun e w' => e = .returned (.tuple #[.agg #[.int .i64 am, .string ak, .string al, .int .i64 bm, .string bk, .string bl2], .int .i64 E]) ∧ Below W.heap.size W w') :
    Calls Try.prog 17 #[.int .i64 u] w fun e w' => e = .returned (.tuple #[.agg #[.int .i64 am, .string ak, .string al, .int .i64 bm, .string bk, .string bl2], .int .i64 E]) ∧ Below w.heap.size w w' := by
  have S0 := Lib.hid ((St.start w).box2 #[.int .i64 u] #[.int .i64 0, .string ⟨#[]⟩, .string ⟨#[]⟩, .int .i64 0, .string ⟨#[]⟩, .string ⟨#[]⟩] 3 25)
  have hfd := fun W => run_field_pair15 0 0 ⟨#[]⟩ ⟨#[]⟩ ⟨#[]⟩ ⟨#[]⟩ W
  have hbx : (boxF15 w.heap.size u).on ((w.alloc (.cells #[.int .i64 u] 3)).alloc (.cells #[.int .i64 0, .string ⟨#[]⟩, .string ⟨#[]⟩, .int .i64 0, .string ⟨#[]⟩, .string ⟨#[]⟩] 25)) := ⟨S0.out.cell 1 rfl 0 rfl, lt15b (S0.out.live (w.heap.size, #[.int .i64 u]) (by simp))⟩
  have Hbx := Lib.hid hbx
  clear hbx
  go_enter Try.func17, Try.ntmps17
  go_wp2_with fail
  refine (pE _ _ Hbx.out).mono ?_
  rintro e w1 ⟨rfl, hB⟩
  have S1 := Lib.hid (S0.out.on hB)
  clear hB S0 pE Hbx hfd
  obtain ⟨k0, hk0⟩ : ∃ p, p = w.heap.size + 1 := ⟨_, rfl⟩
  have Hk : Hid (w.heap.size ≤ k0) := Lib.hid (by omega)
  rw [← hk0] at S1
  (try rw [← hk0])
  clear hk0
  go_wp2_with (refine wpList_storew_st rfl 25 _ _ rfl (S1.out.sub (L' := [(k0, #[.int .i64 0, .string ⟨#[]⟩, .string ⟨#[]⟩, .int .i64 0, .string ⟨#[]⟩, .string ⟨#[]⟩])]) (by simp)) Hk.out (by simp) #[.int .i64 am, .string ak, .string al, .int .i64 bm, .string bk, .string bl2] rfl rfl (by rfl) rfl (sl_one15 _ _ _ _ _ _) ?_; intro w2 hS; have S2 := Lib.hid hS; clear hS)
  (try simp only [Exit.inBlock, Exit.then]); refine bodyPost_ret (ret_slots rfl rfl S2.out rfl) rfl ?_
  exact ⟨rfl, S2.out.below⟩

theorem snew_any (n : Int) (w : World) :
    Calls Try.prog 17 #[.int .i64 n] w fun e w' => e = .returned (.tuple #[.agg (Sl.v (Sl.newS n)), .int .i64 (Fi.newE n)]) ∧ Below w.heap.size w w' := by
  have pa := fun W => fnew_any n W
  by_cases h : Fi.newE n = 0
  · rw [h] at pa ⊢
    exact snew_go n _ _ _ _ _ _ _ w (fun B W hb => seach_new_yes _ _ _ _ _ _ n B _ _ _ _ _ _ W hb (fun W' hb' => scl_new _ n _ _ B _ _ _ _ W' hb' pa) (fun W' hb' => scl_new _ n _ _ B _ _ _ _ W' hb' pa) (fun W' => stold_any _ _ _ _ _ _ W'))
  · have e1 : Fi.new n = Fi.no := by unfold Fi.newE at h; unfold Fi.new; rw [if_neg (fun hh => h (if_pos hh))]
    have e2 : Sl.newS n = Sl.no := by unfold Sl.newS; rw [e1]; rfl
    rw [e2]
    exact snew_go n _ _ _ _ _ _ _ w (fun B W hb => seach_new_no _ _ _ _ _ _ n B _ _ _ _ W hb (by rw [bne_iff_ne]; exact h) (fun W' hb' => scl_new _ n _ _ B _ _ _ _ W' hb' pa))
end Go.Proofs.Yteepemibmjpnfaa
