/-
  Layer 15 (slots): the landed code: Save's deeds (printed by tools/gen-slow4.py).
-/
import Derived.Test.YteepemibmjpnfaaSloW5
import Derived.Deep.DeepCutAuto
namespace Go.Proofs.Yteepemibmjpnfaa
set_option maxRecDepth 10000
open Go.RowKit


set_option maxHeartbeats 8000000 in
theorem ssave_yes1 (sm sn : Int) (sk sl sx sy : ByteArray) (d n i fm gm : Int) (t c fk fl gk gl : ByteArray) (R : Array Value) (dn : Bool) (h1 : ((1000 : Int) < (t.size : Int)) = False) (h2 : (n == 1000000000) = false) (iw : wrap64 (n + 1) = n + 1)
    (hd : (d = 0 ∧ R = #[.int .i64 sm, .string sk, .string sl, .int .i64 sn, .string sx, .string sy] ∧ dn = false) ∨ (d = 1 ∧ R = #[.int .i64 sm, .string sk, .string sl, .int .i64 fm, .string fk, .string fl] ∧ dn = false) ∨ (d = 2 ∧ R = #[.int .i64 sm, .string sk, .string sl, .int .i64 gm, .string gk, .string gl] ∧ dn = true) ∨ ((d < 0) = True ∧ R = #[.int .i64 sm, .string sk, .string sl, .int .i64 gm, .string gk, .string gl] ∧ dn = true) ∨ ((d < 0) = False ∧ (2 < d) = True ∧ R = #[.int .i64 sm, .string sk, .string sl, .int .i64 gm, .string gk, .string gl] ∧ dn = true)) (w : World)
    (pO : ∀ W : World, Calls Try.prog 21 #[.agg #[.int .i64 sm, .string sk, .string sl, .int .i64 sn, .string sx, .string sy]] W fun e w' => e = .returned (.agg #[.int .i64 sm, .string sk, .string sl, .int .i64 sn, .string sx, .string sy]) ∧ Below W.heap.size W w')
    (pI : ∀ W : World, Calls Try.prog 22 #[.agg #[.int .i64 sm, .string sk, .string sl, .int .i64 sn, .string sx, .string sy]] W fun e w' => e = .returned (.bool true) ∧ Below W.heap.size W w')
    (pC : ∀ W : World, Calls Try.prog 23 #[.agg #[.int .i64 sm, .string sk, .string sl, .int .i64 sn, .string sx, .string sy]] W fun e w' => e = .returned (.tuple #[.string c, .int .i64 n, .int .i64 i]) ∧ Below W.heap.size W w')
    (pM : ∀ W : World, Calls Try.prog 27 #[.agg #[.int .i64 sm, .string sk, .string sl, .int .i64 sn, .string sx, .string sy]] W fun e w' => e = .returned (.int .i64 sm) ∧ Below W.heap.size W w')
    (pW : ∀ W : World, Calls Try.prog 26 #[.int .i64 sm, .int .i64 (n + 1), .string t] W fun e w' => e = .returned (.tuple #[.agg #[.int .i64 fm, .string fk, .string fl], .int .i64 0]) ∧ Below W.heap.size W w')
    (pY : ∀ W : World, Calls Try.prog 28 #[.agg #[.int .i64 fm, .string fk, .string fl]] W fun e w' => e = .returned (.tuple #[.agg #[.int .i64 gm, .string gk, .string gl], .int .i64 0]) ∧ Below W.heap.size W w')
    (pS : ∀ W : World, Calls Try.prog 29 #[.int .i64 i] W fun e w' => e = .returned (.int .i64 1) ∧ Below W.heap.size W w')
    (pT : ∀ (a b : Int) (k l x y : ByteArray) (W : World), Calls Try.prog 30 #[.agg #[.int .i64 a, .string k, .string l, .int .i64 b, .string x, .string y]] W fun e w' => e = .returned (.agg #[.int .i64 a, .string k, .string l, .int .i64 b, .string x, .string y]) ∧ Below W.heap.size W w') :
    Calls Try.prog 11 #[.agg #[.int .i64 sm, .string sk, .string sl, .int .i64 sn, .string sx, .string sy], .string t, .int .i64 d] w fun e w' => e = .returned (.tuple #[.agg R, .bool dn, .int .i64 0]) ∧ Below w.heap.size w w' := by
  have S0 := Lib.hid ((St.start w).box2 #[.int .i64 sm, .string sk, .string sl, .int .i64 sn, .string sx, .string sy] #[.int .i64 0, .string ⟨#[]⟩, .string ⟨#[]⟩, .int .i64 0, .string ⟨#[]⟩, .string ⟨#[]⟩] 25 25)
  go_enter Try.func11, Try.ntmps11
  go_wp2_with (refine wpList_loadg_st (by rfl) 25 _ rfl S0.out 1 _ _ rfl rfl _ Try.underlying25 rfl (by rfl) ?_)
  refine (pO _).mono ?_
  rintro e w1 ⟨rfl, hB⟩
  have S1 := Lib.hid (S0.out.on hB)
  clear hB S0 pO
  obtain ⟨p0, hp0⟩ : ∃ p, p = w.heap.size := ⟨_, rfl⟩
  obtain ⟨k0, hk0⟩ : ∃ p, p = w.heap.size + 1 := ⟨_, rfl⟩
  have Hk : Hid (w.heap.size ≤ k0) := Lib.hid (by omega)
  rw [← hk0, ← hp0] at S1
  (try rw [← hk0])
  (try rw [← hp0])
  clear hk0 hp0
  go_wp2_with (first
    | (refine wpList_store_st rfl 49 _ _ rfl S1.out _ #[.int .i64 sm, .string sk, .string sl, .int .i64 sn, .string sx, .string sy] _ rfl rfl (by rfl) rfl (sl_one15 _ _ _ _ _ _) ?_; intro q1 w2 hp hS hBn; (try rw [← hp]); have S2 := Lib.hid hS; have Hpq1 := Lib.hid hp; clear hS hp hBn)
    | (refine wpList_loadg_st (by rfl) 47 _ rfl S2.out 0 _ _ rfl rfl _ Try.underlying47 rfl (by rfl) ?_))
  have Hq1 : Hid (w.heap.size ≤ q1) := Lib.hid (by rw [Hpq1.out]; exact S1.out.below.size)
  have Hkq : Hid (k0 ≠ q1) := Lib.hid (by have := lt15b (S1.out.live (k0, #[.int .i64 0, .string ⟨#[]⟩, .string ⟨#[]⟩, .int .i64 0, .string ⟨#[]⟩, .string ⟨#[]⟩]) (by simp)); rw [Hpq1.out]; omega)
  clear S1 Hpq1
  refine (pI _).mono ?_
  rintro e w3 ⟨rfl, hB⟩
  have S3 := Lib.hid (S2.out.on hB)
  clear hB S2 pI
  go_wp2_with (refine wpList_loadg_st (by rfl) 47 _ rfl S3.out 0 _ _ rfl rfl _ Try.underlying47 rfl (by rfl) ?_)
  refine (pC _).mono ?_
  rintro e w4 ⟨rfl, hB⟩
  have S4 := Lib.hid (S3.out.on hB)
  clear hB S3 pC
  go_wp2_with (refine wpList_loadg_st (by rfl) 47 _ rfl S4.out 0 _ _ rfl rfl _ Try.underlying47 rfl (by rfl) ?_)
  refine (pM _).mono ?_
  rintro e w5 ⟨rfl, hB⟩
  have S5 := Lib.hid (S4.out.on hB)
  clear hB S4 pM
  go_wp2_with fail
  refine (pW _).mono ?_
  rintro e w6 ⟨rfl, hB⟩
  have S6 := Lib.hid (S5.out.on hB)
  clear hB S5 pW
  go_wp2_with (first
    | (refine wpList_store_st rfl 23 _ _ rfl S6.out _ #[.int .i64 fm, .string fk, .string fl] _ rfl rfl (by rfl) rfl (fil_one15 _ _ _) ?_; intro q2 w7 hp hS hBn; (try rw [← hp]); have S7 := Lib.hid hS; have Hpq2 := Lib.hid hp; clear hS hp hBn)
    | (refine wpList_loadg_st (by rfl) 23 _ rfl S7.out 0 _ _ rfl rfl _ Try.underlying23 rfl (by rfl) ?_))
  clear S6 Hpq2
  refine (pY _).mono ?_
  rintro e w8 ⟨rfl, hB⟩
  have S8 := Lib.hid (S7.out.on hB)
  clear hB S7 pY
  go_upto_region 13 with (refine wpList_store_st rfl 23 _ _ rfl S8.out _ #[.int .i64 gm, .string gk, .string gl] _ rfl rfl (by rfl) rfl (fil_one15 _ _ _) ?_; intro q3 w9 hp hS hBn; (try rw [← hp]); have S9 := Lib.hid hS; have Hpq3 := Lib.hid hp; clear hS hp hBn)
  clear S8 Hpq3
  go_cut [16] (fun pv wx => ∃ pc, pv = .pointer (some ⟨pc, 0, none⟩) ∧ Hid (pc ≠ q1) ∧ Hid (St w wx ([(pc, #[.int .i64 sn, .string sx, .string sy, .int .i64 fm, .string fk, .string fl, .int .i64 gm, .string gk, .string gl]), (q3, #[.int .i64 gm, .string gk, .string gl]), (q2, #[.int .i64 fm, .string fk, .string fl]), (q1, #[.int .i64 sm, .string sk, .string sl, .int .i64 sn, .string sx, .string sy]), (k0, #[.int .i64 0, .string ⟨#[]⟩, .string ⟨#[]⟩, .int .i64 0, .string ⟨#[]⟩, .string ⟨#[]⟩]), (p0, #[.int .i64 sm, .string sk, .string sl, .int .i64 sn, .string sx, .string sy])]) []))
  case first =>
    go_wp2_with fail
    have hS0 : St w w9.drew [(q3, #[.int .i64 gm, .string gk, .string gl]), (q2, #[.int .i64 fm, .string fk, .string fl]), (q1, #[.int .i64 sm, .string sk, .string sl, .int .i64 sn, .string sx, .string sy]), (k0, #[.int .i64 0, .string ⟨#[]⟩, .string ⟨#[]⟩, .int .i64 0, .string ⟨#[]⟩, .string ⟨#[]⟩]), (p0, #[.int .i64 sm, .string sk, .string sl, .int .i64 sn, .string sx, .string sy])] [] := S9.out.drew
    refine wp_region_held_drew (S := (fun W : World => St w W [(q3, #[.int .i64 gm, .string gk, .string gl]), (q2, #[.int .i64 fm, .string fk, .string fl]), (q1, #[.int .i64 sm, .string sk, .string sl, .int .i64 sn, .string sx, .string sy]), (k0, #[.int .i64 0, .string ⟨#[]⟩, .string ⟨#[]⟩, .int .i64 0, .string ⟨#[]⟩, .string ⟨#[]⟩]), (p0, #[.int .i64 sm, .string sk, .string sl, .int .i64 sn, .string sx, .string sy])] [])) (by kernel_rfl) hS0 (fun hHeld => ?_)
    have HBr := Lib.hid (below_drew12 (Below.refl w9.heap.size w9))
    have hS := hS0
    clear hS0
    generalize hWd : w9.drew = Wd at hS HBr hHeld ⊢
    clear hWd
    refine wpAnyH_take (i := 0) (oi := { dst := some 63, op := Op.move (Operand.tmp 12), type := 3, pos := _, after := #[], guard := none }) (v := ?_) rfl (by kernel_rfl) (by kernel_rfl) (by kernel_rfl) (fun _ _ _ h => h) (Or.inl ⟨by rfl, ?hy⟩) hHeld ?_
    case hy => intro w0 hSw; (try dsimp only at hSw); go_simp; (try with_reducible rfl)
    (try simp only [Act.put, List.setIfInBounds_toArray, List.set_cons_zero, List.set_cons_succ])
    refine wpAnyH_take (i := 2) (oi := { dst := some 65, op := Op.fieldAddr 49 (Operand.tmp 9) 0, type := 0, pos := _, after := #[], guard := none }) (v := ?_) rfl (by kernel_rfl) (by kernel_rfl) (by kernel_rfl) (fun _ _ _ h => h) (Or.inl ⟨by rfl, ?hy⟩) hHeld ?_
    case hy => intro w0 hSw; (try dsimp only at hSw); go_simp; (try with_reducible rfl)
    (try simp only [Act.put, List.setIfInBounds_toArray, List.set_cons_zero, List.set_cons_succ])
    refine wpAnyH_take (i := 5) (oi := { dst := some 68, op := Op.load 23 (Operand.tmp 13), type := 23, pos := _, after := #[], guard := none }) (v := ?_) rfl (by kernel_rfl) (by kernel_rfl) (by kernel_rfl) (fun _ _ _ h => h) (Or.inl ⟨by rfl, ?hy⟩) hHeld ?_
    case hy => intro w0 hSw; have d0 := hSw.cell 1 rfl 0 rfl; have d1 := hSw.cell 1 rfl 1 rfl; have d2 := hSw.cell 1 rfl 2 rfl; clear hSw; go_simp; (try with_reducible rfl)
    (try simp only [Act.put, List.setIfInBounds_toArray, List.set_cons_zero, List.set_cons_succ])
    refine wpAnyH_take (i := 6) (oi := { dst := some 69, op := Op.load 23 (Operand.tmp 15), type := 23, pos := _, after := #[], guard := none }) (v := ?_) rfl (by kernel_rfl) (by kernel_rfl) (by kernel_rfl) (fun _ _ _ h => h) (Or.inl ⟨by rfl, ?hy⟩) hHeld ?_
    case hy => intro w0 hSw; have d0 := hSw.cell 0 rfl 0 rfl; have d1 := hSw.cell 0 rfl 1 rfl; have d2 := hSw.cell 0 rfl 2 rfl; clear hSw; go_simp; (try with_reducible rfl)
    (try simp only [Act.put, List.setIfInBounds_toArray, List.set_cons_zero, List.set_cons_succ])
    refine wpAnyH_ready (rs := [1, 8]) (by kernel_rfl) (by simp) ?_
    refine AllReadyH.cons (o := { dst := some 64, op := Op.call { callee := Callee.value (Operand.func 29), args := #[Operand.tmp 63], argTypes := #[3] }, type := 3, pos := _, after := #[{ on := 0, ground := Ground.data }], guard := none }) rfl (fun K hK => ?_) (AllReadyH.cons (o := { dst := some 16, op := Op.alloc 58, type := 0, pos := _, after := #[], guard := none }) rfl (fun K hK => ?_) AllReadyH.nil)
    · go_simp
      refine (pS _).mono ?_
      rintro e y1 ⟨rfl, hB'⟩
      replace hS := hS.on hB'
      replace HBr := Lib.hid (below2 HBr.out hB')
      clear hB'
      go_wp2_with fail
      refine hK.out _ _ hS (fun hHeld => ?_)
      clear hK K
      (try simp only [Act.put, List.setIfInBounds_toArray, List.set_cons_zero, List.set_cons_succ])
      refine wpAnyH_take (i := 3) (oi := { dst := some 66, op := Op.indexAddr 47 (Operand.tmp 65) (Operand.tmp 64), type := 0, pos := _, after := #[{ on := 2, ground := Ground.data }, { on := 1, ground := Ground.data }], guard := none }) (v := ?_) rfl (by kernel_rfl) (by kernel_rfl) (by kernel_rfl) (fun _ _ _ h => h) (Or.inl ⟨by rfl, ?hy⟩) hHeld ?_
      case hy => intro w0 hSw; (try dsimp only at hSw); go_simp; (try with_reducible rfl)
      (try simp only [Act.put, List.setIfInBounds_toArray, List.set_cons_zero, List.set_cons_succ])
      refine wpAnyH_take (i := 4) (oi := { dst := some 67, op := Op.load 23 (Operand.tmp 66), type := 23, pos := _, after := #[{ on := 3, ground := Ground.data }], guard := none }) (v := ?_) rfl (by kernel_rfl) (by kernel_rfl) (by kernel_rfl) (fun _ _ _ h => h) (Or.inl ⟨by rfl, ?hy⟩) hHeld ?_
      case hy => intro w0 hSw; have d0 := hSw.cell 2 rfl 3 rfl; have d1 := hSw.cell 2 rfl 4 rfl; have d2 := hSw.cell 2 rfl 5 rfl; clear hSw; go_simp; (try with_reducible rfl)
      (try simp only [Act.put, List.setIfInBounds_toArray, List.set_cons_zero, List.set_cons_succ])
      refine wpAnyH_take (i := 7) (oi := { dst := some 70, op := Op.build 58 #[(0, Operand.tmp 67), (1, Operand.tmp 68), (2, Operand.tmp 69)], type := 58, pos := _, after := #[{ on := 4, ground := Ground.data }, { on := 5, ground := Ground.data }, { on := 6, ground := Ground.data }], guard := none }) (v := ?_) rfl (by kernel_rfl) (by kernel_rfl) (by kernel_rfl) (fun _ _ _ h => h) (Or.inl ⟨by rfl, ?hy⟩) hHeld ?_
      case hy => intro w0 hSw; (try dsimp only at hSw); go_simp; (try with_reducible rfl)
      (try simp only [Act.put, List.setIfInBounds_toArray, List.set_cons_zero, List.set_cons_succ])
      refine wpAnyH_ready (rs := [8]) (by kernel_rfl) (by simp) ?_
      refine AllReadyH.cons (o := { dst := some 16, op := Op.alloc 58, type := 0, pos := _, after := #[], guard := none }) rfl (fun K hK => ?_) AllReadyH.nil
      go_simp
      have hN := hS.new #[.int .i64 0, .string ⟨#[]⟩, .string ⟨#[]⟩, .int .i64 0, .string ⟨#[]⟩, .string ⟨#[]⟩, .int .i64 0, .string ⟨#[]⟩, .string ⟨#[]⟩] 58
      replace hS := hS.on (below_new y1 (.cells #[.int .i64 0, .string ⟨#[]⟩, .string ⟨#[]⟩, .int .i64 0, .string ⟨#[]⟩, .string ⟨#[]⟩, .int .i64 0, .string ⟨#[]⟩, .string ⟨#[]⟩] 58))
      obtain ⟨pc, hpc⟩ : ∃ x, x = y1.heap.size := ⟨_, rfl⟩
      have Hpc : Hid (w9.heap.size ≤ pc) := Lib.hid (by rw [hpc]; exact HBr.out.size)
      replace HBr := Lib.hid (below2 HBr.out (below_new y1 (.cells #[.int .i64 0, .string ⟨#[]⟩, .string ⟨#[]⟩, .int .i64 0, .string ⟨#[]⟩, .string ⟨#[]⟩, .int .i64 0, .string ⟨#[]⟩, .string ⟨#[]⟩] 58)))
      rw [← hpc] at hN ⊢
      clear hpc
      generalize hWa : y1.alloc (.cells #[.int .i64 0, .string ⟨#[]⟩, .string ⟨#[]⟩, .int .i64 0, .string ⟨#[]⟩, .string ⟨#[]⟩, .int .i64 0, .string ⟨#[]⟩, .string ⟨#[]⟩] 58) = Va at hS HBr hN ⊢
      clear hWa
      refine hK.out _ _ hS (fun hHeld => ?_)
      clear hK K
      (try simp only [Act.put, List.setIfInBounds_toArray, List.set_cons_zero, List.set_cons_succ])
      refine wpAnyH_ready (rs := [9]) (by kernel_rfl) (by simp) ?_
      refine AllReadyH.cons (o := { dst := none, op := Op.store 58 (Operand.tmp 16) (Operand.tmp 70), type := 0, pos := _, after := #[{ on := 8, ground := Ground.data }, { on := 7, ground := Ground.data }, { on := 1, ground := Ground.chain }, { on := 0, ground := Ground.phase }, { on := 1, ground := Ground.phase }, { on := 2, ground := Ground.phase }, { on := 3, ground := Ground.phase }, { on := 4, ground := Ground.phase }, { on := 5, ground := Ground.phase }, { on := 6, ground := Ground.phase }, { on := 7, ground := Ground.phase }, { on := 8, ground := Ground.phase }], guard := none }) rfl (fun K hK => ?_) AllReadyH.nil
      rw [if_pos (by rfl)]
      obtain ⟨tz, hz⟩ := hN.live (pc, #[.int .i64 0, .string ⟨#[]⟩, .string ⟨#[]⟩, .int .i64 0, .string ⟨#[]⟩, .string ⟨#[]⟩, .int .i64 0, .string ⟨#[]⟩, .string ⟨#[]⟩]) (by simp)
      refine wp_store_row 58 _ _ rfl pc #[.int .i64 sn, .string sx, .string sy, .int .i64 fm, .string fk, .string fl, .int .i64 gm, .string gk, .string gl] rfl rfl tz _ hz (by rfl) rfl (fil9_one15 _ _ _ _ _ _ _ _ _) ?_
      have hb3 := below_setRow HBr.out Hpc.out #[.int .i64 sn, .string sx, .string sy, .int .i64 fm, .string fk, .string fl, .int .i64 gm, .string gk, .string gl]
      have hc3 := setRow_heap _ _ _ #[.int .i64 sn, .string sx, .string sy, .int .i64 fm, .string fk, .string fl, .int .i64 gm, .string gk, .string gl] _ _ hz
      clear hz hN hS
      have hS := S9.out.on hb3
      refine hK.out _ _ hS (fun hHeld => ?_)
      clear hK K
      (try simp only [Act.put])
      refine wpAnyH_done (by kernel_rfl) ?_ _
      clear hHeld
      go_wp2_with fail
      go_meet
      exact ⟨_, rfl, Lib.hid (by have h1 := Hpc.out; have h2 := lt15b (S9.out.live (q1, #[.int .i64 sm, .string sk, .string sl, .int .i64 sn, .string sx, .string sy]) (by simp)); simp only at h2; omega), Lib.hid (hS.add ⟨_, hc3⟩)⟩
    · go_simp
      have hN := hS.new #[.int .i64 0, .string ⟨#[]⟩, .string ⟨#[]⟩, .int .i64 0, .string ⟨#[]⟩, .string ⟨#[]⟩, .int .i64 0, .string ⟨#[]⟩, .string ⟨#[]⟩] 58
      replace hS := hS.on (below_new Wd (.cells #[.int .i64 0, .string ⟨#[]⟩, .string ⟨#[]⟩, .int .i64 0, .string ⟨#[]⟩, .string ⟨#[]⟩, .int .i64 0, .string ⟨#[]⟩, .string ⟨#[]⟩] 58))
      obtain ⟨pc, hpc⟩ : ∃ x, x = Wd.heap.size := ⟨_, rfl⟩
      have Hpc : Hid (w9.heap.size ≤ pc) := Lib.hid (by rw [hpc]; exact HBr.out.size)
      replace HBr := Lib.hid (below2 HBr.out (below_new Wd (.cells #[.int .i64 0, .string ⟨#[]⟩, .string ⟨#[]⟩, .int .i64 0, .string ⟨#[]⟩, .string ⟨#[]⟩, .int .i64 0, .string ⟨#[]⟩, .string ⟨#[]⟩] 58)))
      rw [← hpc] at hN ⊢
      clear hpc
      generalize hWa : Wd.alloc (.cells #[.int .i64 0, .string ⟨#[]⟩, .string ⟨#[]⟩, .int .i64 0, .string ⟨#[]⟩, .string ⟨#[]⟩, .int .i64 0, .string ⟨#[]⟩, .string ⟨#[]⟩] 58) = Va at hS HBr hN ⊢
      clear hWa
      refine hK.out _ _ hS (fun hHeld => ?_)
      clear hK K
      (try simp only [Act.put, List.setIfInBounds_toArray, List.set_cons_zero, List.set_cons_succ])
      refine wpAnyH_ready (rs := [1]) (by kernel_rfl) (by simp) ?_
      refine AllReadyH.cons (o := { dst := some 64, op := Op.call { callee := Callee.value (Operand.func 29), args := #[Operand.tmp 63], argTypes := #[3] }, type := 3, pos := _, after := #[{ on := 0, ground := Ground.data }], guard := none }) rfl (fun K hK => ?_) AllReadyH.nil
      go_simp
      refine (pS _).mono ?_
      rintro e y1 ⟨rfl, hB'⟩
      replace hS := hS.on hB'
      replace HBr := Lib.hid (below2 HBr.out hB')
      replace hN := hN.on hB'
      clear hB'
      go_wp2_with fail
      refine hK.out _ _ hS (fun hHeld => ?_)
      clear hK K
      (try simp only [Act.put, List.setIfInBounds_toArray, List.set_cons_zero, List.set_cons_succ])
      refine wpAnyH_take (i := 3) (oi := { dst := some 66, op := Op.indexAddr 47 (Operand.tmp 65) (Operand.tmp 64), type := 0, pos := _, after := #[{ on := 2, ground := Ground.data }, { on := 1, ground := Ground.data }], guard := none }) (v := ?_) rfl (by kernel_rfl) (by kernel_rfl) (by kernel_rfl) (fun _ _ _ h => h) (Or.inl ⟨by rfl, ?hy⟩) hHeld ?_
      case hy => intro w0 hSw; (try dsimp only at hSw); go_simp; (try with_reducible rfl)
      (try simp only [Act.put, List.setIfInBounds_toArray, List.set_cons_zero, List.set_cons_succ])
      refine wpAnyH_take (i := 4) (oi := { dst := some 67, op := Op.load 23 (Operand.tmp 66), type := 23, pos := _, after := #[{ on := 3, ground := Ground.data }], guard := none }) (v := ?_) rfl (by kernel_rfl) (by kernel_rfl) (by kernel_rfl) (fun _ _ _ h => h) (Or.inl ⟨by rfl, ?hy⟩) hHeld ?_
      case hy => intro w0 hSw; have d0 := hSw.cell 2 rfl 3 rfl; have d1 := hSw.cell 2 rfl 4 rfl; have d2 := hSw.cell 2 rfl 5 rfl; clear hSw; go_simp; (try with_reducible rfl)
      (try simp only [Act.put, List.setIfInBounds_toArray, List.set_cons_zero, List.set_cons_succ])
      refine wpAnyH_take (i := 7) (oi := { dst := some 70, op := Op.build 58 #[(0, Operand.tmp 67), (1, Operand.tmp 68), (2, Operand.tmp 69)], type := 58, pos := _, after := #[{ on := 4, ground := Ground.data }, { on := 5, ground := Ground.data }, { on := 6, ground := Ground.data }], guard := none }) (v := ?_) rfl (by kernel_rfl) (by kernel_rfl) (by kernel_rfl) (fun _ _ _ h => h) (Or.inl ⟨by rfl, ?hy⟩) hHeld ?_
      case hy => intro w0 hSw; (try dsimp only at hSw); go_simp; (try with_reducible rfl)
      (try simp only [Act.put, List.setIfInBounds_toArray, List.set_cons_zero, List.set_cons_succ])
      refine wpAnyH_ready (rs := [9]) (by kernel_rfl) (by simp) ?_
      refine AllReadyH.cons (o := { dst := none, op := Op.store 58 (Operand.tmp 16) (Operand.tmp 70), type := 0, pos := _, after := #[{ on := 8, ground := Ground.data }, { on := 7, ground := Ground.data }, { on := 1, ground := Ground.chain }, { on := 0, ground := Ground.phase }, { on := 1, ground := Ground.phase }, { on := 2, ground := Ground.phase }, { on := 3, ground := Ground.phase }, { on := 4, ground := Ground.phase }, { on := 5, ground := Ground.phase }, { on := 6, ground := Ground.phase }, { on := 7, ground := Ground.phase }, { on := 8, ground := Ground.phase }], guard := none }) rfl (fun K hK => ?_) AllReadyH.nil
      rw [if_pos (by rfl)]
      obtain ⟨tz, hz⟩ := hN.live (pc, #[.int .i64 0, .string ⟨#[]⟩, .string ⟨#[]⟩, .int .i64 0, .string ⟨#[]⟩, .string ⟨#[]⟩, .int .i64 0, .string ⟨#[]⟩, .string ⟨#[]⟩]) (by simp)
      refine wp_store_row 58 _ _ rfl pc #[.int .i64 sn, .string sx, .string sy, .int .i64 fm, .string fk, .string fl, .int .i64 gm, .string gk, .string gl] rfl rfl tz _ hz (by rfl) rfl (fil9_one15 _ _ _ _ _ _ _ _ _) ?_
      have hb3 := below_setRow HBr.out Hpc.out #[.int .i64 sn, .string sx, .string sy, .int .i64 fm, .string fk, .string fl, .int .i64 gm, .string gk, .string gl]
      have hc3 := setRow_heap _ _ _ #[.int .i64 sn, .string sx, .string sy, .int .i64 fm, .string fk, .string fl, .int .i64 gm, .string gk, .string gl] _ _ hz
      clear hz hN hS
      have hS := S9.out.on hb3
      refine hK.out _ _ hS (fun hHeld => ?_)
      clear hK K
      (try simp only [Act.put])
      refine wpAnyH_done (by kernel_rfl) ?_ _
      clear hHeld
      go_wp2_with fail
      go_meet
      exact ⟨_, rfl, Lib.hid (by have h1 := Hpc.out; have h2 := lt15b (S9.out.live (q1, #[.int .i64 sm, .string sk, .string sl, .int .i64 sn, .string sx, .string sy]) (by simp)); simp only at h2; omega), Lib.hid (hS.add ⟨_, hc3⟩)⟩
  case rest =>
    obtain ⟨pc, rfl, Hpq, hS⟩ := hcut
    have S10 := hS
    clear hS S9
    rcases hd with ⟨rfl, rfl, rfl⟩ | ⟨rfl, rfl, rfl⟩ | ⟨rfl, rfl, rfl⟩ | ⟨hd, rfl, rfl⟩ | ⟨hd, hd2, rfl, rfl⟩
    · go_wp2_with fail
      obtain ⟨w9x, hw9⟩ : ∃ x, x = wc := ⟨_, rfl⟩
      rw [← hw9] at S10 ⊢
      clear hw9
      have hA : St w w9x.drew [(pc, #[.int .i64 sn, .string sx, .string sy, .int .i64 fm, .string fk, .string fl, .int .i64 gm, .string gk, .string gl]), (q3, #[.int .i64 gm, .string gk, .string gl]), (q2, #[.int .i64 fm, .string fk, .string fl]), (q1, #[.int .i64 sm, .string sk, .string sl, .int .i64 sn, .string sx, .string sy]), (k0, #[.int .i64 0, .string ⟨#[]⟩, .string ⟨#[]⟩, .int .i64 0, .string ⟨#[]⟩, .string ⟨#[]⟩]), (p0, #[.int .i64 sm, .string sk, .string sl, .int .i64 sn, .string sx, .string sy])] [] := S10.out.drew
      have hS := hA.sub (L' := [(pc, #[.int .i64 sn, .string sx, .string sy, .int .i64 fm, .string fk, .string fl, .int .i64 gm, .string gk, .string gl])]) (by simp)
      clear S10
      refine wp_region_held_drew (S := (fun W : World => St w W [(pc, #[.int .i64 sn, .string sx, .string sy, .int .i64 fm, .string fk, .string fl, .int .i64 gm, .string gk, .string gl])] [])) (by kernel_rfl) hS (fun hHeld => ?_)
      refine wpAnyH_take (i := 0) (oi := { dst := some 79, op := Op.move (Operand.tmp 12), type := 3, pos := _, after := #[], guard := none }) (v := ?_) rfl (by kernel_rfl) (by kernel_rfl) (by kernel_rfl) (fun _ _ _ h => h) (Or.inl ⟨by rfl, ?hy⟩) hHeld ?_
      case hy => intro w0 hSw; (try dsimp only at hSw); go_simp; (try with_reducible rfl)
      (try simp only [Act.put, List.setIfInBounds_toArray, List.set_cons_zero, List.set_cons_succ])
      refine wpAnyH_take (i := 2) (oi := { dst := some 81, op := Op.move (Operand.tmp 2), type := 3, pos := _, after := #[], guard := none }) (v := ?_) rfl (by kernel_rfl) (by kernel_rfl) (by kernel_rfl) (fun _ _ _ h => h) (Or.inl ⟨by rfl, ?hy⟩) hHeld ?_
      case hy => intro w0 hSw; (try dsimp only at hSw); go_simp; (try with_reducible rfl)
      (try simp only [Act.put, List.setIfInBounds_toArray, List.set_cons_zero, List.set_cons_succ])
      refine wpAnyH_take (i := 3) (oi := { dst := some 82, op := Op.indexAddr 58 (Operand.tmp 16) (Operand.tmp 81), type := 0, pos := _, after := #[{ on := 2, ground := Ground.data }], guard := none }) (v := ?_) rfl (by kernel_rfl) (by kernel_rfl) (by kernel_rfl) (fun _ _ _ h => h) (Or.inl ⟨by rfl, ?hy⟩) hHeld ?_
      case hy => intro w0 hSw; (try dsimp only at hSw); go_simp; (try with_reducible rfl)
      (try simp only [Act.put, List.setIfInBounds_toArray, List.set_cons_zero, List.set_cons_succ])
      refine wpAnyH_take (i := 4) (oi := { dst := some 83, op := Op.load 23 (Operand.tmp 82), type := 23, pos := _, after := #[{ on := 3, ground := Ground.data }], guard := none }) (v := ?_) rfl (by kernel_rfl) (by kernel_rfl) (by kernel_rfl) (fun _ _ _ h => h) (Or.inl ⟨by rfl, ?hy⟩) hHeld ?_
      case hy => intro w0 hSw; have d0 := hSw.cell 0 rfl 0 rfl; have d1 := hSw.cell 0 rfl 1 rfl; have d2 := hSw.cell 0 rfl 2 rfl; clear hSw; go_simp; (try with_reducible rfl)
      (try simp only [Act.put, List.setIfInBounds_toArray, List.set_cons_zero, List.set_cons_succ])
      refine wpAnyH_take (i := 5) (oi := { dst := some 84, op := Op.fieldAddr 49 (Operand.tmp 9) 0, type := 0, pos := _, after := #[], guard := none }) (v := ?_) rfl (by kernel_rfl) (by kernel_rfl) (by kernel_rfl) (fun _ _ _ h => h) (Or.inl ⟨by rfl, ?hy⟩) hHeld ?_
      case hy => intro w0 hSw; (try dsimp only at hSw); go_simp; (try with_reducible rfl)
      (try simp only [Act.put, List.setIfInBounds_toArray, List.set_cons_zero, List.set_cons_succ])
      refine wpAnyH_ready (rs := [1]) (by kernel_rfl) (by simp) ?_
      refine AllReadyH.cons (o := { dst := some 80, op := Op.call { callee := Callee.value (Operand.func 29), args := #[Operand.tmp 79], argTypes := #[3] }, type := 3, pos := _, after := #[{ on := 0, ground := Ground.data }], guard := none }) rfl (fun K hK => ?_) AllReadyH.nil
      go_simp
      refine (pS _).mono ?_
      rintro e y1 ⟨rfl, hB'⟩
      replace hS := hS.on hB'
      replace hA := hA.on hB'
      clear hB'
      go_wp2_with fail
      refine hK.out _ _ hS (fun hHeld => ?_)
      clear hK K
      (try simp only [Act.put, List.setIfInBounds_toArray, List.set_cons_zero, List.set_cons_succ])
      refine wpAnyH_take (i := 6) (oi := { dst := some 85, op := Op.indexAddr 47 (Operand.tmp 84) (Operand.tmp 80), type := 0, pos := _, after := #[{ on := 5, ground := Ground.data }, { on := 1, ground := Ground.data }, { on := 0, ground := Ground.phase }, { on := 1, ground := Ground.phase }, { on := 2, ground := Ground.phase }, { on := 3, ground := Ground.phase }, { on := 4, ground := Ground.phase }], guard := none }) (v := ?_) rfl (by kernel_rfl) (by kernel_rfl) (by kernel_rfl) (fun _ _ _ h => h) (Or.inl ⟨by rfl, ?hy⟩) hHeld ?_
      case hy => intro w0 hSw; (try dsimp only at hSw); go_simp; (try with_reducible rfl)
      (try simp only [Act.put, List.setIfInBounds_toArray, List.set_cons_zero, List.set_cons_succ])
      refine wpAnyH_ready (rs := [7]) (by kernel_rfl) (by simp) ?_
      refine AllReadyH.cons (o := { dst := none, op := Op.store 23 (Operand.tmp 85) (Operand.tmp 83), type := 0, pos := _, after := #[{ on := 6, ground := Ground.data }, { on := 4, ground := Ground.data }, { on := 1, ground := Ground.chain }, { on := 0, ground := Ground.phase }, { on := 1, ground := Ground.phase }, { on := 2, ground := Ground.phase }, { on := 3, ground := Ground.phase }, { on := 4, ground := Ground.phase }], guard := none }) rfl (fun K hK => ?_) AllReadyH.nil
      rw [if_pos (by rfl)]
      have hth := hA.there15 3 rfl 3 (show 3 + 3 ≤ 6 by decide)
      refine wp_store_mid 23 _ _ rfl q1 3 #[.int .i64 sn, .string sx, .string sy] rfl rfl hth (by rfl) (fil_one15 _ _ _) ?_
      clear hth hS
      have s0 := hA.sub (L' := [(q1, #[.int .i64 sm, .string sk, .string sl, .int .i64 sn, .string sx, .string sy]), (k0, #[.int .i64 0, .string ⟨#[]⟩, .string ⟨#[]⟩, .int .i64 0, .string ⟨#[]⟩, .string ⟨#[]⟩]), (pc, #[.int .i64 sn, .string sx, .string sy, .int .i64 fm, .string fk, .string fl, .int .i64 gm, .string gk, .string gl])]) (by simp)
      have hnk : ∀ u ∈ ([(k0, #[.int .i64 0, .string ⟨#[]⟩, .string ⟨#[]⟩, .int .i64 0, .string ⟨#[]⟩, .string ⟨#[]⟩]), (pc, #[.int .i64 sn, .string sx, .string sy, .int .i64 fm, .string fk, .string fl, .int .i64 gm, .string gk, .string gl])] : List (Nat × Array Value)), u.1 ≠ q1 := by intro u hu; simp only [List.mem_cons, List.not_mem_nil, or_false] at hu; rcases hu with rfl | rfl; exact Hkq.out; exact Hpq.out
      have s1 := s0.setC Hq1.out hnk 3 (.int .i64 sn)
      have s2 := s1.setC Hq1.out hnk (3 + 1) (.string sx)
      have s3 := s2.setC Hq1.out hnk (3 + 2) (.string sy)
      replace hA : St w _ [(q1, #[.int .i64 sm, .string sk, .string sl, .int .i64 sn, .string sx, .string sy]), (k0, #[.int .i64 0, .string ⟨#[]⟩, .string ⟨#[]⟩, .int .i64 0, .string ⟨#[]⟩, .string ⟨#[]⟩]), (pc, #[.int .i64 sn, .string sx, .string sy, .int .i64 fm, .string fk, .string fl, .int .i64 gm, .string gk, .string gl])] [] := s3
      have hS := hA.sub (L' := [(pc, #[.int .i64 sn, .string sx, .string sy, .int .i64 fm, .string fk, .string fl, .int .i64 gm, .string gk, .string gl])]) (by simp)
      clear s0 s1 s2 s3 hnk
      refine hK.out _ _ hS (fun hHeld => ?_)
      clear hK K
      (try simp only [Act.put])
      refine wpAnyH_done (by kernel_rfl) ?_ _
      clear hHeld hS
      have S11 := Lib.hid hA
      clear hA
      go_wp2_with (refine wpList_loadg_st (by rfl) 47 _ rfl S11.out 0 _ _ rfl rfl _ Try.underlying47 rfl (by rfl) ?_)
      refine (pT _ _ _ _ _ _ _).mono ?_
      rintro e w12 ⟨rfl, hB⟩
      have S12 := Lib.hid (S11.out.on hB)
      clear hB S11
      go_wp2_with (refine wpList_storew_st rfl 25 _ _ rfl (S12.out.sub (L' := [(k0, #[.int .i64 0, .string ⟨#[]⟩, .string ⟨#[]⟩, .int .i64 0, .string ⟨#[]⟩, .string ⟨#[]⟩])]) (by simp)) Hk.out (by simp) #[.int .i64 sm, .string sk, .string sl, .int .i64 sn, .string sx, .string sy] rfl rfl (by rfl) rfl (sl_one15 _ _ _ _ _ _) ?_; intro w13 hS; have S13 := Lib.hid hS; clear hS)
      (try simp only [Exit.inBlock, Exit.then]); refine bodyPost_ret (ret_slots3 rfl rfl S13.out rfl) rfl ?_
      exact ⟨rfl, S13.out.below⟩
    · go_wp2_with fail
      obtain ⟨w9x, hw9⟩ : ∃ x, x = wc := ⟨_, rfl⟩
      rw [← hw9] at S10 ⊢
      clear hw9
      have hA : St w w9x.drew [(pc, #[.int .i64 sn, .string sx, .string sy, .int .i64 fm, .string fk, .string fl, .int .i64 gm, .string gk, .string gl]), (q3, #[.int .i64 gm, .string gk, .string gl]), (q2, #[.int .i64 fm, .string fk, .string fl]), (q1, #[.int .i64 sm, .string sk, .string sl, .int .i64 sn, .string sx, .string sy]), (k0, #[.int .i64 0, .string ⟨#[]⟩, .string ⟨#[]⟩, .int .i64 0, .string ⟨#[]⟩, .string ⟨#[]⟩]), (p0, #[.int .i64 sm, .string sk, .string sl, .int .i64 sn, .string sx, .string sy])] [] := S10.out.drew
      have hS := hA.sub (L' := [(pc, #[.int .i64 sn, .string sx, .string sy, .int .i64 fm, .string fk, .string fl, .int .i64 gm, .string gk, .string gl])]) (by simp)
      clear S10
      refine wp_region_held_drew (S := (fun W : World => St w W [(pc, #[.int .i64 sn, .string sx, .string sy, .int .i64 fm, .string fk, .string fl, .int .i64 gm, .string gk, .string gl])] [])) (by kernel_rfl) hS (fun hHeld => ?_)
      refine wpAnyH_take (i := 0) (oi := { dst := some 79, op := Op.move (Operand.tmp 12), type := 3, pos := _, after := #[], guard := none }) (v := ?_) rfl (by kernel_rfl) (by kernel_rfl) (by kernel_rfl) (fun _ _ _ h => h) (Or.inl ⟨by rfl, ?hy⟩) hHeld ?_
      case hy => intro w0 hSw; (try dsimp only at hSw); go_simp; (try with_reducible rfl)
      (try simp only [Act.put, List.setIfInBounds_toArray, List.set_cons_zero, List.set_cons_succ])
      refine wpAnyH_take (i := 2) (oi := { dst := some 81, op := Op.move (Operand.tmp 2), type := 3, pos := _, after := #[], guard := none }) (v := ?_) rfl (by kernel_rfl) (by kernel_rfl) (by kernel_rfl) (fun _ _ _ h => h) (Or.inl ⟨by rfl, ?hy⟩) hHeld ?_
      case hy => intro w0 hSw; (try dsimp only at hSw); go_simp; (try with_reducible rfl)
      (try simp only [Act.put, List.setIfInBounds_toArray, List.set_cons_zero, List.set_cons_succ])
      refine wpAnyH_take (i := 3) (oi := { dst := some 82, op := Op.indexAddr 58 (Operand.tmp 16) (Operand.tmp 81), type := 0, pos := _, after := #[{ on := 2, ground := Ground.data }], guard := none }) (v := ?_) rfl (by kernel_rfl) (by kernel_rfl) (by kernel_rfl) (fun _ _ _ h => h) (Or.inl ⟨by rfl, ?hy⟩) hHeld ?_
      case hy => intro w0 hSw; (try dsimp only at hSw); go_simp; (try with_reducible rfl)
      (try simp only [Act.put, List.setIfInBounds_toArray, List.set_cons_zero, List.set_cons_succ])
      refine wpAnyH_take (i := 4) (oi := { dst := some 83, op := Op.load 23 (Operand.tmp 82), type := 23, pos := _, after := #[{ on := 3, ground := Ground.data }], guard := none }) (v := ?_) rfl (by kernel_rfl) (by kernel_rfl) (by kernel_rfl) (fun _ _ _ h => h) (Or.inl ⟨by rfl, ?hy⟩) hHeld ?_
      case hy => intro w0 hSw; have d0 := hSw.cell 0 rfl 3 rfl; have d1 := hSw.cell 0 rfl 4 rfl; have d2 := hSw.cell 0 rfl 5 rfl; clear hSw; go_simp; (try with_reducible rfl)
      (try simp only [Act.put, List.setIfInBounds_toArray, List.set_cons_zero, List.set_cons_succ])
      refine wpAnyH_take (i := 5) (oi := { dst := some 84, op := Op.fieldAddr 49 (Operand.tmp 9) 0, type := 0, pos := _, after := #[], guard := none }) (v := ?_) rfl (by kernel_rfl) (by kernel_rfl) (by kernel_rfl) (fun _ _ _ h => h) (Or.inl ⟨by rfl, ?hy⟩) hHeld ?_
      case hy => intro w0 hSw; (try dsimp only at hSw); go_simp; (try with_reducible rfl)
      (try simp only [Act.put, List.setIfInBounds_toArray, List.set_cons_zero, List.set_cons_succ])
      refine wpAnyH_ready (rs := [1]) (by kernel_rfl) (by simp) ?_
      refine AllReadyH.cons (o := { dst := some 80, op := Op.call { callee := Callee.value (Operand.func 29), args := #[Operand.tmp 79], argTypes := #[3] }, type := 3, pos := _, after := #[{ on := 0, ground := Ground.data }], guard := none }) rfl (fun K hK => ?_) AllReadyH.nil
      go_simp
      refine (pS _).mono ?_
      rintro e y1 ⟨rfl, hB'⟩
      replace hS := hS.on hB'
      replace hA := hA.on hB'
      clear hB'
      go_wp2_with fail
      refine hK.out _ _ hS (fun hHeld => ?_)
      clear hK K
      (try simp only [Act.put, List.setIfInBounds_toArray, List.set_cons_zero, List.set_cons_succ])
      refine wpAnyH_take (i := 6) (oi := { dst := some 85, op := Op.indexAddr 47 (Operand.tmp 84) (Operand.tmp 80), type := 0, pos := _, after := #[{ on := 5, ground := Ground.data }, { on := 1, ground := Ground.data }, { on := 0, ground := Ground.phase }, { on := 1, ground := Ground.phase }, { on := 2, ground := Ground.phase }, { on := 3, ground := Ground.phase }, { on := 4, ground := Ground.phase }], guard := none }) (v := ?_) rfl (by kernel_rfl) (by kernel_rfl) (by kernel_rfl) (fun _ _ _ h => h) (Or.inl ⟨by rfl, ?hy⟩) hHeld ?_
      case hy => intro w0 hSw; (try dsimp only at hSw); go_simp; (try with_reducible rfl)
      (try simp only [Act.put, List.setIfInBounds_toArray, List.set_cons_zero, List.set_cons_succ])
      refine wpAnyH_ready (rs := [7]) (by kernel_rfl) (by simp) ?_
      refine AllReadyH.cons (o := { dst := none, op := Op.store 23 (Operand.tmp 85) (Operand.tmp 83), type := 0, pos := _, after := #[{ on := 6, ground := Ground.data }, { on := 4, ground := Ground.data }, { on := 1, ground := Ground.chain }, { on := 0, ground := Ground.phase }, { on := 1, ground := Ground.phase }, { on := 2, ground := Ground.phase }, { on := 3, ground := Ground.phase }, { on := 4, ground := Ground.phase }], guard := none }) rfl (fun K hK => ?_) AllReadyH.nil
      rw [if_pos (by rfl)]
      have hth := hA.there15 3 rfl 3 (show 3 + 3 ≤ 6 by decide)
      refine wp_store_mid 23 _ _ rfl q1 3 #[.int .i64 fm, .string fk, .string fl] rfl rfl hth (by rfl) (fil_one15 _ _ _) ?_
      clear hth hS
      have s0 := hA.sub (L' := [(q1, #[.int .i64 sm, .string sk, .string sl, .int .i64 sn, .string sx, .string sy]), (k0, #[.int .i64 0, .string ⟨#[]⟩, .string ⟨#[]⟩, .int .i64 0, .string ⟨#[]⟩, .string ⟨#[]⟩]), (pc, #[.int .i64 sn, .string sx, .string sy, .int .i64 fm, .string fk, .string fl, .int .i64 gm, .string gk, .string gl])]) (by simp)
      have hnk : ∀ u ∈ ([(k0, #[.int .i64 0, .string ⟨#[]⟩, .string ⟨#[]⟩, .int .i64 0, .string ⟨#[]⟩, .string ⟨#[]⟩]), (pc, #[.int .i64 sn, .string sx, .string sy, .int .i64 fm, .string fk, .string fl, .int .i64 gm, .string gk, .string gl])] : List (Nat × Array Value)), u.1 ≠ q1 := by intro u hu; simp only [List.mem_cons, List.not_mem_nil, or_false] at hu; rcases hu with rfl | rfl; exact Hkq.out; exact Hpq.out
      have s1 := s0.setC Hq1.out hnk 3 (.int .i64 fm)
      have s2 := s1.setC Hq1.out hnk (3 + 1) (.string fk)
      have s3 := s2.setC Hq1.out hnk (3 + 2) (.string fl)
      replace hA : St w _ [(q1, #[.int .i64 sm, .string sk, .string sl, .int .i64 fm, .string fk, .string fl]), (k0, #[.int .i64 0, .string ⟨#[]⟩, .string ⟨#[]⟩, .int .i64 0, .string ⟨#[]⟩, .string ⟨#[]⟩]), (pc, #[.int .i64 sn, .string sx, .string sy, .int .i64 fm, .string fk, .string fl, .int .i64 gm, .string gk, .string gl])] [] := s3
      have hS := hA.sub (L' := [(pc, #[.int .i64 sn, .string sx, .string sy, .int .i64 fm, .string fk, .string fl, .int .i64 gm, .string gk, .string gl])]) (by simp)
      clear s0 s1 s2 s3 hnk
      refine hK.out _ _ hS (fun hHeld => ?_)
      clear hK K
      (try simp only [Act.put])
      refine wpAnyH_done (by kernel_rfl) ?_ _
      clear hHeld hS
      have S11 := Lib.hid hA
      clear hA
      go_wp2_with (refine wpList_loadg_st (by rfl) 47 _ rfl S11.out 0 _ _ rfl rfl _ Try.underlying47 rfl (by rfl) ?_)
      refine (pT _ _ _ _ _ _ _).mono ?_
      rintro e w12 ⟨rfl, hB⟩
      have S12 := Lib.hid (S11.out.on hB)
      clear hB S11
      go_wp2_with (refine wpList_storew_st rfl 25 _ _ rfl (S12.out.sub (L' := [(k0, #[.int .i64 0, .string ⟨#[]⟩, .string ⟨#[]⟩, .int .i64 0, .string ⟨#[]⟩, .string ⟨#[]⟩])]) (by simp)) Hk.out (by simp) #[.int .i64 sm, .string sk, .string sl, .int .i64 fm, .string fk, .string fl] rfl rfl (by rfl) rfl (sl_one15 _ _ _ _ _ _) ?_; intro w13 hS; have S13 := Lib.hid hS; clear hS)
      (try simp only [Exit.inBlock, Exit.then]); refine bodyPost_ret (ret_slots3 rfl rfl S13.out rfl) rfl ?_
      exact ⟨rfl, S13.out.below⟩
    · go_wp2_with fail
      obtain ⟨w9x, hw9⟩ : ∃ x, x = wc := ⟨_, rfl⟩
      rw [← hw9] at S10 ⊢
      clear hw9
      have hA : St w w9x.drew [(pc, #[.int .i64 sn, .string sx, .string sy, .int .i64 fm, .string fk, .string fl, .int .i64 gm, .string gk, .string gl]), (q3, #[.int .i64 gm, .string gk, .string gl]), (q2, #[.int .i64 fm, .string fk, .string fl]), (q1, #[.int .i64 sm, .string sk, .string sl, .int .i64 sn, .string sx, .string sy]), (k0, #[.int .i64 0, .string ⟨#[]⟩, .string ⟨#[]⟩, .int .i64 0, .string ⟨#[]⟩, .string ⟨#[]⟩]), (p0, #[.int .i64 sm, .string sk, .string sl, .int .i64 sn, .string sx, .string sy])] [] := S10.out.drew
      have hS := hA.sub (L' := [(pc, #[.int .i64 sn, .string sx, .string sy, .int .i64 fm, .string fk, .string fl, .int .i64 gm, .string gk, .string gl])]) (by simp)
      clear S10
      refine wp_region_held_drew (S := (fun W : World => St w W [(pc, #[.int .i64 sn, .string sx, .string sy, .int .i64 fm, .string fk, .string fl, .int .i64 gm, .string gk, .string gl])] [])) (by kernel_rfl) hS (fun hHeld => ?_)
      refine wpAnyH_take (i := 0) (oi := { dst := some 79, op := Op.move (Operand.tmp 12), type := 3, pos := _, after := #[], guard := none }) (v := ?_) rfl (by kernel_rfl) (by kernel_rfl) (by kernel_rfl) (fun _ _ _ h => h) (Or.inl ⟨by rfl, ?hy⟩) hHeld ?_
      case hy => intro w0 hSw; (try dsimp only at hSw); go_simp; (try with_reducible rfl)
      (try simp only [Act.put, List.setIfInBounds_toArray, List.set_cons_zero, List.set_cons_succ])
      refine wpAnyH_take (i := 2) (oi := { dst := some 81, op := Op.move (Operand.tmp 2), type := 3, pos := _, after := #[], guard := none }) (v := ?_) rfl (by kernel_rfl) (by kernel_rfl) (by kernel_rfl) (fun _ _ _ h => h) (Or.inl ⟨by rfl, ?hy⟩) hHeld ?_
      case hy => intro w0 hSw; (try dsimp only at hSw); go_simp; (try with_reducible rfl)
      (try simp only [Act.put, List.setIfInBounds_toArray, List.set_cons_zero, List.set_cons_succ])
      refine wpAnyH_take (i := 3) (oi := { dst := some 82, op := Op.indexAddr 58 (Operand.tmp 16) (Operand.tmp 81), type := 0, pos := _, after := #[{ on := 2, ground := Ground.data }], guard := none }) (v := ?_) rfl (by kernel_rfl) (by kernel_rfl) (by kernel_rfl) (fun _ _ _ h => h) (Or.inl ⟨by rfl, ?hy⟩) hHeld ?_
      case hy => intro w0 hSw; (try dsimp only at hSw); go_simp; (try with_reducible rfl)
      (try simp only [Act.put, List.setIfInBounds_toArray, List.set_cons_zero, List.set_cons_succ])
      refine wpAnyH_take (i := 4) (oi := { dst := some 83, op := Op.load 23 (Operand.tmp 82), type := 23, pos := _, after := #[{ on := 3, ground := Ground.data }], guard := none }) (v := ?_) rfl (by kernel_rfl) (by kernel_rfl) (by kernel_rfl) (fun _ _ _ h => h) (Or.inl ⟨by rfl, ?hy⟩) hHeld ?_
      case hy => intro w0 hSw; have d0 := hSw.cell 0 rfl 6 rfl; have d1 := hSw.cell 0 rfl 7 rfl; have d2 := hSw.cell 0 rfl 8 rfl; clear hSw; go_simp; (try with_reducible rfl)
      (try simp only [Act.put, List.setIfInBounds_toArray, List.set_cons_zero, List.set_cons_succ])
      refine wpAnyH_take (i := 5) (oi := { dst := some 84, op := Op.fieldAddr 49 (Operand.tmp 9) 0, type := 0, pos := _, after := #[], guard := none }) (v := ?_) rfl (by kernel_rfl) (by kernel_rfl) (by kernel_rfl) (fun _ _ _ h => h) (Or.inl ⟨by rfl, ?hy⟩) hHeld ?_
      case hy => intro w0 hSw; (try dsimp only at hSw); go_simp; (try with_reducible rfl)
      (try simp only [Act.put, List.setIfInBounds_toArray, List.set_cons_zero, List.set_cons_succ])
      refine wpAnyH_ready (rs := [1]) (by kernel_rfl) (by simp) ?_
      refine AllReadyH.cons (o := { dst := some 80, op := Op.call { callee := Callee.value (Operand.func 29), args := #[Operand.tmp 79], argTypes := #[3] }, type := 3, pos := _, after := #[{ on := 0, ground := Ground.data }], guard := none }) rfl (fun K hK => ?_) AllReadyH.nil
      go_simp
      refine (pS _).mono ?_
      rintro e y1 ⟨rfl, hB'⟩
      replace hS := hS.on hB'
      replace hA := hA.on hB'
      clear hB'
      go_wp2_with fail
      refine hK.out _ _ hS (fun hHeld => ?_)
      clear hK K
      (try simp only [Act.put, List.setIfInBounds_toArray, List.set_cons_zero, List.set_cons_succ])
      refine wpAnyH_take (i := 6) (oi := { dst := some 85, op := Op.indexAddr 47 (Operand.tmp 84) (Operand.tmp 80), type := 0, pos := _, after := #[{ on := 5, ground := Ground.data }, { on := 1, ground := Ground.data }, { on := 0, ground := Ground.phase }, { on := 1, ground := Ground.phase }, { on := 2, ground := Ground.phase }, { on := 3, ground := Ground.phase }, { on := 4, ground := Ground.phase }], guard := none }) (v := ?_) rfl (by kernel_rfl) (by kernel_rfl) (by kernel_rfl) (fun _ _ _ h => h) (Or.inl ⟨by rfl, ?hy⟩) hHeld ?_
      case hy => intro w0 hSw; (try dsimp only at hSw); go_simp; (try with_reducible rfl)
      (try simp only [Act.put, List.setIfInBounds_toArray, List.set_cons_zero, List.set_cons_succ])
      refine wpAnyH_ready (rs := [7]) (by kernel_rfl) (by simp) ?_
      refine AllReadyH.cons (o := { dst := none, op := Op.store 23 (Operand.tmp 85) (Operand.tmp 83), type := 0, pos := _, after := #[{ on := 6, ground := Ground.data }, { on := 4, ground := Ground.data }, { on := 1, ground := Ground.chain }, { on := 0, ground := Ground.phase }, { on := 1, ground := Ground.phase }, { on := 2, ground := Ground.phase }, { on := 3, ground := Ground.phase }, { on := 4, ground := Ground.phase }], guard := none }) rfl (fun K hK => ?_) AllReadyH.nil
      rw [if_pos (by rfl)]
      have hth := hA.there15 3 rfl 3 (show 3 + 3 ≤ 6 by decide)
      refine wp_store_mid 23 _ _ rfl q1 3 #[.int .i64 gm, .string gk, .string gl] rfl rfl hth (by rfl) (fil_one15 _ _ _) ?_
      clear hth hS
      have s0 := hA.sub (L' := [(q1, #[.int .i64 sm, .string sk, .string sl, .int .i64 sn, .string sx, .string sy]), (k0, #[.int .i64 0, .string ⟨#[]⟩, .string ⟨#[]⟩, .int .i64 0, .string ⟨#[]⟩, .string ⟨#[]⟩]), (pc, #[.int .i64 sn, .string sx, .string sy, .int .i64 fm, .string fk, .string fl, .int .i64 gm, .string gk, .string gl])]) (by simp)
      have hnk : ∀ u ∈ ([(k0, #[.int .i64 0, .string ⟨#[]⟩, .string ⟨#[]⟩, .int .i64 0, .string ⟨#[]⟩, .string ⟨#[]⟩]), (pc, #[.int .i64 sn, .string sx, .string sy, .int .i64 fm, .string fk, .string fl, .int .i64 gm, .string gk, .string gl])] : List (Nat × Array Value)), u.1 ≠ q1 := by intro u hu; simp only [List.mem_cons, List.not_mem_nil, or_false] at hu; rcases hu with rfl | rfl; exact Hkq.out; exact Hpq.out
      have s1 := s0.setC Hq1.out hnk 3 (.int .i64 gm)
      have s2 := s1.setC Hq1.out hnk (3 + 1) (.string gk)
      have s3 := s2.setC Hq1.out hnk (3 + 2) (.string gl)
      replace hA : St w _ [(q1, #[.int .i64 sm, .string sk, .string sl, .int .i64 gm, .string gk, .string gl]), (k0, #[.int .i64 0, .string ⟨#[]⟩, .string ⟨#[]⟩, .int .i64 0, .string ⟨#[]⟩, .string ⟨#[]⟩]), (pc, #[.int .i64 sn, .string sx, .string sy, .int .i64 fm, .string fk, .string fl, .int .i64 gm, .string gk, .string gl])] [] := s3
      have hS := hA.sub (L' := [(pc, #[.int .i64 sn, .string sx, .string sy, .int .i64 fm, .string fk, .string fl, .int .i64 gm, .string gk, .string gl])]) (by simp)
      clear s0 s1 s2 s3 hnk
      refine hK.out _ _ hS (fun hHeld => ?_)
      clear hK K
      (try simp only [Act.put])
      refine wpAnyH_done (by kernel_rfl) ?_ _
      clear hHeld hS
      have S11 := Lib.hid hA
      clear hA
      go_wp2_with (refine wpList_loadg_st (by rfl) 47 _ rfl S11.out 0 _ _ rfl rfl _ Try.underlying47 rfl (by rfl) ?_)
      refine (pT _ _ _ _ _ _ _).mono ?_
      rintro e w12 ⟨rfl, hB⟩
      have S12 := Lib.hid (S11.out.on hB)
      clear hB S11
      go_wp2_with (refine wpList_storew_st rfl 25 _ _ rfl (S12.out.sub (L' := [(k0, #[.int .i64 0, .string ⟨#[]⟩, .string ⟨#[]⟩, .int .i64 0, .string ⟨#[]⟩, .string ⟨#[]⟩])]) (by simp)) Hk.out (by simp) #[.int .i64 sm, .string sk, .string sl, .int .i64 gm, .string gk, .string gl] rfl rfl (by rfl) rfl (sl_one15 _ _ _ _ _ _) ?_; intro w13 hS; have S13 := Lib.hid hS; clear hS)
      (try simp only [Exit.inBlock, Exit.then]); refine bodyPost_ret (ret_slots3 rfl rfl S13.out rfl) rfl ?_
      exact ⟨rfl, S13.out.below⟩
    · go_wp2_with fail
      obtain ⟨w9x, hw9⟩ : ∃ x, x = wc := ⟨_, rfl⟩
      rw [← hw9] at S10 ⊢
      clear hw9
      have hA : St w w9x.drew [(pc, #[.int .i64 sn, .string sx, .string sy, .int .i64 fm, .string fk, .string fl, .int .i64 gm, .string gk, .string gl]), (q3, #[.int .i64 gm, .string gk, .string gl]), (q2, #[.int .i64 fm, .string fk, .string fl]), (q1, #[.int .i64 sm, .string sk, .string sl, .int .i64 sn, .string sx, .string sy]), (k0, #[.int .i64 0, .string ⟨#[]⟩, .string ⟨#[]⟩, .int .i64 0, .string ⟨#[]⟩, .string ⟨#[]⟩]), (p0, #[.int .i64 sm, .string sk, .string sl, .int .i64 sn, .string sx, .string sy])] [] := S10.out.drew
      have hS := hA.sub (L' := [(pc, #[.int .i64 sn, .string sx, .string sy, .int .i64 fm, .string fk, .string fl, .int .i64 gm, .string gk, .string gl])]) (by simp)
      clear S10
      refine wp_region_held_drew (S := (fun W : World => St w W [(pc, #[.int .i64 sn, .string sx, .string sy, .int .i64 fm, .string fk, .string fl, .int .i64 gm, .string gk, .string gl])] [])) (by kernel_rfl) hS (fun hHeld => ?_)
      refine wpAnyH_take (i := 0) (oi := { dst := some 79, op := Op.move (Operand.tmp 12), type := 3, pos := _, after := #[], guard := none }) (v := ?_) rfl (by kernel_rfl) (by kernel_rfl) (by kernel_rfl) (fun _ _ _ h => h) (Or.inl ⟨by rfl, ?hy⟩) hHeld ?_
      case hy => intro w0 hSw; (try dsimp only at hSw); go_simp; (try with_reducible rfl)
      (try simp only [Act.put, List.setIfInBounds_toArray, List.set_cons_zero, List.set_cons_succ])
      refine wpAnyH_take (i := 2) (oi := { dst := some 81, op := Op.move (Operand.tmp 2), type := 3, pos := _, after := #[], guard := none }) (v := ?_) rfl (by kernel_rfl) (by kernel_rfl) (by kernel_rfl) (fun _ _ _ h => h) (Or.inl ⟨by rfl, ?hy⟩) hHeld ?_
      case hy => intro w0 hSw; (try dsimp only at hSw); go_simp; (try with_reducible rfl)
      (try simp only [Act.put, List.setIfInBounds_toArray, List.set_cons_zero, List.set_cons_succ])
      refine wpAnyH_take (i := 3) (oi := { dst := some 82, op := Op.indexAddr 58 (Operand.tmp 16) (Operand.tmp 81), type := 0, pos := _, after := #[{ on := 2, ground := Ground.data }], guard := none }) (v := ?_) rfl (by kernel_rfl) (by kernel_rfl) (by kernel_rfl) (fun _ _ _ h => h) (Or.inl ⟨by rfl, ?hy⟩) hHeld ?_
      case hy => intro w0 hSw; (try dsimp only at hSw); go_simp; (try with_reducible rfl)
      (try simp only [Act.put, List.setIfInBounds_toArray, List.set_cons_zero, List.set_cons_succ])
      refine wpAnyH_take (i := 4) (oi := { dst := some 83, op := Op.load 23 (Operand.tmp 82), type := 23, pos := _, after := #[{ on := 3, ground := Ground.data }], guard := none }) (v := ?_) rfl (by kernel_rfl) (by kernel_rfl) (by kernel_rfl) (fun _ _ _ h => h) (Or.inl ⟨by rfl, ?hy⟩) hHeld ?_
      case hy => intro w0 hSw; have d0 := hSw.cell 0 rfl 6 rfl; have d1 := hSw.cell 0 rfl 7 rfl; have d2 := hSw.cell 0 rfl 8 rfl; clear hSw; go_simp; (try with_reducible rfl)
      (try simp only [Act.put, List.setIfInBounds_toArray, List.set_cons_zero, List.set_cons_succ])
      refine wpAnyH_take (i := 5) (oi := { dst := some 84, op := Op.fieldAddr 49 (Operand.tmp 9) 0, type := 0, pos := _, after := #[], guard := none }) (v := ?_) rfl (by kernel_rfl) (by kernel_rfl) (by kernel_rfl) (fun _ _ _ h => h) (Or.inl ⟨by rfl, ?hy⟩) hHeld ?_
      case hy => intro w0 hSw; (try dsimp only at hSw); go_simp; (try with_reducible rfl)
      (try simp only [Act.put, List.setIfInBounds_toArray, List.set_cons_zero, List.set_cons_succ])
      refine wpAnyH_ready (rs := [1]) (by kernel_rfl) (by simp) ?_
      refine AllReadyH.cons (o := { dst := some 80, op := Op.call { callee := Callee.value (Operand.func 29), args := #[Operand.tmp 79], argTypes := #[3] }, type := 3, pos := _, after := #[{ on := 0, ground := Ground.data }], guard := none }) rfl (fun K hK => ?_) AllReadyH.nil
      go_simp
      refine (pS _).mono ?_
      rintro e y1 ⟨rfl, hB'⟩
      replace hS := hS.on hB'
      replace hA := hA.on hB'
      clear hB'
      go_wp2_with fail
      refine hK.out _ _ hS (fun hHeld => ?_)
      clear hK K
      (try simp only [Act.put, List.setIfInBounds_toArray, List.set_cons_zero, List.set_cons_succ])
      refine wpAnyH_take (i := 6) (oi := { dst := some 85, op := Op.indexAddr 47 (Operand.tmp 84) (Operand.tmp 80), type := 0, pos := _, after := #[{ on := 5, ground := Ground.data }, { on := 1, ground := Ground.data }, { on := 0, ground := Ground.phase }, { on := 1, ground := Ground.phase }, { on := 2, ground := Ground.phase }, { on := 3, ground := Ground.phase }, { on := 4, ground := Ground.phase }], guard := none }) (v := ?_) rfl (by kernel_rfl) (by kernel_rfl) (by kernel_rfl) (fun _ _ _ h => h) (Or.inl ⟨by rfl, ?hy⟩) hHeld ?_
      case hy => intro w0 hSw; (try dsimp only at hSw); go_simp; (try with_reducible rfl)
      (try simp only [Act.put, List.setIfInBounds_toArray, List.set_cons_zero, List.set_cons_succ])
      refine wpAnyH_ready (rs := [7]) (by kernel_rfl) (by simp) ?_
      refine AllReadyH.cons (o := { dst := none, op := Op.store 23 (Operand.tmp 85) (Operand.tmp 83), type := 0, pos := _, after := #[{ on := 6, ground := Ground.data }, { on := 4, ground := Ground.data }, { on := 1, ground := Ground.chain }, { on := 0, ground := Ground.phase }, { on := 1, ground := Ground.phase }, { on := 2, ground := Ground.phase }, { on := 3, ground := Ground.phase }, { on := 4, ground := Ground.phase }], guard := none }) rfl (fun K hK => ?_) AllReadyH.nil
      rw [if_pos (by rfl)]
      have hth := hA.there15 3 rfl 3 (show 3 + 3 ≤ 6 by decide)
      refine wp_store_mid 23 _ _ rfl q1 3 #[.int .i64 gm, .string gk, .string gl] rfl rfl hth (by rfl) (fil_one15 _ _ _) ?_
      clear hth hS
      have s0 := hA.sub (L' := [(q1, #[.int .i64 sm, .string sk, .string sl, .int .i64 sn, .string sx, .string sy]), (k0, #[.int .i64 0, .string ⟨#[]⟩, .string ⟨#[]⟩, .int .i64 0, .string ⟨#[]⟩, .string ⟨#[]⟩]), (pc, #[.int .i64 sn, .string sx, .string sy, .int .i64 fm, .string fk, .string fl, .int .i64 gm, .string gk, .string gl])]) (by simp)
      have hnk : ∀ u ∈ ([(k0, #[.int .i64 0, .string ⟨#[]⟩, .string ⟨#[]⟩, .int .i64 0, .string ⟨#[]⟩, .string ⟨#[]⟩]), (pc, #[.int .i64 sn, .string sx, .string sy, .int .i64 fm, .string fk, .string fl, .int .i64 gm, .string gk, .string gl])] : List (Nat × Array Value)), u.1 ≠ q1 := by intro u hu; simp only [List.mem_cons, List.not_mem_nil, or_false] at hu; rcases hu with rfl | rfl; exact Hkq.out; exact Hpq.out
      have s1 := s0.setC Hq1.out hnk 3 (.int .i64 gm)
      have s2 := s1.setC Hq1.out hnk (3 + 1) (.string gk)
      have s3 := s2.setC Hq1.out hnk (3 + 2) (.string gl)
      replace hA : St w _ [(q1, #[.int .i64 sm, .string sk, .string sl, .int .i64 gm, .string gk, .string gl]), (k0, #[.int .i64 0, .string ⟨#[]⟩, .string ⟨#[]⟩, .int .i64 0, .string ⟨#[]⟩, .string ⟨#[]⟩]), (pc, #[.int .i64 sn, .string sx, .string sy, .int .i64 fm, .string fk, .string fl, .int .i64 gm, .string gk, .string gl])] [] := s3
      have hS := hA.sub (L' := [(pc, #[.int .i64 sn, .string sx, .string sy, .int .i64 fm, .string fk, .string fl, .int .i64 gm, .string gk, .string gl])]) (by simp)
      clear s0 s1 s2 s3 hnk
      refine hK.out _ _ hS (fun hHeld => ?_)
      clear hK K
      (try simp only [Act.put])
      refine wpAnyH_done (by kernel_rfl) ?_ _
      clear hHeld hS
      have S11 := Lib.hid hA
      clear hA
      go_wp2_with (refine wpList_loadg_st (by rfl) 47 _ rfl S11.out 0 _ _ rfl rfl _ Try.underlying47 rfl (by rfl) ?_)
      refine (pT _ _ _ _ _ _ _).mono ?_
      rintro e w12 ⟨rfl, hB⟩
      have S12 := Lib.hid (S11.out.on hB)
      clear hB S11
      go_wp2_with (refine wpList_storew_st rfl 25 _ _ rfl (S12.out.sub (L' := [(k0, #[.int .i64 0, .string ⟨#[]⟩, .string ⟨#[]⟩, .int .i64 0, .string ⟨#[]⟩, .string ⟨#[]⟩])]) (by simp)) Hk.out (by simp) #[.int .i64 sm, .string sk, .string sl, .int .i64 gm, .string gk, .string gl] rfl rfl (by rfl) rfl (sl_one15 _ _ _ _ _ _) ?_; intro w13 hS; have S13 := Lib.hid hS; clear hS)
      (try simp only [Exit.inBlock, Exit.then]); refine bodyPost_ret (ret_slots3 rfl rfl S13.out rfl) rfl ?_
      exact ⟨rfl, S13.out.below⟩
    · go_wp2_with fail
      obtain ⟨w9x, hw9⟩ : ∃ x, x = wc := ⟨_, rfl⟩
      rw [← hw9] at S10 ⊢
      clear hw9
      have hA : St w w9x.drew [(pc, #[.int .i64 sn, .string sx, .string sy, .int .i64 fm, .string fk, .string fl, .int .i64 gm, .string gk, .string gl]), (q3, #[.int .i64 gm, .string gk, .string gl]), (q2, #[.int .i64 fm, .string fk, .string fl]), (q1, #[.int .i64 sm, .string sk, .string sl, .int .i64 sn, .string sx, .string sy]), (k0, #[.int .i64 0, .string ⟨#[]⟩, .string ⟨#[]⟩, .int .i64 0, .string ⟨#[]⟩, .string ⟨#[]⟩]), (p0, #[.int .i64 sm, .string sk, .string sl, .int .i64 sn, .string sx, .string sy])] [] := S10.out.drew
      have hS := hA.sub (L' := [(pc, #[.int .i64 sn, .string sx, .string sy, .int .i64 fm, .string fk, .string fl, .int .i64 gm, .string gk, .string gl])]) (by simp)
      clear S10
      refine wp_region_held_drew (S := (fun W : World => St w W [(pc, #[.int .i64 sn, .string sx, .string sy, .int .i64 fm, .string fk, .string fl, .int .i64 gm, .string gk, .string gl])] [])) (by kernel_rfl) hS (fun hHeld => ?_)
      refine wpAnyH_take (i := 0) (oi := { dst := some 79, op := Op.move (Operand.tmp 12), type := 3, pos := _, after := #[], guard := none }) (v := ?_) rfl (by kernel_rfl) (by kernel_rfl) (by kernel_rfl) (fun _ _ _ h => h) (Or.inl ⟨by rfl, ?hy⟩) hHeld ?_
      case hy => intro w0 hSw; (try dsimp only at hSw); go_simp; (try with_reducible rfl)
      (try simp only [Act.put, List.setIfInBounds_toArray, List.set_cons_zero, List.set_cons_succ])
      refine wpAnyH_take (i := 2) (oi := { dst := some 81, op := Op.move (Operand.tmp 2), type := 3, pos := _, after := #[], guard := none }) (v := ?_) rfl (by kernel_rfl) (by kernel_rfl) (by kernel_rfl) (fun _ _ _ h => h) (Or.inl ⟨by rfl, ?hy⟩) hHeld ?_
      case hy => intro w0 hSw; (try dsimp only at hSw); go_simp; (try with_reducible rfl)
      (try simp only [Act.put, List.setIfInBounds_toArray, List.set_cons_zero, List.set_cons_succ])
      refine wpAnyH_take (i := 3) (oi := { dst := some 82, op := Op.indexAddr 58 (Operand.tmp 16) (Operand.tmp 81), type := 0, pos := _, after := #[{ on := 2, ground := Ground.data }], guard := none }) (v := ?_) rfl (by kernel_rfl) (by kernel_rfl) (by kernel_rfl) (fun _ _ _ h => h) (Or.inl ⟨by rfl, ?hy⟩) hHeld ?_
      case hy => intro w0 hSw; (try dsimp only at hSw); go_simp; (try with_reducible rfl)
      (try simp only [Act.put, List.setIfInBounds_toArray, List.set_cons_zero, List.set_cons_succ])
      refine wpAnyH_take (i := 4) (oi := { dst := some 83, op := Op.load 23 (Operand.tmp 82), type := 23, pos := _, after := #[{ on := 3, ground := Ground.data }], guard := none }) (v := ?_) rfl (by kernel_rfl) (by kernel_rfl) (by kernel_rfl) (fun _ _ _ h => h) (Or.inl ⟨by rfl, ?hy⟩) hHeld ?_
      case hy => intro w0 hSw; have d0 := hSw.cell 0 rfl 6 rfl; have d1 := hSw.cell 0 rfl 7 rfl; have d2 := hSw.cell 0 rfl 8 rfl; clear hSw; go_simp; (try with_reducible rfl)
      (try simp only [Act.put, List.setIfInBounds_toArray, List.set_cons_zero, List.set_cons_succ])
      refine wpAnyH_take (i := 5) (oi := { dst := some 84, op := Op.fieldAddr 49 (Operand.tmp 9) 0, type := 0, pos := _, after := #[], guard := none }) (v := ?_) rfl (by kernel_rfl) (by kernel_rfl) (by kernel_rfl) (fun _ _ _ h => h) (Or.inl ⟨by rfl, ?hy⟩) hHeld ?_
      case hy => intro w0 hSw; (try dsimp only at hSw); go_simp; (try with_reducible rfl)
      (try simp only [Act.put, List.setIfInBounds_toArray, List.set_cons_zero, List.set_cons_succ])
      refine wpAnyH_ready (rs := [1]) (by kernel_rfl) (by simp) ?_
      refine AllReadyH.cons (o := { dst := some 80, op := Op.call { callee := Callee.value (Operand.func 29), args := #[Operand.tmp 79], argTypes := #[3] }, type := 3, pos := _, after := #[{ on := 0, ground := Ground.data }], guard := none }) rfl (fun K hK => ?_) AllReadyH.nil
      go_simp
      refine (pS _).mono ?_
      rintro e y1 ⟨rfl, hB'⟩
      replace hS := hS.on hB'
      replace hA := hA.on hB'
      clear hB'
      go_wp2_with fail
      refine hK.out _ _ hS (fun hHeld => ?_)
      clear hK K
      (try simp only [Act.put, List.setIfInBounds_toArray, List.set_cons_zero, List.set_cons_succ])
      refine wpAnyH_take (i := 6) (oi := { dst := some 85, op := Op.indexAddr 47 (Operand.tmp 84) (Operand.tmp 80), type := 0, pos := _, after := #[{ on := 5, ground := Ground.data }, { on := 1, ground := Ground.data }, { on := 0, ground := Ground.phase }, { on := 1, ground := Ground.phase }, { on := 2, ground := Ground.phase }, { on := 3, ground := Ground.phase }, { on := 4, ground := Ground.phase }], guard := none }) (v := ?_) rfl (by kernel_rfl) (by kernel_rfl) (by kernel_rfl) (fun _ _ _ h => h) (Or.inl ⟨by rfl, ?hy⟩) hHeld ?_
      case hy => intro w0 hSw; (try dsimp only at hSw); go_simp; (try with_reducible rfl)
      (try simp only [Act.put, List.setIfInBounds_toArray, List.set_cons_zero, List.set_cons_succ])
      refine wpAnyH_ready (rs := [7]) (by kernel_rfl) (by simp) ?_
      refine AllReadyH.cons (o := { dst := none, op := Op.store 23 (Operand.tmp 85) (Operand.tmp 83), type := 0, pos := _, after := #[{ on := 6, ground := Ground.data }, { on := 4, ground := Ground.data }, { on := 1, ground := Ground.chain }, { on := 0, ground := Ground.phase }, { on := 1, ground := Ground.phase }, { on := 2, ground := Ground.phase }, { on := 3, ground := Ground.phase }, { on := 4, ground := Ground.phase }], guard := none }) rfl (fun K hK => ?_) AllReadyH.nil
      rw [if_pos (by rfl)]
      have hth := hA.there15 3 rfl 3 (show 3 + 3 ≤ 6 by decide)
      refine wp_store_mid 23 _ _ rfl q1 3 #[.int .i64 gm, .string gk, .string gl] rfl rfl hth (by rfl) (fil_one15 _ _ _) ?_
      clear hth hS
      have s0 := hA.sub (L' := [(q1, #[.int .i64 sm, .string sk, .string sl, .int .i64 sn, .string sx, .string sy]), (k0, #[.int .i64 0, .string ⟨#[]⟩, .string ⟨#[]⟩, .int .i64 0, .string ⟨#[]⟩, .string ⟨#[]⟩]), (pc, #[.int .i64 sn, .string sx, .string sy, .int .i64 fm, .string fk, .string fl, .int .i64 gm, .string gk, .string gl])]) (by simp)
      have hnk : ∀ u ∈ ([(k0, #[.int .i64 0, .string ⟨#[]⟩, .string ⟨#[]⟩, .int .i64 0, .string ⟨#[]⟩, .string ⟨#[]⟩]), (pc, #[.int .i64 sn, .string sx, .string sy, .int .i64 fm, .string fk, .string fl, .int .i64 gm, .string gk, .string gl])] : List (Nat × Array Value)), u.1 ≠ q1 := by intro u hu; simp only [List.mem_cons, List.not_mem_nil, or_false] at hu; rcases hu with rfl | rfl; exact Hkq.out; exact Hpq.out
      have s1 := s0.setC Hq1.out hnk 3 (.int .i64 gm)
      have s2 := s1.setC Hq1.out hnk (3 + 1) (.string gk)
      have s3 := s2.setC Hq1.out hnk (3 + 2) (.string gl)
      replace hA : St w _ [(q1, #[.int .i64 sm, .string sk, .string sl, .int .i64 gm, .string gk, .string gl]), (k0, #[.int .i64 0, .string ⟨#[]⟩, .string ⟨#[]⟩, .int .i64 0, .string ⟨#[]⟩, .string ⟨#[]⟩]), (pc, #[.int .i64 sn, .string sx, .string sy, .int .i64 fm, .string fk, .string fl, .int .i64 gm, .string gk, .string gl])] [] := s3
      have hS := hA.sub (L' := [(pc, #[.int .i64 sn, .string sx, .string sy, .int .i64 fm, .string fk, .string fl, .int .i64 gm, .string gk, .string gl])]) (by simp)
      clear s0 s1 s2 s3 hnk
      refine hK.out _ _ hS (fun hHeld => ?_)
      clear hK K
      (try simp only [Act.put])
      refine wpAnyH_done (by kernel_rfl) ?_ _
      clear hHeld hS
      have S11 := Lib.hid hA
      clear hA
      go_wp2_with (refine wpList_loadg_st (by rfl) 47 _ rfl S11.out 0 _ _ rfl rfl _ Try.underlying47 rfl (by rfl) ?_)
      refine (pT _ _ _ _ _ _ _).mono ?_
      rintro e w12 ⟨rfl, hB⟩
      have S12 := Lib.hid (S11.out.on hB)
      clear hB S11
      go_wp2_with (refine wpList_storew_st rfl 25 _ _ rfl (S12.out.sub (L' := [(k0, #[.int .i64 0, .string ⟨#[]⟩, .string ⟨#[]⟩, .int .i64 0, .string ⟨#[]⟩, .string ⟨#[]⟩])]) (by simp)) Hk.out (by simp) #[.int .i64 sm, .string sk, .string sl, .int .i64 gm, .string gk, .string gl] rfl rfl (by rfl) rfl (sl_one15 _ _ _ _ _ _) ?_; intro w13 hS; have S13 := Lib.hid hS; clear hS)
      (try simp only [Exit.inBlock, Exit.then]); refine bodyPost_ret (ret_slots3 rfl rfl S13.out rfl) rfl ?_
      exact ⟨rfl, S13.out.below⟩
end Go.Proofs.Yteepemibmjpnfaa
