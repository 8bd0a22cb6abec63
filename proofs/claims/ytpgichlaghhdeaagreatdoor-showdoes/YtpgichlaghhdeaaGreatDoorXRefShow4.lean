/-
  Layer 11 (show), the reference: Line.
-/
import Derived.Test.YtpgichlaghhdeaaGreatDoorXJi
import Derived.Test.YtpgichlaghhdeaaGreatDoorXJb
import Derived.Deep.WholeRow
namespace Go.Proofs.YtpgichlaghhdeaaGreatDoor
set_option maxRecDepth 10000
open Go.RowKit

theorem RDigits_int (z : Int) (h0 : 0 ≤ z) (h1 : z ≤ 9999999999) (w : World) :
    Calls Tryz.prog 34 #[.int .i64 z] w fun e w' => e = .returned (.string (strOf (Lib.decDigits z.toNat))) ∧ Below w.heap.size w w' := by
  have h := RDigits_any z.toNat (by omega) w
  rw [show ((z.toNat : Nat) : Int) = z by omega] at h
  exact h

/-- What the reference asks of the layers ahead for a line. -/
structure RefLK : Prop where
  is6 : ∀ (x0 x1 x2 x3 x4 x5 : Int) (w : World), Calls Tryz.prog 31 #[.agg #[.int .i64 x0, .int .i64 x1, .int .i64 x2, .int .i64 x3, .int .i64 x4, .int .i64 x5]] w fun e w' => e = .returned (.bool (Am.right ⟨x0, x1, x2, x3, x4, x5⟩)) ∧ Below w.heap.size w w'
  print4 : ∀ (b c : Int) (w : World), Calls Tryz.prog 32 #[.agg #[.int .i64 b, .int .i64 c]] w fun e w' => e = .returned (.tuple #[.string (strOf (Sp.prn b c)), .int .i64 (Sp.numE b c)]) ∧ Below w.heap.size w w'
  name5 : ∀ (p : Int) (w : World), Calls Tryz.prog 33 #[.int .i64 p] w fun e w' => e = .returned (.tuple #[.string (strOf (Lf.nameL p)), .bool (Lf.isP p)]) ∧ Below w.heap.size w w'

theorem Sh.line_strs (a : Alm) : strOf (Sp.txt a.b a.c) ++ ⟨#[32]⟩ ++ strOf (Lf.nameL a.ph) ++ ⟨#[32]⟩ ++ strOf (Lib.decDigits a.pr.toNat) ++ ⟨#[32]⟩ ++ strOf (Lib.decDigits a.si.toNat) ++ ⟨#[32]⟩ ++ strOf (Lib.decDigits a.un.toNat) = strOf (Sh.lineL a) := by
  apply bl_inj
  simp only [bl_append, bl_strOf]
  have e : bl ⟨#[32]⟩ = [32] := rfl
  rw [e]
  unfold Sh.lineL
  simp

set_option maxHeartbeats 4000000 in
theorem RLine_any (HK : Hid RefLK) (x0 x1 x2 x3 x4 x5 : Int) (w : World) :
    Calls Tryz.prog 10 #[.agg #[.int .i64 x0, .int .i64 x1, .int .i64 x2, .int .i64 x3, .int .i64 x4, .int .i64 x5]] w fun e w' => e = .returned (.tuple #[.string (strOf (Sh.line ⟨x0, x1, x2, x3, x4, x5⟩)), .int .i64 (Sh.lineE ⟨x0, x1, x2, x3, x4, x5⟩)]) ∧ Below w.heap.size w w' := by
  have g0 := fun W => HK.out.is6 x0 x1 x2 x3 x4 x5 W
  have hS0 := Six.new w x0 x1 x2 x3 x4 x5 25
  have hB0 := below_new w (.cells #[.int .i64 x0, .int .i64 x1, .int .i64 x2, .int .i64 x3, .int .i64 x4, .int .i64 x5] 25)
  obtain ⟨r, hr⟩ : ∃ r, r = Sh.line ⟨x0, x1, x2, x3, x4, x5⟩ := ⟨_, rfl⟩
  obtain ⟨er, her⟩ : ∃ er, er = Sh.lineE ⟨x0, x1, x2, x3, x4, x5⟩ := ⟨_, rfl⟩
  rw [← hr, ← her]
  cases hright : Am.right ⟨x0, x1, x2, x3, x4, x5⟩ with
  | false =>
    have Hr : Hid (r = [] ∧ er = 1) := Lib.hid ⟨by rw [hr]; unfold Sh.line; rw [hright]; rfl, by rw [her]; unfold Sh.lineE; rw [hright]; rfl⟩
    simp only [hright] at g0
    clear hright hr her
    have HB0 := Lib.hid hB0
    have c0 := hS0.c0
    have c1 := hS0.c1
    have c2 := hS0.c2
    have c3 := hS0.c3
    have c4 := hS0.c4
    have c5 := hS0.c5
    dsimp only at c0 c1 c2 c3 c4 c5
    clear hS0 hB0
    go_enter Tryz.func10, Tryz.ntmps10
    go_wp2_with fail
    refine (g0 _).mono ?_
    rintro e w1 ⟨rfl, hB⟩
    have HB := Lib.hid (below2 HB0.out hB)
    clear hB
    go_wp2
    go_ret2
    exact ⟨by rw [Hr.out.1, Hr.out.2]; rfl, HB.out⟩
  | true =>
    have ri := Am.right_iff.1 hright
    simp only [hright] at g0
    have Hr : Hid (strOf (Sp.txt x0 x1) ++ ⟨#[32]⟩ ++ strOf (Lf.nameL x2) ++ ⟨#[32]⟩ ++ strOf (Lib.decDigits x3.toNat) ++ ⟨#[32]⟩ ++ strOf (Lib.decDigits x4.toNat) ++ ⟨#[32]⟩ ++ strOf (Lib.decDigits x5.toNat) = strOf r ∧ er = 0) := Lib.hid
      ⟨by rw [hr]; unfold Sh.line; rw [hright]; exact Sh.line_strs ⟨x0, x1, x2, x3, x4, x5⟩, by rw [her]; unfold Sh.lineE; rw [hright]; rfl⟩
    have g1 := fun W => HK.out.print4 x0 x1 W
    have g2 := fun W => HK.out.name5 x2 W
    have ep : Sp.prn x0 x1 = Sp.txt x0 x1 := by unfold Sp.prn; rw [if_pos ri.1]
    simp only [ep] at g1
    have g3 := fun W => RDigits_int x3 (by have := ri.2.2.2.1; simp only at this; omega) (by have := ri.2.2.2.2.1; simp only at this; omega) W
    have g4 := fun W => RDigits_int x4 (by have := ri.2.2.2.2.2.1.1; simp only at this; omega) (by have := ri.2.2.2.2.2.1.2; simp only at this; omega) W
    have g5 := fun W => RDigits_int x5 (by have h1 := ri.2.2.2.2.2.1.1; have h2 := ri.2.2.2.2.2.2.1; simp only at h1 h2; omega) (by have := ri.2.2.2.2.2.2.2; simp only at this; omega) W
    have l1 := Sp.txt_len ri.1
    have l2 := Sh.name_len x2
    have l3 := (Sh.dec_len (n := x3.toNat) (by have := ri.2.2.2.2.1; simp only at this; omega)).1
    have l4 := (Sh.dec_len (n := x4.toNat) (by have := ri.2.2.2.2.2.1.2; simp only at this; omega)).1
    have l5 := (Sh.dec_len (n := x5.toNat) (by have := ri.2.2.2.2.2.2.2; simp only at this; omega)).1
    simp only at l1
    rw [← strOf_size] at l1 l2 l3 l4 l5
    obtain ⟨s1, hs1⟩ : ∃ s, s = strOf (Sp.txt x0 x1) := ⟨_, rfl⟩
    obtain ⟨s2, hs2⟩ : ∃ s, s = strOf (Lf.nameL x2) := ⟨_, rfl⟩
    obtain ⟨s3, hs3⟩ : ∃ s, s = strOf (Lib.decDigits x3.toNat) := ⟨_, rfl⟩
    obtain ⟨s4, hs4⟩ : ∃ s, s = strOf (Lib.decDigits x4.toNat) := ⟨_, rfl⟩
    obtain ⟨s5, hs5⟩ : ∃ s, s = strOf (Lib.decDigits x5.toNat) := ⟨_, rfl⟩
    simp only [← hs1] at g1 l1 Hr
    simp only [← hs2] at g2 l2 Hr
    simp only [← hs3] at g3 l3 Hr
    simp only [← hs4] at g4 l4 Hr
    simp only [← hs5] at g5 l5 Hr
    have e32 : (⟨#[32]⟩ : ByteArray).size = 1 := rfl
    have F1 : (9223372036854775807 < s1.size + 1) = False := eq_false (by omega)
    have F2 : (9223372036854775807 < s1.size + 1 + s2.size) = False := eq_false (by omega)
    have F3 : (9223372036854775807 < s1.size + 1 + s2.size + 1) = False := eq_false (by omega)
    have F4 : (9223372036854775807 < s1.size + 1 + s2.size + 1 + s3.size) = False := eq_false (by omega)
    have F5 : (9223372036854775807 < s1.size + 1 + s2.size + 1 + s3.size + 1) = False := eq_false (by omega)
    have F6 : (9223372036854775807 < s1.size + 1 + s2.size + 1 + s3.size + 1 + s4.size) = False := eq_false (by omega)
    have F7 : (9223372036854775807 < s1.size + 1 + s2.size + 1 + s3.size + 1 + s4.size + 1) = False := eq_false (by omega)
    have F8 : (9223372036854775807 < s1.size + 1 + s2.size + 1 + s3.size + 1 + s4.size + 1 + s5.size) = False := eq_false (by omega)
    clear hright hr her ri ep l1 l2 l3 l4 l5 hs1 hs2 hs3 hs4 hs5 e32
    have H0 := Lib.hid hS0
    have HB0 := Lib.hid hB0
    have c0 := hS0.c0
    have c1 := hS0.c1
    have c2 := hS0.c2
    have c3 := hS0.c3
    have c4 := hS0.c4
    have c5 := hS0.c5
    dsimp only at c0 c1 c2 c3 c4 c5
    clear hS0 hB0
    go_enter Tryz.func10, Tryz.ntmps10
    go_wp2_with fail
    refine (g0 _).mono ?_
    rintro e w1 ⟨rfl, hB⟩
    have H1 := Lib.hid (H0.out.below hB)
    have HB1 := Lib.hid (below2 HB0.out hB)
    clear hB c0 c1 c2 c3 c4 c5 H0 HB0 g0
    obtain ⟨p, hp⟩ : ∃ p, p = w.heap.size := ⟨_, rfl⟩
    rw [← hp] at H1 ⊢
    clear hp
    have c0 := H1.out.c0
    have c1 := H1.out.c1
    dsimp only at c0 c1
    go_wp2_with fail
    refine (g1 _).mono ?_
    rintro e w2 ⟨rfl, hB⟩
    have H2 := Lib.hid (H1.out.below hB)
    have HB2 := Lib.hid (below2 HB1.out hB)
    clear hB c0 c1 H1 HB1 g1
    have c2 := H2.out.c2
    dsimp only at c2
    go_wp2_with fail
    refine (g2 _).mono ?_
    rintro e w3 ⟨rfl, hB⟩
    have H3 := Lib.hid (H2.out.below hB)
    have HB3 := Lib.hid (below2 HB2.out hB)
    clear hB c2 H2 HB2 g2
    go_wp2_with fail
    have hS : Six w3.drew p ⟨x0, x1, x2, x3, x4, x5⟩ := H3.out.below (below_drew (Below.refl _ _) 1)
    have hB : Below w.heap.size w w3.drew := below_drew HB3.out 1
    refine wp_region_held_drew (S := (fun W : World => Six W p ⟨x0, x1, x2, x3, x4, x5⟩)) (by kernel_rfl) hS (fun hHeld => ?_)
    refine wpAnyH_take (i := 0) (oi := { dst := some 23, op := Op.move (Operand.tmp 4), type := 9, pos := _, after := #[], guard := none }) (v := ?_) rfl (by kernel_rfl) (by kernel_rfl) (by kernel_rfl) (fun _ _ _ h => h) (Or.inl ⟨by rfl, ?hy⟩) hHeld ?_
    case hy => intro w0 hSw; (try dsimp only at hSw); go_simp; (try with_reducible rfl)
    (try simp only [Act.put, List.setIfInBounds_toArray, List.set_cons_zero, List.set_cons_succ])
    refine wpAnyH_take (i := 1) (oi := { dst := some 24, op := Op.binOp BinOp.add 9 (Operand.tmp 23) (Operand.const (Value.string { data := #[32] })) 9, type := 9, pos := _, after := #[{ on := 0, ground := Ground.data }], guard := none }) (v := ?_) rfl (by kernel_rfl) (by kernel_rfl) (by kernel_rfl) (fun _ _ _ h => h) (Or.inl ⟨by rfl, ?hy⟩) hHeld ?_
    case hy => intro w0 hSw; clear hSw; go_simp; (try simp only [F1, if_false]); (try with_reducible rfl)
    (try simp only [Act.put, List.setIfInBounds_toArray, List.set_cons_zero, List.set_cons_succ])
    refine wpAnyH_take (i := 2) (oi := { dst := some 25, op := Op.move (Operand.tmp 6), type := 9, pos := _, after := #[], guard := none }) (v := ?_) rfl (by kernel_rfl) (by kernel_rfl) (by kernel_rfl) (fun _ _ _ h => h) (Or.inl ⟨by rfl, ?hy⟩) hHeld ?_
    case hy => intro w0 hSw; (try dsimp only at hSw); go_simp; (try with_reducible rfl)
    (try simp only [Act.put, List.setIfInBounds_toArray, List.set_cons_zero, List.set_cons_succ])
    refine wpAnyH_take (i := 3) (oi := { dst := some 26, op := Op.binOp BinOp.add 9 (Operand.tmp 24) (Operand.tmp 25) 9, type := 9, pos := _, after := #[{ on := 1, ground := Ground.data }, { on := 2, ground := Ground.data }], guard := none }) (v := ?_) rfl (by kernel_rfl) (by kernel_rfl) (by kernel_rfl) (fun _ _ _ h => h) (Or.inl ⟨by rfl, ?hy⟩) hHeld ?_
    case hy => intro w0 hSw; clear hSw; go_simp; (try simp only [F2, if_false]); (try with_reducible rfl)
    (try simp only [Act.put, List.setIfInBounds_toArray, List.set_cons_zero, List.set_cons_succ])
    refine wpAnyH_take (i := 4) (oi := { dst := some 27, op := Op.binOp BinOp.add 9 (Operand.tmp 26) (Operand.const (Value.string { data := #[32] })) 9, type := 9, pos := _, after := #[{ on := 3, ground := Ground.data }], guard := none }) (v := ?_) rfl (by kernel_rfl) (by kernel_rfl) (by kernel_rfl) (fun _ _ _ h => h) (Or.inl ⟨by rfl, ?hy⟩) hHeld ?_
    case hy => intro w0 hSw; clear hSw; go_simp; (try simp only [F3, if_false]); (try with_reducible rfl)
    (try simp only [Act.put, List.setIfInBounds_toArray, List.set_cons_zero, List.set_cons_succ])
    refine wpAnyH_take (i := 5) (oi := { dst := some 28, op := Op.fieldAddr 25 (Operand.tmp 1) 2, type := 0, pos := _, after := #[], guard := none }) (v := ?_) rfl (by kernel_rfl) (by kernel_rfl) (by kernel_rfl) (fun _ _ _ h => h) (Or.inl ⟨by rfl, ?hy⟩) hHeld ?_
    case hy => intro w0 hSw; (try dsimp only at hSw); go_simp; (try with_reducible rfl)
    (try simp only [Act.put, List.setIfInBounds_toArray, List.set_cons_zero, List.set_cons_succ])
    refine wpAnyH_take (i := 6) (oi := { dst := some 29, op := Op.load 3 (Operand.tmp 28), type := 3, pos := _, after := #[{ on := 5, ground := Ground.data }], guard := none }) (v := ?_) rfl (by kernel_rfl) (by kernel_rfl) (by kernel_rfl) (fun _ _ _ h => h) (Or.inl ⟨by rfl, ?hy⟩) hHeld ?_
    case hy => intro w0 hSw; have d := hSw.c3; clear hSw; dsimp only at d; go_simp; (try with_reducible rfl)
    (try simp only [Act.put, List.setIfInBounds_toArray, List.set_cons_zero, List.set_cons_succ])
    refine wpAnyH_take (i := 10) (oi := { dst := some 33, op := Op.fieldAddr 25 (Operand.tmp 1) 3, type := 0, pos := _, after := #[], guard := none }) (v := ?_) rfl (by kernel_rfl) (by kernel_rfl) (by kernel_rfl) (fun _ _ _ h => h) (Or.inl ⟨by rfl, ?hy⟩) hHeld ?_
    case hy => intro w0 hSw; (try dsimp only at hSw); go_simp; (try with_reducible rfl)
    (try simp only [Act.put, List.setIfInBounds_toArray, List.set_cons_zero, List.set_cons_succ])
    refine wpAnyH_take (i := 11) (oi := { dst := some 34, op := Op.load 3 (Operand.tmp 33), type := 3, pos := _, after := #[{ on := 10, ground := Ground.data }], guard := none }) (v := ?_) rfl (by kernel_rfl) (by kernel_rfl) (by kernel_rfl) (fun _ _ _ h => h) (Or.inl ⟨by rfl, ?hy⟩) hHeld ?_
    case hy => intro w0 hSw; have d := hSw.c4; clear hSw; dsimp only at d; go_simp; (try with_reducible rfl)
    (try simp only [Act.put, List.setIfInBounds_toArray, List.set_cons_zero, List.set_cons_succ])
    refine wpAnyH_take (i := 15) (oi := { dst := some 38, op := Op.fieldAddr 25 (Operand.tmp 1) 4, type := 0, pos := _, after := #[], guard := none }) (v := ?_) rfl (by kernel_rfl) (by kernel_rfl) (by kernel_rfl) (fun _ _ _ h => h) (Or.inl ⟨by rfl, ?hy⟩) hHeld ?_
    case hy => intro w0 hSw; (try dsimp only at hSw); go_simp; (try with_reducible rfl)
    (try simp only [Act.put, List.setIfInBounds_toArray, List.set_cons_zero, List.set_cons_succ])
    refine wpAnyH_take (i := 16) (oi := { dst := some 39, op := Op.load 3 (Operand.tmp 38), type := 3, pos := _, after := #[{ on := 15, ground := Ground.data }], guard := none }) (v := ?_) rfl (by kernel_rfl) (by kernel_rfl) (by kernel_rfl) (fun _ _ _ h => h) (Or.inl ⟨by rfl, ?hy⟩) hHeld ?_
    case hy => intro w0 hSw; have d := hSw.c5; clear hSw; dsimp only at d; go_simp; (try with_reducible rfl)
    (try simp only [Act.put, List.setIfInBounds_toArray, List.set_cons_zero, List.set_cons_succ])
    refine wpAnyH_ready (rs := [7]) (by kernel_rfl) (by simp) ?_
    refine AllReadyH.cons (o := { dst := some 30, op := Op.call { callee := Callee.value (Operand.func 34), args := #[Operand.tmp 29], argTypes := #[3] }, type := 9, pos := _, after := #[{ on := 6, ground := Ground.data }], guard := none }) rfl (fun K hK => ?_) AllReadyH.nil
    go_simp
    refine (g3 _).mono ?_
    rintro e w7 ⟨rfl, hB'⟩
    have ZB7 := hB'
    replace hS : Six w7 p ⟨x0, x1, x2, x3, x4, x5⟩ := hS.below hB'
    replace hB := below2 hB hB'
    clear hB' ZB7
    go_wp2_with fail
    refine hK.out _ _ hS (fun hHeld => ?_)
    clear hK K
    (try simp only [Act.put, List.setIfInBounds_toArray, List.set_cons_zero, List.set_cons_succ])
    refine wpAnyH_take (i := 8) (oi := { dst := some 31, op := Op.binOp BinOp.add 9 (Operand.tmp 27) (Operand.tmp 30) 9, type := 9, pos := _, after := #[{ on := 4, ground := Ground.data }, { on := 7, ground := Ground.data }], guard := none }) (v := ?_) rfl (by kernel_rfl) (by kernel_rfl) (by kernel_rfl) (fun _ _ _ h => h) (Or.inl ⟨by rfl, ?hy⟩) hHeld ?_
    case hy => intro w0 hSw; clear hSw; go_simp; (try simp only [F4, if_false]); (try with_reducible rfl)
    (try simp only [Act.put, List.setIfInBounds_toArray, List.set_cons_zero, List.set_cons_succ])
    refine wpAnyH_take (i := 9) (oi := { dst := some 32, op := Op.binOp BinOp.add 9 (Operand.tmp 31) (Operand.const (Value.string { data := #[32] })) 9, type := 9, pos := _, after := #[{ on := 8, ground := Ground.data }], guard := none }) (v := ?_) rfl (by kernel_rfl) (by kernel_rfl) (by kernel_rfl) (fun _ _ _ h => h) (Or.inl ⟨by rfl, ?hy⟩) hHeld ?_
    case hy => intro w0 hSw; clear hSw; go_simp; (try simp only [F5, if_false]); (try with_reducible rfl)
    (try simp only [Act.put, List.setIfInBounds_toArray, List.set_cons_zero, List.set_cons_succ])
    refine wpAnyH_ready (rs := [12]) (by kernel_rfl) (by simp) ?_
    refine AllReadyH.cons (o := { dst := some 35, op := Op.call { callee := Callee.value (Operand.func 34), args := #[Operand.tmp 34], argTypes := #[3] }, type := 9, pos := _, after := #[{ on := 11, ground := Ground.data }, { on := 7, ground := Ground.chain }], guard := none }) rfl (fun K hK => ?_) AllReadyH.nil
    go_simp
    refine (g4 _).mono ?_
    rintro e w8 ⟨rfl, hB'⟩
    have ZB8 := hB'
    replace hS : Six w8 p ⟨x0, x1, x2, x3, x4, x5⟩ := hS.below hB'
    replace hB := below2 hB hB'
    clear hB' ZB8
    go_wp2_with fail
    refine hK.out _ _ hS (fun hHeld => ?_)
    clear hK K
    (try simp only [Act.put, List.setIfInBounds_toArray, List.set_cons_zero, List.set_cons_succ])
    refine wpAnyH_take (i := 13) (oi := { dst := some 36, op := Op.binOp BinOp.add 9 (Operand.tmp 32) (Operand.tmp 35) 9, type := 9, pos := _, after := #[{ on := 9, ground := Ground.data }, { on := 12, ground := Ground.data }], guard := none }) (v := ?_) rfl (by kernel_rfl) (by kernel_rfl) (by kernel_rfl) (fun _ _ _ h => h) (Or.inl ⟨by rfl, ?hy⟩) hHeld ?_
    case hy => intro w0 hSw; clear hSw; go_simp; (try simp only [F6, if_false]); (try with_reducible rfl)
    (try simp only [Act.put, List.setIfInBounds_toArray, List.set_cons_zero, List.set_cons_succ])
    refine wpAnyH_take (i := 14) (oi := { dst := some 37, op := Op.binOp BinOp.add 9 (Operand.tmp 36) (Operand.const (Value.string { data := #[32] })) 9, type := 9, pos := _, after := #[{ on := 13, ground := Ground.data }], guard := none }) (v := ?_) rfl (by kernel_rfl) (by kernel_rfl) (by kernel_rfl) (fun _ _ _ h => h) (Or.inl ⟨by rfl, ?hy⟩) hHeld ?_
    case hy => intro w0 hSw; clear hSw; go_simp; (try simp only [F7, if_false]); (try with_reducible rfl)
    (try simp only [Act.put, List.setIfInBounds_toArray, List.set_cons_zero, List.set_cons_succ])
    refine wpAnyH_ready (rs := [17]) (by kernel_rfl) (by simp) ?_
    refine AllReadyH.cons (o := { dst := some 40, op := Op.call { callee := Callee.value (Operand.func 34), args := #[Operand.tmp 39], argTypes := #[3] }, type := 9, pos := _, after := #[{ on := 16, ground := Ground.data }, { on := 12, ground := Ground.chain }], guard := none }) rfl (fun K hK => ?_) AllReadyH.nil
    go_simp
    refine (g5 _).mono ?_
    rintro e w9 ⟨rfl, hB'⟩
    have ZB9 := hB'
    replace hS : Six w9 p ⟨x0, x1, x2, x3, x4, x5⟩ := hS.below hB'
    replace hB := below2 hB hB'
    clear hB' ZB9
    go_wp2_with fail
    refine hK.out _ _ hS (fun hHeld => ?_)
    clear hK K
    (try simp only [Act.put, List.setIfInBounds_toArray, List.set_cons_zero, List.set_cons_succ])
    refine wpAnyH_take (i := 18) (oi := { dst := some 41, op := Op.binOp BinOp.add 9 (Operand.tmp 37) (Operand.tmp 40) 9, type := 9, pos := _, after := #[{ on := 14, ground := Ground.data }, { on := 17, ground := Ground.data }], guard := none }) (v := ?_) rfl (by kernel_rfl) (by kernel_rfl) (by kernel_rfl) (fun _ _ _ h => h) (Or.inl ⟨by rfl, ?hy⟩) hHeld ?_
    case hy => intro w0 hSw; clear hSw; go_simp; (try simp only [F8, if_false]); (try with_reducible rfl)
    (try simp only [Act.put, List.setIfInBounds_toArray, List.set_cons_zero, List.set_cons_succ])
    refine wpAnyH_take (i := 19) (oi := { dst := some 2, op := Op.assign (Operand.tmp 41), type := 9, pos := _, after := #[{ on := 18, ground := Ground.data }, { on := 17, ground := Ground.chain }, { on := 0, ground := Ground.phase }, { on := 1, ground := Ground.phase }, { on := 2, ground := Ground.phase }, { on := 3, ground := Ground.phase }, { on := 4, ground := Ground.phase }, { on := 5, ground := Ground.phase }, { on := 6, ground := Ground.phase }, { on := 7, ground := Ground.phase }, { on := 8, ground := Ground.phase }, { on := 9, ground := Ground.phase }, { on := 10, ground := Ground.phase }, { on := 11, ground := Ground.phase }, { on := 12, ground := Ground.phase }, { on := 13, ground := Ground.phase }, { on := 14, ground := Ground.phase }, { on := 15, ground := Ground.phase }, { on := 16, ground := Ground.phase }, { on := 17, ground := Ground.phase }, { on := 18, ground := Ground.phase }], guard := none }) (v := ?_) rfl (by kernel_rfl) (by kernel_rfl) (by kernel_rfl) (fun _ _ _ h => h) (Or.inl ⟨by rfl, ?hy⟩) hHeld ?_
    case hy => intro w0 hSw; (try dsimp only at hSw); go_simp; (try with_reducible rfl)
    (try simp only [Act.put, List.setIfInBounds_toArray, List.set_cons_zero, List.set_cons_succ])
    refine wpAnyH_take (i := 20) (oi := { dst := some 3, op := Op.assign (Operand.const (Value.int IntKind.i64 0)), type := 31, pos := _, after := #[{ on := 19, ground := Ground.chain }, { on := 0, ground := Ground.phase }, { on := 1, ground := Ground.phase }, { on := 2, ground := Ground.phase }, { on := 3, ground := Ground.phase }, { on := 4, ground := Ground.phase }, { on := 5, ground := Ground.phase }, { on := 6, ground := Ground.phase }, { on := 7, ground := Ground.phase }, { on := 8, ground := Ground.phase }, { on := 9, ground := Ground.phase }, { on := 10, ground := Ground.phase }, { on := 11, ground := Ground.phase }, { on := 12, ground := Ground.phase }, { on := 13, ground := Ground.phase }, { on := 14, ground := Ground.phase }, { on := 15, ground := Ground.phase }, { on := 16, ground := Ground.phase }, { on := 17, ground := Ground.phase }, { on := 18, ground := Ground.phase }, { on := 19, ground := Ground.phase }], guard := none }) (v := ?_) rfl (by kernel_rfl) (by kernel_rfl) (by kernel_rfl) (fun _ _ _ h => h) (Or.inl ⟨by rfl, ?hy⟩) hHeld ?_
    case hy => intro w0 hSw; (try dsimp only at hSw); go_simp; (try with_reducible rfl)
    (try simp only [Act.put, List.setIfInBounds_toArray, List.set_cons_zero, List.set_cons_succ])
    refine wpAnyH_done (by kernel_rfl) ?_ _
    clear hHeld hS
    have HBz := Lib.hid hB
    clear hB
    go_wp2
    go_ret2
    exact ⟨by rw [Hr.out.1, Hr.out.2]; rfl, HBz.out⟩
end Go.Proofs.YtpgichlaghhdeaaGreatDoor
