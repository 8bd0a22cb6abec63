/-
  Layer 10 (mute): areApart, Is, Total, fit, Add, Cut: what the laws ask of mute, over the landed code.
-/
import Derived.Test.YthbkfjnpdcfepaaMuteF
import Derived.Test.YthbkfjnpdcfepaaMuteD
import Derived.Test.YthbkfjnpdcfepaaMuteW4
namespace Go.Proofs.Ythbkfjnpdcfepaa
set_option maxRecDepth 10000
open Go.RowKit

theorem Walk.c3 {w : World} {g : Nat} {x : Win} {ls : List Win} (h : Walk w g x ls) : ∃ A c, w.cell? ⟨g, 3, none⟩ = some (.slice A ls.length c) ∧ WinsAt w g A ls := by
  obtain ⟨A, c, t, h1, h2, _⟩ := h
  exact ⟨A, c, by simp only [World.cell?, h1]; rfl, h2⟩

set_option maxHeartbeats 4000000 in
theorem areApart_any (A : Option Addr) (l c : Nat) (ls : List Win) (w : World) (h : ToldW w A l c ls) :
    Calls Try.prog 30 #[.slice A l c] w fun e w' => e = .returned (.bool (Mu.rising ls)) ∧ Below w.heap.size w w' := by
  have H0 := Lib.hid (Going.start h)
  have Hl : Hid (ls.length ≤ 1000) := Lib.hid (by rw [← h.1]; exact h.2.2.2)
  obtain ⟨r, hr⟩ : ∃ r, r = Mu.rising ls := ⟨_, rfl⟩
  have Hr := Lib.hid hr
  rw [← hr]
  clear hr h
  obtain ⟨g, hg⟩ : ∃ g, g = w.heap.size := ⟨_, rfl⟩
  have Hg := Lib.hid hg
  have T := through_any A l c w
  rw [← hg] at H0 T
  clear hg
  go_enter Try.func30, Try.ntmps30
  go_wp2_with fail
  refine T.mono ?_
  rintro e w1 ⟨rfl, hw1⟩
  rw [← hw1] at H0
  clear hw1 T
  go_wp2_with fail
  go_loopw [7] (fun _ wr => ∃ rest x, Hid (Going w g rest x wr) ∧ Hid (Mu.rising rest = r) ∧ Hid (rest.length ≤ 1000)) (fun _ wr => behindN wr g)
  case atStart => exact ⟨ls, _, H0, Lib.hid Hr.out.symm, Hl⟩
  case round =>
    clear H0
    obtain ⟨rest, x, HW, Ha, Hl⟩ := hrel
    cases rest with
    | nil =>
      have He : Hid (r = true) := Lib.hid Ha.out.symm
      go_wp2_with fail
      refine (next_end g x wr HW.out.walk).mono ?_
      rintro e w2 ⟨rfl, rfl⟩
      go_wp2
      go_ret
      exact ⟨by rw [He.out]; rfl, HW.out.below⟩
    | cons y rest =>
      go_wp2_with fail
      refine (next_on g x y rest wr HW.out.walk).mono ?_
      rintro e w4 ⟨rfl, hw, hgr⟩
      have HW2 := Lib.hid (HW.out.next (Nat.le_of_eq Hg.out.symm) hw hgr)
      have Hn : Hid (behindN wr g = rest.length + 1) := Lib.hid HW.out.walk.n
      clear hw hgr HW
      obtain ⟨y0, y1, y2⟩ := y
      obtain ⟨A3, c3, hc3, hA3⟩ := HW2.out.walk.c3
      cases rest with
      | nil =>
        have hc3' : w4.cell? ⟨g, 3, none⟩ = some (.slice A3 0 c3) := hc3
        have He : Hid (Mu.rising [] = r) := Lib.hid Ha.out
        clear hA3 hc3
        go_wp2_with fail
        go_quiet (fail)
        have HW3 : Hid (Going w g [] ⟨y0, y1, y2⟩ (w4.drewN nq)) := Lib.hid (HW2.out.on (below_drew (Below.refl _ _) nq))
        clear hc3' HW2
        go_wp2
        go_roundw
        case rel => exact ⟨[], _, HW3, He, Lib.hid (Nat.zero_le _)⟩
        case measure => rw [Hn.out, HW3.out.walk.n]; simp
      | cons z rest =>
        obtain ⟨z0, z1, z2⟩ := z
        obtain ⟨b2, o2, hA, hb2, h3⟩ := hA3 0 (by simp)
        subst hA
        have e0 : o2 + 0 * 3 = o2 := by omega
        rw [e0] at h3
        simp only [List.getElem_cons_zero] at h3
        have Hb2 : Hid (b2 < g) := Lib.hid hb2
        obtain ⟨n1, hn1⟩ : ∃ n1, n1 = rest.length := ⟨_, rfl⟩
        rw [List.length_cons, ← hn1] at hc3
        have hS : Wi3 w4.drew g 0 ⟨y0, y1, y2⟩ ∧ w4.drew.cell? ⟨g, 3, none⟩ = some (.slice (some ⟨b2, o2, none⟩) (n1 + 1) c3) ∧ Wi3 w4.drew b2 o2 ⟨z0, z1, z2⟩ := ⟨HW2.out.walk.wi.drew, hc3, h3.drew⟩
        have i0 : (0 : Int) < (n1 : Int) + 1 := by omega
        have i1 : ((n1 : Int) + 1 > 0) = True := eq_true (by omega)
        have i2 : 0 < n1 + 1 := by omega
        have i4 : (1 : Int) ≤ (n1 : Int) + 1 := by omega
        clear hn1 hb2 h3 e0 hc3 hA3
        have kB := fun W => endsAhead_any y0 y1 y2 z0 z1 z2 W
        have e1 : Mu.rising (⟨y0, y1, y2⟩ :: ⟨z0, z1, z2⟩ :: rest) = (decide (Mu.before ⟨y0, y1, y2⟩ ⟨z0, z1, z2⟩) && Mu.rising (⟨z0, z1, z2⟩ :: rest)) := rfl
        by_cases hbe : Mu.before ⟨y0, y1, y2⟩ ⟨z0, z1, z2⟩
        · rw [decide_eq_true hbe] at kB
          have He : Hid (Mu.rising (⟨z0, z1, z2⟩ :: rest) = r) := Lib.hid (by have := Ha.out; rw [e1, decide_eq_true hbe, Bool.true_and] at this; exact this)
          clear hbe Ha e1
          go_wp2_with fail
          refine wp_region_held_drew (S := (fun W : World => Wi3 W g 0 ⟨y0, y1, y2⟩ ∧ W.cell? ⟨g, 3, none⟩ = some (.slice (some ⟨b2, o2, none⟩) (n1 + 1) c3) ∧ Wi3 W b2 o2 ⟨z0, z1, z2⟩)) (by kernel_rfl) hS (fun hHeld => ?_)
          refine wpAnyH_take (i := 0) (oi := { dst := some 8, op := Op.move (Operand.tmp 3), type := 44, pos := _, after := #[], guard := none }) (v := ?_) rfl (by kernel_rfl) (by kernel_rfl) (by kernel_rfl) (fun _ _ _ h => h) (Or.inl ⟨by rfl, ?hy⟩) hHeld ?_
          case hy => intro w0 hSw; (try dsimp only at hSw); go_simp; (try with_reducible rfl)
          (try simp only [Act.put, List.setIfInBounds_toArray, List.set_cons_zero, List.set_cons_succ])
          refine wpAnyH_take (i := 1) (oi := { dst := some 9, op := Op.nilCheck (Operand.tmp 8), type := 0, pos := _, after := #[{ on := 0, ground := Ground.data }], guard := none }) (v := ?_) rfl (by kernel_rfl) (by kernel_rfl) (by kernel_rfl) (fun _ _ _ h => h) (Or.inl ⟨by rfl, ?hy⟩) hHeld ?_
          case hy => intro w0 hSw; (try dsimp only at hSw); go_simp; (try with_reducible rfl)
          (try simp only [Act.put, List.setIfInBounds_toArray, List.set_cons_zero, List.set_cons_succ])
          refine wpAnyH_take (i := 2) (oi := { dst := some 10, op := Op.fieldAddr 50 (Operand.tmp 9) 1, type := 0, pos := _, after := #[{ on := 1, ground := Ground.data }], guard := none }) (v := ?_) rfl (by kernel_rfl) (by kernel_rfl) (by kernel_rfl) (fun _ _ _ h => h) (Or.inl ⟨by rfl, ?hy⟩) hHeld ?_
          case hy => intro w0 hSw; (try dsimp only at hSw); go_simp; (try with_reducible rfl)
          (try simp only [Act.put, List.setIfInBounds_toArray, List.set_cons_zero, List.set_cons_succ])
          refine wpAnyH_take (i := 3) (oi := { dst := some 11, op := Op.load 22 (Operand.tmp 10), type := 22, pos := _, after := #[{ on := 2, ground := Ground.data }], guard := none }) (v := ?_) rfl (by kernel_rfl) (by kernel_rfl) (by kernel_rfl) (fun _ _ _ h => h) (Or.inl ⟨by rfl, ?hy⟩) hHeld ?_
          case hy => intro w0 hSw; have d3 := hSw.2.1; clear hSw; go_simp; (try with_reducible rfl)
          (try simp only [Act.put, List.setIfInBounds_toArray, List.set_cons_zero, List.set_cons_succ])
          refine wpAnyH_take (i := 4) (oi := { dst := some 12, op := Op.call { callee := Callee.builtin Builtin.len, args := #[Operand.tmp 11], argTypes := #[22] }, type := 3, pos := _, after := #[{ on := 3, ground := Ground.data }], guard := none }) (v := ?_) rfl (by kernel_rfl) (by kernel_rfl) (by kernel_rfl) (fun _ _ _ h => h) (Or.inl ⟨by rfl, ?hy⟩) hHeld ?_
          case hy => intro w0 hSw; (try dsimp only at hSw); go_simp; (try with_reducible rfl)
          (try simp only [Act.put, List.setIfInBounds_toArray, List.set_cons_zero, List.set_cons_succ])
          refine wpAnyH_take (i := 5) (oi := { dst := some 13, op := Op.binOp BinOp.gtr 3 (Operand.tmp 12) (Operand.const (Value.int IntKind.i64 0)) 3, type := 4, pos := _, after := #[{ on := 4, ground := Ground.data }], guard := none }) (v := ?_) rfl (by kernel_rfl) (by kernel_rfl) (by kernel_rfl) (fun _ _ _ h => h) (Or.inl ⟨by rfl, ?hy⟩) hHeld ?_
          case hy => intro w0 hSw; clear hSw; go_simp; (try rw [i1]); (try with_reducible rfl)
          (try simp only [Act.put, List.setIfInBounds_toArray, List.set_cons_zero, List.set_cons_succ])
          refine wpAnyH_take (i := 6) (oi := { dst := some 14, op := Op.move (Operand.tmp 13), type := 4, pos := _, after := #[{ on := 5, ground := Ground.data }], guard := none }) (v := ?_) rfl (by kernel_rfl) (by kernel_rfl) (by kernel_rfl) (fun _ _ _ h => h) (Or.inl ⟨by rfl, ?hy⟩) hHeld ?_
          case hy => intro w0 hSw; (try dsimp only at hSw); go_simp; (try with_reducible rfl)
          (try simp only [Act.put, List.setIfInBounds_toArray, List.set_cons_zero, List.set_cons_succ])
          refine wpAnyH_take (i := 7) (oi := { dst := some 15, op := Op.move (Operand.tmp 3), type := 44, pos := _, after := #[{ on := 6, ground := Ground.guard }], guard := some (6, true) }) (v := ?_) rfl (by kernel_rfl) (by kernel_rfl) (by kernel_rfl) (fun _ _ _ h => h) (Or.inl ⟨by rfl, ?hy⟩) hHeld ?_
          case hy => intro w0 hSw; (try dsimp only at hSw); go_simp; (try with_reducible rfl)
          (try simp only [Act.put, List.setIfInBounds_toArray, List.set_cons_zero, List.set_cons_succ])
          refine wpAnyH_take (i := 8) (oi := { dst := some 16, op := Op.nilCheck (Operand.tmp 15), type := 0, pos := _, after := #[{ on := 7, ground := Ground.data }, { on := 6, ground := Ground.guard }], guard := some (6, true) }) (v := ?_) rfl (by kernel_rfl) (by kernel_rfl) (by kernel_rfl) (fun _ _ _ h => h) (Or.inl ⟨by rfl, ?hy⟩) hHeld ?_
          case hy => intro w0 hSw; (try dsimp only at hSw); go_simp; (try with_reducible rfl)
          (try simp only [Act.put, List.setIfInBounds_toArray, List.set_cons_zero, List.set_cons_succ])
          refine wpAnyH_take (i := 9) (oi := { dst := some 17, op := Op.fieldAddr 50 (Operand.tmp 16) 0, type := 0, pos := _, after := #[{ on := 8, ground := Ground.data }, { on := 6, ground := Ground.guard }], guard := some (6, true) }) (v := ?_) rfl (by kernel_rfl) (by kernel_rfl) (by kernel_rfl) (fun _ _ _ h => h) (Or.inl ⟨by rfl, ?hy⟩) hHeld ?_
          case hy => intro w0 hSw; (try dsimp only at hSw); go_simp; (try with_reducible rfl)
          (try simp only [Act.put, List.setIfInBounds_toArray, List.set_cons_zero, List.set_cons_succ])
          refine wpAnyH_take (i := 10) (oi := { dst := some 18, op := Op.load 48 (Operand.tmp 17), type := 48, pos := _, after := #[{ on := 9, ground := Ground.data }, { on := 6, ground := Ground.guard }], guard := some (6, true) }) (v := ?_) rfl (by kernel_rfl) (by kernel_rfl) (by kernel_rfl) (fun _ _ _ h => h) (Or.inl ⟨by rfl, ?hy⟩) hHeld ?_
          case hy => intro w0 hSw; have d0 := hSw.1.c0; have d1 := hSw.1.c1; have d2 := hSw.1.c2; clear hSw; dsimp only at d0 d1 d2; go_simp; (try with_reducible rfl)
          (try simp only [Act.put, List.setIfInBounds_toArray, List.set_cons_zero, List.set_cons_succ])
          refine wpAnyH_take (i := 11) (oi := { dst := some 19, op := Op.move (Operand.tmp 3), type := 44, pos := _, after := #[{ on := 6, ground := Ground.guard }], guard := some (6, true) }) (v := ?_) rfl (by kernel_rfl) (by kernel_rfl) (by kernel_rfl) (fun _ _ _ h => h) (Or.inl ⟨by rfl, ?hy⟩) hHeld ?_
          case hy => intro w0 hSw; (try dsimp only at hSw); go_simp; (try with_reducible rfl)
          (try simp only [Act.put, List.setIfInBounds_toArray, List.set_cons_zero, List.set_cons_succ])
          refine wpAnyH_take (i := 12) (oi := { dst := some 20, op := Op.nilCheck (Operand.tmp 19), type := 0, pos := _, after := #[{ on := 11, ground := Ground.data }, { on := 6, ground := Ground.guard }], guard := some (6, true) }) (v := ?_) rfl (by kernel_rfl) (by kernel_rfl) (by kernel_rfl) (fun _ _ _ h => h) (Or.inl ⟨by rfl, ?hy⟩) hHeld ?_
          case hy => intro w0 hSw; (try dsimp only at hSw); go_simp; (try with_reducible rfl)
          (try simp only [Act.put, List.setIfInBounds_toArray, List.set_cons_zero, List.set_cons_succ])
          refine wpAnyH_take (i := 13) (oi := { dst := some 21, op := Op.fieldAddr 50 (Operand.tmp 20) 1, type := 0, pos := _, after := #[{ on := 12, ground := Ground.data }, { on := 6, ground := Ground.guard }], guard := some (6, true) }) (v := ?_) rfl (by kernel_rfl) (by kernel_rfl) (by kernel_rfl) (fun _ _ _ h => h) (Or.inl ⟨by rfl, ?hy⟩) hHeld ?_
          case hy => intro w0 hSw; (try dsimp only at hSw); go_simp; (try with_reducible rfl)
          (try simp only [Act.put, List.setIfInBounds_toArray, List.set_cons_zero, List.set_cons_succ])
          refine wpAnyH_take (i := 14) (oi := { dst := some 22, op := Op.load 22 (Operand.tmp 21), type := 22, pos := _, after := #[{ on := 13, ground := Ground.data }, { on := 6, ground := Ground.guard }], guard := some (6, true) }) (v := ?_) rfl (by kernel_rfl) (by kernel_rfl) (by kernel_rfl) (fun _ _ _ h => h) (Or.inl ⟨by rfl, ?hy⟩) hHeld ?_
          case hy => intro w0 hSw; have d3 := hSw.2.1; clear hSw; go_simp; (try with_reducible rfl)
          (try simp only [Act.put, List.setIfInBounds_toArray, List.set_cons_zero, List.set_cons_succ])
          refine wpAnyH_take (i := 15) (oi := { dst := some 23, op := Op.indexAddr 22 (Operand.tmp 22) (Operand.const (Value.int IntKind.i64 0)), type := 0, pos := _, after := #[{ on := 14, ground := Ground.data }, { on := 6, ground := Ground.guard }], guard := some (6, true) }) (v := ?_) rfl (by kernel_rfl) (by kernel_rfl) (by kernel_rfl) (fun _ _ _ h => h) (Or.inl ⟨by rfl, ?hy⟩) hHeld ?_
          case hy => intro w0 hSw; (try dsimp only at hSw); go_simp; (try with_reducible rfl)
          (try simp only [Act.put, List.setIfInBounds_toArray, List.set_cons_zero, List.set_cons_succ])
          refine wpAnyH_take (i := 16) (oi := { dst := some 24, op := Op.load 32 (Operand.tmp 23), type := 32, pos := _, after := #[{ on := 15, ground := Ground.data }, { on := 6, ground := Ground.guard }], guard := some (6, true) }) (v := ?_) rfl (by kernel_rfl) (by kernel_rfl) (by kernel_rfl) (fun _ _ _ h => h) (Or.inl ⟨by rfl, ?hy⟩) hHeld ?_
          case hy => intro w0 hSw; have d0 := hSw.2.2.c0; have d1 := hSw.2.2.c1; have d2 := hSw.2.2.c2; clear hSw; dsimp only at d0 d1 d2; go_simp; (try with_reducible rfl)
          (try simp only [Act.put, List.setIfInBounds_toArray, List.set_cons_zero, List.set_cons_succ])
          refine wpAnyH_ready (rs := [17]) (by kernel_rfl) (by simp) ?_
          refine AllReadyH.cons (o := { dst := some 25, op := Op.call { callee := Callee.value (Operand.func 36), args := #[Operand.tmp 18, Operand.tmp 24], argTypes := #[48, 32] }, type := 4, pos := _, after := #[{ on := 10, ground := Ground.data }, { on := 16, ground := Ground.data }, { on := 6, ground := Ground.chain }, { on := 6, ground := Ground.guard }], guard := some (6, true) }) rfl (fun K hK => ?_) AllReadyH.nil
          go_simp
          refine (kB _).mono ?_
          rintro e w6 ⟨rfl, hB'⟩
          have HB6 : Hid (Below w4.heap.size w4 w6) := Lib.hid (below2 (below_drew (Below.refl _ _) 1) hB')
          have HW6 := Lib.hid (HW2.out.on HB6.out)
          replace hS : Wi3 w6 g 0 ⟨y0, y1, y2⟩ ∧ w6.cell? ⟨g, 3, none⟩ = some (.slice (some ⟨b2, o2, none⟩) (n1 + 1) c3) ∧ Wi3 w6 b2 o2 ⟨z0, z1, z2⟩ := ⟨HW6.out.walk.wi, (hB'.cell (p := ⟨g, 3, none⟩) HW2.out.walk.lt).trans hS.2.1, hS.2.2.below hB' (Nat.lt_trans Hb2.out HW2.out.walk.lt)⟩
          clear hB'
          go_wp2_with fail
          refine hK.out _ _ hS (fun hHeld => ?_)
          clear hK K
          (try simp only [Act.put, List.setIfInBounds_toArray, List.set_cons_zero, List.set_cons_succ])
          refine wpAnyH_take (i := 18) (oi := { dst := some 26, op := Op.unOp UnOp.not 4 (Operand.tmp 25), type := 4, pos := _, after := #[{ on := 17, ground := Ground.data }, { on := 6, ground := Ground.guard }], guard := some (6, true) }) (v := ?_) rfl (by kernel_rfl) (by kernel_rfl) (by kernel_rfl) (fun _ _ _ h => h) (Or.inl ⟨by rfl, ?hy⟩) hHeld ?_
          case hy => intro w0 hSw; (try dsimp only at hSw); go_simp; (try with_reducible rfl)
          (try simp only [Act.put, List.setIfInBounds_toArray, List.set_cons_zero, List.set_cons_succ])
          refine wpAnyH_take (i := 19) (oi := { dst := some 27, op := Op.pick (Operand.tmp 14) (Operand.tmp 26) (Operand.const (Value.bool false)), type := 4, pos := _, after := #[{ on := 6, ground := Ground.data }, { on := 18, ground := Ground.data }], guard := none }) (v := ?_) rfl (by kernel_rfl) (by kernel_rfl) (by kernel_rfl) (fun _ _ _ h => h) (Or.inl ⟨by rfl, ?hy⟩) hHeld ?_
          case hy => intro w0 hSw; (try dsimp only at hSw); go_simp; (try with_reducible rfl)
          (try simp only [Act.put, List.setIfInBounds_toArray, List.set_cons_zero, List.set_cons_succ])
          refine wpAnyH_done (by kernel_rfl) ?_ _
          clear hHeld hS
          clear kB HW2
          go_wp2
          go_roundw
          case rel => exact ⟨⟨z0, z1, z2⟩ :: rest, _, HW6, He, Lib.hid (by have := Hl.out; simp only [List.length_cons] at this ⊢; omega)⟩
          case measure => rw [Hn.out, HW6.out.walk.n]; simp
        · rw [decide_eq_false hbe] at kB
          have He : Hid (r = false) := Lib.hid (by have := Ha.out; rw [e1, decide_eq_false hbe, Bool.false_and] at this; exact this.symm)
          clear hbe Ha e1
          go_wp2_with fail
          refine wp_region_held_drew (S := (fun W : World => Wi3 W g 0 ⟨y0, y1, y2⟩ ∧ W.cell? ⟨g, 3, none⟩ = some (.slice (some ⟨b2, o2, none⟩) (n1 + 1) c3) ∧ Wi3 W b2 o2 ⟨z0, z1, z2⟩)) (by kernel_rfl) hS (fun hHeld => ?_)
          refine wpAnyH_take (i := 0) (oi := { dst := some 8, op := Op.move (Operand.tmp 3), type := 44, pos := _, after := #[], guard := none }) (v := ?_) rfl (by kernel_rfl) (by kernel_rfl) (by kernel_rfl) (fun _ _ _ h => h) (Or.inl ⟨by rfl, ?hy⟩) hHeld ?_
          case hy => intro w0 hSw; (try dsimp only at hSw); go_simp; (try with_reducible rfl)
          (try simp only [Act.put, List.setIfInBounds_toArray, List.set_cons_zero, List.set_cons_succ])
          refine wpAnyH_take (i := 1) (oi := { dst := some 9, op := Op.nilCheck (Operand.tmp 8), type := 0, pos := _, after := #[{ on := 0, ground := Ground.data }], guard := none }) (v := ?_) rfl (by kernel_rfl) (by kernel_rfl) (by kernel_rfl) (fun _ _ _ h => h) (Or.inl ⟨by rfl, ?hy⟩) hHeld ?_
          case hy => intro w0 hSw; (try dsimp only at hSw); go_simp; (try with_reducible rfl)
          (try simp only [Act.put, List.setIfInBounds_toArray, List.set_cons_zero, List.set_cons_succ])
          refine wpAnyH_take (i := 2) (oi := { dst := some 10, op := Op.fieldAddr 50 (Operand.tmp 9) 1, type := 0, pos := _, after := #[{ on := 1, ground := Ground.data }], guard := none }) (v := ?_) rfl (by kernel_rfl) (by kernel_rfl) (by kernel_rfl) (fun _ _ _ h => h) (Or.inl ⟨by rfl, ?hy⟩) hHeld ?_
          case hy => intro w0 hSw; (try dsimp only at hSw); go_simp; (try with_reducible rfl)
          (try simp only [Act.put, List.setIfInBounds_toArray, List.set_cons_zero, List.set_cons_succ])
          refine wpAnyH_take (i := 3) (oi := { dst := some 11, op := Op.load 22 (Operand.tmp 10), type := 22, pos := _, after := #[{ on := 2, ground := Ground.data }], guard := none }) (v := ?_) rfl (by kernel_rfl) (by kernel_rfl) (by kernel_rfl) (fun _ _ _ h => h) (Or.inl ⟨by rfl, ?hy⟩) hHeld ?_
          case hy => intro w0 hSw; have d3 := hSw.2.1; clear hSw; go_simp; (try with_reducible rfl)
          (try simp only [Act.put, List.setIfInBounds_toArray, List.set_cons_zero, List.set_cons_succ])
          refine wpAnyH_take (i := 4) (oi := { dst := some 12, op := Op.call { callee := Callee.builtin Builtin.len, args := #[Operand.tmp 11], argTypes := #[22] }, type := 3, pos := _, after := #[{ on := 3, ground := Ground.data }], guard := none }) (v := ?_) rfl (by kernel_rfl) (by kernel_rfl) (by kernel_rfl) (fun _ _ _ h => h) (Or.inl ⟨by rfl, ?hy⟩) hHeld ?_
          case hy => intro w0 hSw; (try dsimp only at hSw); go_simp; (try with_reducible rfl)
          (try simp only [Act.put, List.setIfInBounds_toArray, List.set_cons_zero, List.set_cons_succ])
          refine wpAnyH_take (i := 5) (oi := { dst := some 13, op := Op.binOp BinOp.gtr 3 (Operand.tmp 12) (Operand.const (Value.int IntKind.i64 0)) 3, type := 4, pos := _, after := #[{ on := 4, ground := Ground.data }], guard := none }) (v := ?_) rfl (by kernel_rfl) (by kernel_rfl) (by kernel_rfl) (fun _ _ _ h => h) (Or.inl ⟨by rfl, ?hy⟩) hHeld ?_
          case hy => intro w0 hSw; clear hSw; go_simp; (try rw [i1]); (try with_reducible rfl)
          (try simp only [Act.put, List.setIfInBounds_toArray, List.set_cons_zero, List.set_cons_succ])
          refine wpAnyH_take (i := 6) (oi := { dst := some 14, op := Op.move (Operand.tmp 13), type := 4, pos := _, after := #[{ on := 5, ground := Ground.data }], guard := none }) (v := ?_) rfl (by kernel_rfl) (by kernel_rfl) (by kernel_rfl) (fun _ _ _ h => h) (Or.inl ⟨by rfl, ?hy⟩) hHeld ?_
          case hy => intro w0 hSw; (try dsimp only at hSw); go_simp; (try with_reducible rfl)
          (try simp only [Act.put, List.setIfInBounds_toArray, List.set_cons_zero, List.set_cons_succ])
          refine wpAnyH_take (i := 7) (oi := { dst := some 15, op := Op.move (Operand.tmp 3), type := 44, pos := _, after := #[{ on := 6, ground := Ground.guard }], guard := some (6, true) }) (v := ?_) rfl (by kernel_rfl) (by kernel_rfl) (by kernel_rfl) (fun _ _ _ h => h) (Or.inl ⟨by rfl, ?hy⟩) hHeld ?_
          case hy => intro w0 hSw; (try dsimp only at hSw); go_simp; (try with_reducible rfl)
          (try simp only [Act.put, List.setIfInBounds_toArray, List.set_cons_zero, List.set_cons_succ])
          refine wpAnyH_take (i := 8) (oi := { dst := some 16, op := Op.nilCheck (Operand.tmp 15), type := 0, pos := _, after := #[{ on := 7, ground := Ground.data }, { on := 6, ground := Ground.guard }], guard := some (6, true) }) (v := ?_) rfl (by kernel_rfl) (by kernel_rfl) (by kernel_rfl) (fun _ _ _ h => h) (Or.inl ⟨by rfl, ?hy⟩) hHeld ?_
          case hy => intro w0 hSw; (try dsimp only at hSw); go_simp; (try with_reducible rfl)
          (try simp only [Act.put, List.setIfInBounds_toArray, List.set_cons_zero, List.set_cons_succ])
          refine wpAnyH_take (i := 9) (oi := { dst := some 17, op := Op.fieldAddr 50 (Operand.tmp 16) 0, type := 0, pos := _, after := #[{ on := 8, ground := Ground.data }, { on := 6, ground := Ground.guard }], guard := some (6, true) }) (v := ?_) rfl (by kernel_rfl) (by kernel_rfl) (by kernel_rfl) (fun _ _ _ h => h) (Or.inl ⟨by rfl, ?hy⟩) hHeld ?_
          case hy => intro w0 hSw; (try dsimp only at hSw); go_simp; (try with_reducible rfl)
          (try simp only [Act.put, List.setIfInBounds_toArray, List.set_cons_zero, List.set_cons_succ])
          refine wpAnyH_take (i := 10) (oi := { dst := some 18, op := Op.load 48 (Operand.tmp 17), type := 48, pos := _, after := #[{ on := 9, ground := Ground.data }, { on := 6, ground := Ground.guard }], guard := some (6, true) }) (v := ?_) rfl (by kernel_rfl) (by kernel_rfl) (by kernel_rfl) (fun _ _ _ h => h) (Or.inl ⟨by rfl, ?hy⟩) hHeld ?_
          case hy => intro w0 hSw; have d0 := hSw.1.c0; have d1 := hSw.1.c1; have d2 := hSw.1.c2; clear hSw; dsimp only at d0 d1 d2; go_simp; (try with_reducible rfl)
          (try simp only [Act.put, List.setIfInBounds_toArray, List.set_cons_zero, List.set_cons_succ])
          refine wpAnyH_take (i := 11) (oi := { dst := some 19, op := Op.move (Operand.tmp 3), type := 44, pos := _, after := #[{ on := 6, ground := Ground.guard }], guard := some (6, true) }) (v := ?_) rfl (by kernel_rfl) (by kernel_rfl) (by kernel_rfl) (fun _ _ _ h => h) (Or.inl ⟨by rfl, ?hy⟩) hHeld ?_
          case hy => intro w0 hSw; (try dsimp only at hSw); go_simp; (try with_reducible rfl)
          (try simp only [Act.put, List.setIfInBounds_toArray, List.set_cons_zero, List.set_cons_succ])
          refine wpAnyH_take (i := 12) (oi := { dst := some 20, op := Op.nilCheck (Operand.tmp 19), type := 0, pos := _, after := #[{ on := 11, ground := Ground.data }, { on := 6, ground := Ground.guard }], guard := some (6, true) }) (v := ?_) rfl (by kernel_rfl) (by kernel_rfl) (by kernel_rfl) (fun _ _ _ h => h) (Or.inl ⟨by rfl, ?hy⟩) hHeld ?_
          case hy => intro w0 hSw; (try dsimp only at hSw); go_simp; (try with_reducible rfl)
          (try simp only [Act.put, List.setIfInBounds_toArray, List.set_cons_zero, List.set_cons_succ])
          refine wpAnyH_take (i := 13) (oi := { dst := some 21, op := Op.fieldAddr 50 (Operand.tmp 20) 1, type := 0, pos := _, after := #[{ on := 12, ground := Ground.data }, { on := 6, ground := Ground.guard }], guard := some (6, true) }) (v := ?_) rfl (by kernel_rfl) (by kernel_rfl) (by kernel_rfl) (fun _ _ _ h => h) (Or.inl ⟨by rfl, ?hy⟩) hHeld ?_
          case hy => intro w0 hSw; (try dsimp only at hSw); go_simp; (try with_reducible rfl)
          (try simp only [Act.put, List.setIfInBounds_toArray, List.set_cons_zero, List.set_cons_succ])
          refine wpAnyH_take (i := 14) (oi := { dst := some 22, op := Op.load 22 (Operand.tmp 21), type := 22, pos := _, after := #[{ on := 13, ground := Ground.data }, { on := 6, ground := Ground.guard }], guard := some (6, true) }) (v := ?_) rfl (by kernel_rfl) (by kernel_rfl) (by kernel_rfl) (fun _ _ _ h => h) (Or.inl ⟨by rfl, ?hy⟩) hHeld ?_
          case hy => intro w0 hSw; have d3 := hSw.2.1; clear hSw; go_simp; (try with_reducible rfl)
          (try simp only [Act.put, List.setIfInBounds_toArray, List.set_cons_zero, List.set_cons_succ])
          refine wpAnyH_take (i := 15) (oi := { dst := some 23, op := Op.indexAddr 22 (Operand.tmp 22) (Operand.const (Value.int IntKind.i64 0)), type := 0, pos := _, after := #[{ on := 14, ground := Ground.data }, { on := 6, ground := Ground.guard }], guard := some (6, true) }) (v := ?_) rfl (by kernel_rfl) (by kernel_rfl) (by kernel_rfl) (fun _ _ _ h => h) (Or.inl ⟨by rfl, ?hy⟩) hHeld ?_
          case hy => intro w0 hSw; (try dsimp only at hSw); go_simp; (try with_reducible rfl)
          (try simp only [Act.put, List.setIfInBounds_toArray, List.set_cons_zero, List.set_cons_succ])
          refine wpAnyH_take (i := 16) (oi := { dst := some 24, op := Op.load 32 (Operand.tmp 23), type := 32, pos := _, after := #[{ on := 15, ground := Ground.data }, { on := 6, ground := Ground.guard }], guard := some (6, true) }) (v := ?_) rfl (by kernel_rfl) (by kernel_rfl) (by kernel_rfl) (fun _ _ _ h => h) (Or.inl ⟨by rfl, ?hy⟩) hHeld ?_
          case hy => intro w0 hSw; have d0 := hSw.2.2.c0; have d1 := hSw.2.2.c1; have d2 := hSw.2.2.c2; clear hSw; dsimp only at d0 d1 d2; go_simp; (try with_reducible rfl)
          (try simp only [Act.put, List.setIfInBounds_toArray, List.set_cons_zero, List.set_cons_succ])
          refine wpAnyH_ready (rs := [17]) (by kernel_rfl) (by simp) ?_
          refine AllReadyH.cons (o := { dst := some 25, op := Op.call { callee := Callee.value (Operand.func 36), args := #[Operand.tmp 18, Operand.tmp 24], argTypes := #[48, 32] }, type := 4, pos := _, after := #[{ on := 10, ground := Ground.data }, { on := 16, ground := Ground.data }, { on := 6, ground := Ground.chain }, { on := 6, ground := Ground.guard }], guard := some (6, true) }) rfl (fun K hK => ?_) AllReadyH.nil
          go_simp
          refine (kB _).mono ?_
          rintro e w6 ⟨rfl, hB'⟩
          have HB6 : Hid (Below w4.heap.size w4 w6) := Lib.hid (below2 (below_drew (Below.refl _ _) 1) hB')
          have HW6 := Lib.hid (HW2.out.on HB6.out)
          replace hS : Wi3 w6 g 0 ⟨y0, y1, y2⟩ ∧ w6.cell? ⟨g, 3, none⟩ = some (.slice (some ⟨b2, o2, none⟩) (n1 + 1) c3) ∧ Wi3 w6 b2 o2 ⟨z0, z1, z2⟩ := ⟨HW6.out.walk.wi, (hB'.cell (p := ⟨g, 3, none⟩) HW2.out.walk.lt).trans hS.2.1, hS.2.2.below hB' (Nat.lt_trans Hb2.out HW2.out.walk.lt)⟩
          clear hB'
          go_wp2_with fail
          refine hK.out _ _ hS (fun hHeld => ?_)
          clear hK K
          (try simp only [Act.put, List.setIfInBounds_toArray, List.set_cons_zero, List.set_cons_succ])
          refine wpAnyH_take (i := 18) (oi := { dst := some 26, op := Op.unOp UnOp.not 4 (Operand.tmp 25), type := 4, pos := _, after := #[{ on := 17, ground := Ground.data }, { on := 6, ground := Ground.guard }], guard := some (6, true) }) (v := ?_) rfl (by kernel_rfl) (by kernel_rfl) (by kernel_rfl) (fun _ _ _ h => h) (Or.inl ⟨by rfl, ?hy⟩) hHeld ?_
          case hy => intro w0 hSw; (try dsimp only at hSw); go_simp; (try with_reducible rfl)
          (try simp only [Act.put, List.setIfInBounds_toArray, List.set_cons_zero, List.set_cons_succ])
          refine wpAnyH_take (i := 19) (oi := { dst := some 27, op := Op.pick (Operand.tmp 14) (Operand.tmp 26) (Operand.const (Value.bool false)), type := 4, pos := _, after := #[{ on := 6, ground := Ground.data }, { on := 18, ground := Ground.data }], guard := none }) (v := ?_) rfl (by kernel_rfl) (by kernel_rfl) (by kernel_rfl) (fun _ _ _ h => h) (Or.inl ⟨by rfl, ?hy⟩) hHeld ?_
          case hy => intro w0 hSw; (try dsimp only at hSw); go_simp; (try with_reducible rfl)
          (try simp only [Act.put, List.setIfInBounds_toArray, List.set_cons_zero, List.set_cons_succ])
          refine wpAnyH_done (by kernel_rfl) ?_ _
          clear hHeld hS
          clear kB HW2
          go_wp2
          go_ret
          exact ⟨by rw [He.out]; rfl, HW6.out.below⟩

theorem mIs_any (A : Option Addr) (l c : Nat) (ls : List Win) (w : World) (h : ToldW w A l c ls) : Calls Try.prog 16 #[.slice A l c] w fun e w' => e = .returned (.bool (Mu.isL ls)) ∧ Below w.heap.size w w' := by
  have H := Lib.hid h
  obtain ⟨r, hr⟩ : ∃ r, r = Mu.isL ls := ⟨_, rfl⟩
  have Hr := Lib.hid hr
  rw [← hr]
  have hl := h.1
  by_cases h1 : l ≤ 100
  · have i1 : ((l : Int) ≤ 100) = True := eq_true (by omega)
    have hd : decide (ls.length ≤ 100) = true := decide_eq_true (by omega)
    cases h2 : ls.all Mu.may with
    | true =>
      have k2 := mayAllBe_any A l c ls w h
      rw [h2] at k2
      cases h3 : Mu.rising ls with
      | true =>
        have k3 := fun W (hB : Below w.heap.size w W) => areApart_any A l c ls W (H.out.on hB)
        rw [h3] at k3
        have He : Hid (r = true) := Lib.hid (by rw [hr]; unfold Mu.isL; rw [h2, h3, hd]; rfl)
        clear hr h h1 h2 h3 hl hd
        go_enter Try.func16, Try.ntmps16
        go_wp2_with fail
        refine k2.mono ?_
        rintro e w1 ⟨rfl, hB⟩
        have HB := Lib.hid hB
        clear hB
        go_wp2_with fail
        refine (k3 w1 HB.out).mono ?_
        rintro e w2 ⟨rfl, hB⟩
        have HB2 := Lib.hid (below2 HB.out hB)
        clear hB
        go_wp2
        go_ret
        exact ⟨by rw [He.out]; rfl, HB2.out⟩
      | false =>
        have k3 := fun W (hB : Below w.heap.size w W) => areApart_any A l c ls W (H.out.on hB)
        rw [h3] at k3
        have He : Hid (r = false) := Lib.hid (by rw [hr]; unfold Mu.isL; rw [h2, h3]; rfl)
        clear hr h h1 h2 h3 hl hd
        go_enter Try.func16, Try.ntmps16
        go_wp2_with fail
        refine k2.mono ?_
        rintro e w1 ⟨rfl, hB⟩
        have HB := Lib.hid hB
        clear hB
        go_wp2_with fail
        refine (k3 w1 HB.out).mono ?_
        rintro e w2 ⟨rfl, hB⟩
        have HB2 := Lib.hid (below2 HB.out hB)
        clear hB
        go_wp2
        go_ret
        exact ⟨by rw [He.out]; rfl, HB2.out⟩
    | false =>
      have k2 := mayAllBe_any A l c ls w h
      rw [h2] at k2
      have He : Hid (r = false) := Lib.hid (by rw [hr]; unfold Mu.isL; rw [h2]; rfl)
      clear hr h h1 h2 hl hd
      go_enter Try.func16, Try.ntmps16
      go_wp2_with fail
      refine k2.mono ?_
      rintro e w1 ⟨rfl, hB⟩
      have HB := Lib.hid hB
      clear hB
      go_wp2
      go_ret
      exact ⟨by rw [He.out]; rfl, HB.out⟩
  · have i1 : ((l : Int) ≤ 100) = False := eq_false (by omega)
    have He : Hid (r = false) := Lib.hid (by rw [hr]; unfold Mu.isL; rw [decide_eq_false (by omega : ¬ ls.length ≤ 100), Bool.and_false])
    clear hr h h1 hl
    go_enter Try.func16, Try.ntmps16
    go_wp2
    go_ret
    exact ⟨by rw [He.out]; rfl, Below.refl _ _⟩

theorem mfit_any (A : Option Addr) (n c : Nat) (w : World) :
    Calls Try.prog 23 #[.slice A n c] w fun e w' => e = .returned (.tuple #[if 100 < n then .slice none 0 0 else .slice A n c, .int .i64 (if 100 < n then 81 else 0)]) ∧ w' = w := by
  by_cases h : 100 < n
  · have i1 : ((n : Int) > 100) = True := eq_true (by omega)
    rw [if_pos h, if_pos h]
    clear h
    go_enter Try.func23, Try.ntmps23
    go_wp2
    go_ret2
    exact ⟨rfl, rfl⟩
  · have i1 : ((n : Int) > 100) = False := eq_false (by omega)
    rw [if_neg h, if_neg h]
    clear h
    go_enter Try.func23, Try.ntmps23
    go_wp2
    go_ret2
    exact ⟨rfl, rfl⟩
end Go.Proofs.Ythbkfjnpdcfepaa
