/-
  Layer 11 (show): the law ShowHeard, over the structures (printed by tools/gen-showheard.py).
-/
import Derived.Test.YtpgichlaghhdeaaGreatDoorXShowCount
import Derived.Test.YtpgichlaghhdeaaGreatDoorXJa
import Derived.Test.YtpgichlaghhdeaaGreatDoorXJb
namespace Go.Proofs.YtpgichlaghhdeaaGreatDoor
set_option maxRecDepth 10000
open Go.RowKit

/-- Two alarms are compared by rank. -/
def CmpRK : Prop := ∀ (b c ph pr si un b' c' ph' pr' si' un' : Int) (w : World),
    Calls Tryz.prog 24 #[.agg #[.int .i64 b, .int .i64 c, .int .i64 ph, .int .i64 pr, .int .i64 si, .int .i64 un], .agg #[.int .i64 b', .int .i64 c', .int .i64 ph', .int .i64 pr', .int .i64 si', .int .i64 un']] w fun e w' => e = .returned (.int .i64 (Rk.cmp ⟨b, c, ph, pr, si, un⟩ ⟨b', c', ph', pr', si', un'⟩)) ∧ Below w.heap.size w w'
/-- A time of a bed is asked. -/
def HasK : Prop := ∀ (B : Option Addr) (k0 d : Nat) (ws : List Win) (b t : Int) (w : World) (_h : ToldW w B k0 d ws),
    Calls Tryz.prog 25 #[.slice B k0 d, .int .i64 b, .int .i64 t] w fun e w' => e = .returned (.bool (Mu.has ws b t)) ∧ Below w.heap.size w w'
theorem run_eql_alH (x0 x1 x2 x3 x4 x5 y0 y1 y2 y3 y4 y5 : Int) (w : World) :
    (binOp .eql 25 (.agg #[.int .i64 x0, .int .i64 x1, .int .i64 x2, .int .i64 x3, .int .i64 x4, .int .i64 x5]) (.agg #[.int .i64 y0, .int .i64 y1, .int .i64 y2, .int .i64 y3, .int .i64 y4, .int .i64 y5])).run Tryz.prog w = .ok (.bool (decide ((⟨x0, x1, x2, x3, x4, x5⟩ : Alm) = ⟨y0, y1, y2, y3, y4, y5⟩))) w := by
  go_simp
  repeat' split
  all_goals simp [*]
theorem showHeard_far1 (m n : Int) (A : Option Addr) (l c : Nat) (B : Option Addr) (k0 d : Nat) (w : World) (hf : 60 < l) : Calls Tryz.prog 5 #[.agg #[.int .i64 m, .int .i64 n, .slice A l c], .slice B k0 d] w fun e w' => e = .returned (.bool true) ∧ Below w.heap.size w w' := by
  have i1 : ((60 : Int) < (l : Int)) = True := eq_true (by omega)
  clear hf
  go_enter Tryz.func5, Tryz.ntmps5
  go_wp2
  go_ret
  exact ⟨rfl, below_new _ _⟩
theorem showHeard_far2 (m n : Int) (A : Option Addr) (l c : Nat) (B : Option Addr) (k0 d : Nat) (w : World) (hf : l ≤ 60) (hf2 : 110 < k0) : Calls Tryz.prog 5 #[.agg #[.int .i64 m, .int .i64 n, .slice A l c], .slice B k0 d] w fun e w' => e = .returned (.bool true) ∧ Below w.heap.size w w' := by
  have i1 : ((60 : Int) < (l : Int)) = False := eq_false (by omega)
  have i2 : ((110 : Int) < (k0 : Int)) = True := eq_true (by omega)
  clear hf hf2
  go_enter Tryz.func5, Tryz.ntmps5
  go_wp2
  go_ret
  exact ⟨rfl, below_new _ _⟩

set_option maxHeartbeats 4000000 in
theorem showHeard_err {E : World → Prop} (HS : Hid (ShowK E)) (HC : Hid (ShownK E)) (m n : Int) (A : Option Addr) (l c : Nat) (ls : List Alm) (B : Option Addr) (k0 d : Nat) (ws : List Win) (w : World) (hE : E w) (hA : AlmsAt w w.heap.size A ls) (hW : WinsAt w w.heap.size B ws) (hf : l ≤ 60) (hf2 : k0 ≤ 110) (ee : Int) (a1 : (ee != 0) = true)
    (H1 : ∀ (W : World) (_h : E W) (_hA : AlmsAt W W.heap.size A ls) (_hB : WinsAt W W.heap.size B ws), Hid (Calls Tryz.prog 13 #[.agg #[.int .i64 m, .int .i64 n, .slice A l c], .slice B k0 d] W (GivesH W [] ee))) :
    Calls Tryz.prog 5 #[.agg #[.int .i64 m, .int .i64 n, .slice A l c], .slice B k0 d] w fun e w' => e = .returned (.bool true) ∧ Below w.heap.size w w' := by
  have S0 := Lib.hid ((((St.start w).more (rowF A ls) hA).more (winF B ws) hW).new #[.int .i64 m, .int .i64 n, .slice A l c] 28)
  have HE0 := Lib.hid (HS.out.mono _ _ hE (below_new w (.cells #[.int .i64 m, .int .i64 n, .slice A l c] 28)))
  have i1 : ((60 : Int) < (l : Int)) = False := eq_false (by omega)
  have i2 : ((110 : Int) < (k0 : Int)) = False := eq_false (by omega)
  clear hE hA hW hf hf2
  go_enter Tryz.func5, Tryz.ntmps5
  go_wp2_with (first
    | (refine wpList_loadc8 rfl 26 _ rfl S0.out 0 _ _ rfl 2 _ rfl rfl Tryz.isAgg26 ?_)
    | (refine wpList_load_st rfl 28 _ rfl S0.out 0 _ _ rfl rfl _ Tryz.underlying28 rfl (by rfl) ?_))
  refine (H1 _ HE0.out (S0.out.fact 1 rfl) (S0.out.fact 0 rfl)).out.mono ?_
  rintro e w1 ⟨A1, q1, c1, hq1, rfl, hO, hB⟩
  have S1 := Lib.hid (S0.out.on hB)
  have HE1 := Lib.hid (HS.out.mono _ _ HE0.out hB)
  have Hq1 := Lib.hid hq1
  obtain rfl : q1 = 0 := Hq1.out
  clear hO hB hq1 H1 S0 HE0
  go_wp2_with fail
  refine (HC.out _ HE1.out).mono ?_
  rintro e w2 ⟨rfl, hB⟩
  have S2 := Lib.hid (S1.out.on hB)
  clear hB
  go_wp2
  go_ret
  exact ⟨rfl, S2.out.below⟩

set_option maxHeartbeats 4000000 in
theorem showHeard_ok {E : World → Prop} (HS : Hid (ShowK E)) (HC : Hid (ShownK E)) (HR : Hid CmpRK) (m n : Int) (A : Option Addr) (l c : Nat) (ls : List Alm) (B : Option Addr) (k0 d : Nat) (ws : List Win) (w : World) (hE : E w) (hA : AlmsAt w w.heap.size A ls) (hW : WinsAt w w.heap.size B ws) (hf : l ≤ 60) (hf2 : k0 ≤ 110) (hd : List Alm)
    (hr : ∀ (i : Nat) (hi : i + 1 < hd.length), Rk.cmp (hd[i]'(by omega)) hd[i + 1] = -1) (hdl : hd.length ≤ 60) (hle : hd.length ≤ l) (gHas : ∀ (t : Int) (W : World), WinsAt W W.heap.size B ws → Calls Tryz.prog 25 #[.slice B k0 d, .int .i64 t, .int .i64 n] W fun e w' => e = .returned (.bool (Mu.has ws t n)) ∧ Below W.heap.size W w') (hl : l = ls.length) (hin : ∀ (i : Nat) (hi : i < ls.length), Sh.inK (ls[i]'hi) hd hd.length = !Mu.has ws (ls[i]'hi).b n)
    (H1 : ∀ (W : World) (_h : E W) (_hA : AlmsAt W W.heap.size A ls) (_hB : WinsAt W W.heap.size B ws), Hid (Calls Tryz.prog 13 #[.agg #[.int .i64 m, .int .i64 n, .slice A l c], .slice B k0 d] W (GivesH W hd 0))) :
    Calls Tryz.prog 5 #[.agg #[.int .i64 m, .int .i64 n, .slice A l c], .slice B k0 d] w fun e w' => e = .returned (.bool true) ∧ Below w.heap.size w w' := by
  have Hr := Lib.hid hr
  have Hdl := Lib.hid hdl
  have Hle0 := Lib.hid hle
  have GHas := Lib.hid gHas
  have Hl := Lib.hid hl
  have Hin := Lib.hid hin
  have Hf := Lib.hid hf
  clear hr hdl hl hin hle gHas
  have S0 := Lib.hid ((((St.start w).more (rowF A ls) hA).more (winF B ws) hW).new #[.int .i64 m, .int .i64 n, .slice A l c] 28)
  have HE0 := Lib.hid (HS.out.mono _ _ hE (below_new w (.cells #[.int .i64 m, .int .i64 n, .slice A l c] 28)))
  have i1 : ((60 : Int) < (l : Int)) = False := eq_false (by omega)
  have i2 : ((110 : Int) < (k0 : Int)) = False := eq_false (by omega)
  clear hE hA hW hf hf2
  go_enter Tryz.func5, Tryz.ntmps5
  go_wp2_with (first
    | (refine wpList_loadc8 rfl 26 _ rfl S0.out 0 _ _ rfl 2 _ rfl rfl Tryz.isAgg26 ?_)
    | (refine wpList_load_st rfl 28 _ rfl S0.out 0 _ _ rfl rfl _ Tryz.underlying28 rfl (by rfl) ?_))
  refine (H1 _ HE0.out (S0.out.fact 1 rfl) (S0.out.fact 0 rfl)).out.mono ?_
  rintro e w1 ⟨A1, q1, c1, hq1, rfl, hO, hB⟩
  have S1 := Lib.hid (S0.out.on hB)
  have HE1 := Lib.hid (HS.out.mono _ _ HE0.out hB)
  have Hq1 := Lib.hid hq1
  have S1x := Lib.hid (S1.out.more (rowF A1 hd) hO.alms.1)
  clear hO hB hq1 H1 S0 HE0 S1
  go_wp2_with fail
  go_loopw [7] (fun i wr => ∃ (t : Nat), (t + 1 ≤ q1 ∨ t = 0) ∧ i = .int .i64 ((t : Int) + 1) ∧ Hid (Below w1.heap.size w1 wr)) (fun i _ => q1 + 1 - (intOf i).toNat)
  case atStart => exact ⟨0, Or.inr rfl, rfl, Lib.hid (Below.refl _ _)⟩
  case round =>
    obtain ⟨t, ht, rfl, HBr⟩ := hrel
    by_cases hlt : t + 1 < q1
    · have tl : t < hd.length := by have := Hq1.out; omega
      have kl : t + 1 < hd.length := by have := Hq1.out; omega
      have HA : AlmsAt wr wr.heap.size A1 hd := (S1x.out.on HBr.out).fact 0 rfl
      obtain ⟨g, og, e1, hgl, hyy⟩ := HA t tl
      obtain ⟨g', og', e2, _, hxx⟩ := HA (t + 1) kl
      subst e1
      cases e2
      have hv := Hr.out t kl
      obtain ⟨x, hx⟩ : ∃ x, x = hd[t + 1]'kl := ⟨_, rfl⟩
      obtain ⟨y, hy⟩ : ∃ y, y = hd[t]'tl := ⟨_, rfl⟩
      rw [← hx] at hxx hv
      rw [← hy] at hyy hv
      obtain ⟨x0, x1, x2, x3, x4, x5⟩ := x
      obtain ⟨y0, y1, y2, y3, y4, y5⟩ := y
      have gC := fun W => HR.out y0 y1 y2 y3 y4 y5 x0 x1 x2 x3 x4 x5 W
      rw [hv] at gC
      have it : (t : Int) < (q1 : Int) := by omega
      have it0 : (0 : Int) ≤ (t : Int) := by omega
      have i1' : (t : Int) + 1 < (q1 : Int) := by omega
      have i3' : (0 : Int) ≤ (t : Int) + 1 := by omega
      have hq60 : q1 ≤ 60 := by have := Hq1.out; have := Hdl.out; omega
      have Iw1 : Hid (IntKind.i64.wrap (t : Int) = (t : Int)) := Lib.hid (by rw [IntKind.wrap_i64]; omega)
      have Iw : Hid (wrap64 ((t : Int) + 1 + 1) = (t : Int) + 1 + 1) := Lib.hid (by unfold wrap64; omega)
      have Hk := Lib.hid hlt
      clear hx hy hv kl tl ht hlt HA hq60
      go_wp2_with fail
      refine wp_region_held_drew (S := (fun W : World => Al6 W g (og + t * 6) ⟨y0, y1, y2, y3, y4, y5⟩ ∧ Al6 W g (og + (t + 1) * 6) ⟨x0, x1, x2, x3, x4, x5⟩)) (by kernel_rfl) ⟨⟨hyy.c0, hyy.c1, hyy.c2, hyy.c3, hyy.c4, hyy.c5⟩, ⟨hxx.c0, hxx.c1, hxx.c2, hxx.c3, hxx.c4, hxx.c5⟩⟩ (fun hHeld => ?_)
      refine wpAnyH_take (i := 0) (oi := { dst := some 40, op := Op.move (Operand.tmp 5), type := 26, pos := _, after := #[], guard := none }) (v := ?_) rfl (by kernel_rfl) (by kernel_rfl) (by kernel_rfl) (fun _ _ _ h => h) (Or.inl ⟨by rfl, ?hy⟩) hHeld ?_
      case hy => intro w0 hSw; (try dsimp only at hSw); go_simp; (try with_reducible rfl)
      (try simp only [Act.put, List.setIfInBounds_toArray, List.set_cons_zero, List.set_cons_succ])
      refine wpAnyH_take (i := 1) (oi := { dst := some 41, op := Op.move (Operand.tmp 7), type := 3, pos := _, after := #[], guard := none }) (v := ?_) rfl (by kernel_rfl) (by kernel_rfl) (by kernel_rfl) (fun _ _ _ h => h) (Or.inl ⟨by rfl, ?hy⟩) hHeld ?_
      case hy => intro w0 hSw; (try dsimp only at hSw); go_simp; (try with_reducible rfl)
      (try simp only [Act.put, List.setIfInBounds_toArray, List.set_cons_zero, List.set_cons_succ])
      refine wpAnyH_take (i := 2) (oi := { dst := some 42, op := Op.binOp BinOp.sub 3 (Operand.tmp 41) (Operand.const (Value.int IntKind.i64 1)) 3, type := 3, pos := _, after := #[{ on := 1, ground := Ground.data }], guard := none }) (v := ?_) rfl (by kernel_rfl) (by kernel_rfl) (by kernel_rfl) (fun _ _ _ h => h) (Or.inl ⟨by rfl, ?hy⟩) hHeld ?_
      case hy => intro w0 hSw; go_simp; (try rw [Iw1.out]); (try with_reducible rfl)
      (try simp only [Act.put, List.setIfInBounds_toArray, List.set_cons_zero, List.set_cons_succ])
      refine wpAnyH_take (i := 3) (oi := { dst := some 43, op := Op.indexAddr 26 (Operand.tmp 40) (Operand.tmp 42), type := 0, pos := _, after := #[{ on := 0, ground := Ground.data }, { on := 2, ground := Ground.data }], guard := none }) (v := ?_) rfl (by kernel_rfl) (by kernel_rfl) (by kernel_rfl) (fun _ _ _ h => h) (Or.inl ⟨by rfl, ?hy⟩) hHeld ?_
      case hy => intro w0 hSw; (try dsimp only at hSw); go_simp; (try with_reducible rfl)
      (try simp only [Act.put, List.setIfInBounds_toArray, List.set_cons_zero, List.set_cons_succ])
      refine wpAnyH_take (i := 4) (oi := { dst := some 44, op := Op.load 25 (Operand.tmp 43), type := 25, pos := _, after := #[{ on := 3, ground := Ground.data }], guard := none }) (v := ?_) rfl (by kernel_rfl) (by kernel_rfl) (by kernel_rfl) (fun _ _ _ h => h) (Or.inl ⟨by rfl, ?hy⟩) hHeld ?_
      case hy => intro w0 hSw; have q0 := hSw.1.c0; have q1 := hSw.1.c1; have q2 := hSw.1.c2; have q3 := hSw.1.c3; have q4 := hSw.1.c4; have q5 := hSw.1.c5; (try simp only at q0 q1 q2 q3 q4 q5); clear hSw; go_simp; (try with_reducible rfl)
      (try simp only [Act.put, List.setIfInBounds_toArray, List.set_cons_zero, List.set_cons_succ])
      refine wpAnyH_take (i := 5) (oi := { dst := some 45, op := Op.move (Operand.tmp 5), type := 26, pos := _, after := #[], guard := none }) (v := ?_) rfl (by kernel_rfl) (by kernel_rfl) (by kernel_rfl) (fun _ _ _ h => h) (Or.inl ⟨by rfl, ?hy⟩) hHeld ?_
      case hy => intro w0 hSw; (try dsimp only at hSw); go_simp; (try with_reducible rfl)
      (try simp only [Act.put, List.setIfInBounds_toArray, List.set_cons_zero, List.set_cons_succ])
      refine wpAnyH_take (i := 6) (oi := { dst := some 46, op := Op.move (Operand.tmp 7), type := 3, pos := _, after := #[], guard := none }) (v := ?_) rfl (by kernel_rfl) (by kernel_rfl) (by kernel_rfl) (fun _ _ _ h => h) (Or.inl ⟨by rfl, ?hy⟩) hHeld ?_
      case hy => intro w0 hSw; (try dsimp only at hSw); go_simp; (try with_reducible rfl)
      (try simp only [Act.put, List.setIfInBounds_toArray, List.set_cons_zero, List.set_cons_succ])
      refine wpAnyH_take (i := 7) (oi := { dst := some 47, op := Op.indexAddr 26 (Operand.tmp 45) (Operand.tmp 46), type := 0, pos := _, after := #[{ on := 5, ground := Ground.data }, { on := 6, ground := Ground.data }], guard := none }) (v := ?_) rfl (by kernel_rfl) (by kernel_rfl) (by kernel_rfl) (fun _ _ _ h => h) (Or.inl ⟨by rfl, ?hy⟩) hHeld ?_
      case hy => intro w0 hSw; (try dsimp only at hSw); go_simp; (try with_reducible rfl)
      (try simp only [Act.put, List.setIfInBounds_toArray, List.set_cons_zero, List.set_cons_succ])
      refine wpAnyH_take (i := 8) (oi := { dst := some 48, op := Op.load 25 (Operand.tmp 47), type := 25, pos := _, after := #[{ on := 7, ground := Ground.data }], guard := none }) (v := ?_) rfl (by kernel_rfl) (by kernel_rfl) (by kernel_rfl) (fun _ _ _ h => h) (Or.inl ⟨by rfl, ?hy⟩) hHeld ?_
      case hy => intro w0 hSw; have q0 := hSw.2.c0; have q1 := hSw.2.c1; have q2 := hSw.2.c2; have q3 := hSw.2.c3; have q4 := hSw.2.c4; have q5 := hSw.2.c5; (try simp only at q0 q1 q2 q3 q4 q5); clear hSw; go_simp; (try with_reducible rfl)
      (try simp only [Act.put, List.setIfInBounds_toArray, List.set_cons_zero, List.set_cons_succ])
      refine wpAnyH_ready (rs := [9]) (by kernel_rfl) (by simp) ?_
      refine AllReadyH.cons (o := { dst := some 49, op := Op.call { callee := Callee.value (Operand.func 24), args := #[Operand.tmp 44, Operand.tmp 48], argTypes := #[25, 25] }, type := 3, pos := _, after := #[{ on := 4, ground := Ground.data }, { on := 8, ground := Ground.data }], guard := none }) rfl (fun K hK => ?_) AllReadyH.nil
      go_simp
      refine (gC _).mono ?_
      rintro e wx ⟨rfl, hB'⟩
      have hBz := (show Below wr.heap.size wr wx from by first | exact below_undrew hB' | exact hB')
      replace hyy := hyy.below hBz hgl
      replace hxx := hxx.below hBz hgl
      have HBx : Hid (Below w1.heap.size w1 wx) := Lib.hid (below2 HBr.out hBz)
      clear hB' hBz gC
      go_wp2_with fail
      refine hK.out _ _ ⟨⟨hyy.c0, hyy.c1, hyy.c2, hyy.c3, hyy.c4, hyy.c5⟩, ⟨hxx.c0, hxx.c1, hxx.c2, hxx.c3, hxx.c4, hxx.c5⟩⟩ (fun hHeld => ?_)
      clear hK K
      (try simp only [Act.put, List.setIfInBounds_toArray, List.set_cons_zero, List.set_cons_succ])
      refine wpAnyH_take (i := 10) (oi := { dst := some 50, op := Op.binOp BinOp.geq 3 (Operand.tmp 49) (Operand.const (Value.int IntKind.i64 0)) 3, type := 4, pos := _, after := #[{ on := 9, ground := Ground.data }], guard := none }) (v := ?_) rfl (by kernel_rfl) (by kernel_rfl) (by kernel_rfl) (fun _ _ _ h => h) (Or.inl ⟨by rfl, ?hy⟩) hHeld ?_
      case hy => intro w0 hSw; (try dsimp only at hSw); go_simp; (try with_reducible rfl)
      (try simp only [Act.put, List.setIfInBounds_toArray, List.set_cons_zero, List.set_cons_succ])
      refine wpAnyH_done (by kernel_rfl) ?_ _
      go_wp2
      go_roundw
      case rel => exact ⟨t + 1, Or.inl (by have := Hk.out; omega), by first | rfl | (rw [Iw.out]; rfl), by first | exact HBx | exact Lib.hid (below_drew HBx.out _)⟩
      case measure => have := Hk.out; (try rw [Iw.out]); simp [intOf]; omega
    · have g0 : ((t : Int) + 1 < (q1 : Int)) = False := eq_false (by omega)
      clear ht hlt
      have SL := Lib.hid (S1x.out.on HBr.out)
      have HEL := Lib.hid (HS.out.mono _ _ HE1.out HBr.out)
      clear S1x HE1 HBr
      go_wp2_with fail
      obtain ⟨wo, hwo⟩ : ∃ W, W = wr := ⟨_, rfl⟩
      subst hwo
      go_loopw [8] (fun i wr => ∃ (k : Nat), k ≤ l ∧ i = .int .i64 (k : Int) ∧ Hid (Below wo.heap.size wo wr)) (fun i _ => l + 1 - (intOf i).toNat)
      case atStart => exact ⟨0, Nat.zero_le _, rfl, Lib.hid (Below.refl _ _)⟩
      case round =>
        obtain ⟨k, hk, rfl, HBk⟩ := hrel
        have SR := Lib.hid (SL.out.on HBk.out)
        have d2 := SR.out.cell 0 rfl 2 rfl
        by_cases hlt : k < l
        · have kl : k < ls.length := by have := Hl.out; omega
          have HA : AlmsAt wr wr.heap.size A ls := SR.out.fact 2 rfl
          obtain ⟨b0, o0, e1, hb0, hxx⟩ := HA k kl
          subst e1
          have hz := Hin.out k kl
          obtain ⟨x, hx⟩ : ∃ x, x = ls[k]'kl := ⟨_, rfl⟩
          rw [← hx] at hxx hz
          obtain ⟨x0, x1, x2, x3, x4, x5⟩ := x
          have i1 : (k : Int) < (l : Int) := by omega
          have i3 : (0 : Int) ≤ (k : Int) := by omega
          have Ik : Hid (wrap64 ((k : Int) + 1) = (k : Int) + 1) := Lib.hid (by have := Hf.out; unfold wrap64; omega)
          have Hk := Lib.hid hlt
          have Hz := Lib.hid hz
          have Hxx := Lib.hid hxx
          have Hb0 := Lib.hid hb0
          clear hx hz kl hk hlt HA hxx hb0
          go_wp2_with fail
          obtain ⟨wi, hwi⟩ : ∃ W, W = wr := ⟨_, rfl⟩
          subst hwi
          go_loopw [9, 10] (fun z i wr => ∃ (j : Nat), j ≤ q1 ∧ z = .bool (Sh.inK (⟨x0, x1, x2, x3, x4, x5⟩ : Alm) hd j) ∧ i = .int .i64 (j : Int) ∧ Hid (Below wi.heap.size wi wr)) (fun _ i _ => q1 + 1 - (intOf i).toNat)
          case atStart => exact ⟨0, Nat.zero_le _, rfl, rfl, Lib.hid (Below.refl _ _)⟩
          case round =>
            obtain ⟨j, hj, rfl, rfl, HBj⟩ := hrel
            have Sj := Lib.hid (SR.out.on HBj.out)
            clear d2
            have d2 := Sj.out.cell 0 rfl 2 rfl
            by_cases hltj : j < q1
            · have jl : j < hd.length := by have := Hq1.out; omega
              have HA1 : AlmsAt wr wr.heap.size A1 hd := Sj.out.fact 0 rfl
              obtain ⟨b1, o1, e1, hb1, hyy⟩ := HA1 j jl
              subst e1
              have hxj := Hxx.out.below HBj.out Hb0.out
              have hs := Sh.inK_succ (⟨x0, x1, x2, x3, x4, x5⟩ : Alm) hd j jl
              obtain ⟨y, hy⟩ : ∃ y, y = hd[j]'jl := ⟨_, rfl⟩
              rw [← hy] at hyy hs
              obtain ⟨y0, y1, y2, y3, y4, y5⟩ := y
              have c0 := hyy.c0
              have c1 := hyy.c1
              have c2 := hyy.c2
              have c3 := hyy.c3
              have c4 := hyy.c4
              have c5 := hyy.c5
              have k0 := hxj.c0
              have k1 := hxj.c1
              have k2 := hxj.c2
              have k3 := hxj.c3
              have k4 := hxj.c4
              have k5 := hxj.c5
              (try simp only at c0 c1 c2 c3 c4 c5 k0 k1 k2 k3 k4 k5)
              have j1 : (j : Int) < (q1 : Int) := by omega
              have j3 : (0 : Int) ≤ (j : Int) := by omega
              have hq60 : q1 ≤ 60 := by have := Hq1.out; have := Hdl.out; omega
              have Ij : Hid (wrap64 ((j : Int) + 1) = (j : Int) + 1) := Lib.hid (by unfold wrap64; omega)
              have Hj := Lib.hid hltj
              have hE := fun W => run_eql_alH y0 y1 y2 y3 y4 y5 x0 x1 x2 x3 x4 x5 W
              obtain ⟨z, hz⟩ : ∃ z, z = decide ((⟨y0, y1, y2, y3, y4, y5⟩ : Alm) = ⟨x0, x1, x2, x3, x4, x5⟩) := ⟨_, rfl⟩
              rw [← hz] at hE hs
              obtain ⟨zc, hzc⟩ : ∃ zc, zc = Sh.inK (⟨x0, x1, x2, x3, x4, x5⟩ : Alm) hd j := ⟨_, rfl⟩
              rw [← hzc] at hs ⊢
              have Hs := Lib.hid hs
              clear hz hzc hs hy hyy hxj jl hj hltj HA1 hb1 hq60
              cases zc
              · cases z
                all_goals (
                  go_wp2
                  go_quiet (fail)
                  go_wp2
                  go_roundw
                  case rel => exact ⟨j + 1, Hj.out, by rw [Hs.out]; rfl, by first | rfl | (rw [Ij.out]; rfl), by first | exact HBj | exact Lib.hid (below_drew HBj.out _) | exact Lib.hid (below_drew (below_drew HBj.out _) _)⟩
                  case measure => have := Hj.out; (try rw [Ij.out]); simp [intOf]; omega)
              · go_wp2
                go_quiet (fail)
                go_wp2
                go_roundw
                case rel => exact ⟨j + 1, Hj.out, by rw [Hs.out]; rfl, by first | rfl | (rw [Ij.out]; rfl), by first | exact HBj | exact Lib.hid (below_drew HBj.out _) | exact Lib.hid (below_drew (below_drew HBj.out _) _)⟩
                case measure => have := Hj.out; (try rw [Ij.out]); simp [intOf]; omega
            · have j1 : ((j : Int) < (q1 : Int)) = False := eq_false (by omega)
              have hjl : j = hd.length := by have := Hq1.out; omega
              have hzz : Sh.inK (⟨x0, x1, x2, x3, x4, x5⟩ : Alm) hd j = !Mu.has ws x0 n := by rw [hjl]; exact Hz.out
              rw [hzz]
              have gM := fun W (h : WinsAt W W.heap.size B ws) => GHas.out x0 W h
              obtain ⟨z, hz⟩ : ∃ z, z = Mu.has ws x0 n := ⟨_, rfl⟩
              rw [← hz] at gM ⊢
              have kx0 : wr.cell? ⟨b0, o0 + k * 6, none⟩ = some (.int .i64 x0) := (Hxx.out.below HBj.out Hb0.out).c0
              clear hz hzz hjl hj hltj d2
              cases z
              all_goals (
                go_wp2_with fail
                have hS : St w wr.drew [(w.heap.size, #[.int .i64 m, .int .i64 n, .slice (some ⟨b0, o0, none⟩) l c])] [rowF A1 hd, winF B ws, rowF (some ⟨b0, o0, none⟩) ls] ∧ wr.drew.cell? ⟨b0, o0 + k * 6, none⟩ = some (.int .i64 x0) := ⟨Sj.out.drew, kx0⟩
                have hBo : Below wi.heap.size wi wr.drew := below_drew HBj.out 1
                refine wp_region_held_drew (S := (fun W : World => St w W [(w.heap.size, #[.int .i64 m, .int .i64 n, .slice (some ⟨b0, o0, none⟩) l c])] [rowF A1 hd, winF B ws, rowF (some ⟨b0, o0, none⟩) ls] ∧ W.cell? ⟨b0, o0 + k * 6, none⟩ = some (.int .i64 x0))) (by kernel_rfl) hS (fun hHeld => ?_)
                refine wpAnyH_take (i := 0) (oi := { dst := some 77, op := Op.move (Operand.tmp 9), type := 4, pos := _, after := #[], guard := none }) (v := ?_) rfl (by kernel_rfl) (by kernel_rfl) (by kernel_rfl) (fun _ _ _ h => h) (Or.inl ⟨by rfl, ?hy⟩) hHeld ?_
                case hy => intro w0 hSw; (try dsimp only at hSw); go_simp; (try with_reducible rfl)
                (try simp only [Act.put, List.setIfInBounds_toArray, List.set_cons_zero, List.set_cons_succ])
                refine wpAnyH_take (i := 1) (oi := { dst := some 78, op := Op.move (Operand.tmp 1), type := 29, pos := _, after := #[], guard := none }) (v := ?_) rfl (by kernel_rfl) (by kernel_rfl) (by kernel_rfl) (fun _ _ _ h => h) (Or.inl ⟨by rfl, ?hy⟩) hHeld ?_
                case hy => intro w0 hSw; (try dsimp only at hSw); go_simp; (try with_reducible rfl)
                (try simp only [Act.put, List.setIfInBounds_toArray, List.set_cons_zero, List.set_cons_succ])
                refine wpAnyH_take (i := 2) (oi := { dst := some 79, op := Op.fieldAddr 28 (Operand.tmp 2) 2, type := 0, pos := _, after := #[], guard := none }) (v := ?_) rfl (by kernel_rfl) (by kernel_rfl) (by kernel_rfl) (fun _ _ _ h => h) (Or.inl ⟨by rfl, ?hy⟩) hHeld ?_
                case hy => intro w0 hSw; (try dsimp only at hSw); go_simp; (try with_reducible rfl)
                (try simp only [Act.put, List.setIfInBounds_toArray, List.set_cons_zero, List.set_cons_succ])
                refine wpAnyH_take (i := 3) (oi := { dst := some 80, op := Op.load 26 (Operand.tmp 79), type := 26, pos := _, after := #[{ on := 2, ground := Ground.data }], guard := none }) (v := ?_) rfl (by kernel_rfl) (by kernel_rfl) (by kernel_rfl) (fun _ _ _ h => h) (Or.inl ⟨by rfl, ?hy⟩) hHeld ?_
                case hy => intro w0 hSw; have d := hSw.1.cell 0 rfl 2 rfl; clear hSw; go_simp; (try with_reducible rfl)
                (try simp only [Act.put, List.setIfInBounds_toArray, List.set_cons_zero, List.set_cons_succ])
                refine wpAnyH_take (i := 4) (oi := { dst := some 81, op := Op.move (Operand.tmp 8), type := 3, pos := _, after := #[], guard := none }) (v := ?_) rfl (by kernel_rfl) (by kernel_rfl) (by kernel_rfl) (fun _ _ _ h => h) (Or.inl ⟨by rfl, ?hy⟩) hHeld ?_
                case hy => intro w0 hSw; (try dsimp only at hSw); go_simp; (try with_reducible rfl)
                (try simp only [Act.put, List.setIfInBounds_toArray, List.set_cons_zero, List.set_cons_succ])
                refine wpAnyH_take (i := 5) (oi := { dst := some 82, op := Op.indexAddr 26 (Operand.tmp 80) (Operand.tmp 81), type := 0, pos := _, after := #[{ on := 3, ground := Ground.data }, { on := 4, ground := Ground.data }], guard := none }) (v := ?_) rfl (by kernel_rfl) (by kernel_rfl) (by kernel_rfl) (fun _ _ _ h => h) (Or.inl ⟨by rfl, ?hy⟩) hHeld ?_
                case hy => intro w0 hSw; (try dsimp only at hSw); go_simp; (try with_reducible rfl)
                (try simp only [Act.put, List.setIfInBounds_toArray, List.set_cons_zero, List.set_cons_succ])
                refine wpAnyH_take (i := 6) (oi := { dst := some 83, op := Op.fieldAddr 25 (Operand.tmp 82) 0, type := 0, pos := _, after := #[{ on := 5, ground := Ground.data }], guard := none }) (v := ?_) rfl (by kernel_rfl) (by kernel_rfl) (by kernel_rfl) (fun _ _ _ h => h) (Or.inl ⟨by rfl, ?hy⟩) hHeld ?_
                case hy => intro w0 hSw; (try dsimp only at hSw); go_simp; (try with_reducible rfl)
                (try simp only [Act.put, List.setIfInBounds_toArray, List.set_cons_zero, List.set_cons_succ])
                refine wpAnyH_take (i := 7) (oi := { dst := some 84, op := Op.fieldAddr 23 (Operand.tmp 83) 0, type := 0, pos := _, after := #[{ on := 6, ground := Ground.data }], guard := none }) (v := ?_) rfl (by kernel_rfl) (by kernel_rfl) (by kernel_rfl) (fun _ _ _ h => h) (Or.inl ⟨by rfl, ?hy⟩) hHeld ?_
                case hy => intro w0 hSw; (try dsimp only at hSw); go_simp; (try with_reducible rfl)
                (try simp only [Act.put, List.setIfInBounds_toArray, List.set_cons_zero, List.set_cons_succ])
                refine wpAnyH_take (i := 8) (oi := { dst := some 85, op := Op.load 3 (Operand.tmp 84), type := 3, pos := _, after := #[{ on := 7, ground := Ground.data }], guard := none }) (v := ?_) rfl (by kernel_rfl) (by kernel_rfl) (by kernel_rfl) (fun _ _ _ h => h) (Or.inl ⟨by rfl, ?hy⟩) hHeld ?_
                case hy => intro w0 hSw; have d := hSw.2; clear hSw; go_simp; (try with_reducible rfl)
                (try simp only [Act.put, List.setIfInBounds_toArray, List.set_cons_zero, List.set_cons_succ])
                refine wpAnyH_take (i := 9) (oi := { dst := some 86, op := Op.fieldAddr 28 (Operand.tmp 2) 1, type := 0, pos := _, after := #[], guard := none }) (v := ?_) rfl (by kernel_rfl) (by kernel_rfl) (by kernel_rfl) (fun _ _ _ h => h) (Or.inl ⟨by rfl, ?hy⟩) hHeld ?_
                case hy => intro w0 hSw; (try dsimp only at hSw); go_simp; (try with_reducible rfl)
                (try simp only [Act.put, List.setIfInBounds_toArray, List.set_cons_zero, List.set_cons_succ])
                refine wpAnyH_take (i := 10) (oi := { dst := some 87, op := Op.load 3 (Operand.tmp 86), type := 3, pos := _, after := #[{ on := 9, ground := Ground.data }], guard := none }) (v := ?_) rfl (by kernel_rfl) (by kernel_rfl) (by kernel_rfl) (fun _ _ _ h => h) (Or.inl ⟨by rfl, ?hy⟩) hHeld ?_
                case hy => intro w0 hSw; have d := hSw.1.cell 0 rfl 1 rfl; clear hSw; go_simp; (try with_reducible rfl)
                (try simp only [Act.put, List.setIfInBounds_toArray, List.set_cons_zero, List.set_cons_succ])
                refine wpAnyH_ready (rs := [11]) (by kernel_rfl) (by simp) ?_
                refine AllReadyH.cons (o := { dst := some 88, op := Op.call { callee := Callee.value (Operand.func 25), args := #[Operand.tmp 78, Operand.tmp 85, Operand.tmp 87], argTypes := #[29, 3, 3] }, type := 4, pos := _, after := #[{ on := 1, ground := Ground.data }, { on := 8, ground := Ground.data }, { on := 10, ground := Ground.data }], guard := none }) rfl (fun K hK => ?_) AllReadyH.nil
                go_simp
                refine (gM _ (hS.1.fact 1 rfl)).mono ?_
                rintro e v1 ⟨rfl, hB'⟩
                replace hS := And.intro (hS.1.on hB') ((hB'.cell (World.block_lt_of_cell? _ _ hS.2)).trans hS.2)
                replace hBo := below2 hBo hB'
                clear hB'
                go_wp2_with fail
                refine hK.out _ _ hS (fun hHeld => ?_)
                clear hK K
                (try simp only [Act.put, List.setIfInBounds_toArray, List.set_cons_zero, List.set_cons_succ])
                refine wpAnyH_take (i := 12) (oi := { dst := some 89, op := Op.binOp BinOp.eql 4 (Operand.tmp 77) (Operand.tmp 88) 4, type := 4, pos := _, after := #[{ on := 0, ground := Ground.data }, { on := 11, ground := Ground.data }], guard := none }) (v := ?_) rfl (by kernel_rfl) (by kernel_rfl) (by kernel_rfl) (fun _ _ _ h => h) (Or.inl ⟨by rfl, ?hy⟩) hHeld ?_
                case hy => intro w0 hSw; (try dsimp only at hSw); go_simp; (try with_reducible rfl)
                (try simp only [Act.put, List.setIfInBounds_toArray, List.set_cons_zero, List.set_cons_succ])
                refine wpAnyH_done (by kernel_rfl) ?_ _
                clear hHeld hS
                have HBo := Lib.hid hBo
                clear hBo
                go_wp2
                go_roundw
                case rel => exact ⟨k + 1, Hk.out, by first | rfl | (rw [Ik.out]; rfl), by first | exact Lib.hid (below2 HBk.out HBo.out) | exact Lib.hid (below_drew (below2 HBk.out HBo.out) _)⟩
                case measure => have := Hk.out; (try rw [Ik.out]); simp [intOf]; omega)
        · have ik : ((k : Int) < (l : Int)) = False := eq_false (by omega)
          have iq : ((q1 : Int) ≤ (l : Int)) = True := eq_true (by have := Hle0.out; have := Hq1.out; omega)
          have HEk := Lib.hid (HS.out.mono _ _ HEL.out HBk.out)
          clear hk hlt
          go_wp2_with fail
          clear d2
          refine (HC.out _ HEk.out).mono ?_
          rintro e w5 ⟨rfl, hB⟩
          have S5 := Lib.hid (SR.out.on hB)
          have d2 := S5.out.cell 0 rfl 2 rfl
          clear hB HEk SR
          go_wp2
          go_ret
          exact ⟨rfl, S5.out.below⟩

theorem showHeard_walk {E : World → Prop} (HS : Hid (ShowK E)) (HC : Hid (ShownK E)) (HR : Hid CmpRK) (HM : Hid HasK) (m n : Int) (A : Option Addr) (c : Nat) (ls : List Alm) (B : Option Addr) (d : Nat) (ws : List Win) (w : World) (hE : E w) (hA : AlmsAt w w.heap.size A ls) (h0 : A = none → c = 0) (hW : WinsAt w w.heap.size B ws) (hR : Roomy B ws d) :
    Calls Tryz.prog 5 #[.agg #[.int .i64 m, .int .i64 n, .slice A ls.length c], .slice B ws.length d] w fun e w' => e = .returned (.bool true) ∧ Below w.heap.size w w' := by
  by_cases hf : 60 < ls.length
  · exact showHeard_far1 m n A ls.length c B ws.length d w hf
  by_cases hf2 : 110 < ws.length
  · exact showHeard_far2 m n A ls.length c B ws.length d w (by omega) hf2
  have H1 : ∀ (W : World) (_h : E W) (_hA : AlmsAt W W.heap.size A ls) (_hB : WinsAt W W.heap.size B ws), Hid (Calls Tryz.prog 13 #[.agg #[.int .i64 m, .int .i64 n, .slice A ls.length c], .slice B ws.length d] W (GivesH W (Sh.heard m n ls ws) (Sh.heardE m n ls ws))) :=
    fun W h hA hB => Lib.hid (HS.out.heard m n A ls.length c ls B ws.length d ws W h ⟨rfl, hA, h0, by omega⟩ ⟨rfl, hB, hR, by omega⟩)
  by_cases e : Sh.heardE m n ls ws = 0
  · rw [e] at H1
    have hl := Sh.heard_len2 e
    exact showHeard_ok HS HC HR m n A ls.length c ls B ws.length d ws w hE hA hW (by omega) (by omega) (Sh.heard m n ls ws) (Sh.heard_next e) (by omega) hl (fun t W h => HM.out B ws.length d ws t n W ⟨rfl, h, hR, by omega⟩) rfl (Sh.heard_in e) H1
  · have e1 : Sh.heard m n ls ws = [] := by unfold Sh.heard; rw [if_neg e]
    rw [e1] at H1
    exact showHeard_err HS HC m n A ls.length c ls B ws.length d ws w hE hA hW (by omega) (by omega) (Sh.heardE m n ls ws) (by rw [bne_iff_ne]; exact e) H1
end Go.Proofs.YtpgichlaghhdeaaGreatDoor
