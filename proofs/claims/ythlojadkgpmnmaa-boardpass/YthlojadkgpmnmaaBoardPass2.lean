/-
  Layer 8 (board): the law BoardPass, over the contracts: time passes twice.
-/
import Derived.Test.YthlojadkgpmnmaaBoardPass1
import Derived.Test.YthlojadkgpmnmaaState2
import Derived.Deep.DeepCutAuto
import Derived.Deep.RegionHeld3
namespace Go.Proofs.Ythlojadkgpmnmaa
open Go.RowKit

def PassK : Prop := ∀ (b c ph pr si un t : Int) (w : World), Calls Try.prog 29 #[.agg #[.int .i64 b, .int .i64 c, .int .i64 ph, .int .i64 pr, .int .i64 si, .int .i64 un], .int .i64 t] w fun e w' => e = .returned (.agg (sixV (Am.pass ⟨b, c, ph, pr, si, un⟩ t))) ∧ Below w.heap.size w w'
def PRel (w5 : World) (i : Value) (wr : World) : Prop := ∃ k : Nat, i = .int .i64 (k : Int) ∧ Hid (Below w5.heap.size w5 wr)


def CutP (w w5 : World) (m n t t2 : Int) (A1 A2 A3 : Option Addr) (l c c1 c2 c3 : Nat) (ls C D : List Alm) (p1 p4 p5 p6 b0 o0 k : Nat) (x0 x1 x2 x3 x4 x5 y0 y1 y2 y3 y4 y5 : Int) (s14 s15 : Value) (wx : World) : Prop :=
  ∃ p, s14 = .pointer (some ⟨p, 0, none⟩) ∧ s15 = .bool true ∧ Hid (St w wx ((p, #[.int .i64 y0, .int .i64 y1, .int .i64 y2, .int .i64 y3, .int .i64 y4, .int .i64 y5]) :: [(p6, #[.int .i64 m, .int .i64 t2, .slice A3 l c3]), (p5, #[.int .i64 m, .int .i64 t2, .slice A2 l c2]), (p4, #[.int .i64 m, .int .i64 t, .slice A1 l c1]), (p1, #[.int .i64 m, .int .i64 n, .slice (some ⟨b0, o0, none⟩) l c])]) [rowF A3 D, rowF A2 D, rowF A1 C, rowF (some ⟨b0, o0, none⟩) ls]) ∧ Hid (Al6 wx b0 (o0 + k * 6) ⟨x0, x1, x2, x3, x4, x5⟩) ∧ Hid (Below w5.heap.size w5 wx)

set_option maxRecDepth 10000 in
set_option maxHeartbeats 4000000 in
theorem boardPass_ok (HK : Hid BoardK) (HE : Hid SameK) (HP : Hid PassK) (m n : Int) (A : Option Addr) (l c : Nat) (ls : List Alm) (t t2 : Int) (w : World) (hl : l = ls.length) (hA : AlmsAt w w.heap.size A ls) (h0 : A = none → c = 0) (hf : l ≤ 60) (hE : Bd.passE m n ls t = 0) (hE2 : Bd.passE m t (Bd.passL t ls) t2 = 0) :
    Calls Try.prog 5 #[.agg #[.int .i64 m, .int .i64 n, .slice A l c], .int .i64 t, .int .i64 t2] w fun e w' => e = .returned (.bool true) ∧ Below w.heap.size w w' := by
  have hpp := Bd.pass_pass hE hE2
  obtain ⟨C, hC⟩ : ∃ C, C = Bd.passL t ls := ⟨_, rfl⟩
  have hq : l = C.length := by rw [hC, Bd.pass_len]; exact hl
  obtain ⟨D, hD⟩ : ∃ D, D = Bd.passL t2 ls := ⟨_, rfl⟩
  have hd : l = D.length := by rw [hD, Bd.pass_len]; exact hl
  have hE3 := hpp.2
  have hID : Bd.isB m t2 D = true := by rw [hD]; exact (Bd.passE_iff.1 hE3).2.2.2
  have hD2 : D = Bd.passL t2 C := by rw [hD, hC]; exact hpp.1.symm
  rw [← hC] at hE2
  have Hget : Hid (∀ k (hk : k < ls.length), Bd.getA ls[k].b ls[k].c D = (Am.pass ls[k] t2, true)) := Lib.hid (fun k hk => by rw [hD]; exact Bd.pass_get hE3 k hk)
  have HS0 := Lib.hid (((St.start w).more (rowF A ls) hA).new #[.int .i64 m, .int .i64 n, .slice A l c] 24)
  have HF := fun W => far_v m n A l c false (by simp; omega) W
  clear hA
  have G1 := fun (W : World) (h : AlmsAt W W.heap.size A ls) => Lib.hid (kPass0 HK m n A l c ls t C l hE hC hq W ⟨hl, h, h0, by omega⟩)
  have G2 := fun (W : World) (A1 : Option Addr) (c1 : Nat) (h : AlmsAt W W.heap.size A1 C) (h1 : A1 = none → c1 = 0) => Lib.hid (kPass0 HK m t A1 l c1 C t2 D l hE2 hD2 hd W ⟨hq, h, h1, by omega⟩)
  have G3 := fun (W : World) (h : AlmsAt W W.heap.size A ls) => Lib.hid (kPass0 HK m n A l c ls t2 D l hE3 hD hd W ⟨hl, h, h0, by omega⟩)
  have G4 := fun (W : World) (A2 : Option Addr) (c2 : Nat) (b ch : Int) (x : Alm) (hx : Bd.getA b ch D = (x, true)) (h : AlmsAt W W.heap.size A2 D) (h1 : A2 = none → c2 = 0) => Lib.hid (kGet HK m t2 A2 l c2 D b ch x true hx W ⟨hd, h, h1, by omega⟩)
  have G7 := fun (W : World) (A2 : Option Addr) (c2 : Nat) (h : AlmsAt W W.heap.size A2 D) (h1 : A2 = none → c2 = 0) => Lib.hid (kIs HK m t2 A2 l c2 D true hID W ⟨hd, h, h1, by omega⟩)
  have G9 := fun (W : World) (A1 A2 : Option Addr) (c1 c2 : Nat) (h : AlmsAt W W.heap.size A1 D) (h1 : AlmsAt W W.heap.size A2 D) => Lib.hid (HE.out m t2 A1 A2 l c1 c2 D W hd h h1 (by omega))
  have Hl := Lib.hid hl
  have Hf := Lib.hid hf
  clear hE hE2 hE3 hpp hID hD2 hC hq hD hd hl h0 hf
  go_enter Try.func5, Try.ntmps5
  go_wp2_with fail
  refine (HF _).mono ?_
  rintro e w1 ⟨rfl, hB⟩
  have HS := Lib.hid (HS0.out.on hB)
  clear hB HS0 HF
  obtain ⟨p1, hp1⟩ : ∃ p, p = w.heap.size := ⟨_, rfl⟩
  rw [← hp1] at HS ⊢
  clear hp1
  go_wp2_with (first
    | (refine wpList_load_st rfl 24 _ rfl HS.out 0 _ _ rfl rfl _ Try.underlying24 rfl (by rfl) ?_))
  refine ((G1 _ (HS.out.fact 0 rfl)).out).mono ?_
  rintro e w2 ⟨A1, c1, rfl, hO, hB⟩
  replace HS := Lib.hid ((HS.out.on hB).more (rowF A1 C) hO.alms.1)
  have N1 := Lib.hid hO.alms.2
  clear hO hB G1
  go_wp2_with (first
    | (refine wpList_store_st rfl 24 _ _ rfl HS.out _ #[.int .i64 m, .int .i64 t, .slice A1 l c1] _ rfl rfl (by rfl) rfl (bd_one m t A1 l c1) ?_; intro p4 v4 hp hS hBn; (try rw [← hp]); have HBn := Lib.hid hBn; have Hp := Lib.hid hp; have H0 := HS; clear HS; have HS := Lib.hid hS; clear hS hp hBn)
    | (refine wpList_load_st rfl 24 _ rfl HS.out 0 _ _ rfl rfl _ Try.underlying24 rfl (by rfl) ?_))
  refine ((G2 _ A1 c1 (HS.out.fact 0 rfl) N1.out).out).mono ?_
  rintro e w3 ⟨A2, c2, rfl, hO, hB⟩
  replace HS := Lib.hid ((HS.out.on hB).more (rowF A2 D) hO.alms.1)
  have N2 := Lib.hid hO.alms.2
  clear hO hB G2
  go_wp2_with (first
    | (refine wpList_store_st rfl 24 _ _ rfl HS.out _ #[.int .i64 m, .int .i64 t2, .slice A2 l c2] _ rfl rfl (by rfl) rfl (bd_one m t2 A2 l c2) ?_; intro p5 v5 hp hS hBn; (try rw [← hp]); have HBn := Lib.hid hBn; have Hp := Lib.hid hp; have H0 := HS; clear HS; have HS := Lib.hid hS; clear hS hp hBn)
    | (refine wpList_load_st rfl 24 _ rfl HS.out 2 _ _ rfl rfl _ Try.underlying24 rfl (by rfl) ?_))
  refine ((G3 _ (HS.out.fact 2 rfl)).out).mono ?_
  rintro e w4 ⟨A3, c3, rfl, hO, hB⟩
  replace HS := Lib.hid ((HS.out.on hB).more (rowF A3 D) hO.alms.1)
  clear hO hB G3
  go_wp2_with (first
    | (refine wpList_store_st rfl 24 _ _ rfl HS.out _ #[.int .i64 m, .int .i64 t2, .slice A3 l c3] _ rfl rfl (by rfl) rfl (bd_one m t2 A3 l c3) ?_; intro p6 v6 hp hS hBn; (try rw [← hp]); have HBn := Lib.hid hBn; have Hp := Lib.hid hp; have H0 := HS; clear HS; have HS := Lib.hid hS; clear hS hp hBn))
  clear H0 HBn Hp
  obtain ⟨w5, hw5⟩ : ∃ W, W = v6 := ⟨_, rfl⟩
  rw [← hw5] at HS ⊢
  clear hw5
  go_loopw [13] (fun i wr => PRel w5 i wr) (fun i _ => l - (intOf i).toNat)
  case atStart => exact ⟨0, rfl, Lib.hid (Below.refl _ _)⟩
  case round =>
    obtain ⟨k, rfl, HB⟩ := hrel
    have HSr := Lib.hid (HS.out.on HB.out)
    have s2 := HSr.out.cell 3 rfl 2 rfl
    by_cases hlt : k < l
    · have kl : k < ls.length := by rw [← Hl.out]; exact hlt
      have HA : Hid (AlmsAt wr wr.heap.size A ls) := Lib.hid (HSr.out.fact 3 rfl)
      obtain ⟨b0, o0, rfl, hb0, h6⟩ := HA.out k kl
      have hx := Hget.out k kl
      obtain ⟨x, hxe⟩ : ∃ x, x = ls[k]'kl := ⟨_, rfl⟩
      rw [← hxe] at h6 hx
      clear hxe
      obtain ⟨x0, x1, x2, x3, x4, x5⟩ := x
      have g5 := fun W => HP.out x0 x1 x2 x3 x4 x5 t2 W
      obtain ⟨y, hy⟩ : ∃ y, y = Am.pass ⟨x0, x1, x2, x3, x4, x5⟩ t2 := ⟨_, rfl⟩
      simp only [← hy] at g5 hx
      clear hy
      obtain ⟨y0, y1, y2, y3, y4, y5⟩ := y
      simp only [sixV] at g5
      have g4 := fun (W : World) (h : AlmsAt W W.heap.size A2 D) => G4 W A2 c2 x0 x1 ⟨y0, y1, y2, y3, y4, y5⟩ hx h N2.out
      have d0 := h6.c0
      have d1 := h6.c1
      have d2 := h6.c2
      have d3 := h6.c3
      have d4 := h6.c4
      have d5 := h6.c5
      simp only at d0 d1 d2 d3 d4 d5
      have i1 : (k : Int) < (l : Int) := by omega
      have i3 : (0 : Int) ≤ (k : Int) := by omega
      have Ik : Hid (wrap64 ((k : Int) + 1) = (k : Int) + 1) := Lib.hid (by have := Hf.out; unfold wrap64; omega)
      have Hk := Lib.hid hlt
      clear kl hlt hx Hget
      go_wp2_with fail
      go_cut [14, 15] (fun s14 s15 wx => CutP w w5 m n t t2 A1 A2 A3 l c c1 c2 c3 ls C D p1 p4 p5 p6 b0 o0 k x0 x1 x2 x3 x4 x5 y0 y1 y2 y3 y4 y5 s14 s15 wx)
      case first =>
        have hS := HSr.out
        have hBB := HB.out
        clear HSr HB d0 d1 d2 d3 d4 d5 s2
        refine wp_region_held_drew (S := (fun W : World => St w W [(p5, #[.int .i64 m, .int .i64 t2, .slice A2 l c2]), (p1, #[.int .i64 m, .int .i64 n, .slice (some ⟨b0, o0, none⟩) l c])] [] ∧ Al6 W b0 (o0 + k * 6) ⟨x0, x1, x2, x3, x4, x5⟩)) (by kernel_rfl) (by first | exact ⟨hS.pick8 _ (by simp), h6⟩ | exact ⟨hS.drew.pick8 _ (by simp), h6.drew⟩) (fun hHeld => ?_)
        refine wpAnyH_take (i := 0) (oi := { dst := some 63, op := Op.load 24 (Operand.tmp 9), type := 24, pos := _, after := #[], guard := none }) (v := ?_) rfl (by kernel_rfl) (by kernel_rfl) (by kernel_rfl) (fun _ _ _ h => h) (Or.inl ⟨by rfl, ?hy⟩) hHeld ?_
        case hy => intro w0 hSw; refine exec_load_st8 24 (Operand.tmp 9) ?_ hSw.1 0 _ _ rfl ?_ _ Try.underlying24 rfl (by rfl) <;> rfl
        (try simp only [Act.put, List.setIfInBounds_toArray, List.set_cons_zero, List.set_cons_succ])
        refine wpAnyH_take (i := 1) (oi := { dst := some 64, op := Op.fieldAddr 24 (Operand.tmp 3) 2, type := 0, pos := _, after := #[], guard := none }) (v := ?_) rfl (by kernel_rfl) (by kernel_rfl) (by kernel_rfl) (fun _ _ _ h => h) (Or.inl ⟨by rfl, ?hy⟩) hHeld ?_
        case hy => intro w0 hSw; clear hSw; go_simp; (try with_reducible rfl)
        (try simp only [Act.put, List.setIfInBounds_toArray, List.set_cons_zero, List.set_cons_succ])
        refine wpAnyH_take (i := 2) (oi := { dst := some 65, op := Op.load 22 (Operand.tmp 64), type := 22, pos := _, after := #[{ on := 1, ground := Ground.data }], guard := none }) (v := ?_) rfl (by kernel_rfl) (by kernel_rfl) (by kernel_rfl) (fun _ _ _ h => h) (Or.inl ⟨by rfl, ?hy⟩) hHeld ?_
        case hy => intro w0 hSw; have q2 := hSw.1.cell 1 rfl 2 rfl; clear hSw; go_simp; (try with_reducible rfl)
        (try simp only [Act.put, List.setIfInBounds_toArray, List.set_cons_zero, List.set_cons_succ])
        refine wpAnyH_take (i := 3) (oi := { dst := some 66, op := Op.move (Operand.tmp 13), type := 3, pos := _, after := #[], guard := none }) (v := ?_) rfl (by kernel_rfl) (by kernel_rfl) (by kernel_rfl) (fun _ _ _ h => h) (Or.inl ⟨by rfl, ?hy⟩) hHeld ?_
        case hy => intro w0 hSw; clear hSw; go_simp; (try with_reducible rfl)
        (try simp only [Act.put, List.setIfInBounds_toArray, List.set_cons_zero, List.set_cons_succ])
        refine wpAnyH_take (i := 4) (oi := { dst := some 67, op := Op.indexAddr 22 (Operand.tmp 65) (Operand.tmp 66), type := 0, pos := _, after := #[{ on := 2, ground := Ground.data }, { on := 3, ground := Ground.data }], guard := none }) (v := ?_) rfl (by kernel_rfl) (by kernel_rfl) (by kernel_rfl) (fun _ _ _ h => h) (Or.inl ⟨by rfl, ?hy⟩) hHeld ?_
        case hy => intro w0 hSw; clear hSw; go_simp; (try with_reducible rfl)
        (try simp only [Act.put, List.setIfInBounds_toArray, List.set_cons_zero, List.set_cons_succ])
        refine wpAnyH_take (i := 5) (oi := { dst := some 68, op := Op.fieldAddr 28 (Operand.tmp 67) 0, type := 0, pos := _, after := #[{ on := 4, ground := Ground.data }], guard := none }) (v := ?_) rfl (by kernel_rfl) (by kernel_rfl) (by kernel_rfl) (fun _ _ _ h => h) (Or.inl ⟨by rfl, ?hy⟩) hHeld ?_
        case hy => intro w0 hSw; clear hSw; go_simp; (try with_reducible rfl)
        (try simp only [Act.put, List.setIfInBounds_toArray, List.set_cons_zero, List.set_cons_succ])
        refine wpAnyH_take (i := 6) (oi := { dst := some 69, op := Op.load 26 (Operand.tmp 68), type := 26, pos := _, after := #[{ on := 5, ground := Ground.data }], guard := none }) (v := ?_) rfl (by kernel_rfl) (by kernel_rfl) (by kernel_rfl) (fun _ _ _ h => h) (Or.inl ⟨by rfl, ?hy⟩) hHeld ?_
        case hy => intro w0 hSw; have q0 := hSw.2.c0; have q1 := hSw.2.c1; clear hSw; simp only at q0 q1; go_simp; (try with_reducible rfl)
        (try simp only [Act.put, List.setIfInBounds_toArray, List.set_cons_zero, List.set_cons_succ])
        refine wpAnyH_ready (rs := [7, 11]) (by kernel_rfl) (by simp) ?_
        refine AllReadyH.cons (o := { dst := some 70, op := Op.call { callee := Callee.value (Operand.func 16), args := #[Operand.tmp 63, Operand.tmp 69], argTypes := #[24, 26] }, type := 37, pos := _, after := #[{ on := 0, ground := Ground.data }, { on := 6, ground := Ground.data }], guard := none }) rfl (fun K hK => ?_) (AllReadyH.cons (o := { dst := some 14, op := Op.alloc 28, type := 0, pos := _, after := #[], guard := none }) rfl (fun K hK => ?_) AllReadyH.nil)
        · go_simp
          refine (g4 _ (by first | exact hS.fact 1 rfl | exact hS.drew.fact 1 rfl)).out.mono ?_
          rintro e w7 ⟨rfl, hB'⟩
          replace h6 : Al6 w7 b0 (o0 + k * 6) ⟨x0, x1, x2, x3, x4, x5⟩ := (by first | exact h6.below hB' hb0 | exact h6.drew.below hB' hb0)
          have hb7 : b0 < w7.heap.size := Nat.lt_of_lt_of_le hb0 hB'.size
          replace hBB : Below w5.heap.size w5 w7 := (by first | exact below2 hBB hB' | exact below2 (below_drew hBB 1) hB')
          replace hS : St w w7 [(p6, #[.int .i64 m, .int .i64 t2, .slice A3 l c3]), (p5, #[.int .i64 m, .int .i64 t2, .slice A2 l c2]), (p4, #[.int .i64 m, .int .i64 t, .slice A1 l c1]), (p1, #[.int .i64 m, .int .i64 n, .slice (some ⟨b0, o0, none⟩) l c])] [rowF A3 D, rowF A2 D, rowF A1 C, rowF (some ⟨b0, o0, none⟩) ls] := (by first | exact hS.on hB' | exact hS.drew.on hB')
          clear hB'
          go_wp2_with fail
          refine hK.out _ _ (by first | exact ⟨hS.pick8 _ (by simp), h6⟩ | exact ⟨hS.drew.pick8 _ (by simp), h6.drew⟩) (fun hHeld => ?_)
          clear hK K
          (try simp only [Act.put, List.setIfInBounds_toArray, List.set_cons_zero, List.set_cons_succ])
          refine wpAnyH_take (i := 8) (oi := { dst := some 62, op := Op.move (Operand.tmp 70), type := 37, pos := _, after := #[{ on := 7, ground := Ground.data }], guard := none }) (v := ?_) rfl (by kernel_rfl) (by kernel_rfl) (by kernel_rfl) (fun _ _ _ h => h) (Or.inl ⟨by rfl, ?hy⟩) hHeld ?_
          case hy => intro w0 hSw; clear hSw; go_simp; (try with_reducible rfl)
          (try simp only [Act.put, List.setIfInBounds_toArray, List.set_cons_zero, List.set_cons_succ])
          refine wpAnyH_take (i := 9) (oi := { dst := some 71, op := Op.extract (Operand.tmp 62) 0, type := 28, pos := _, after := #[{ on := 8, ground := Ground.data }], guard := none }) (v := ?_) rfl (by kernel_rfl) (by kernel_rfl) (by kernel_rfl) (fun _ _ _ h => h) (Or.inl ⟨by rfl, ?hy⟩) hHeld ?_
          case hy => intro w0 hSw; clear hSw; go_simp; (try with_reducible rfl)
          (try simp only [Act.put, List.setIfInBounds_toArray, List.set_cons_zero, List.set_cons_succ])
          refine wpAnyH_take (i := 10) (oi := { dst := some 72, op := Op.extract (Operand.tmp 62) 1, type := 4, pos := _, after := #[{ on := 8, ground := Ground.data }, { on := 12, ground := Ground.gcOnly Departure.lateStores }], guard := none }) (v := ?_) rfl (by kernel_rfl) (by kernel_rfl) (by kernel_rfl) (fun _ _ _ h => h) (Or.inl ⟨by rfl, ?hy⟩) hHeld ?_
          case hy => intro w0 hSw; clear hSw; go_simp; (try with_reducible rfl)
          (try simp only [Act.put, List.setIfInBounds_toArray, List.set_cons_zero, List.set_cons_succ])
          refine wpAnyH_ready (rs := [11]) (by kernel_rfl) (by simp) ?_
          refine AllReadyH.cons (o := { dst := some 14, op := Op.alloc 28, type := 0, pos := _, after := #[], guard := none }) rfl (fun K hK => ?_) AllReadyH.nil
          go_simp
          have hS0 := hS
          have hbU := below_new w7 (.cells #[.int .i64 0, .int .i64 0, .int .i64 0, .int .i64 0, .int .i64 0, .int .i64 0] 28)
          have hkU : w7.heap.size ≤ w7.heap.size := Nat.le_refl _
          have hbp : b0 ≠ w7.heap.size := by omega
          have hkB : w5.heap.size ≤ w7.heap.size := hBB.size
          replace hS := hS.new #[.int .i64 0, .int .i64 0, .int .i64 0, .int .i64 0, .int .i64 0, .int .i64 0] 28
          replace h6 := h6.below hbU hb7
          replace hBB := below2 hBB hbU
          refine hK.out _ _ (by first | exact ⟨hS.pick8 _ (by simp), h6⟩ | exact ⟨hS.drew.pick8 _ (by simp), h6.drew⟩) (fun hHeld => ?_)
          clear hK K
          (try simp only [Act.put, List.setIfInBounds_toArray, List.set_cons_zero, List.set_cons_succ])
          refine wpAnyH_ready (rs := [12]) (by kernel_rfl) (by simp) ?_
          refine AllReadyH.cons (o := { dst := none, op := Op.store 28 (Operand.tmp 14) (Operand.tmp 71), type := 0, pos := _, after := #[{ on := 11, ground := Ground.data }, { on := 9, ground := Ground.data }, { on := 7, ground := Ground.chain }, { on := 0, ground := Ground.phase }, { on := 1, ground := Ground.phase }, { on := 2, ground := Ground.phase }, { on := 3, ground := Ground.phase }, { on := 4, ground := Ground.phase }, { on := 5, ground := Ground.phase }, { on := 6, ground := Ground.phase }, { on := 7, ground := Ground.phase }, { on := 8, ground := Ground.phase }, { on := 9, ground := Ground.phase }, { on := 10, ground := Ground.textOnly Departure.lateStores }, { on := 11, ground := Ground.phase }], guard := none }) rfl (fun K hK => ?_) AllReadyH.nil
          rw [if_pos (by rfl)]
          obtain ⟨tz, hz⟩ := hS.live (w7.heap.size, #[.int .i64 0, .int .i64 0, .int .i64 0, .int .i64 0, .int .i64 0, .int .i64 0]) (by simp)
          refine wp_store_row 28 _ _ rfl w7.heap.size #[.int .i64 y0, .int .i64 y1, .int .i64 y2, .int .i64 y3, .int .i64 y4, .int .i64 y5] rfl rfl tz _ hz (by rfl) rfl (six_one ⟨y0, y1, y2, y3, y4, y5⟩) ?_
          replace hS := hS0.rowSet hS hbU hkU (cs := #[.int .i64 y0, .int .i64 y1, .int .i64 y2, .int .i64 y3, .int .i64 y4, .int .i64 y5])
          replace h6 := h6.row (k := w7.heap.size) #[.int .i64 y0, .int .i64 y1, .int .i64 y2, .int .i64 y3, .int .i64 y4, .int .i64 y5] hbp
          replace hBB := below_setRow hBB hkB #[.int .i64 y0, .int .i64 y1, .int .i64 y2, .int .i64 y3, .int .i64 y4, .int .i64 y5]
          clear hz
          refine hK.out _ _ (by first | exact ⟨hS.pick8 _ (by simp), h6⟩ | exact ⟨hS.drew.pick8 _ (by simp), h6.drew⟩) (fun hHeld => ?_)
          clear hK K
          (try simp only [Act.put])
          refine wpAnyH_take (i := 13) (oi := { dst := some 15, op := Op.assign (Operand.tmp 72), type := 4, pos := _, after := #[{ on := 10, ground := Ground.data }, { on := 12, ground := Ground.chain }, { on := 0, ground := Ground.phase }, { on := 1, ground := Ground.phase }, { on := 2, ground := Ground.phase }, { on := 3, ground := Ground.phase }, { on := 4, ground := Ground.phase }, { on := 5, ground := Ground.phase }, { on := 6, ground := Ground.phase }, { on := 7, ground := Ground.phase }, { on := 8, ground := Ground.phase }, { on := 9, ground := Ground.phase }, { on := 10, ground := Ground.phase }, { on := 11, ground := Ground.phase }, { on := 12, ground := Ground.phase }], guard := none }) (v := ?_) rfl (by kernel_rfl) (by kernel_rfl) (by kernel_rfl) (fun _ _ _ h => h) (Or.inl ⟨by rfl, ?hy⟩) hHeld ?_
          case hy => intro w0 hSw; clear hSw; go_simp; (try with_reducible rfl)
          (try simp only [Act.put, List.setIfInBounds_toArray, List.set_cons_zero, List.set_cons_succ])
          refine wpAnyH_done (by kernel_rfl) ?_ _
          clear hHeld
          go_wp2_with fail
          go_meet
          exact ⟨_, rfl, rfl, Lib.hid hS, Lib.hid h6, Lib.hid hBB⟩
        · go_simp
          have hS0 := hS
          have hbU0 : Below wr.heap.size wr (wr.alloc (.cells #[.int .i64 0, .int .i64 0, .int .i64 0, .int .i64 0, .int .i64 0, .int .i64 0] 28)).drew := below_drew (below_new wr (.cells #[.int .i64 0, .int .i64 0, .int .i64 0, .int .i64 0, .int .i64 0, .int .i64 0] 28)) 1
          have hkU : wr.heap.size ≤ wr.heap.size := Nat.le_refl _
          have hbp : b0 ≠ wr.heap.size := by omega
          have hkB : w5.heap.size ≤ wr.heap.size := hBB.size
          replace hS : St w (wr.alloc (.cells #[.int .i64 0, .int .i64 0, .int .i64 0, .int .i64 0, .int .i64 0, .int .i64 0] 28)).drew ((wr.heap.size, #[.int .i64 0, .int .i64 0, .int .i64 0, .int .i64 0, .int .i64 0, .int .i64 0]) :: [(p6, #[.int .i64 m, .int .i64 t2, .slice A3 l c3]), (p5, #[.int .i64 m, .int .i64 t2, .slice A2 l c2]), (p4, #[.int .i64 m, .int .i64 t, .slice A1 l c1]), (p1, #[.int .i64 m, .int .i64 n, .slice (some ⟨b0, o0, none⟩) l c])]) [rowF A3 D, rowF A2 D, rowF A1 C, rowF (some ⟨b0, o0, none⟩) ls] := (hS.new #[.int .i64 0, .int .i64 0, .int .i64 0, .int .i64 0, .int .i64 0, .int .i64 0] 28).drew
          replace h6 : Al6 (wr.alloc (.cells #[.int .i64 0, .int .i64 0, .int .i64 0, .int .i64 0, .int .i64 0, .int .i64 0] 28)).drew b0 (o0 + k * 6) ⟨x0, x1, x2, x3, x4, x5⟩ := (h6.below (below_new wr (.cells #[.int .i64 0, .int .i64 0, .int .i64 0, .int .i64 0, .int .i64 0, .int .i64 0] 28)) hb0).drew
          have hb8 : b0 < ((wr.alloc (.cells #[.int .i64 0, .int .i64 0, .int .i64 0, .int .i64 0, .int .i64 0, .int .i64 0] 28)).drew).heap.size := Nat.lt_of_lt_of_le hb0 hbU0.size
          replace hBB : Below w5.heap.size w5 (wr.alloc (.cells #[.int .i64 0, .int .i64 0, .int .i64 0, .int .i64 0, .int .i64 0, .int .i64 0] 28)).drew := below2 hBB hbU0
          refine hK.out _ _ (by first | exact ⟨hS.pick8 _ (by simp), h6⟩ | exact ⟨hS.drew.pick8 _ (by simp), h6.drew⟩) (fun hHeld => ?_)
          clear hK K
          (try simp only [Act.put, List.setIfInBounds_toArray, List.set_cons_zero, List.set_cons_succ])
          refine wpAnyH_ready (rs := [7]) (by kernel_rfl) (by simp) ?_
          refine AllReadyH.cons (o := { dst := some 70, op := Op.call { callee := Callee.value (Operand.func 16), args := #[Operand.tmp 63, Operand.tmp 69], argTypes := #[24, 26] }, type := 37, pos := _, after := #[{ on := 0, ground := Ground.data }, { on := 6, ground := Ground.data }], guard := none }) rfl (fun K hK => ?_) AllReadyH.nil
          go_simp
          refine (g4 _ (by first | exact hS.fact 1 rfl | exact hS.drew.fact 1 rfl)).out.mono ?_
          rintro e w8 ⟨rfl, hB'⟩
          replace h6 : Al6 w8 b0 (o0 + k * 6) ⟨x0, x1, x2, x3, x4, x5⟩ := (by first | exact h6.below hB' hb8 | exact h6.drew.below hB' hb8)
          have hb7 : b0 < w8.heap.size := Nat.lt_of_lt_of_le hb8 hB'.size
          replace hBB : Below w5.heap.size w5 w8 := below2 hBB hB'
          have hbU := below2 hbU0 hB'
          replace hS : St w w8 ((wr.heap.size, #[.int .i64 0, .int .i64 0, .int .i64 0, .int .i64 0, .int .i64 0, .int .i64 0]) :: [(p6, #[.int .i64 m, .int .i64 t2, .slice A3 l c3]), (p5, #[.int .i64 m, .int .i64 t2, .slice A2 l c2]), (p4, #[.int .i64 m, .int .i64 t, .slice A1 l c1]), (p1, #[.int .i64 m, .int .i64 n, .slice (some ⟨b0, o0, none⟩) l c])]) [rowF A3 D, rowF A2 D, rowF A1 C, rowF (some ⟨b0, o0, none⟩) ls] := (by first | exact hS.on hB' | exact hS.drew.on hB')
          clear hB'
          go_wp2_with fail
          refine hK.out _ _ (by first | exact ⟨hS.pick8 _ (by simp), h6⟩ | exact ⟨hS.drew.pick8 _ (by simp), h6.drew⟩) (fun hHeld => ?_)
          clear hK K
          (try simp only [Act.put, List.setIfInBounds_toArray, List.set_cons_zero, List.set_cons_succ])
          refine wpAnyH_take (i := 8) (oi := { dst := some 62, op := Op.move (Operand.tmp 70), type := 37, pos := _, after := #[{ on := 7, ground := Ground.data }], guard := none }) (v := ?_) rfl (by kernel_rfl) (by kernel_rfl) (by kernel_rfl) (fun _ _ _ h => h) (Or.inl ⟨by rfl, ?hy⟩) hHeld ?_
          case hy => intro w0 hSw; clear hSw; go_simp; (try with_reducible rfl)
          (try simp only [Act.put, List.setIfInBounds_toArray, List.set_cons_zero, List.set_cons_succ])
          refine wpAnyH_take (i := 9) (oi := { dst := some 71, op := Op.extract (Operand.tmp 62) 0, type := 28, pos := _, after := #[{ on := 8, ground := Ground.data }], guard := none }) (v := ?_) rfl (by kernel_rfl) (by kernel_rfl) (by kernel_rfl) (fun _ _ _ h => h) (Or.inl ⟨by rfl, ?hy⟩) hHeld ?_
          case hy => intro w0 hSw; clear hSw; go_simp; (try with_reducible rfl)
          (try simp only [Act.put, List.setIfInBounds_toArray, List.set_cons_zero, List.set_cons_succ])
          refine wpAnyH_take (i := 10) (oi := { dst := some 72, op := Op.extract (Operand.tmp 62) 1, type := 4, pos := _, after := #[{ on := 8, ground := Ground.data }, { on := 12, ground := Ground.gcOnly Departure.lateStores }], guard := none }) (v := ?_) rfl (by kernel_rfl) (by kernel_rfl) (by kernel_rfl) (fun _ _ _ h => h) (Or.inl ⟨by rfl, ?hy⟩) hHeld ?_
          case hy => intro w0 hSw; clear hSw; go_simp; (try with_reducible rfl)
          (try simp only [Act.put, List.setIfInBounds_toArray, List.set_cons_zero, List.set_cons_succ])
          refine wpAnyH_ready (rs := [12]) (by kernel_rfl) (by simp) ?_
          refine AllReadyH.cons (o := { dst := none, op := Op.store 28 (Operand.tmp 14) (Operand.tmp 71), type := 0, pos := _, after := #[{ on := 11, ground := Ground.data }, { on := 9, ground := Ground.data }, { on := 7, ground := Ground.chain }, { on := 0, ground := Ground.phase }, { on := 1, ground := Ground.phase }, { on := 2, ground := Ground.phase }, { on := 3, ground := Ground.phase }, { on := 4, ground := Ground.phase }, { on := 5, ground := Ground.phase }, { on := 6, ground := Ground.phase }, { on := 7, ground := Ground.phase }, { on := 8, ground := Ground.phase }, { on := 9, ground := Ground.phase }, { on := 10, ground := Ground.textOnly Departure.lateStores }, { on := 11, ground := Ground.phase }], guard := none }) rfl (fun K hK => ?_) AllReadyH.nil
          rw [if_pos (by rfl)]
          obtain ⟨tz, hz⟩ := hS.live (wr.heap.size, #[.int .i64 0, .int .i64 0, .int .i64 0, .int .i64 0, .int .i64 0, .int .i64 0]) (by simp)
          refine wp_store_row 28 _ _ rfl wr.heap.size #[.int .i64 y0, .int .i64 y1, .int .i64 y2, .int .i64 y3, .int .i64 y4, .int .i64 y5] rfl rfl tz _ hz (by rfl) rfl (six_one ⟨y0, y1, y2, y3, y4, y5⟩) ?_
          replace hS := hS0.rowSet hS hbU hkU (cs := #[.int .i64 y0, .int .i64 y1, .int .i64 y2, .int .i64 y3, .int .i64 y4, .int .i64 y5])
          replace h6 := h6.row (k := wr.heap.size) #[.int .i64 y0, .int .i64 y1, .int .i64 y2, .int .i64 y3, .int .i64 y4, .int .i64 y5] hbp
          replace hBB := below_setRow hBB hkB #[.int .i64 y0, .int .i64 y1, .int .i64 y2, .int .i64 y3, .int .i64 y4, .int .i64 y5]
          clear hz
          refine hK.out _ _ (by first | exact ⟨hS.pick8 _ (by simp), h6⟩ | exact ⟨hS.drew.pick8 _ (by simp), h6.drew⟩) (fun hHeld => ?_)
          clear hK K
          (try simp only [Act.put])
          refine wpAnyH_take (i := 13) (oi := { dst := some 15, op := Op.assign (Operand.tmp 72), type := 4, pos := _, after := #[{ on := 10, ground := Ground.data }, { on := 12, ground := Ground.chain }, { on := 0, ground := Ground.phase }, { on := 1, ground := Ground.phase }, { on := 2, ground := Ground.phase }, { on := 3, ground := Ground.phase }, { on := 4, ground := Ground.phase }, { on := 5, ground := Ground.phase }, { on := 6, ground := Ground.phase }, { on := 7, ground := Ground.phase }, { on := 8, ground := Ground.phase }, { on := 9, ground := Ground.phase }, { on := 10, ground := Ground.phase }, { on := 11, ground := Ground.phase }, { on := 12, ground := Ground.phase }], guard := none }) (v := ?_) rfl (by kernel_rfl) (by kernel_rfl) (by kernel_rfl) (fun _ _ _ h => h) (Or.inl ⟨by rfl, ?hy⟩) hHeld ?_
          case hy => intro w0 hSw; clear hSw; go_simp; (try with_reducible rfl)
          (try simp only [Act.put, List.setIfInBounds_toArray, List.set_cons_zero, List.set_cons_succ])
          refine wpAnyH_done (by kernel_rfl) ?_ _
          clear hHeld
          go_wp2_with fail
          go_meet
          exact ⟨_, rfl, rfl, Lib.hid hS, Lib.hid h6, Lib.hid hBB⟩
      case rest =>
        obtain ⟨p, rfl, rfl, HSc, H6c, HBc⟩ := hcut
        have q0 := HSc.out.cell 0 rfl 0 rfl
        have q1 := HSc.out.cell 0 rfl 1 rfl
        have q2 := HSc.out.cell 0 rfl 2 rfl
        have q3 := HSc.out.cell 0 rfl 3 rfl
        have q4 := HSc.out.cell 0 rfl 4 rfl
        have q5 := HSc.out.cell 0 rfl 5 rfl
        have s2 := HSc.out.cell 4 rfl 2 rfl
        have d0 := H6c.out.c0
        have d1 := H6c.out.c1
        have d2 := H6c.out.c2
        have d3 := H6c.out.c3
        have d4 := H6c.out.c4
        have d5 := H6c.out.c5
        simp only at d0 d1 d2 d3 d4 d5
        have hp : p < wc.heap.size := HSc.out.lt 0 rfl
        have hp1 : p1 < wc.heap.size := HSc.out.lt 4 rfl
        have hbc : b0 < wc.heap.size := World.block_lt_of_cell? wc _ H6c.out.c0
        have hneq := fun W => run_neq_same y0 y1 y2 y3 y4 y5 W
        go_wp2_with fail
        go_region_held3 (fun W => W.cell? ⟨p, 0, none⟩ = some (.int .i64 y0) ∧ W.cell? ⟨p, 1, none⟩ = some (.int .i64 y1) ∧ W.cell? ⟨p, 2, none⟩ = some (.int .i64 y2) ∧ W.cell? ⟨p, 3, none⟩ = some (.int .i64 y3) ∧ W.cell? ⟨p, 4, none⟩ = some (.int .i64 y4) ∧ W.cell? ⟨p, 5, none⟩ = some (.int .i64 y5) ∧ W.cell? ⟨p1, 2, none⟩ = some (.slice (some ⟨b0, o0, none⟩) l c) ∧ W.cell? ⟨b0, o0 + k * 6, none⟩ = some (.int .i64 x0) ∧ W.cell? ⟨b0, o0 + k * 6 + 1, none⟩ = some (.int .i64 x1) ∧ W.cell? ⟨b0, o0 + k * 6 + 2, none⟩ = some (.int .i64 x2) ∧ W.cell? ⟨b0, o0 + k * 6 + 3, none⟩ = some (.int .i64 x3) ∧ W.cell? ⟨b0, o0 + k * 6 + 4, none⟩ = some (.int .i64 x4) ∧ W.cell? ⟨b0, o0 + k * 6 + 5, none⟩ = some (.int .i64 x5)) (exact ⟨q0, q1, q2, q3, q4, q5, s2, d0, d1, d2, d3, d4, d5⟩) ((go_at_call 29; refine (g5 _).mono ?_; rintro e w' ⟨rfl, hB'⟩; have hB2 : Below wc.heap.size wc w' := (by first | exact hB' | exact below_undrew hB'); replace q0 := (hB2.cell (p := ⟨p, 0, none⟩) hp).trans q0; replace q1 := (hB2.cell (p := ⟨p, 1, none⟩) hp).trans q1; replace q2 := (hB2.cell (p := ⟨p, 2, none⟩) hp).trans q2; replace q3 := (hB2.cell (p := ⟨p, 3, none⟩) hp).trans q3; replace q4 := (hB2.cell (p := ⟨p, 4, none⟩) hp).trans q4; replace q5 := (hB2.cell (p := ⟨p, 5, none⟩) hp).trans q5; replace s2 := (hB2.cell (p := ⟨p1, 2, none⟩) hp1).trans s2; replace d0 := (hB2.cell (p := ⟨b0, o0 + k * 6, none⟩) hbc).trans d0; replace d1 := (hB2.cell (p := ⟨b0, o0 + k * 6 + 1, none⟩) hbc).trans d1; replace d2 := (hB2.cell (p := ⟨b0, o0 + k * 6 + 2, none⟩) hbc).trans d2; replace d3 := (hB2.cell (p := ⟨b0, o0 + k * 6 + 3, none⟩) hbc).trans d3; replace d4 := (hB2.cell (p := ⟨b0, o0 + k * 6 + 4, none⟩) hbc).trans d4; replace d5 := (hB2.cell (p := ⟨b0, o0 + k * 6 + 5, none⟩) hbc).trans d5; have HB9 : Hid (Below w5.heap.size w5 w') := Lib.hid (below2 HBc.out hB2); clear hB' hB2))
        clear q0 q1 q2 q3 q4 q5 s2 d0 d1 d2 d3 d4 d5
        go_wp2
        go_roundw
        case rel => exact ⟨k + 1, by first | rfl | (rw [Ik.out]; rfl), HB9⟩
        case measure => have := Hk.out; (try rw [Ik.out]); simp [intOf]; omega
    · have ik : ((k : Int) < (l : Int)) = False := eq_false (by omega)
      clear hlt HS
      go_wp2_with fail
      refine (boards_any HK HE _).mono ?_
      rintro e w6 ⟨rfl, hB⟩
      have HS := Lib.hid (HSr.out.on hB)
      clear hB s2 HSr HB
      have o0 := HS.out.cell 0 rfl 0 rfl
      have o1 := HS.out.cell 0 rfl 1 rfl
      have o2 := HS.out.cell 0 rfl 2 rfl
      have r0 := HS.out.cell 1 rfl 0 rfl
      have r1 := HS.out.cell 1 rfl 1 rfl
      have r2 := HS.out.cell 1 rfl 2 rfl
      go_wp2_with fail
      refine (G9 _ A2 A3 c2 c3 (HS.out.fact 1 rfl) (HS.out.fact 0 rfl)).out.mono ?_
      rintro e w7 ⟨rfl, hB⟩
      replace HS := Lib.hid (HS.out.on hB)
      clear hB G9 o0 o1 o2 r0 r1 r2
      have r0 := HS.out.cell 1 rfl 0 rfl
      have r1 := HS.out.cell 1 rfl 1 rfl
      have r2 := HS.out.cell 1 rfl 2 rfl
      have s2 := HS.out.cell 3 rfl 2 rfl
      go_wp2_with fail
      refine (G7 _ A2 c2 (HS.out.fact 1 rfl) N2.out).out.mono ?_
      rintro e w8 ⟨rfl, hB⟩
      replace HS := Lib.hid (HS.out.on hB)
      clear hB G7 r0 r1 r2 s2
      go_wp2
      go_ret
      exact ⟨rfl, HS.out.below⟩

theorem boardPass_walk (HK : Hid BoardK) (HE : Hid SameK) (HP : Hid PassK) (m n : Int) (A : Option Addr) (c : Nat) (ls : List Alm) (t t2 : Int) (w : World) (hA : AlmsAt w w.heap.size A ls) (h0 : A = none → c = 0) :
    Calls Try.prog 5 #[.agg #[.int .i64 m, .int .i64 n, .slice A ls.length c], .int .i64 t, .int .i64 t2] w fun e w' => e = .returned (.bool true) ∧ Below w.heap.size w w' := by
  by_cases hf : 60 < ls.length
  · exact boardPass_far m n A ls.length c ls t t2 w hA hf
  · have hf' : ls.length ≤ 60 := by omega
    by_cases hE : Bd.passE m n ls t = 0
    · rcases Bd.passE_vals (m := m) (n := t) (ls := Bd.passL t ls) (t := t2) with h | h | h
      · exact boardPass_ok HK HE HP m n A ls.length c ls t t2 w rfl hA h0 hf' hE h
      · exact boardPass_b HK HE m n A ls.length c ls t t2 w rfl hA h0 hf' hE h
      · exact boardPass_c HK HE m n A ls.length c ls t t2 w rfl hA h0 hf' hE h
    · exact boardPass_a HK HE m n A ls.length c ls t t2 w rfl hA h0 hf' _ rfl hE
end Go.Proofs.Ythlojadkgpmnmaa
