/-
  Layer 9 (due), the reference: Turns that are told.
-/
import Derived.Test.YtplpadblhjdpcaaGreatXRefDue7
import Derived.Test.YtplpadblhjdpcaaGreatXDueW6
namespace Go.Proofs.YtplpadblhjdpcaaGreat
set_option maxRecDepth 10000
open Go.RowKit

theorem Du.turnsL_take {t : Int} {ls : List Alm} {k : Nat} (h : k < ls.length) : Du.turnsL t (ls.take (k + 1)) = Du.turnsL t (ls.take k) ++ Du.turnsOf t ls[k] := by
  unfold Du.turnsL
  rw [List.take_succ_eq_append_getElem h, List.flatMap_append]
  simp

theorem TrnsAt.one9n (w : World) (o : Obj) (a0 a1 a2 a3 : Int) (t : TypeId) : TrnsAt ((w.alloc o).alloc (.cells #[.int .i64 a0, .int .i64 a1, .int .i64 a2, .int .i64 a3] t)) ((w.alloc o).alloc (.cells #[.int .i64 a0, .int .i64 a1, .int .i64 a2, .int .i64 a3] t)).heap.size (some ⟨w.heap.size + 1, 0, none⟩) [⟨a0, a1, a2, a3⟩] := by
  have h := TrnsAt.one9 (w.alloc o) a0 a1 a2 a3 t
  rw [show (w.alloc o).heap.size = w.heap.size + 1 by simp] at h
  exact h
/-- One cell is written, as an operation. -/
theorem wp_store_cellR {o : Oper} {a : Act} {w : World} {K : Act → World → Prop} {Q : Exit → Act → World → Prop} (ty : TypeId) (x y : Operand) (ho : o.op = .store ty x y) (b j : Nat) (v : Value)
    (hx : a.eval x = .pointer (some ⟨b, j, none⟩)) (hy : a.eval y = v) (hc : (w.cell? ⟨b, j, none⟩).isSome = true) (hf : w.frozen? ⟨b, j, none⟩ = false) (hi : (Tryz.prog.info? ty).map (·.size) = some 1) (h1 : v.oneCell' = true)
    (h : K (a.put o.dst undef) (w.setCell ⟨b, j, none⟩ v)) : o.wp Tryz.prog a w K Q := by
  unfold Oper.wp execOp
  simp only [ho, hx, hy, Instr.storeAt, Instr.sureAddr, Sem.run_bind, Sem.run_pure, Result.andThen_ok, run_storeVar_cell w b j ty v hc hf hi h1]
  exact h
theorem below2' {w W V : World} (h : Below w.heap.size w W) (h2 : Below W.heap.size W V) : Below w.heap.size w V := h.trans (below_mono h2 h.size)
/-- What holds ahead of each round. -/
def TuR (w1 : World) (l : Nat) (ls : List Alm) (t : Int) (out i : Value) (wr : World) : Prop :=
  ∃ k : Nat, k ≤ l ∧ i = .int .i64 (k : Int) ∧ OwnT wr w1.heap.size out (Du.turnsL t (ls.take k)) ∧ Below w1.heap.size w1 wr

/-- A row of turns stays where a block of six cells is written. -/
theorem OwnT.kept6 {w : World} {base : Nat} {v : Value} {ls : List Trn} (h : OwnT w base v ls) {k : Nat} {a : Alm} (h6 : Six w k a) (j : Nat) (u : Value) : OwnT (w.setCell ⟨k, j, none⟩ u) base v ls := by
  obtain ⟨t, hb⟩ := h6.blk
  exact World.ownsRow.kept h ⟨rfl, rfl, rfl, (KeepsWalks.setCell w _ u).size, fun i _ hi => Below.heap_setCell _ _ _ i (fun e => hi (by rw [e]))⟩ (.inr (own_not6 h hb).symm)
/-- A block of six cells stays where turns are put behind a row. -/
theorem Six.kept4 {w w' : World} {base : Nat} {v : Value} {ls : List Trn} (h : OwnT w base v ls) {k : Nat} {a : Alm} (h6 : Six w k a) (hg : w.grownBy w' v.ownBlock) : Six w' k a := by
  obtain ⟨t, hb⟩ := h6.blk
  exact ⟨t, (hg.block k (Array.getElem?_eq_some_iff.1 hb).1 (own_not6 h hb)).trans hb⟩

set_option maxHeartbeats 8000000 in
theorem rtTurns_ok (m n : Int) (A : Option Addr) (l c : Nat) (ls : List Alm) (t : Int) (q : Nat) (w : World) (h : Told w A l c ls) (hE : Du.turnsE m n ls t = 0) (hq : q = (Du.turnsL t ls).length) :
    Calls Tryz.prog 8 #[.agg #[.int .i64 m, .int .i64 n, .slice A l c], .int .i64 t] w (GivesT w q (Du.order (Du.turnsL t ls)) 0) := by
  have hi := Du.turnsE_iff.1 hE
  have HT := Lib.hid (toldOn9 h (below_new w (.cells #[.int .i64 m, .int .i64 n, .slice A l c] 24)))
  have HS := Lib.hid (((St.start w).more (rowF A ls) h.2.1).new #[.int .i64 m, .int .i64 n, .slice A l c] 24)
  have G := fun W hW => Lib.hid (rbIs m n A l c ls W hW)
  simp only [hi.1] at G
  have HR : Hid (∀ x ∈ ls, Am.right x = true) := Lib.hid (fun x hx => ((Bd.rows_iff.1 (Bd.isB_iff.1 hi.1).2.2.2).1 x hx).1)
  have HL2 : Hid (ls.length ≤ 200) := Lib.hid (by have := Bd.isB_iff.1 hi.1; omega)
  have Hl := Lib.hid h.1
  have Hq := Lib.hid hq
  have k1 : (t < 0) = False := eq_false (by omega)
  have k2 : (1000000000 < t) = False := eq_false (by omega)
  have k3 : (t < n) = False := eq_false (by omega)
  clear h hE hi hq
  go_enter Tryz.func8, Tryz.ntmps8
  go_wp2_with (refine wpList_load_st rfl 24 _ rfl HS.out 0 _ _ rfl rfl _ Tryz.underlying24 rfl (by rfl) ?_)
  refine (G _ HT.out).out.mono ?_
  rintro e w1 ⟨rfl, hB⟩
  replace HS := Lib.hid (HS.out.on hB)
  have HW1 : Hid (w.heap.size ≤ w1.heap.size) := Lib.hid (HS.out.below.size)
  have s1 := HS.out.cell 0 rfl 1 rfl
  clear hB G HT
  obtain ⟨p1, hp1⟩ : ∃ p, p = w.heap.size := ⟨_, rfl⟩
  have Hp1 := Lib.hid hp1
  rw [← hp1] at HS s1 ⊢
  clear hp1
  go_wp2_with fail
  clear k1 k2 k3 s1
  go_loopw [6, 7] (fun out i wr => TuR w1 l ls t out i wr) (fun _ i _ => l - (intOf i).toNat)
  case atStart => exact ⟨0, Nat.zero_le _, rfl, OwnT.nil _ _, Below.refl _ _⟩
  case round =>
    obtain ⟨k, hk, rfl, hown, hBr⟩ := hrel
    have HO := Lib.hid hown
    have HB := Lib.hid hBr
    have HSr := Lib.hid (HS.out.on hBr)
    have s2 := HSr.out.cell 0 rfl 2 rfl
    clear hown hBr
    by_cases hlt : k < l
    · have kl : k < ls.length := by rw [← Hl.out]; exact hlt
      have HA : Hid (AlmsAt wr wr.heap.size A ls) := Lib.hid (HSr.out.fact 0 rfl)
      obtain ⟨b0, o0, rfl, hb0, h6⟩ := HA.out k kl
      have Htk := Lib.hid (Du.turnsL_take (t := t) kl)
      have hrx := HR.out _ (List.getElem_mem kl)
      obtain ⟨x, hx⟩ : ∃ x, x = ls[k] := ⟨_, rfl⟩
      rw [← hx] at h6 Htk hrx
      clear hx
      obtain ⟨x0, x1, x2, x3, x4, x5⟩ := x
      have hrx' := Am.right_iff.1 hrx
      simp only at hrx'
      have Iw : Hid (IntKind.i64.wrap (x5 + Am.wait x3) = x5 + Am.wait x3) := Lib.hid (by have := Am.wait_bounds x3; rw [IntKind.wrap_i64]; omega)
      have Hln : Hid ((Du.turnsL t (ls.take k)).length ≤ 1000) := Lib.hid (by have h1 := Du.turnsL_len t (ls.take k); have := HL2.out; rw [List.length_take] at h1; omega)
      have d0 := h6.c0
      have d1 := h6.c1
      have d2 := h6.c2
      have d3 := h6.c3
      have d4 := h6.c4
      have d5 := h6.c5
      simp only at d0 d1 d2 d3 d4 d5
      have i1 : (k : Int) < (l : Int) := by omega
      have i3 : (0 : Int) ≤ (k : Int) := by omega
      have Ik : Hid (wrap64 ((k : Int) + 1) = (k : Int) + 1) := Lib.hid (by have := HL2.out; have := Hl.out; unfold wrap64; omega)
      have Hk := Lib.hid hlt
      have HN := Lib.hid (below_new wr (.cells #[.int .i64 x0, .int .i64 x1, .int .i64 x2, .int .i64 x3, .int .i64 x4, .int .i64 x5] 38))
      have K8 := Lib.hid (Six.new wr x0 x1 x2 x3 x4 x5 38)
      have O8 := Lib.hid (HO.out.below HN.out)
      have B8 := Lib.hid (below2 HB.out HN.out)
      have HBw : Hid (w1.heap.size ≤ wr.heap.size) := Lib.hid HB.out.size
      clear h6 kl hlt hb0 hrx hrx' HA hk HO HB
      by_cases h4 : x2 = 4 ∧ x5 ≤ t
      · obtain ⟨rfl, hu⟩ := h4
        have b4 : ((4 : Int) == 4) = true := rfl
        have u1 : (x5 ≤ t) = True := eq_true hu
        have Hto : Hid (Du.turnsOf t ⟨x0, x1, 4, x3, x4, x5⟩ = ⟨x5, x0, x1, 1⟩ :: (if x5 + Am.wait x3 ≤ t then [⟨x5 + Am.wait x3, x0, x1, 2⟩] else [])) := Lib.hid (Du.turnsOf_four rfl hu)
        clear hu
        have HN2 := Lib.hid (below_new (wr.alloc (.cells #[.int .i64 x0, .int .i64 x1, .int .i64 4, .int .i64 x3, .int .i64 x4, .int .i64 x5] 38)) (.cells #[.int .i64 x5, .int .i64 x0, .int .i64 x1, .int .i64 1] 55))
        have ON := Lib.hid (TrnsAt.one9n wr (.cells #[.int .i64 x0, .int .i64 x1, .int .i64 4, .int .i64 x3, .int .i64 x4, .int .i64 x5] 38) x5 x0 x1 1 55)
        have O9 := Lib.hid (O8.out.below HN2.out)
        have K9 := Lib.hid (K8.out.below HN2.out)
        have B9 := Lib.hid (below2 B8.out HN2.out)
        clear O8 K8 B8 HN HN2
        go_wp2_with (at_builtin; refine wpList_append_trns rfl _ _ 27 rfl Tryz.underlying27 w1.heap.size _ (Du.turnsL t (ls.take k)) [⟨x5, x0, x1, 1⟩] rfl O9.out _ 1 1 rfl rfl ON.out (fun e => nomatch e) B9.out.size (by have := Hln.out; simp; omega) ?_; intro v' w2 hown' hgrow; have O2 := Lib.hid hown'; have K2 := Lib.hid (K9.out.kept4 O9.out hgrow); have B2 := Lib.hid (B9.out.grown hgrow B9.out.size (fun k hk => O9.out.ge k hk)); have c2 := K2.out.c2; have fz2 := K2.out.f 2; dsimp only at c2; clear hown' hgrow O9 K9 B9 ON)
        obtain ⟨p8, hp8⟩ : ∃ p, p = wr.heap.size := ⟨_, rfl⟩
        have Hp8 : Hid (w1.heap.size ≤ p8) := Lib.hid (by rw [hp8]; exact HBw.out)
        rw [← hp8] at K2 ⊢
        clear hp8
        have K3 := Lib.hid (K2.out.sph 1)
        have O3 := Lib.hid (O2.out.kept6 K2.out 2 (.int .i64 1))
        have B3 := Lib.hid (below_setCell B2.out Hp8.out 2 (.int .i64 1))
        clear K2 O2 B2 c2 fz2
        obtain ⟨w3, hw3⟩ : ∃ W, W = w2.setCell ⟨p8, 2, none⟩ (.int .i64 1) := ⟨_, rfl⟩
        rw [← hw3] at K3 O3 B3 ⊢
        clear hw3
        dsimp only at K3
        have gw := fun W => RWait_any x3 W
        obtain ⟨W8, hW8⟩ : ∃ x, x = Am.wait x3 := ⟨_, rfl⟩
        rw [← hW8] at Iw Hto
        simp only [← hW8] at gw
        clear hW8
        have ka : Six w3.drew p8 ⟨x0, x1, 1, x3, x4, x5⟩ := K3.out.below (below_drew (Below.refl _ _) 1)
        have hc5 : w3.drew.cell? ⟨p8, 5, none⟩ = some (.int .i64 x5) := K3.out.c5
        have hf5 : w3.drew.frozen? ⟨p8, 5, none⟩ = false := K3.out.f 5
        refine wp_region_held_drew (S := (fun W : World => ∃ u, Six W p8 ⟨x0, x1, 1, x3, x4, u⟩)) (by kernel_rfl) (by first | exact ⟨_, ka⟩ | exact ⟨_, ka.below (below_drew (Below.refl _ _) 1)⟩) (fun hHeld => ?_)
        refine wpAnyH_take (i := 0) (oi := { dst := some 54, op := Op.fieldAddr 38 (Operand.tmp 8) 4, type := 0, pos := _, after := #[], guard := none }) (v := ?_) rfl (by kernel_rfl) (by kernel_rfl) (by kernel_rfl) (fun _ _ _ h => h) (Or.inl ⟨by rfl, ?hy⟩) hHeld ?_
        case hy => intro w0 hSw; clear hSw; go_simp; (try with_reducible rfl)
        (try simp only [Act.put, List.setIfInBounds_toArray, List.set_cons_zero, List.set_cons_succ])
        refine wpAnyH_take (i := 2) (oi := { dst := some 56, op := Op.fieldAddr 38 (Operand.tmp 8) 2, type := 0, pos := _, after := #[], guard := none }) (v := ?_) rfl (by kernel_rfl) (by kernel_rfl) (by kernel_rfl) (fun _ _ _ h => h) (Or.inl ⟨by rfl, ?hy⟩) hHeld ?_
        case hy => intro w0 hSw; clear hSw; go_simp; (try with_reducible rfl)
        (try simp only [Act.put, List.setIfInBounds_toArray, List.set_cons_zero, List.set_cons_succ])
        refine wpAnyH_take (i := 3) (oi := { dst := some 57, op := Op.load 3 (Operand.tmp 56), type := 3, pos := _, after := #[{ on := 2, ground := Ground.data }], guard := none }) (v := ?_) rfl (by kernel_rfl) (by kernel_rfl) (by kernel_rfl) (fun _ _ _ h => h) (Or.inl ⟨by rfl, ?hy⟩) hHeld ?_
        case hy => intro w0 hSw; obtain ⟨u, hu⟩ := hSw; have q3 := hu.c3; dsimp only at q3; clear hu; go_simp; (try with_reducible rfl)
        (try simp only [Act.put, List.setIfInBounds_toArray, List.set_cons_zero, List.set_cons_succ])
        refine wpAnyH_ready (rs := [1, 4]) (by kernel_rfl) (by simp) ?_
        refine AllReadyH.cons (o := { dst := some 55, op := Op.load 3 (Operand.tmp 54), type := 3, pos := _, after := #[{ on := 0, ground := Ground.data }], guard := none }) rfl (fun K hK => ?_) (AllReadyH.cons (o := { dst := some 58, op := Op.call { callee := Callee.value (Operand.func 26), args := #[Operand.tmp 57], argTypes := #[3] }, type := 3, pos := _, after := #[{ on := 3, ground := Ground.data }], guard := none }) rfl (fun K hK => ?_) AllReadyH.nil)
        · go_simp
          skip
          refine hK.out _ _ (by first | exact ⟨_, ka⟩ | exact ⟨_, ka.below (below_drew (Below.refl _ _) 1)⟩) (fun hHeld => ?_)
          clear hK K
          (try simp only [Act.put, List.setIfInBounds_toArray, List.set_cons_zero, List.set_cons_succ])
          refine wpAnyH_ready (rs := [4]) (by kernel_rfl) (by simp) ?_
          refine AllReadyH.cons (o := { dst := some 58, op := Op.call { callee := Callee.value (Operand.func 26), args := #[Operand.tmp 57], argTypes := #[3] }, type := 3, pos := _, after := #[{ on := 3, ground := Ground.data }], guard := none }) rfl (fun K hK => ?_) AllReadyH.nil
          go_simp
          refine (gw _).mono ?_
          rintro e w4 ⟨rfl, rfl⟩
          go_wp2_with fail
          refine hK.out _ _ (by first | exact ⟨_, ka⟩ | exact ⟨_, ka.below (below_drew (Below.refl _ _) 1)⟩) (fun hHeld => ?_)
          clear hK K
          (try simp only [Act.put, List.setIfInBounds_toArray, List.set_cons_zero, List.set_cons_succ])
          refine wpAnyH_take (i := 5) (oi := { dst := some 59, op := Op.binOp BinOp.add 3 (Operand.tmp 55) (Operand.tmp 58) 3, type := 3, pos := _, after := #[{ on := 1, ground := Ground.data }, { on := 4, ground := Ground.data }], guard := none }) (v := ?_) rfl (by kernel_rfl) (by kernel_rfl) (by kernel_rfl) (fun _ _ _ h => h) (Or.inl ⟨by rfl, ?hy⟩) hHeld ?_
          case hy => intro w0 hSw; clear hSw; go_simp; rw [Iw.out]; (try with_reducible rfl)
          (try simp only [Act.put, List.setIfInBounds_toArray, List.set_cons_zero, List.set_cons_succ])
          refine wpAnyH_take (i := 6) (oi := { dst := some 60, op := Op.fieldAddr 38 (Operand.tmp 8) 4, type := 0, pos := _, after := #[{ on := 0, ground := Ground.phase }, { on := 1, ground := Ground.phase }, { on := 2, ground := Ground.phase }, { on := 3, ground := Ground.phase }, { on := 4, ground := Ground.phase }, { on := 5, ground := Ground.phase }], guard := none }) (v := ?_) rfl (by kernel_rfl) (by kernel_rfl) (by kernel_rfl) (fun _ _ _ h => h) (Or.inl ⟨by rfl, ?hy⟩) hHeld ?_
          case hy => intro w0 hSw; clear hSw; go_simp; (try with_reducible rfl)
          (try simp only [Act.put, List.setIfInBounds_toArray, List.set_cons_zero, List.set_cons_succ])
          refine wpAnyH_ready (rs := [7]) (by kernel_rfl) (by simp) ?_
          refine AllReadyH.cons (o := { dst := none, op := Op.store 3 (Operand.tmp 60) (Operand.tmp 59), type := 0, pos := _, after := #[{ on := 6, ground := Ground.data }, { on := 5, ground := Ground.data }, { on := 4, ground := Ground.chain }, { on := 0, ground := Ground.phase }, { on := 1, ground := Ground.phase }, { on := 2, ground := Ground.phase }, { on := 3, ground := Ground.phase }, { on := 4, ground := Ground.phase }, { on := 5, ground := Ground.phase }], guard := none }) rfl (fun K hK => ?_) AllReadyH.nil
          rw [if_pos (by rfl)]
          refine wp_store_cellR 3 _ _ rfl p8 5 (.int .i64 (x5 + W8)) rfl rfl (by rw [hc5]; rfl) hf5 (by rfl) rfl ?_
          replace ka := ka.sun (x5 + W8)
          refine hK.out _ _ (by first | exact ⟨_, ka⟩ | exact ⟨_, ka.below (below_drew (Below.refl _ _) 1)⟩) (fun hHeld => ?_)
          clear hK K
          (try simp only [Act.put])
          refine wpAnyH_done (by kernel_rfl) ?_ _
          clear hHeld hc5 hf5 gw
          have K5 : Hid (Six (w3.drew.setCell ⟨p8, 5, none⟩ (.int .i64 (x5 + W8))) p8 ⟨x0, x1, 1, x3, x4, x5 + W8⟩) := Lib.hid ka
          have O5 := Lib.hid ((OwnT.below O3.out (below_drew (Below.refl _ _) 1)).kept6 (K3.out.below (below_drew (Below.refl _ _) 1)) 5 (.int .i64 (x5 + W8)))
          have B5 := Lib.hid (below_setCell (below_drew B3.out 1) (Hp8.out) 5 (.int .i64 (x5 + W8)))
          clear ka K3 O3 B3
          have c2 := K5.out.c2
          have c5 := K5.out.c5
          have c0 := K5.out.c0
          have c1 := K5.out.c1
          dsimp only at c0 c1 c2 c5
          change Hid (OwnT (w3.drew.setCell ⟨p8, 5, none⟩ (.int .i64 (x5 + W8))) _ _ _) at O5
          change Hid (Below _ _ (w3.drew.setCell ⟨p8, 5, none⟩ (.int .i64 (x5 + W8)))) at B5
          obtain ⟨w5, hw5⟩ : ∃ W, W = w3.drew.setCell ⟨p8, 5, none⟩ (.int .i64 (x5 + W8)) := ⟨_, rfl⟩
          rw [← hw5] at K5 O5 B5 c0 c1 c2 c5 ⊢
          clear hw5
          by_cases hv : x5 + W8 ≤ t
          · have v1 : (x5 + W8 ≤ t) = True := eq_true hv
            have He : Hid (Du.turnsL t (ls.take (k + 1)) = (Du.turnsL t (ls.take k) ++ [⟨x5, x0, x1, 1⟩]) ++ [⟨x5 + W8, x0, x1, 2⟩]) := Lib.hid (by rw [Htk.out, Hto.out, if_pos hv]; simp)
            have HN5 := Lib.hid (below_new w5 (.cells #[.int .i64 (x5 + W8), .int .i64 x0, .int .i64 x1, .int .i64 2] 55))
            have ON5 := Lib.hid (TrnsAt.one9 w5 (x5 + W8) x0 x1 2 55)
            have O6 := Lib.hid (O5.out.below HN5.out)
            have B6 := Lib.hid (below2 B5.out HN5.out)
            clear O5 B5 HN5 Hto hv Htk K5
            go_wp2_with (at_builtin; refine wpList_append_trns rfl _ _ 27 rfl Tryz.underlying27 w1.heap.size _ (Du.turnsL t (ls.take k) ++ [(⟨x5, x0, x1, 1⟩ : Trn)]) [(⟨x5 + W8, x0, x1, 2⟩ : Trn)] rfl O6.out _ 1 1 rfl rfl ON5.out (fun e => nomatch e) B6.out.size (by have := Hln.out; simp; omega) ?_; intro v7 w7 hown' hgrow; have O7 := Lib.hid hown'; have B7 := Lib.hid (B6.out.grown hgrow B6.out.size (fun k hk => O6.out.ge k hk)); clear hown' hgrow)
            go_roundw
            case rel => exact ⟨k + 1, Hk.out, by first | rfl | (rw [Ik.out]; rfl), by rw [He.out]; exact O7.out, B7.out⟩
            case measure => have := Hk.out; (try rw [Ik.out]); simp [intOf]; omega
          · have v1 : (x5 + W8 ≤ t) = False := eq_false hv
            have He : Hid (Du.turnsL t (ls.take (k + 1)) = Du.turnsL t (ls.take k) ++ [⟨x5, x0, x1, 1⟩]) := Lib.hid (by rw [Htk.out, Hto.out, if_neg hv])
            clear Hto hv Htk K5
            go_wp2
            go_roundw
            case rel => exact ⟨k + 1, Hk.out, by first | rfl | (rw [Ik.out]; rfl), by rw [He.out]; exact O5.out, B5.out⟩
            case measure => have := Hk.out; (try rw [Ik.out]); simp [intOf]; omega
        · go_simp
          refine (gw _).mono ?_
          rintro e w4 ⟨rfl, rfl⟩
          go_wp2_with fail
          refine hK.out _ _ (by first | exact ⟨_, ka⟩ | exact ⟨_, ka.below (below_drew (Below.refl _ _) 1)⟩) (fun hHeld => ?_)
          clear hK K
          (try simp only [Act.put, List.setIfInBounds_toArray, List.set_cons_zero, List.set_cons_succ])
          refine wpAnyH_ready (rs := [1]) (by kernel_rfl) (by simp) ?_
          refine AllReadyH.cons (o := { dst := some 55, op := Op.load 3 (Operand.tmp 54), type := 3, pos := _, after := #[{ on := 0, ground := Ground.data }], guard := none }) rfl (fun K hK => ?_) AllReadyH.nil
          go_simp
          skip
          refine hK.out _ _ (by first | exact ⟨_, ka⟩ | exact ⟨_, ka.below (below_drew (Below.refl _ _) 1)⟩) (fun hHeld => ?_)
          clear hK K
          (try simp only [Act.put, List.setIfInBounds_toArray, List.set_cons_zero, List.set_cons_succ])
          refine wpAnyH_take (i := 5) (oi := { dst := some 59, op := Op.binOp BinOp.add 3 (Operand.tmp 55) (Operand.tmp 58) 3, type := 3, pos := _, after := #[{ on := 1, ground := Ground.data }, { on := 4, ground := Ground.data }], guard := none }) (v := ?_) rfl (by kernel_rfl) (by kernel_rfl) (by kernel_rfl) (fun _ _ _ h => h) (Or.inl ⟨by rfl, ?hy⟩) hHeld ?_
          case hy => intro w0 hSw; clear hSw; go_simp; rw [Iw.out]; (try with_reducible rfl)
          (try simp only [Act.put, List.setIfInBounds_toArray, List.set_cons_zero, List.set_cons_succ])
          refine wpAnyH_take (i := 6) (oi := { dst := some 60, op := Op.fieldAddr 38 (Operand.tmp 8) 4, type := 0, pos := _, after := #[{ on := 0, ground := Ground.phase }, { on := 1, ground := Ground.phase }, { on := 2, ground := Ground.phase }, { on := 3, ground := Ground.phase }, { on := 4, ground := Ground.phase }, { on := 5, ground := Ground.phase }], guard := none }) (v := ?_) rfl (by kernel_rfl) (by kernel_rfl) (by kernel_rfl) (fun _ _ _ h => h) (Or.inl ⟨by rfl, ?hy⟩) hHeld ?_
          case hy => intro w0 hSw; clear hSw; go_simp; (try with_reducible rfl)
          (try simp only [Act.put, List.setIfInBounds_toArray, List.set_cons_zero, List.set_cons_succ])
          refine wpAnyH_ready (rs := [7]) (by kernel_rfl) (by simp) ?_
          refine AllReadyH.cons (o := { dst := none, op := Op.store 3 (Operand.tmp 60) (Operand.tmp 59), type := 0, pos := _, after := #[{ on := 6, ground := Ground.data }, { on := 5, ground := Ground.data }, { on := 4, ground := Ground.chain }, { on := 0, ground := Ground.phase }, { on := 1, ground := Ground.phase }, { on := 2, ground := Ground.phase }, { on := 3, ground := Ground.phase }, { on := 4, ground := Ground.phase }, { on := 5, ground := Ground.phase }], guard := none }) rfl (fun K hK => ?_) AllReadyH.nil
          rw [if_pos (by rfl)]
          refine wp_store_cellR 3 _ _ rfl p8 5 (.int .i64 (x5 + W8)) rfl rfl (by rw [hc5]; rfl) hf5 (by rfl) rfl ?_
          replace ka := ka.sun (x5 + W8)
          refine hK.out _ _ (by first | exact ⟨_, ka⟩ | exact ⟨_, ka.below (below_drew (Below.refl _ _) 1)⟩) (fun hHeld => ?_)
          clear hK K
          (try simp only [Act.put])
          refine wpAnyH_done (by kernel_rfl) ?_ _
          clear hHeld hc5 hf5 gw
          have K5 : Hid (Six (w3.drew.setCell ⟨p8, 5, none⟩ (.int .i64 (x5 + W8))) p8 ⟨x0, x1, 1, x3, x4, x5 + W8⟩) := Lib.hid ka
          have O5 := Lib.hid ((OwnT.below O3.out (below_drew (Below.refl _ _) 1)).kept6 (K3.out.below (below_drew (Below.refl _ _) 1)) 5 (.int .i64 (x5 + W8)))
          have B5 := Lib.hid (below_setCell (below_drew B3.out 1) (Hp8.out) 5 (.int .i64 (x5 + W8)))
          clear ka K3 O3 B3
          have c2 := K5.out.c2
          have c5 := K5.out.c5
          have c0 := K5.out.c0
          have c1 := K5.out.c1
          dsimp only at c0 c1 c2 c5
          change Hid (OwnT (w3.drew.setCell ⟨p8, 5, none⟩ (.int .i64 (x5 + W8))) _ _ _) at O5
          change Hid (Below _ _ (w3.drew.setCell ⟨p8, 5, none⟩ (.int .i64 (x5 + W8)))) at B5
          obtain ⟨w5, hw5⟩ : ∃ W, W = w3.drew.setCell ⟨p8, 5, none⟩ (.int .i64 (x5 + W8)) := ⟨_, rfl⟩
          rw [← hw5] at K5 O5 B5 c0 c1 c2 c5 ⊢
          clear hw5
          by_cases hv : x5 + W8 ≤ t
          · have v1 : (x5 + W8 ≤ t) = True := eq_true hv
            have He : Hid (Du.turnsL t (ls.take (k + 1)) = (Du.turnsL t (ls.take k) ++ [⟨x5, x0, x1, 1⟩]) ++ [⟨x5 + W8, x0, x1, 2⟩]) := Lib.hid (by rw [Htk.out, Hto.out, if_pos hv]; simp)
            have HN5 := Lib.hid (below_new w5 (.cells #[.int .i64 (x5 + W8), .int .i64 x0, .int .i64 x1, .int .i64 2] 55))
            have ON5 := Lib.hid (TrnsAt.one9 w5 (x5 + W8) x0 x1 2 55)
            have O6 := Lib.hid (O5.out.below HN5.out)
            have B6 := Lib.hid (below2 B5.out HN5.out)
            clear O5 B5 HN5 Hto hv Htk K5
            go_wp2_with (at_builtin; refine wpList_append_trns rfl _ _ 27 rfl Tryz.underlying27 w1.heap.size _ (Du.turnsL t (ls.take k) ++ [(⟨x5, x0, x1, 1⟩ : Trn)]) [(⟨x5 + W8, x0, x1, 2⟩ : Trn)] rfl O6.out _ 1 1 rfl rfl ON5.out (fun e => nomatch e) B6.out.size (by have := Hln.out; simp; omega) ?_; intro v7 w7 hown' hgrow; have O7 := Lib.hid hown'; have B7 := Lib.hid (B6.out.grown hgrow B6.out.size (fun k hk => O6.out.ge k hk)); clear hown' hgrow)
            go_roundw
            case rel => exact ⟨k + 1, Hk.out, by first | rfl | (rw [Ik.out]; rfl), by rw [He.out]; exact O7.out, B7.out⟩
            case measure => have := Hk.out; (try rw [Ik.out]); simp [intOf]; omega
          · have v1 : (x5 + W8 ≤ t) = False := eq_false hv
            have He : Hid (Du.turnsL t (ls.take (k + 1)) = Du.turnsL t (ls.take k) ++ [⟨x5, x0, x1, 1⟩]) := Lib.hid (by rw [Htk.out, Hto.out, if_neg hv])
            clear Hto hv Htk K5
            go_wp2
            go_roundw
            case rel => exact ⟨k + 1, Hk.out, by first | rfl | (rw [Ik.out]; rfl), by rw [He.out]; exact O5.out, B5.out⟩
            case measure => have := Hk.out; (try rw [Ik.out]); simp [intOf]; omega
      · by_cases h1 : x2 = 1 ∧ x5 ≤ t
        · obtain ⟨rfl, hu⟩ := h1
          have b4 : ((1 : Int) == 4) = false := rfl
          have b1 : ((1 : Int) == 1) = true := rfl
          have u1 : (x5 ≤ t) = True := eq_true hu
          have He : Hid (Du.turnsL t (ls.take (k + 1)) = Du.turnsL t (ls.take k) ++ [⟨x5, x0, x1, 2⟩]) := Lib.hid (by rw [Htk.out, Du.turnsOf_one rfl hu])
          clear hu h4
          have HN2 := Lib.hid (below_new (wr.alloc (.cells #[.int .i64 x0, .int .i64 x1, .int .i64 1, .int .i64 x3, .int .i64 x4, .int .i64 x5] 38)) (.cells #[.int .i64 x5, .int .i64 x0, .int .i64 x1, .int .i64 2] 55))
          have ON := Lib.hid (TrnsAt.one9n wr (.cells #[.int .i64 x0, .int .i64 x1, .int .i64 1, .int .i64 x3, .int .i64 x4, .int .i64 x5] 38) x5 x0 x1 2 55)
          have O9 := Lib.hid (O8.out.below HN2.out)
          have B9 := Lib.hid (below2 B8.out HN2.out)
          clear O8 K8 B8 HN HN2
          go_wp2_with (at_builtin; refine wpList_append_trns rfl _ _ 27 rfl Tryz.underlying27 w1.heap.size _ (Du.turnsL t (ls.take k)) [⟨x5, x0, x1, 2⟩] rfl O9.out _ 1 1 rfl rfl ON.out (fun e => nomatch e) B9.out.size (by have := Hln.out; simp; omega) ?_; intro v7 w7 hown' hgrow; have O7 := Lib.hid hown'; have B7 := Lib.hid (B9.out.grown hgrow B9.out.size (fun k hk => O9.out.ge k hk)); clear hown' hgrow)
          go_roundw
          case rel => exact ⟨k + 1, Hk.out, by first | rfl | (rw [Ik.out]; rfl), by rw [He.out]; exact O7.out, B7.out⟩
          case measure => have := Hk.out; (try rw [Ik.out]); simp [intOf]; omega
        · have He : Hid (Du.turnsL t (ls.take (k + 1)) = Du.turnsL t (ls.take k)) := Lib.hid (by rw [Htk.out, Du.turnsOf_none (by unfold Am.due; simp only; omega), List.append_nil])
          clear K8 Htk
          by_cases hu : x5 ≤ t
          · have u1 : (x5 ≤ t) = True := eq_true hu
            have b4 : (x2 == 4) = false := by rw [beq_eq_false_iff_ne]; omega
            have b1 : (x2 == 1) = false := by rw [beq_eq_false_iff_ne]; omega
            clear hu h4 h1
            go_wp2
            go_roundw
            case rel => exact ⟨k + 1, Hk.out, by first | rfl | (rw [Ik.out]; rfl), by rw [He.out]; exact O8.out, B8.out⟩
            case measure => have := Hk.out; (try rw [Ik.out]); simp [intOf]; omega
          · have u1 : (x5 ≤ t) = False := eq_false hu
            clear h4 h1
            by_cases p4 : x2 = 4
            · subst p4
              have b4 : ((4 : Int) == 4) = true := rfl
              have b1 : ((4 : Int) == 1) = false := rfl
              clear hu
              go_wp2
              go_roundw
              case rel => exact ⟨k + 1, Hk.out, by first | rfl | (rw [Ik.out]; rfl), by rw [He.out]; exact O8.out, B8.out⟩
              case measure => have := Hk.out; (try rw [Ik.out]); simp [intOf]; omega
            · have b4 : (x2 == 4) = false := by rw [beq_eq_false_iff_ne]; exact p4
              by_cases p1' : x2 = 1
              · subst p1'
                have b1 : ((1 : Int) == 1) = true := rfl
                clear hu p4
                go_wp2
                go_roundw
                case rel => exact ⟨k + 1, Hk.out, by first | rfl | (rw [Ik.out]; rfl), by rw [He.out]; exact O8.out, B8.out⟩
                case measure => have := Hk.out; (try rw [Ik.out]); simp [intOf]; omega
              · have b1 : (x2 == 1) = false := by rw [beq_eq_false_iff_ne]; exact p1'
                clear hu p4 p1'
                go_wp2
                go_roundw
                case rel => exact ⟨k + 1, Hk.out, by first | rfl | (rw [Ik.out]; rfl), by rw [He.out]; exact O8.out, B8.out⟩
                case measure => have := Hk.out; (try rw [Ik.out]); simp [intOf]; omega
    · have ik : ((k : Int) < (l : Int)) = False := eq_false (by omega)
      have He : Hid (ls.take k = ls) := Lib.hid (List.take_of_length_le (by have := Hl.out; omega))
      rw [He.out] at HO
      obtain ⟨A2, c2, e2, hT2, _⟩ := HO.out.slice
      have GO := fun (V : World) (h : V = wr) => Lib.hid (RTOrder_any A2 c2 (Du.turnsL t ls) V (by rw [h]; exact hT2) (by have h1 := Du.turnsL_len t ls; have := HL2.out; omega))
      rw [← Hq.out] at e2
      simp only [← Hq.out] at GO
      subst e2
      have HBw := Lib.hid (HSr.out.below)
      clear hk hlt He hT2 HO HB HSr HS
      go_wp2_with fail
      refine (GO _ rfl).out.mono ?_
      rintro e w9 ⟨A9, c9, rfl, hO9, hB9⟩
      have O9 := Lib.hid (hO9.lower HBw.out.size)
      have B9 := Lib.hid (below2' HBw.out hB9)
      clear hO9 hB9 GO s2
      go_wp2
      go_ret2
      exact ⟨_, _, rfl, O9.out, B9.out⟩
end Go.Proofs.YtplpadblhjdpcaaGreat
