/-
  Layer 9 (due): the walk of Turns.
-/
import Derived.Test.YtplpadblhjdpcaaGreatXDueW3
import Derived.Test.YtplpadblhjdpcaaGreatXDueW6
import Derived.Test.YtplpadblhjdpcaaGreatXJc
namespace Go.Proofs.YtplpadblhjdpcaaGreat
set_option maxRecDepth 10000
open Go.RowKit Go.Shelf

attribute [local go_sem] Oper.semAt_some

namespace Du
theorem turnsL_app (t : Int) (xs ys : List Alm) : turnsL t (xs ++ ys) = turnsL t xs ++ turnsL t ys := by unfold turnsL; exact List.flatMap_append
theorem turnsL_one (t : Int) (x : Alm) : turnsL t [x] = turnsOf t x := by unfold turnsL; simp
theorem turnsL_wl (t : Int) : ∀ ls : List Alm, turnsL t (wl ls) = turnsL t ls
  | [] => rfl
  | x :: ls => by
    have ih := turnsL_wl t ls
    have e1 : turnsL t (x :: ls) = turnsOf t x ++ turnsL t ls := rfl
    cases h : waits x
    · have e2 : wl (x :: ls) = wl ls := by unfold wl; simp [h]
      rw [e2, ih, e1, till_end (by rw [h]; simp)]; rfl
    · have e2 : wl (x :: ls) = x :: wl ls := by unfold wl; simp [h]
      have e3 : turnsL t (x :: wl ls) = turnsOf t x ++ turnsL t (wl ls) := rfl
      rw [e2, e3, ih, e1]
end Du

/-- Turns that are refused. -/
theorem dturns_bad (m n : Int) (A : Option Addr) (l c : Nat) (ls : List Alm) (t : Int) (q : Nat) (w : World) (h : Told w A l c ls) (hE : Du.turnsE m n ls t ≠ 0) (hq : q = 0) :
    Calls Tryz.prog 7 #[.agg #[.int .i64 m, .int .i64 n, .slice A l c], .int .i64 t] w (GivesT w q [] (Du.turnsE m n ls t)) := by
  subst hq
  have HS := Lib.hid (((St.start w).more (rowF A ls) h.2.1).box2 #[.int .i64 m, .int .i64 n, .slice A l c] #[.int .i64 t] 24 3)
  have G := fun W (hA : AlmsAt W W.heap.size A ls) => Lib.hid (kk_is m n A l c ls W ⟨h.1, hA, h.2.2⟩)
  have g1 := fun W => disTime_any t W
  unfold Du.turnsE at hE ⊢
  obtain ⟨z, hz⟩ : ∃ z, z = Bd.isB m n ls := ⟨_, rfl⟩
  simp only [← hz] at G hE ⊢
  obtain ⟨y, hy⟩ : ∃ y, y = Am.isT t := ⟨_, rfl⟩
  simp only [← hy] at g1 hE ⊢
  clear hz hy h
  cases z
  · clear g1 hE
    go_enter Tryz.func7, Tryz.ntmps7
    go_wp2_with (refine wpList_load_st rfl 24 _ rfl HS.out 1 _ _ rfl rfl _ Tryz.underlying24 rfl (by rfl) ?_)
    refine (G _ (HS.out.fact 0 rfl)).out.mono ?_
    rintro e w1 ⟨rfl, hB⟩
    replace HS := Lib.hid (HS.out.on hB)
    clear hB G
    go_wp2
    go_ret2
    exact ⟨_, _, rfl, OwnT.nil _ _, HS.out.below⟩
  · cases y
    · clear hE
      go_enter Tryz.func7, Tryz.ntmps7
      go_wp2_with (refine wpList_load_st rfl 24 _ rfl HS.out 1 _ _ rfl rfl _ Tryz.underlying24 rfl (by rfl) ?_)
      refine (G _ (HS.out.fact 0 rfl)).out.mono ?_
      rintro e w1 ⟨rfl, hB⟩
      replace HS := Lib.hid (HS.out.on hB)
      have s1 := HS.out.cell 0 rfl 0 rfl
      clear hB G
      go_wp2_with fail
      refine (g1 _).mono ?_
      rintro e w2 ⟨rfl, rfl⟩
      go_wp2
      go_ret2
      exact ⟨_, _, rfl, OwnT.nil _ _, HS.out.below⟩
    · have hlt : t < n := by
        refine Classical.byContradiction (fun hn => hE ?_)
        rw [if_neg (by simp), if_neg hn]
      rw [if_neg (by simp), if_pos hlt]
      have k3 : (t < n) = True := eq_true hlt
      clear hE hlt
      go_enter Tryz.func7, Tryz.ntmps7
      go_wp2_with (refine wpList_load_st rfl 24 _ rfl HS.out 1 _ _ rfl rfl _ Tryz.underlying24 rfl (by rfl) ?_)
      refine (G _ (HS.out.fact 0 rfl)).out.mono ?_
      rintro e w1 ⟨rfl, hB⟩
      replace HS := Lib.hid (HS.out.on hB)
      have s1 := HS.out.cell 0 rfl 0 rfl
      have s2 := HS.out.cell 1 rfl 1 rfl
      clear hB G
      go_wp2_with fail
      refine (g1 _).mono ?_
      rintro e w2 ⟨rfl, rfl⟩
      go_wp2
      go_ret2
      exact ⟨_, _, rfl, OwnT.nil _ _, HS.out.below⟩

theorem boxed_on {W W' : World} {B : Nat} {t : TypeId} {v : Value} (h : Boxed W B t v) (hb : Below W.heap.size W W') : Boxed W' B t v := (hb.block _ h.lt).trans h
/-- One cell is written, as an operation. -/
theorem wp_store_cell {o : Oper} {a : Act} {w : World} {K : Act → World → Prop} {Q : Exit → Act → World → Prop} (ty : TypeId) (x y : Operand) (ho : o.op = .store ty x y) (b j : Nat) (v : Value)
    (hx : a.eval x = .pointer (some ⟨b, j, none⟩)) (hy : a.eval y = v) (hc : (w.cell? ⟨b, j, none⟩).isSome = true) (hf : w.frozen? ⟨b, j, none⟩ = false) (hi : (Tryz.prog.info? ty).map (·.size) = some 1) (h1 : v.oneCell' = true)
    (h : K (a.put o.dst undef) (w.setCell ⟨b, j, none⟩ v)) : o.wp Tryz.prog a w K Q := by
  unfold Oper.wp execOp
  simp only [ho, hx, hy, Instr.storeAt, Instr.sureAddr, Sem.run_bind, Sem.run_pure, Result.andThen_ok, run_storeVar_cell w b j ty v hc hf hi h1]
  exact h
/-- Turns behind turns of one's own, as an operation. -/
theorem wp_append_trnsO {o : Oper} {a : Act} {w : World} {K : Act → World → Prop} {Q : Exit → Act → World → Prop} (s x : Operand) (t1 : TypeId)
    (ho : o.op = .call { callee := .builtin .append, args := #[s, x], argTypes := #[t1, t1] }) (hu : Tryz.prog.underlying t1 = some (.slice 55))
    (base : Nat) (v : Value) (zs ms : List Trn) (hs : a.eval s = v) (hown : OwnT w base v zs)
    (A : Option Addr) (n cap : Nat) (hx : a.eval x = .slice A n cap) (hn : n = ms.length) (hA : TrnsAt w w.heap.size A ms) (hnil : A = none → cap = 0) (hb : base ≤ w.heap.size) (hl : zs.length + ms.length ≤ 100000)
    (h : ∀ v' w', OwnT w' base v' (zs ++ ms) → w.grownBy w' v.ownBlock → K (a.put o.dst v') w') : o.wp Tryz.prog a w K Q := by
  subst hn
  cases A with
  | none =>
    obtain ⟨i0, hi, hz0, hz1, hz2⟩ := info_parts Tryz.infoTu
    obtain rfl : cap = 0 := hnil rfl
    obtain rfl : ms = [] := hA.none_nil
    have hrun := run_append_owned_none (P := Tryz.prog) (w := w) base t1 o.type 55 i0 4 hu hi v _ _ hown
    unfold Oper.wp
    simp [execOp, ho, resolve, invoke, builtin, hs, hx, hrun, Result.andThen]
    exact h v w (by rw [List.append_nil]; exact hown) (grown_refl _ _)
  | some ad => exact wp_append_trns s x t1 ho hu base v zs ms hs hown ad cap hx hA hb hl h
/-- What a round of Turns has done: the turns in their box are more. -/
theorem turns_round {p B : Nat} {W w5 w6 : World} {v v' : Value} {zs ms : List Trn} (hv : Boxed W p 27 v) (hrow : OwnT W p v zs) (hp : p ≤ W.heap.size) (hB5 : Below W.heap.size W w5) (hown' : OwnT w6 p v' (zs ++ ms)) (hgrow : w5.grownBy w6 v.ownBlock) :
    Boxed w6 p 27 v ∧ KeepsFrom B W (w6.setCell ⟨p, 0, none⟩ v') ∧ Below p W (w6.setCell ⟨p, 0, none⟩ v') ∧ Boxed (w6.setCell ⟨p, 0, none⟩ v') p 27 v' ∧ OwnT (w6.setCell ⟨p, 0, none⟩ v') p v' (zs ++ ms) := by
  have hte : (27 : TypeId) ≠ 55 := by decide
  have hrow5 : OwnT w5 p v zs := hrow.below hB5
  have hv5 := boxed_on hv hB5
  have hv6 : Boxed w6 p 27 v := hv5.kept hgrow (hv5.not_row hte hrow5)
  refine ⟨hv6, ?_, ?_, hv6.set v', ?_⟩
  · refine (((keeps_of_below hB5).trans (KeepsOthers.of_grownBy hgrow fun j o ej hj => ?_)).trans (KeepsOthers.setCell _ _ _)).from _
    rcases hrow5.2 with ⟨rfl, _⟩ | ⟨g, cap, cur, rfl, _, hgb, _⟩
    · simp [Value.ownBlock] at ej
    · obtain rfl : g = j := by simpa [Value.ownBlock] using ej
      rw [hgb] at hj
      cases hj
      rfl
  · exact ((below_mono hB5 hp).grown hgrow (Nat.le_trans hp hB5.size) (fun k hk => hrow5.ge k hk)).setCell (p := ⟨p, 0, none⟩) (Nat.le_refl _) v'
  · exact World.ownsRow.kept hown' (grownBy_setCell' w6 p v') (.inr (hv6.not_row hte hown').symm)

abbrev RAlm := { x : Alm // Am.right x = true }
/-- What holds between two rounds of Turns: the turns so far. -/
def TurnsI (p : Nat) (w1 : World) (t : Int) (pre : List RAlm) (W : World) : Prop :=
  (∃ v, Boxed W p 27 v ∧ W.ownsRow p 55 4 v (Du.turnsL t (pre.map (·.1))).length (flat4 (Du.turnsL t (pre.map (·.1)))) ∧ True) ∧ Below p w1 W

set_option maxHeartbeats 8000000 in
theorem dturns_ok (m n : Int) (A : Option Addr) (l c : Nat) (ls : List Alm) (t : Int) (q : Nat) (w : World) (h : Told w A l c ls) (hE : Du.turnsE m n ls t = 0) (hq : q = (Du.turnsL t ls).length) :
    Calls Tryz.prog 7 #[.agg #[.int .i64 m, .int .i64 n, .slice A l c], .int .i64 t] w (GivesT w q (Du.order (Du.turnsL t ls)) 0) := by
  have hi := Du.turnsE_iff.1 hE
  have HS := Lib.hid (((St.start w).more (rowF A ls) h.2.1).box2 #[.int .i64 m, .int .i64 n, .slice A l c] #[.int .i64 t] 24 3)
  have HT := Lib.hid h
  have HR : Hid (∀ x ∈ ls, Am.right x = true) := Lib.hid (fun x hx => ((Bd.rows_iff.1 (Bd.isB_iff.1 hi.1).2.2.2).1 x hx).1)
  have HL2 : Hid (ls.length ≤ 200) := Lib.hid (by have := Bd.isB_iff.1 hi.1; omega)
  have Ht : Hid (t ≤ 1000000000) := Lib.hid hi.2.1.2
  have Hq := Lib.hid hq
  have G := fun W (hA : AlmsAt W W.heap.size A ls) => Lib.hid (kk_is m n A l c ls W ⟨h.1, hA, h.2.2⟩)
  simp only [hi.1] at G
  have g1 := fun W => disTime_any t W
  simp only [Am.isT_iff.2 hi.2.1] at g1
  have k3 : (t < n) = False := eq_false (by omega)
  clear hi hE h hq
  refine (callsIn_wide (n := 9)).1 ?_
  refine callsIn_of_wp_marks Tryz.func7 rfl trivial ?_ rfl
  simp only [Tryz.ntmps7, List.size_toArray, List.length_cons, List.length_nil, Nat.reduceAdd, Nat.reduceSub, Array.replicate_succ, Array.replicate_zero, List.push_toArray, List.append_toArray, List.nil_append, List.cons_append]
  have s0 := HS.out.cell 1 rfl 0 rfl
  have s1 := HS.out.cell 1 rfl 1 rfl
  have s2 := HS.out.cell 1 rfl 2 rfl
  have s3 := HS.out.cell 0 rfl 0 rfl
  gi_wp2_with fail
  refine ⟨trivial, callsIn_wide.2 ((G _ (HS.out.fact 0 rfl)).out.mono ?_)⟩
  rintro e w1 ⟨rfl, hB⟩
  replace HS := Lib.hid (HS.out.on hB)
  have HAt : Hid (w1.heap[w.heap.size + 1]? = some (.cells #[.int .i64 t] 3 (0, 0))) := Lib.hid ((hB.block _ (by simp)).trans (by have h := heap_alloc_new (w.alloc (.cells #[.int .i64 m, .int .i64 n, .slice A l c] 24)) (.cells #[.int .i64 t] 3); rw [World.size_alloc] at h; exact h))
  clear hB G s0 s1 s2 s3
  have s1 := HS.out.cell 1 rfl 1 rfl
  have s2 := HS.out.cell 1 rfl 2 rfl
  have s3 := HS.out.cell 0 rfl 0 rfl
  gi_wp2_with fail
  refine ⟨trivial, callsIn_wide.2 ((g1 _).mono ?_)⟩
  rintro e w2 ⟨rfl, rfl⟩
  clear g1 s2
  have HS9 := Lib.hid (HS.out.new #[.slice none 0 0] 27)
  have s2 := HS9.out.cell 2 rfl 2 rfl
  gi_wp2_with fail
  refine ⟨trivial, (dwaiting_in _ A l c _).mono ?_⟩
  rintro e w' ⟨rfl, rfl⟩
  gi_wp2_with fail
  obtain ⟨pa, hpa⟩ : ∃ p, p = w2.heap.size := ⟨_, rfl⟩
  have Hpa0 := Lib.hid hpa
  rw [← hpa]
  have hb2 : Below pa w2 ((w2.alloc (.cells #[.slice none 0 0] 27)).alloc (.cells #[.slice A l c] 22)) := by rw [hpa]; exact below_new2 w2 _ _
  have q0 := heap_alloc_old _ (.cells #[.slice A l c] 22) (heap_alloc_new w2 (.cells #[.slice none 0 0] 27))
  have q1 := heap_alloc_new (w2.alloc (.cells #[.slice none 0 0] 27)) (.cells #[.slice A l c] 22)
  rw [World.size_alloc] at q1
  rw [← hpa] at q0 q1
  have hA2 : AlmsAt w2 pa A ls := by rw [hpa]; exact HS.out.fact 0 rfl
  obtain ⟨p1, hp1⟩ : ∃ p, p = w.heap.size + 1 := ⟨_, rfl⟩
  have Hp1 : Hid (p1 < pa) := Lib.hid (by have := HS.out.lt 0 rfl; rw [hp1, hpa]; exact this)
  have Hat : Hid (w2.heap[p1]? = some (.cells #[.int .i64 t] 3 (0, 0))) := Lib.hid (by rw [hp1]; exact HAt.out)
  rw [← hp1]
  clear hpa hp1 s1 s2 s3 k3 HS9
  have HB2 := Lib.hid hb2
  have Q0 := Lib.hid q0
  have Q1 := Lib.hid q1
  have HA2 := Lib.hid hA2
  clear hb2 q0 q1 hA2
  obtain ⟨w3, hw3⟩ : ∃ W, W = (w2.alloc (.cells #[.slice none 0 0] 27)).alloc (.cells #[.slice A l c] 22) := ⟨_, rfl⟩
  have Hs3 : Hid (w3.heap.size = pa + 1 + 1) := Lib.hid (by rw [hw3, Hpa0.out]; simp)
  rw [← hw3] at Q0 Q1 HB2 ⊢
  clear hw3
  obtain ⟨B0, hB0⟩ : ∃ B, B = w3.heap.size := ⟨_, rfl⟩
  refine wpIn_rangeFunc_ownG (F := Fence.wide) (n := 9) rfl (by omega) (gf := 44) (lb := #[.pointer (some ⟨pa + 1, 0, none⟩)]) rfl trivial (enters_of Tryz.func44 (by kernel_rfl) rfl)
    (dwaiting_stopsP (fun x => Am.right x = true) _ (pa + 1) pa A l c ls HR.out HT.out.1 HT.out.2.2.2 w3 (by rw [Hs3.out]; omega) (by rw [Hs3.out]; omega) (by simp only [World.cell?, Q1.out]; rfl) (HA2.out.below HB2.out (Nat.le_refl _))) belowK_t (belowK_b (by rw [Hs3.out]; omega)) (Below.refl _ _) (fun _ => rfl)
    (TurnsI pa w2 t) (fun _ _ _ => False)
    (OwnFrom.and (Own.from (holdsRow_own pa pa 27 55 4 (fun pre : List RAlm => (Du.turnsL t (pre.map (·.1))).length) (fun pre : List RAlm => flat4 (Du.turnsL t (pre.map (·.1)))) (fun _ _ => True)) _) (ownFrom_below (by rw [Hpa0.out]; exact Nat.le_refl _) (by rw [Hs3.out]; omega)))
    (fun _ _ _ _ _ hs _ _ => hs)
    ⟨⟨_, Q0.out, World.ownsRow_nil _ _ _ _, trivial⟩, HB2.out⟩
    ?a1 ?assign ?body ?done ?stop
  case assign =>
    intro l x W K hK
    gi_wp2
    exact hK
  case body =>
    rintro lp pre ⟨x, hx⟩ W ⟨⟨v, hv, hrow, _⟩, hBI⟩ hlt
    replace hrow : OwnT W pa v (Du.turnsL t (pre.map (·.1))) := hrow
    rw [← hB0]
    have HV := Lib.hid hv
    have HRow := Lib.hid hrow
    have HBI := Lib.hid hBI
    have HPa : Hid (pa ≤ W.heap.size) := Lib.hid (Nat.le_trans (by rw [Hpa0.out]; exact Nat.le_refl _) hBI.size)
    have ha : W.heap[p1]? = some (.cells #[.int .i64 t] 3 (0, 0)) := (hBI.block _ Hp1.out).trans Hat.out
    have HLn : Hid ((Du.turnsL t (pre.map (·.1))).length ≤ 2000) := Lib.hid (by have h1 := Du.turnsL_len t (pre.map (·.1)); have h2 : (Du.wl ls).length ≤ ls.length := List.length_filter_le _ _; have := HT.out.1; have := HT.out.2.2.2; rw [List.length_map] at h1; omega)
    have Happ : Hid (Du.turnsL t ((pre ++ [(⟨x, hx⟩ : RAlm)]).map (·.1)) = Du.turnsL t (pre.map (·.1)) ++ Du.turnsOf t x) := Lib.hid (by rw [List.map_append, Du.turnsL_app]; simp [Du.turnsL_one])
    obtain ⟨qx, hqx⟩ : ∃ q, q = (Du.turnsOf t x).length := ⟨_, rfl⟩
    have g := fun W => dtill_any x t qx W hx Ht.out hqx
    have Hqx := Lib.hid hqx
    clear hqx hlt hBI
    have hB : Below W.heap.size W W := Below.refl _ _
    have hc1 : W.drew.cell? ⟨pa, 0, none⟩ = some v := Boxed.cell hv
    dsimp only
    gi_wp2_with fail
    refine wpIn_region_heldR (S := (fun W1 : World => W1.heap[p1]? = some (.cells #[.int .i64 t] 3 (0, 0)))) (by kernel_rfl) (fun h => by obtain ⟨_, _, h⟩ := h; exact h) (by kernel_rfl) (by first | exact ha | exact ha) (fun hHeld => ?_)
    refine wpAnyH_take (i := 1) (oi := { dst := some 25, op := Op.move (Operand.tmp 7), type := 52, pos := _, after := #[], guard := none }) (v := ?_) rfl (by kernel_rfl) (by kernel_rfl) (by kernel_rfl) (fun _ _ _ h => h) (Or.inl ⟨by rfl, ?hy⟩) hHeld ?_
    case hy => intro w0 hSw; (try dsimp only at hSw); go_simp; (try with_reducible rfl)
    (try simp only [Act.put, List.setIfInBounds_toArray, List.set_cons_zero, List.set_cons_succ])
    refine wpAnyH_take (i := 2) (oi := { dst := some 26, op := Op.load 3 (Operand.tmp 3), type := 3, pos := _, after := #[], guard := none }) (v := ?_) rfl (by kernel_rfl) (by kernel_rfl) (by kernel_rfl) (fun _ _ _ h => h) (Or.inl ⟨by rfl, ?hy⟩) hHeld ?_
    case hy => intro w0 hSw; have hc : w0.cell? ⟨p1, 0, none⟩ = some (.int .i64 t) := (by simp only [World.cell?, hSw]; rfl); clear hSw; go_simp; (try with_reducible rfl)
    (try simp only [Act.put, List.setIfInBounds_toArray, List.set_cons_zero, List.set_cons_succ])
    refine wpAnyH_ready (rs := [0, 3]) (by kernel_rfl) (by simp) ?_
    refine AllReadyH.cons (o := { dst := some 24, op := Op.load 27 (Operand.tmp 6), type := 27, pos := _, after := #[], guard := none }) rfl (fun K hK => ?_) (AllReadyH.cons (o := { dst := some 27, op := Op.call { callee := Callee.value (Operand.func 24), args := #[Operand.tmp 25, Operand.tmp 26], argTypes := #[52, 3] }, type := 27, pos := _, after := #[{ on := 1, ground := Ground.data }, { on := 2, ground := Ground.data }], guard := none }) rfl (fun K hK => ?_) AllReadyH.nil)
    · go_simp
      skip
      refine hK.out _ _ (by first | exact ha | exact ha) (fun hHeld => ?_)
      clear hK K
      (try simp only [Act.put, List.setIfInBounds_toArray, List.set_cons_zero, List.set_cons_succ])
      refine wpAnyH_ready (rs := [3]) (by kernel_rfl) (by simp) ?_
      refine AllReadyH.cons (o := { dst := some 27, op := Op.call { callee := Callee.value (Operand.func 24), args := #[Operand.tmp 25, Operand.tmp 26], argTypes := #[52, 3] }, type := 27, pos := _, after := #[{ on := 1, ground := Ground.data }, { on := 2, ground := Ground.data }], guard := none }) rfl (fun K hK => ?_) AllReadyH.nil
      go_simp
      refine (g _).mono ?_
      rintro e w5 ⟨A5, c5, rfl, hO5, hB5⟩
      replace ha := (hB5.block _ (Array.getElem?_eq_some_iff.1 ha).1).trans ha
      replace hv := (by first | exact boxed_on hv hB5 | exact boxed_on (boxed_on hv (below_drew (Below.refl _ _) 1)) hB5 : Boxed w5 pa 27 v)
      replace hrow := OwnT.below (by first | exact hrow | exact OwnT.below hrow (below_drew (Below.refl _ _) 1)) hB5
      replace hB := below2 (by first | exact hB | exact below_drew hB 1) hB5
      have hc5 := Boxed.cell hv
      clear g
      go_wp2_with fail
      refine hK.out _ _ (by first | exact ha | exact ha) (fun hHeld => ?_)
      clear hK K
      (try simp only [Act.put, List.setIfInBounds_toArray, List.set_cons_zero, List.set_cons_succ])
      refine wpAnyH_ready (rs := [4]) (by kernel_rfl) (by simp) ?_
      refine AllReadyH.cons (o := { dst := some 28, op := Op.call { callee := Callee.builtin Builtin.append, args := #[Operand.tmp 24, Operand.tmp 27], argTypes := #[27, 27] }, type := 27, pos := _, after := #[{ on := 0, ground := Ground.data }, { on := 3, ground := Ground.data }, { on := 3, ground := Ground.chain }], guard := none }) rfl (fun K hK => ?_) AllReadyH.nil
      rw [if_pos (by rfl)]
      refine wp_append_trnsO _ _ 27 rfl Tryz.underlying27 pa v (Du.turnsL t (pre.map (·.1))) (Du.turnsOf t x) rfl hrow A5 _ c5 rfl Hqx.out hO5.rows.1 hO5.rows.2 (by have := HPa.out; have := hB.size; omega) (by have := HLn.out; have := Du.turnsOf_len t x; omega) ?_
      intro v' w6 hown' hgrow
      obtain ⟨hv6, hk7, hb7, hv7, ho7⟩ := turns_round (B := B0) HV.out HRow.out HPa.out hB hown' hgrow
      replace ha := (hgrow.block _ (Array.getElem?_eq_some_iff.1 ha).1 (fun e => by have := hrow.ge _ e.symm; have := Hp1.out; omega)).trans ha
      have hc6 := Boxed.cell hv6
      have hf6 := Boxed.frozen hv6
      clear hgrow hrow
      refine hK.out _ _ (by first | exact ha | exact ha) (fun hHeld => ?_)
      clear hK K
      (try simp only [Act.put, List.setIfInBounds_toArray, List.set_cons_zero, List.set_cons_succ])
      refine wpAnyH_ready (rs := [5]) (by kernel_rfl) (by simp) ?_
      refine AllReadyH.cons (o := { dst := none, op := Op.store 27 (Operand.tmp 6) (Operand.tmp 28), type := 0, pos := _, after := #[{ on := 4, ground := Ground.data }, { on := 4, ground := Ground.chain }, { on := 0, ground := Ground.phase }, { on := 1, ground := Ground.phase }, { on := 2, ground := Ground.phase }, { on := 3, ground := Ground.phase }, { on := 4, ground := Ground.phase }], guard := none }) rfl (fun K hK => ?_) AllReadyH.nil
      rw [if_pos (by rfl)]
      refine wp_store_cell 27 _ _ rfl pa 0 v' rfl rfl (by rw [hc6]; rfl) hf6 (by rfl) (by obtain ⟨A6, c6, e6, _⟩ := hown'.slice; rw [e6]; rfl) ?_
      replace ha := (heap_setCell_other w6 ⟨pa, 0, none⟩ p1 v' (fun e => by have : p1 = pa := e; have := Hp1.out; omega)).trans ha
      refine hK.out _ _ (by first | exact ha | exact ha) (fun hHeld => ?_)
      clear hK K
      (try simp only [Act.put])
      refine wpAnyH_done (by kernel_rfl) ?_ _
      clear hHeld
      gi_wp2
      exact ⟨hk7, hb7, ⟨⟨_, hv7, (by rw [Happ.out]; exact ho7), trivial⟩, HBI.out.trans hb7⟩⟩
    · go_simp
      refine (g _).mono ?_
      rintro e w5 ⟨A5, c5, rfl, hO5, hB5⟩
      replace ha := (hB5.block _ (Array.getElem?_eq_some_iff.1 ha).1).trans ha
      replace hv := (by first | exact boxed_on hv hB5 | exact boxed_on (boxed_on hv (below_drew (Below.refl _ _) 1)) hB5 : Boxed w5 pa 27 v)
      replace hrow := OwnT.below (by first | exact hrow | exact OwnT.below hrow (below_drew (Below.refl _ _) 1)) hB5
      replace hB := below2 (by first | exact hB | exact below_drew hB 1) hB5
      have hc5 := Boxed.cell hv
      clear g
      go_wp2_with fail
      refine hK.out _ _ (by first | exact ha | exact ha) (fun hHeld => ?_)
      clear hK K
      (try simp only [Act.put, List.setIfInBounds_toArray, List.set_cons_zero, List.set_cons_succ])
      refine wpAnyH_ready (rs := [0]) (by kernel_rfl) (by simp) ?_
      refine AllReadyH.cons (o := { dst := some 24, op := Op.load 27 (Operand.tmp 6), type := 27, pos := _, after := #[], guard := none }) rfl (fun K hK => ?_) AllReadyH.nil
      go_simp
      skip
      refine hK.out _ _ (by first | exact ha | exact ha) (fun hHeld => ?_)
      clear hK K
      (try simp only [Act.put, List.setIfInBounds_toArray, List.set_cons_zero, List.set_cons_succ])
      refine wpAnyH_ready (rs := [4]) (by kernel_rfl) (by simp) ?_
      refine AllReadyH.cons (o := { dst := some 28, op := Op.call { callee := Callee.builtin Builtin.append, args := #[Operand.tmp 24, Operand.tmp 27], argTypes := #[27, 27] }, type := 27, pos := _, after := #[{ on := 0, ground := Ground.data }, { on := 3, ground := Ground.data }, { on := 3, ground := Ground.chain }], guard := none }) rfl (fun K hK => ?_) AllReadyH.nil
      rw [if_pos (by rfl)]
      refine wp_append_trnsO _ _ 27 rfl Tryz.underlying27 pa v (Du.turnsL t (pre.map (·.1))) (Du.turnsOf t x) rfl hrow A5 _ c5 rfl Hqx.out hO5.rows.1 hO5.rows.2 (by have := HPa.out; have := hB.size; omega) (by have := HLn.out; have := Du.turnsOf_len t x; omega) ?_
      intro v' w6 hown' hgrow
      obtain ⟨hv6, hk7, hb7, hv7, ho7⟩ := turns_round (B := B0) HV.out HRow.out HPa.out hB hown' hgrow
      replace ha := (hgrow.block _ (Array.getElem?_eq_some_iff.1 ha).1 (fun e => by have := hrow.ge _ e.symm; have := Hp1.out; omega)).trans ha
      have hc6 := Boxed.cell hv6
      have hf6 := Boxed.frozen hv6
      clear hgrow hrow
      refine hK.out _ _ (by first | exact ha | exact ha) (fun hHeld => ?_)
      clear hK K
      (try simp only [Act.put, List.setIfInBounds_toArray, List.set_cons_zero, List.set_cons_succ])
      refine wpAnyH_ready (rs := [5]) (by kernel_rfl) (by simp) ?_
      refine AllReadyH.cons (o := { dst := none, op := Op.store 27 (Operand.tmp 6) (Operand.tmp 28), type := 0, pos := _, after := #[{ on := 4, ground := Ground.data }, { on := 4, ground := Ground.chain }, { on := 0, ground := Ground.phase }, { on := 1, ground := Ground.phase }, { on := 2, ground := Ground.phase }, { on := 3, ground := Ground.phase }, { on := 4, ground := Ground.phase }], guard := none }) rfl (fun K hK => ?_) AllReadyH.nil
      rw [if_pos (by rfl)]
      refine wp_store_cell 27 _ _ rfl pa 0 v' rfl rfl (by rw [hc6]; rfl) hf6 (by rfl) (by obtain ⟨A6, c6, e6, _⟩ := hown'.slice; rw [e6]; rfl) ?_
      replace ha := (heap_setCell_other w6 ⟨pa, 0, none⟩ p1 v' (fun e => by have : p1 = pa := e; have := Hp1.out; omega)).trans ha
      refine hK.out _ _ (by first | exact ha | exact ha) (fun hHeld => ?_)
      clear hK K
      (try simp only [Act.put])
      refine wpAnyH_done (by kernel_rfl) ?_ _
      clear hHeld
      gi_wp2
      exact ⟨hk7, hb7, ⟨⟨_, hv7, (by rw [Happ.out]; exact ho7), trivial⟩, HBI.out.trans hb7⟩⟩
  case done =>
    rintro D ys W hD hys ⟨⟨v, hv, hrow, _⟩, hB⟩ hK
    replace hrow : OwnT W pa v (Du.turnsL t (ys.map (·.1))) := hrow
    rw [show List.map (·.1) ys = Du.wl ls from hys, Du.turnsL_wl] at hrow
    obtain ⟨A2, c2, e2, hT2, hn2, _⟩ := hrow.slice
    rw [← Hq.out] at e2
    subst e2
    have hc := Boxed.cell hv
    have HD : Hid (w.heap.size ≤ D) := Lib.hid (by have := Hs3.out; have := Hp1.out; have := HS.out.below.size; have := Hpa0.out; omega)
    have HK := Lib.hid hK
    have hw2 : Below w.heap.size w W := HS.out.below.trans (below_mono hB (by rw [Hpa0.out]; exact HS.out.below.size))
    have HW := Lib.hid hw2
    have G := fun (V : World) (h : V = W) => Lib.hid (dorder_any A2 q c2 (Du.turnsL t ls) V Hq.out (by rw [h]; exact hT2) hn2 (by rw [Hq.out]; have h1 := Du.turnsL_len t ls; have := HL2.out; omega))
    clear hys hv hrow hB hK hD hT2 hn2 hw2
    gi_wp2_with fail
    refine ⟨trivial, callsIn_wide.2 ((G _ rfl).out.mono ?_)⟩
    rintro e W3 ⟨A3, c3, rfl, hO3, hB3⟩
    have HO3 := Lib.hid (hO3.lower HW.out.size)
    have HB3 := Lib.hid (HW.out.trans (below_mono hB3 HW.out.size))
    have HK3 : Hid (W3.heap[D]? = some (Obj.deferred (some []))) := Lib.hid ((hB3.block _ (Array.getElem?_eq_some_iff.1 HK.out).1).trans HK.out)
    clear hO3 hB3 G hc
    gi_wp2
    refine ⟨by simp, .inl ⟨_, _, rfl, run_takeDeferred HK3.out, ?_⟩⟩
    refine ⟨_, results_tmp2 rfl _ _ _, A3, c3, rfl, ownsRow_putObj HO3.out _ HK3.out rfl, ?_⟩
    exact HB3.out.trans (belowK_b (w := w) (Nat.le_refl _) _ D _ _ HD.out HK3.out rfl rfl)
  case stop =>
    rintro D c pre W _ _ h _
    exact h.elim

end Go.Proofs.YtplpadblhjdpcaaGreat
