/-
  Layer 9 (due): the walk of turnsTill.
-/
import Derived.Test.YtplpadblhjdpcaaGreatXDueW5
import Derived.Test.YtplpadblhjdpcaaGreatXJc
namespace Go.Proofs.YtplpadblhjdpcaaGreat
set_option maxRecDepth 10000
open Go.RowKit

namespace Du
theorem till_end {t : Int} {y : Alm} (h : ¬ (waits y = true ∧ y.un ≤ t)) : turnsOf t y = [] := by
  refine turnsOf_none (fun hd => h ?_)
  unfold Am.due at hd
  unfold waits
  obtain ⟨h1, h2⟩ := hd
  refine ⟨?_, h2⟩
  rcases h1 with h1 | h1 <;> rw [h1] <;> rfl
def rnd (y : Alm) : Nat := if y.ph = 4 then 2 else if y.ph = 1 then 1 else 0
theorem till_step {t : Int} {y : Alm} (hr : Am.right y = true) (hw : waits y = true) (hu : y.un ≤ t) :
    turnsOf t y = [⟨y.un, y.b, y.c, (Am.pass y y.un).ph⟩] ++ turnsOf t (Am.pass y y.un) ∧ rnd (Am.pass y y.un) < rnd y := by
  have hp := turnsOf_parts hr hu
  have hwt : 0 < Am.wait y.pr := by
    have := Am.right_iff.1 hr
    have h3 : y.pr = 1 ∨ y.pr = 2 ∨ y.pr = 3 := by omega
    unfold Am.wait
    rcases h3 with h3 | h3 | h3 <;> rw [h3] <;> decide
  have hph : y.ph = 1 ∨ y.ph = 4 := by
    unfold waits at hw
    simpa using hw
  rcases Am.pass_cases y.un hr with ⟨_, _, hv, _⟩ | ⟨h4, _, hv, e⟩ | ⟨h1, _, e⟩ | ⟨hd, _⟩
  · omega
  · refine ⟨?_, ?_⟩
    · rw [hp, turnsOf_four h4 (Int.le_refl _), if_neg (by omega), e]
    · rw [e]; unfold rnd; rw [h4]; simp
  · refine ⟨?_, ?_⟩
    · rw [hp, turnsOf_one h1 (Int.le_refl _), e]
    · rw [e]; unfold rnd; rw [h1]; simp
  · refine absurd ?_ hd
    unfold Am.due
    rcases hph with h | h
    · exact ⟨by omega, Int.le_refl _⟩
    · exact ⟨by omega, Int.le_refl _⟩
end Du

theorem dfield_ph (x0 x1 x2 x3 x4 x5 : Int) (w : World) :
    (Instr.field 38 (.agg #[.int .i64 x0, .int .i64 x1, .int .i64 x2, .int .i64 x3, .int .i64 x4, .int .i64 x5]) 1).run Tryz.prog w = .ok (.int .i64 x2) w := by
  rfl
theorem dfield_un (x0 x1 x2 x3 x4 x5 : Int) (w : World) :
    (Instr.field 38 (.agg #[.int .i64 x0, .int .i64 x1, .int .i64 x2, .int .i64 x3, .int .i64 x4, .int .i64 x5]) 4).run Tryz.prog w = .ok (.int .i64 x5) w := by
  rfl
theorem run_waits (x : Alm) : ∀ w : World, (method 250 78 (.agg (sixV x)) "watchman/due.waits").run Tryz.prog w = .ok (45, .agg (sixV x)) w := fun _ => by kernel_rfl
theorem run_turned (x : Alm) : ∀ w : World, (method 250 78 (.agg (sixV x)) "watchman/due.turned").run Tryz.prog w = .ok (123, .agg (sixV x)) w := fun _ => by kernel_rfl

/-- How many rounds are left, read off the variable. -/
def rndV : Value → Nat
  | .iface _ (.agg cs) => match (cs.getD 2 undef : Value) with
    | .int _ n => if n = 4 then 2 else if n = 1 then 1 else 0
    | _ => 0
  | _ => 0
theorem rndV_eq (y : Alm) (t : TypeId) : rndV (.iface t (.agg (sixV y))) = Du.rnd y := rfl

theorem TrnsAt.oneD (w : World) (m : Trn) (t : TypeId) : TrnsAt (w.alloc (.cells #[.int .i64 m.tm, .int .i64 m.b, .int .i64 m.c, .int .i64 m.ph] t)) (w.alloc (.cells #[.int .i64 m.tm, .int .i64 m.b, .int .i64 m.c, .int .i64 m.ph] t)).heap.size (some ⟨w.heap.size, 0, none⟩) [m] := by
  intro i hi
  obtain rfl : i = 0 := by simpa using hi
  have hb := World.alloc_heap_new w (.cells #[.int .i64 m.tm, .int .i64 m.b, .int .i64 m.c, .int .i64 m.ph] t)
  refine ⟨w.heap.size, 0, rfl, by simp, ?_⟩
  exact ⟨by simp only [World.cell?, hb]; rfl, by simp only [World.cell?, hb]; rfl, by simp only [World.cell?, hb]; rfl, by simp only [World.cell?, hb]; rfl⟩
/-- One turn more behind turns of one's own, as an operation. -/
theorem wp_append_trns {o : Oper} {a : Act} {w : World} {K : Act → World → Prop} {Q : Exit → Act → World → Prop} (s x : Operand) (t1 : TypeId)
    (ho : o.op = .call { callee := .builtin .append, args := #[s, x], argTypes := #[t1, t1] }) (hu : Tryz.prog.underlying t1 = some (.slice 55))
    (base : Nat) (v : Value) (zs ms : List Trn) (hs : a.eval s = v) (hown : OwnT w base v zs)
    (ad : Addr) (cap : Nat) (hx : a.eval x = .slice (some ad) ms.length cap) (hA : TrnsAt w w.heap.size (some ad) ms) (hb : base ≤ w.heap.size) (hl : zs.length + ms.length ≤ 100000)
    (h : ∀ v' w', OwnT w' base v' (zs ++ ms) → w.grownBy w' v.ownBlock → K (a.put o.dst v') w') : o.wp Tryz.prog a w K Q := by
  obtain ⟨i0, hi, hz0, hz1, hz2⟩ := info_parts Tryz.infoTu
  refine wp_append_own w s x t1 ho base 55 i0 _ 4 32 hu hi hz0 hz1 hz2 rfl (by decide) v _ _ hs hown ad ms.length cap (flat4 ms) hx (flat4_len ms) hA.flat_cells (flat4_one ms) (by unfold maxLen; omega) (by omega) hb ?_
  intro v' w' ho' hg _
  exact h v' w' (by unfold OwnT; rw [List.length_append, flat4_app]; exact ho') hg

/-- A block of six cells is no row of turns. -/
theorem own_not6 {w : World} {base : Nat} {v : Value} {ls : List Trn} {k : Nat} {cs : Array Value} {t : TypeId} (h : OwnT w base v ls) (hk : w.heap[k]? = some (.cells cs t (0, 0))) (h6 : cs.size = 6 := by rfl) : some k ≠ v.ownBlock := by
  rcases h.2 with ⟨rfl, _⟩ | ⟨g, cap, cur, rfl, _, hg, _, _, hs, _⟩
  · simp [Value.ownBlock]
  · intro e
    obtain rfl : k = g := by simpa [Value.ownBlock] using e
    rw [hg] at hk
    cases hk
    omega

/-- What holds ahead of each round. -/
def TillR (w : World) (t : Int) (x : Alm) (wv out : Value) (wr : World) : Prop :=
  ∃ (y : Alm) (pre : List Trn), wv = .iface 78 (.agg (sixV y)) ∧ Am.right y = true ∧ pre ++ Du.turnsOf t y = Du.turnsOf t x ∧ OwnT wr w.heap.size out pre ∧ Below w.heap.size w wr

set_option maxHeartbeats 4000000 in
theorem dtill_any (x : Alm) (t : Int) (q : Nat) (w : World) (hr : Am.right x = true) (ht : t ≤ 1000000000) (hq : q = (Du.turnsOf t x).length) :
    Calls Tryz.prog 24 #[.iface 78 (.agg (sixV x)), .int .i64 t] w (OwnedT w q (Du.turnsOf t x)) := by
  have Hr := Lib.hid hr
  have Ht := Lib.hid ht
  have Hq := Lib.hid hq
  have Hln := Lib.hid (Du.turnsOf_len t x)
  clear hr ht hq
  go_enter Tryz.func24, Tryz.ntmps24
  go_wp2_with fail
  go_loopw [0, 5] (fun wv out wr => TillR w t x wv out wr) (fun wv _ _ => rndV wv)
  case atStart => exact ⟨x, [], rfl, Hr.out, rfl, OwnT.nil _ _, Below.refl _ _⟩
  case round =>
    obtain ⟨y, pre, rfl, hry, hpre, hown, hB0⟩ := hrel
    have HR := Lib.hid hry
    have HP := Lib.hid hpre
    have HO := Lib.hid hown
    have HB := Lib.hid hB0
    clear hry hpre hown hB0
    obtain ⟨y0, y1, y2, y3, y4, y5⟩ := y
    dsimp only [sixV]
    have hm1 : ∀ w : World, (method 250 78 (.agg #[.int .i64 y0, .int .i64 y1, .int .i64 y2, .int .i64 y3, .int .i64 y4, .int .i64 y5]) "watchman/due.waits").run Tryz.prog w = .ok (45, .agg #[.int .i64 y0, .int .i64 y1, .int .i64 y2, .int .i64 y3, .int .i64 y4, .int .i64 y5]) w := run_waits ⟨y0, y1, y2, y3, y4, y5⟩
    have hm2 : ∀ w : World, (method 250 78 (.agg #[.int .i64 y0, .int .i64 y1, .int .i64 y2, .int .i64 y3, .int .i64 y4, .int .i64 y5]) "watchman/due.told").run Tryz.prog w = .ok (122, .agg #[.int .i64 y0, .int .i64 y1, .int .i64 y2, .int .i64 y3, .int .i64 y4, .int .i64 y5]) w := run_told ⟨y0, y1, y2, y3, y4, y5⟩
    have hm3 : ∀ w : World, (method 250 78 (.agg #[.int .i64 y0, .int .i64 y1, .int .i64 y2, .int .i64 y3, .int .i64 y4, .int .i64 y5]) "watchman/due.turned").run Tryz.prog w = .ok (123, .agg #[.int .i64 y0, .int .i64 y1, .int .i64 y2, .int .i64 y3, .int .i64 y4, .int .i64 y5]) w := run_turned ⟨y0, y1, y2, y3, y4, y5⟩
    have g1 := fun W => dwaits_any y0 y1 y2 y3 y4 y5 W
    have g2 := fun W => dtold_any y0 y1 y2 y3 y4 y5 W
    have g3 := fun W => dturned_any y0 y1 y2 y3 y4 y5 W
    obtain ⟨z, hz⟩ : ∃ z, z = Du.waits ⟨y0, y1, y2, y3, y4, y5⟩ := ⟨_, rfl⟩
    have Hz := Lib.hid hz
    simp only [← hz] at g1
    clear hz
    go_wp2_with fail
    refine (g1 _).mono ?_
    rintro e w1 ⟨rfl, hB1⟩
    have HB1 := Lib.hid hB1
    clear hB1 g1 hm1
    cases z
    · have He : Hid (pre = Du.turnsOf t x) := Lib.hid (by have := HP.out; rw [Du.till_end (by rw [← Hz.out]; simp), List.append_nil] at this; exact this)
      rw [He.out] at HO
      have HO2 := Lib.hid (HO.out.below HB1.out)
      have HB2 := Lib.hid (below2 HB.out HB1.out)
      obtain ⟨A2, c2, e2, _⟩ := HO2.out.slice
      rw [← Hq.out] at e2
      subst e2
      clear HO He g2 g3 hm2 hm3
      go_wp2
      go_ret
      exact ⟨_, _, rfl, HO2.out, HB2.out⟩
    · go_wp2_with fail
      refine (g2 _).mono ?_
      rintro e w2 ⟨rfl, hB2⟩
      have HB2 := Lib.hid (below2 HB1.out hB2)
      clear hB2 HB1
      have hfu := fun W => dfield_un y0 y1 y2 y3 y4 y5 W
      by_cases hu : y5 ≤ t
      · have Hs := Lib.hid (Du.till_step HR.out Hz.out.symm (show (⟨y0, y1, y2, y3, y4, y5⟩ : Alm).un ≤ t from hu))
        have Hry : Hid (Am.right (Am.pass ⟨y0, y1, y2, y3, y4, y5⟩ y5) = true) := Lib.hid (Am.pass_right HR.out (by have := Ht.out; show y5 ≤ _; omega))
        obtain ⟨X, hX⟩ : ∃ X, X = Am.pass ⟨y0, y1, y2, y3, y4, y5⟩ y5 := ⟨_, rfl⟩
        dsimp only at Hs
        simp only [← hX] at g3 Hs Hry
        clear hX
        obtain ⟨X0, X1, X2, X3, X4, X5⟩ := X
        dsimp only [sixV] at g3
        go_wp2_with fail
        refine (g2 _).mono ?_
        rintro e w3 ⟨rfl, hB3⟩
        have HB3 := Lib.hid (below2 HB2.out hB3)
        clear hB3 HB2
        have HN := Lib.hid (below2 HB3.out (below_new w3 (.cells #[.int .i64 y0, .int .i64 y1, .int .i64 y2, .int .i64 y3, .int .i64 y4, .int .i64 y5] 38)))
        have K3 := Lib.hid (Six.new w3 y0 y1 y2 y3 y4 y5 38)
        go_wp2_with fail
        refine (g3 _).mono ?_
        rintro e w4 ⟨rfl, hB4⟩
        have HB4 := Lib.hid (below2 HN.out hB4)
        have K4 := Lib.hid (K3.out.below hB4)
        clear hB4 HN K3 HB3 g2 g3 hm2 hm3 hfu
        go_wp2_with fail
        obtain ⟨p3, hp3⟩ : ∃ p, p = w3.heap.size := ⟨_, rfl⟩
        rw [← hp3] at K4 ⊢
        clear hp3
        have ka := K4.out
        have hB := HB4.out
        clear K4 HB4
        have hmX : ∀ w : World, (method 250 78 (.agg #[.int .i64 X0, .int .i64 X1, .int .i64 X2, .int .i64 X3, .int .i64 X4, .int .i64 X5]) "watchman/due.told").run Tryz.prog w = .ok (122, .agg #[.int .i64 X0, .int .i64 X1, .int .i64 X2, .int .i64 X3, .int .i64 X4, .int .i64 X5]) w := run_told ⟨X0, X1, X2, X3, X4, X5⟩
        have gX := fun W => dtold_any X0 X1 X2 X3 X4 X5 W
        refine wp_region_held_drew (S := (fun W : World => Six W p3 ⟨y0, y1, y2, y3, y4, y5⟩)) (by kernel_rfl) (by first | exact ka | exact ⟨ka.blk⟩) (fun hHeld => ?_)
        refine wpAnyH_take (i := 0) (oi := { dst := some 20, op := Op.move (Operand.tmp 5), type := 27, pos := _, after := #[], guard := none }) (v := ?_) rfl (by kernel_rfl) (by kernel_rfl) (by kernel_rfl) (fun _ _ _ h => h) (Or.inl ⟨by rfl, ?hy⟩) hHeld ?_
        case hy => intro w0 hSw; (try dsimp only at hSw); go_simp; (try with_reducible rfl)
        (try simp only [Act.put, List.setIfInBounds_toArray, List.set_cons_zero, List.set_cons_succ])
        refine wpAnyH_take (i := 1) (oi := { dst := some 21, op := Op.fieldAddr 38 (Operand.tmp 6) 4, type := 0, pos := _, after := #[], guard := none }) (v := ?_) rfl (by kernel_rfl) (by kernel_rfl) (by kernel_rfl) (fun _ _ _ h => h) (Or.inl ⟨by rfl, ?hy⟩) hHeld ?_
        case hy => intro w0 hSw; (try dsimp only at hSw); go_simp; (try with_reducible rfl)
        (try simp only [Act.put, List.setIfInBounds_toArray, List.set_cons_zero, List.set_cons_succ])
        refine wpAnyH_take (i := 2) (oi := { dst := some 22, op := Op.load 3 (Operand.tmp 21), type := 3, pos := _, after := #[{ on := 1, ground := Ground.data }], guard := none }) (v := ?_) rfl (by kernel_rfl) (by kernel_rfl) (by kernel_rfl) (fun _ _ _ h => h) (Or.inl ⟨by rfl, ?hy⟩) hHeld ?_
        case hy => intro w0 hSw; have q3 := hSw.c5; (try dsimp only at q3); go_simp; (try with_reducible rfl)
        (try simp only [Act.put, List.setIfInBounds_toArray, List.set_cons_zero, List.set_cons_succ])
        refine wpAnyH_take (i := 3) (oi := { dst := some 23, op := Op.fieldAddr 38 (Operand.tmp 6) 0, type := 0, pos := _, after := #[], guard := none }) (v := ?_) rfl (by kernel_rfl) (by kernel_rfl) (by kernel_rfl) (fun _ _ _ h => h) (Or.inl ⟨by rfl, ?hy⟩) hHeld ?_
        case hy => intro w0 hSw; (try dsimp only at hSw); go_simp; (try with_reducible rfl)
        (try simp only [Act.put, List.setIfInBounds_toArray, List.set_cons_zero, List.set_cons_succ])
        refine wpAnyH_take (i := 4) (oi := { dst := some 24, op := Op.load 26 (Operand.tmp 23), type := 26, pos := _, after := #[{ on := 3, ground := Ground.data }], guard := none }) (v := ?_) rfl (by kernel_rfl) (by kernel_rfl) (by kernel_rfl) (fun _ _ _ h => h) (Or.inl ⟨by rfl, ?hy⟩) hHeld ?_
        case hy => intro w0 hSw; have q3 := hSw.c0; have q4 := hSw.c1; (try dsimp only at q3 q4); go_simp; (try with_reducible rfl)
        (try simp only [Act.put, List.setIfInBounds_toArray, List.set_cons_zero, List.set_cons_succ])
        refine wpAnyH_take (i := 5) (oi := { dst := some 25, op := Op.move (Operand.tmp 0), type := 52, pos := _, after := #[], guard := none }) (v := ?_) rfl (by kernel_rfl) (by kernel_rfl) (by kernel_rfl) (fun _ _ _ h => h) (Or.inl ⟨by rfl, ?hy⟩) hHeld ?_
        case hy => intro w0 hSw; (try dsimp only at hSw); go_simp; (try with_reducible rfl)
        (try simp only [Act.put, List.setIfInBounds_toArray, List.set_cons_zero, List.set_cons_succ])
        refine wpAnyH_ready (rs := [6]) (by kernel_rfl) (by simp) ?_
        refine AllReadyH.cons (o := { dst := some 26, op := Op.call { callee := Callee.invoke (Operand.tmp 25) "watchman/due.told", args := #[], argTypes := #[] }, type := 38, pos := _, after := #[{ on := 5, ground := Ground.data }], guard := none }) rfl (fun K hK => ?_) AllReadyH.nil
        go_simp
        refine (gX _).mono ?_
        rintro e w5 ⟨rfl, hB'⟩
        replace ka := (by first | exact ka.below hB' | exact (ka.below (below_drew (Below.refl _ _) 1)).below hB')
        replace hB := below2 (by first | exact hB | exact below_drew hB 1) hB'
        clear hB' gX hmX
        go_wp2_with fail
        refine hK.out _ _ (by first | exact ka | exact ⟨ka.blk⟩) (fun hHeld => ?_)
        clear hK K
        (try simp only [Act.put, List.setIfInBounds_toArray, List.set_cons_zero, List.set_cons_succ])
        refine wpAnyH_take (i := 7) (oi := { dst := some 27, op := Op.field 38 (Operand.tmp 26) 1, type := 3, pos := _, after := #[{ on := 6, ground := Ground.data }], guard := none }) (v := ?_) rfl (by kernel_rfl) (by kernel_rfl) (by kernel_rfl) (fun _ _ _ h => h) (Or.inl ⟨by rfl, ?hy⟩) hHeld ?_
        case hy => intro w0 hSw; have hfp := dfield_ph X0 X1 X2 X3 X4 X5 w0; clear hSw; go_simp; (try with_reducible rfl)
        (try simp only [Act.put, List.setIfInBounds_toArray, List.set_cons_zero, List.set_cons_succ])
        refine wpAnyH_take (i := 8) (oi := { dst := some 28, op := Op.build 55 #[(0, Operand.tmp 22), (1, Operand.tmp 24), (2, Operand.tmp 27)], type := 55, pos := _, after := #[{ on := 2, ground := Ground.data }, { on := 4, ground := Ground.data }, { on := 7, ground := Ground.data }], guard := none }) (v := ?_) rfl (by kernel_rfl) (by kernel_rfl) (by kernel_rfl) (fun _ _ _ h => h) (Or.inl ⟨by rfl, ?hy⟩) hHeld ?_
        case hy => intro w0 hSw; (try dsimp only at hSw); go_simp; (try with_reducible rfl)
        (try simp only [Act.put, List.setIfInBounds_toArray, List.set_cons_zero, List.set_cons_succ])
        refine wpAnyH_ready (rs := [9]) (by kernel_rfl) (by simp) ?_
        refine AllReadyH.cons (o := { dst := some 29, op := Op.buildSlice 27 1 #[(0, Operand.tmp 28)], type := 27, pos := _, after := #[{ on := 8, ground := Ground.data }], guard := none }) rfl (fun K hK => ?_) AllReadyH.nil
        go_simp
        have hT := TrnsAt.oneD w5 ⟨y5, y0, y1, X2⟩ 55
        replace ka := ka.alloc (.cells #[.int .i64 y5, .int .i64 y0, .int .i64 y1, .int .i64 X2] 55)
        replace hB := below2 hB (below_new w5 (.cells #[.int .i64 y5, .int .i64 y0, .int .i64 y1, .int .i64 X2] 55))
        go_wp2_with fail
        refine hK.out _ _ (by first | exact ka | exact ⟨ka.blk⟩) (fun hHeld => ?_)
        clear hK K
        (try simp only [Act.put, List.setIfInBounds_toArray, List.set_cons_zero, List.set_cons_succ])
        refine wpAnyH_ready (rs := [10]) (by kernel_rfl) (by simp) ?_
        refine AllReadyH.cons (o := { dst := some 30, op := Op.call { callee := Callee.builtin Builtin.append, args := #[Operand.tmp 20, Operand.tmp 29], argTypes := #[27, 27] }, type := 27, pos := _, after := #[{ on := 0, ground := Ground.data }, { on := 9, ground := Ground.data }, { on := 6, ground := Ground.chain }], guard := none }) rfl (fun K hK => ?_) AllReadyH.nil
        rw [if_pos (by rfl)]
        have hOw := OwnT.below HO.out hB
        refine wp_append_trns _ _ 27 rfl Tryz.underlying27 w.heap.size u5 pre [⟨y5, y0, y1, X2⟩] rfl hOw ⟨w5.heap.size, 0, none⟩ 1 rfl hT (by have := HB.out.size; have := hB.size; omega) (by have := congrArg List.length HP.out; have := Hln.out; simp at *; omega) ?_
        intro v' w6 hown' hgrow
        replace ka := (by obtain ⟨tk, hk⟩ := ka.blk; exact ⟨tk, (hgrow.block _ (Array.getElem?_eq_some_iff.1 hk).1 (own_not6 hOw hk)).trans hk⟩ : Six w6 p3 ⟨y0, y1, y2, y3, y4, y5⟩)
        replace hB := Lib.hid (HB.out.trans ((below_mono hB HB.out.size).grown hgrow (by have := HB.out.size; have := hB.size; omega) (fun k hk => hOw.ge k hk)))
        refine hK.out _ _ (by first | exact ka | exact ⟨ka.blk⟩) (fun hHeld => ?_)
        clear hK K
        (try simp only [Act.put, List.setIfInBounds_toArray, List.set_cons_zero, List.set_cons_succ])
        refine wpAnyH_take (i := 11) (oi := { dst := some 5, op := Op.assign (Operand.tmp 30), type := 27, pos := _, after := #[{ on := 10, ground := Ground.data }, { on := 10, ground := Ground.chain }, { on := 0, ground := Ground.phase }, { on := 1, ground := Ground.phase }, { on := 2, ground := Ground.phase }, { on := 3, ground := Ground.phase }, { on := 4, ground := Ground.phase }, { on := 5, ground := Ground.phase }, { on := 6, ground := Ground.phase }, { on := 7, ground := Ground.phase }, { on := 8, ground := Ground.phase }, { on := 9, ground := Ground.phase }, { on := 10, ground := Ground.phase }], guard := none }) (v := ?_) rfl (by kernel_rfl) (by kernel_rfl) (by kernel_rfl) (fun _ _ _ h => h) (Or.inl ⟨by rfl, ?hy⟩) hHeld ?_
        case hy => intro w0 hSw; (try dsimp only at hSw); go_simp; (try with_reducible rfl)
        (try simp only [Act.put, List.setIfInBounds_toArray, List.set_cons_zero, List.set_cons_succ])
        refine wpAnyH_done (by kernel_rfl) ?_ _
        clear hHeld ka hT hOw hgrow
        have HO6 := Lib.hid hown'
        clear hown'
        go_wp2
        go_roundw
        case rel => exact ⟨⟨X0, X1, X2, X3, X4, X5⟩, pre ++ [⟨y5, y0, y1, X2⟩], rfl, Hry.out, by rw [← HP.out, Hs.out.1, List.append_assoc], HO6.out, hB.out⟩
        case measure => exact Hs.out.2
      · have d5 : (y5 ≤ t) = False := eq_false hu
        have He : Hid (pre = Du.turnsOf t x) := Lib.hid (by have := HP.out; rw [Du.till_end (fun h => hu h.2), List.append_nil] at this; exact this)
        rw [He.out] at HO
        have HO2 := Lib.hid (HO.out.below HB2.out)
        have HB3 := Lib.hid (below2 HB.out HB2.out)
        obtain ⟨A2, c2, e2, _⟩ := HO2.out.slice
        rw [← Hq.out] at e2
        subst e2
        clear HO He g2 g3 hm2 hm3 hu
        go_wp2
        go_ret
        exact ⟨_, _, rfl, HO2.out, HB3.out⟩
end Go.Proofs.YtplpadblhjdpcaaGreat
