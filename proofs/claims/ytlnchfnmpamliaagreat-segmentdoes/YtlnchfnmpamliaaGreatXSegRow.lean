/-
  Layer 14 (segment): a log under work: its row of files, of one's own, turned in place.
-/
import Derived.Test.YtlnchfnmpamliaaGreatXJb
import Derived.Deep.MidRow
import Derived.OwnWalk
namespace Go.Proofs.YtlnchfnmpamliaaGreat
set_option maxRecDepth 10000
open Go.RowKit

theorem set_three14 (A C : List Value) (y0 y1 y2 v0 v1 v2 : Value) : (((A ++ y0 :: y1 :: y2 :: C).set A.length v0).set (A.length + 1) v1).set (A.length + 1 + 1) v2 = A ++ v0 :: v1 :: v2 :: C := by
  induction A with
  | nil => rfl
  | cons a A ih => simp only [List.cons_append, List.length_cons, List.set_cons_succ]; rw [ih]
theorem setCells_fil (w : World) (g o : Nat) (x : Fil) : w.setCells g o (filV x).toList = ((w.setCell ⟨g, o, none⟩ (.int .i64 x.most)).setCell ⟨g, o + 1, none⟩ (.string x.kept)).setCell ⟨g, o + 1 + 1, none⟩ (.string x.loose) := rfl
theorem grown_cell14 (w : World) (g i : Nat) (v : Value) : w.grownBy (w.setCell ⟨g, i, none⟩ v) (some g) :=
  ⟨rfl, rfl, rfl, by simp [World.setCell], fun k _ hne => heap_setCell_other w ⟨g, i, none⟩ k v (fun e => hne (by rw [e]))⟩
theorem grown_two14 {a b c : World} {r : Option Nat} (h : a.grownBy b r) (k : b.grownBy c r) : a.grownBy c r := by
  obtain ⟨h1, h2, h3, h4, h5⟩ := h
  obtain ⟨k1, k2, k3, k4, k5⟩ := k
  exact ⟨k1.trans h1, k2.trans h2, k3.trans h3, Nat.le_trans h4 k4, fun i hi hne => (k5 i (Nat.lt_of_lt_of_le hi h4) hne).trans (h5 i hi hne)⟩
/-- One file of a row of one's own is another one. -/
theorem OwnF.put {w : World} {base g n cap : Nat} {pre post : List Fil} {y : Fil} (x : Fil) (h : OwnF w base (.slice (some ⟨g, 0, none⟩) n cap) (pre ++ y :: post)) :
    OwnF (w.setCells g (pre.length * 3) (filV x).toList) base (.slice (some ⟨g, 0, none⟩) n cap) (pre ++ x :: post) ∧ w.grownBy (w.setCells g (pre.length * 3) (filV x).toList) (some g) := by
  obtain ⟨h0, h1⟩ := h
  rcases h1 with ⟨e, _⟩ | ⟨g', cap', cur, e, hb, hg, hcap, hmax, hsz, ht⟩
  · cases e
  · injection e with e1 e2 e3
    injection e1 with e1
    injection e1 with e1
    subst e1 e3
    have hA : (flatF pre).length = pre.length * 3 := flatF_len pre
    rw [setCells_fil, ← hA]
    refine ⟨⟨?_, Or.inr ⟨g, cap, _, ?_, hb, heap_setCell_same _ _ _ _ _ _ (heap_setCell_same _ _ _ _ _ _ (heap_setCell_same _ _ _ _ _ _ hg)), ?_, hmax, ?_, ?_⟩⟩, ?_⟩
    · rw [flatF_len]
    · rw [e2]; simp
    · simpa using hcap
    · simpa using hsz
    · have el : (pre ++ x :: post).length = (pre ++ y :: post).length := by simp
      rw [el]
      rw [flatF_app, flatF_cons] at ht ⊢
      simp only [Array.toList_setIfInBounds, List.take_set, ht]
      exact set_three14 _ _ _ _ _ _ _ _
    · exact grown_two14 (grown_two14 (grown_cell14 _ _ _ _) (grown_cell14 _ _ _ _)) (grown_cell14 _ _ _ _)
/-- Its cells are there. -/
theorem OwnF.there {w : World} {base g n cap : Nat} {pre post : List Fil} {y : Fil} (h : OwnF w base (.slice (some ⟨g, 0, none⟩) n cap) (pre ++ y :: post)) : w.there g (pre.length * 3) 3 := fun j hj => by
  have h6 : (flatF (pre ++ y :: post))[pre.length * 3 + j]? ≠ none := by
    intro e
    rw [List.getElem?_eq_none_iff, flatF_len] at e
    simp at e
    omega
  obtain ⟨u, hu⟩ := Option.ne_none_iff_exists'.1 h6
  have hc := World.ownsRow.cells h (g := g) rfl _ _ hu
  rw [Go.WideShapes.add_plain, Nat.zero_add] at hc
  refine ⟨by rw [hc]; rfl, ?_⟩
  rcases h.2 with ⟨e, _⟩ | ⟨g', cap', cur, e, _, hg, _⟩
  · cases e
  · injection e with e1
    injection e1 with e1
    injection e1 with e1
    subst e1
    exact frozen_of_row w g _ _ _ hg
/-- A whole file is laid into a row of one's own. -/
theorem wpList_store_fil {ops : Array Oper} {rest : List Oper} {o : Oper} {a : Act} {w : World} {Q : Exit → Act → World → Prop} (hgd : o.guard = none) (x y : Operand) (ho : o.op = .store 47 x y)
    (base g n cap k : Nat) (pre post : List Fil) (z al : Fil) (hk : k = pre.length) (hx : a.eval x = .pointer (some ⟨g, k * 3, none⟩)) (hy : a.eval y = .agg (filV al)) (hO : OwnF w base (.slice (some ⟨g, 0, none⟩) n cap) (pre ++ z :: post))
    (h : ∀ w', OwnF w' base (.slice (some ⟨g, 0, none⟩) n cap) (pre ++ al :: post) → w.grownBy w' (some g) → wpList Tryz.prog ops Q rest (a.put o.dst undef) w') : wpList Tryz.prog ops Q (o :: rest) a w := by
  subst hk
  refine wpList_store_mid hgd 47 x y ho g (pre.length * 3) (filV al) hx hy hO.there (by rfl) (fil_one al) ?_
  have hp := hO.put al
  exact h _ hp.1 hp.2
/-- A beginning of a row of one's own. -/
theorem OwnF.take {w : World} {base n c : Nat} {A : Option Addr} {fs : List Fil} (h : OwnF w base (.slice A n c) fs) {k : Nat} (hk : k ≤ fs.length) (h0 : 0 < fs.length) : OwnF w base (.slice A k c) (fs.take k) := by
  obtain ⟨_, h1⟩ := h
  have hl : (fs.take k).length = k := by rw [List.length_take]; omega
  refine ⟨flatF_len _, ?_⟩
  rcases h1 with ⟨_, e⟩ | ⟨g, cap, cur, e, hb, hg, hcap, hmax, hsz, ht⟩
  · omega
  · injection e with e1 e2 e3
    refine Or.inr ⟨g, cap, cur, by rw [hl, e1, e3], hb, hg, by omega, hmax, hsz, ?_⟩
    rw [hl]
    have h2 : List.take (k * 3) (List.take (fs.length * 3) cur.toList) = List.take (k * 3) cur.toList := by
      rw [List.take_take, Nat.min_eq_left (by omega)]
    rw [← h2, ht]
    have h3 : fs = fs.take k ++ fs.drop k := (List.take_append_drop k fs).symm
    conv => lhs; rw [h3, flatF_app]
    have h4 : (flatF (fs.take k)).length = k * 3 := by rw [flatF_len, hl]
    rw [← h4]; exact List.take_left

/-- A log under work: none to hand back at p, the log at q, its files in a row of one's own. -/
structure XAt (r : Option Nat) (w0 w : World) (p q base : Nat) (sz fi : Int) (v : Value) (fs : List Fil) : Prop where
  res : ∃ t, w.heap[p]? = some (.cells #[.int .i64 0, .int .i64 0, .slice none 0 0] t (0, 0))
  cur : ∃ t, w.heap[q]? = some (.cells #[.int .i64 sz, .int .i64 fi, v] t (0, 0))
  ne : p ≠ q
  own : OwnF w base v fs
  ok : ∀ g, v.ownBlock = some g → (w0.heap.size ≤ g ∨ r = some g) ∧ g ≠ p ∧ g ≠ q
  hp : w0.heap.size ≤ p
  hq : w0.heap.size ≤ q
  fr : w0.grownBy w r
theorem below_grown14 {w w' : World} (h : Below w.heap.size w w') (r : Option Nat) : w.grownBy w' r := ⟨h.os, h.tape, h.output, h.size, fun k hk _ => h.block k hk⟩
theorem grown_below14 {w w' : World} (h : w.grownBy w' none) : Below w.heap.size w w' := by
  obtain ⟨h1, h2, h3, h4, h5⟩ := h
  exact ⟨h1, h2, h3, h4, fun k hk => h5 k hk (fun e => nomatch e)⟩
section
variable {r : Option Nat} {w0 w w' : World} {p q base : Nat} {sz fi : Int} {v : Value} {fs : List Fil}
theorem lt14 {w : World} {k : Nat} {cs : Array Value} (h : ∃ t, w.heap[k]? = some (.cells cs t (0, 0))) : k < w.heap.size := by
  obtain ⟨t, h⟩ := h; exact (Array.getElem?_eq_some_iff.1 h).1
theorem kept14 {w w' : World} {k : Nat} {cs : Array Value} {r : Option Nat} (h : ∃ t, w.heap[k]? = some (.cells cs t (0, 0))) (hg : w.grownBy w' r) (hr : some k ≠ r) : ∃ t, w'.heap[k]? = some (.cells cs t (0, 0)) := by
  obtain ⟨t, h⟩ := h; exact ⟨t, (hg.block k (Array.getElem?_eq_some_iff.1 h).1 hr).trans h⟩
theorem set14 {w : World} {k : Nat} {cs : Array Value} (h : ∃ t, w.heap[k]? = some (.cells cs t (0, 0))) (j : Nat) (u : Value) : ∃ t, (w.setCell ⟨k, j, none⟩ u).heap[k]? = some (.cells (cs.setIfInBounds j u) t (0, 0)) := by
  obtain ⟨t, h⟩ := h; exact ⟨t, heap_setCell_same w k j _ _ u h⟩
theorem cell14 {w : World} {k : Nat} {cs : Array Value} (h : ∃ t, w.heap[k]? = some (.cells cs t (0, 0))) (j : Nat) : w.cell? ⟨k, j, none⟩ = cs[j]? := by
  obtain ⟨t, h⟩ := h; simp only [World.cell?, h]; rfl
theorem free14 {w : World} {k : Nat} {cs : Array Value} (h : ∃ t, w.heap[k]? = some (.cells cs t (0, 0))) (j : Nat) : w.frozen? ⟨k, j, none⟩ = false := by
  obtain ⟨t, h⟩ := h; exact frozen_of_row w k j _ _ h
theorem XAt.on (h : XAt r w0 w p q base sz fi v fs) (hB : Below w.heap.size w w') : XAt r w0 w' p q base sz fi v fs :=
  ⟨kept14 h.res (below_grown14 hB none) (fun e => nomatch e), kept14 h.cur (below_grown14 hB none) (fun e => nomatch e), h.ne, h.own.below hB, h.ok, h.hp, h.hq, grown_two14 h.fr (below_grown14 hB r)⟩
theorem XAt.x0 (h : XAt r w0 w p q base sz fi v fs) : w.cell? ⟨q, 0, none⟩ = some (.int .i64 sz) := cell14 h.cur 0
theorem XAt.x1 (h : XAt r w0 w p q base sz fi v fs) : w.cell? ⟨q, 1, none⟩ = some (.int .i64 fi) := cell14 h.cur 1
theorem XAt.x2 (h : XAt r w0 w p q base sz fi v fs) : w.cell? ⟨q, 2, none⟩ = some v := cell14 h.cur 2
theorem XAt.xf (h : XAt r w0 w p q base sz fi v fs) (j : Nat) : w.frozen? ⟨q, j, none⟩ = false := free14 h.cur j
theorem XAt.r0 (h : XAt r w0 w p q base sz fi v fs) : w.cell? ⟨p, 0, none⟩ = some (.int .i64 0) := cell14 h.res 0
theorem XAt.r1 (h : XAt r w0 w p q base sz fi v fs) : w.cell? ⟨p, 1, none⟩ = some (.int .i64 0) := cell14 h.res 1
theorem XAt.r2 (h : XAt r w0 w p q base sz fi v fs) : w.cell? ⟨p, 2, none⟩ = some (.slice none 0 0) := cell14 h.res 2
theorem XAt.rf (h : XAt r w0 w p q base sz fi v fs) (j : Nat) : w.frozen? ⟨p, j, none⟩ = false := free14 h.res j
theorem XAt.notP (h : XAt r w0 w p q base sz fi v fs) : some p ≠ v.ownBlock := fun e => (h.ok p e.symm).2.1 rfl
theorem XAt.notQ (h : XAt r w0 w p q base sz fi v fs) : some q ≠ v.ownBlock := fun e => (h.ok q e.symm).2.2 rfl
/-- The frame, where the row's own block is written. -/
theorem XAt.frame (h : XAt r w0 w p q base sz fi v fs) (hg : w.grownBy w' v.ownBlock) : w0.grownBy w' r := by
  obtain ⟨f1, f2, f3, f4, f5⟩ := h.fr
  obtain ⟨g1, g2, g3, g4, g5⟩ := hg
  refine ⟨g1.trans f1, g2.trans f2, g3.trans f3, Nat.le_trans f4 g4, fun i hi hne => (g5 i (Nat.lt_of_lt_of_le hi f4) ?_).trans (f5 i hi hne)⟩
  intro e
  rcases (h.ok i e.symm).1 with h1 | h1
  · omega
  · exact hne h1.symm
/-- The row is turned in place. -/
theorem XAt.turn (h : XAt r w0 w p q base sz fi v fs) {fs' : List Fil} (hg : w.grownBy w' v.ownBlock) (ho : OwnF w' base v fs') : XAt r w0 w' p q base sz fi v fs' :=
  ⟨kept14 h.res hg h.notP, kept14 h.cur hg h.notQ, h.ne, ho, h.ok, h.hp, h.hq, h.frame hg⟩
theorem own_setcell14 {w : World} {base : Nat} {v : Value} {fs : List Fil} {k : Nat} (h : OwnF w base v fs) (hk : some k ≠ v.ownBlock) (j : Nat) (u : Value) : OwnF (w.setCell ⟨k, j, none⟩ u) base v fs :=
  World.ownsRow.kept (row := some k) h (grown_cell14 w k j u) (Or.inr (fun e => hk e.symm))
/-- A cell of the log is another one. -/
theorem XAt.setX (h : XAt r w0 w p q base sz fi v fs) (j : Nat) (u : Value) {sz' fi' : Int} {v' : Value} {fs' : List Fil} (hc : (#[.int .i64 sz, .int .i64 fi, v] : Array Value).setIfInBounds j u = #[.int .i64 sz', .int .i64 fi', v']) (ho : OwnF w base v' fs') (hv : v'.ownBlock = v.ownBlock) :
    XAt r w0 (w.setCell ⟨q, j, none⟩ u) p q base sz' fi' v' fs' := by
  refine ⟨kept14 h.res (grown_cell14 w q j u) (fun e => h.ne (Option.some.inj e)), by have := set14 h.cur j u; rw [hc] at this; exact this, h.ne, own_setcell14 ho (by rw [hv]; exact h.notQ) j u, by rw [hv]; exact h.ok, h.hp, h.hq, ?_⟩
  have h2 := h.fr
  refine ⟨h2.os, h2.tape, h2.output, by simp [World.setCell]; exact h2.size, fun i hi hne => ?_⟩
  rw [heap_setCell_other w ⟨q, j, none⟩ i u (fun e => by have : i = q := e; have := h.hq; omega)]
  exact h2.block i hi hne
/-- Another row is laid into the log. -/
theorem XAt.slide (h : XAt r w0 w p q base sz fi v fs) {fs' : List Fil} {v' : Value} (hg : w.grownBy w' v.ownBlock) (ho : OwnF w' base v' fs') (hv : ∀ g, v'.ownBlock = some g → v.ownBlock = some g ∨ w.heap.size ≤ g) :
    w'.cell? ⟨q, 2, none⟩ = some v ∧ w'.frozen? ⟨q, 2, none⟩ = false ∧ XAt r w0 (w'.setCell ⟨q, 2, none⟩ v') p q base sz fi v' fs' := by
  have hc := kept14 h.cur hg h.notQ
  have hr := kept14 h.res hg h.notP
  have hlq := lt14 h.cur
  have hlp := lt14 h.res
  have hok : ∀ g, v'.ownBlock = some g → (w0.heap.size ≤ g ∨ r = some g) ∧ g ≠ p ∧ g ≠ q := by
    intro g e
    rcases hv g e with h1 | h1
    · exact h.ok g h1
    · exact ⟨Or.inl (Nat.le_trans h.fr.size h1), by omega, by omega⟩
  refine ⟨cell14 hc 2, free14 hc 2, ⟨kept14 hr (grown_cell14 w' q 2 v') (fun e => h.ne (Option.some.inj e)), set14 hc 2 v', h.ne, own_setcell14 ho (fun e => (hok q e.symm).2.2 rfl) 2 v', hok, h.hp, h.hq, ?_⟩⟩
  have h2 := h.frame hg
  refine ⟨h2.os, h2.tape, h2.output, by simp [World.setCell]; exact h2.size, fun i hi hne => ?_⟩
  rw [heap_setCell_other w' ⟨q, 2, none⟩ i v' (fun e => by have : i = q := e; have := h.hq; omega)]
  exact h2.block i hi hne
/-- How it ends: the log is laid where it is handed back. -/
theorem XAt.done (h : XAt r w0 w p q base sz fi v fs) (a b c : Value) {v' : Value} {fs' : List Fil} (ho : OwnF w base v' fs') (hv : v'.ownBlock = v.ownBlock) :
    OwnF (((w.setCell ⟨p, 0, none⟩ a).setCell ⟨p, 1, none⟩ b).setCell ⟨p, 2, none⟩ c) base v' fs' ∧ w0.grownBy (((w.setCell ⟨p, 0, none⟩ a).setCell ⟨p, 1, none⟩ b).setCell ⟨p, 2, none⟩ c) r := by
  have hnp : some p ≠ v'.ownBlock := by rw [hv]; exact h.notP
  refine ⟨own_setcell14 (own_setcell14 (own_setcell14 ho hnp 0 _) hnp 1 _) hnp 2 _, ?_⟩
  obtain ⟨f1, f2, f3, f4, f5⟩ := h.fr
  refine ⟨f1, f2, f3, by simp [World.setCell]; exact f4, fun i hi hne => ?_⟩
  have hip : i ≠ p := by have := h.hp; omega
  rw [heap_setCell_other _ ⟨p, 2, none⟩ i _ hip, heap_setCell_other _ ⟨p, 1, none⟩ i _ hip, heap_setCell_other _ ⟨p, 0, none⟩ i _ hip]
  exact f5 i hi hne
end
/-- How a function ends that hands back a log from a cell, and a number. -/
theorem ret_segs {fn : Func} {p u : Tmp} {k : Nat} {a b : Int} {v : Value} {tmps : Array Value} {w : World} (h : fn.results = #[.cell p 24, .tmp u]) (hp : tmps.getD p undef = .pointer (some ⟨k, 0, none⟩)) (hb : w.heap[k]? = some (.cells #[.int .i64 a, .int .i64 b, v] 24 (0, 0))) :
    (results fn tmps).run Tryz.prog w = .ok (.tuple #[.agg #[.int .i64 a, .int .i64 b, v], tmps.getD u undef]) w := by
  rw [results_cell_tmp h, hp]
  have hl := run_loadVar_row (P := Tryz.prog) w k _ 24 #[.int .i64 a, .int .i64 b, v] (0, 0) _ hb Tryz.underlying24 rfl (by rfl)
  simp [asAddr, Result.andThen, hl]
theorem ret_segs1 {fn : Func} {p : Tmp} {k : Nat} {a b : Int} {v : Value} {tmps : Array Value} {w : World} (h : fn.results = #[.cell p 24]) (hp : tmps.getD p undef = .pointer (some ⟨k, 0, none⟩)) (hb : w.heap[k]? = some (.cells #[.int .i64 a, .int .i64 b, v] 24 (0, 0))) :
    (results fn tmps).run Tryz.prog w = .ok (.agg #[.int .i64 a, .int .i64 b, v]) w :=
  results_cell_row h tmps w k _ _ (0, 0) _ hp hb Tryz.underlying24 rfl (by rfl)
end Go.Proofs.YtlnchfnmpamliaaGreat
