/-
  What is known of the memory along a walk, in one word: blocks of one's own and what they hold, facts that last while nothing that is there is turned, and what was there at the start.
-/
import Derived.Test.YteepemibmjpnfaaAid
import Derived.Laws.Rows
import Derived.Laws.Tables
import Derived.Deep.WholeRow
import Derived.Laws.IdiomCopy
namespace Go.Proofs.Yteepemibmjpnfaa
set_option maxRecDepth 10000
open Go.RowKit

/-- A fact that stays true as long as nothing that is there is turned. -/
def Lasts (P : World → Prop) : Prop := ∀ w w', P w → Below w.heap.size w w' → P w'
structure Fact where
  on : World → Prop
  lasts : Lasts on
/-- From w0 we have come to w: the blocks L hold these cells, the facts M hold. -/
structure St (w0 w : World) (L : List (Nat × Array Value)) (M : List Fact) : Prop where
  live : ∀ x ∈ L, ∃ t, w.heap[x.1]? = some (.cells x.2 t (0, 0))
  facts : ∀ P ∈ M, P.on w
  below : Below w0.heap.size w0 w
theorem St.start (w : World) : St w w [] [] := ⟨(fun _ h => nomatch h), (fun _ h => nomatch h), Below.refl _ _⟩
theorem St.on {w0 w w' : World} {L : List (Nat × Array Value)} {M : List Fact} (h : St w0 w L M) (hb : Below w.heap.size w w') : St w0 w' L M :=
  ⟨fun x hx => by
    obtain ⟨t, ht⟩ := h.live x hx
    exact ⟨t, (hb.block x.1 (Array.getElem?_eq_some_iff.1 ht).1).trans ht⟩, fun P hP => P.lasts _ _ (h.facts P hP) hb, below2 h.below hb⟩
theorem St.drew {w0 w : World} {L : List (Nat × Array Value)} {M : List Fact} (h : St w0 w L M) : St w0 w.drew L M := h.on (below_drew (Below.refl _ _) 1)
theorem St.drewN {w0 w : World} {L : List (Nat × Array Value)} {M : List Fact} (h : St w0 w L M) (n : Nat) : St w0 (w.drewN n) L M := h.on (below_drew (Below.refl _ _) n)
theorem St.new {w0 w : World} {L : List (Nat × Array Value)} {M : List Fact} (h : St w0 w L M) (cs : Array Value) (t : TypeId) : St w0 (w.alloc (.cells cs t)) ((w.heap.size, cs) :: L) M := by
  have h' := h.on (below_new w (.cells cs t))
  refine ⟨fun x hx => ?_, h'.facts, h'.below⟩
  rcases List.mem_cons.1 hx with rfl | hx
  · exact ⟨t, heap_alloc_new _ _⟩
  · exact h'.live x hx
theorem St.more {w0 w : World} {L : List (Nat × Array Value)} {M : List Fact} (h : St w0 w L M) (P : Fact) (hP : P.on w) : St w0 w L (P :: M) :=
  ⟨h.live, fun Q hQ => by
    rcases List.mem_cons.1 hQ with rfl | hQ
    · exact hP
    · exact h.facts Q hQ, h.below⟩
theorem St.add {w0 w : World} {L : List (Nat × Array Value)} {M : List Fact} (h : St w0 w L M) {k : Nat} {cs : Array Value} (hk : ∃ t, w.heap[k]? = some (.cells cs t (0, 0))) : St w0 w ((k, cs) :: L) M :=
  ⟨fun x hx => by
    rcases List.mem_cons.1 hx with rfl | hx
    · exact hk
    · exact h.live x hx, h.facts, h.below⟩
theorem below_setCell {B : Nat} {w w' : World} (h : Below B w w') {k : Nat} (hk : B ≤ k) (j : Nat) (v : Value) : Below B w (w'.setCell ⟨k, j, none⟩ v) :=
  ⟨h.os, h.tape, h.output, by simp [World.setCell]; exact h.size, fun i hi => (heap_setCell_other w' ⟨k, j, none⟩ i v (fun e => by have : i = k := e; omega)).trans (h.block i hi)⟩
/-- One cell of the block that came last is another one. -/
theorem St.cellSet {w0 w w' : World} {L : List (Nat × Array Value)} {M : List Fact} (h : St w0 w L M) {k : Nat} {cs : Array Value} (hS : St w0 w' ((k, cs) :: L) M) (hb : Below w.heap.size w w') (hk : w.heap.size ≤ k) (j : Nat) (v : Value) :
    St w0 (w'.setCell ⟨k, j, none⟩ v) ((k, cs.setIfInBounds j v) :: L) M := by
  obtain ⟨t, ht⟩ := hS.live (k, cs) (by simp)
  exact (h.on (below_setCell hb hk j v)).add ⟨t, heap_setCell_same w' k j cs t v ht⟩
/-- The i-th fact. -/
theorem St.fact {w0 w : World} {L : List (Nat × Array Value)} {M : List Fact} (h : St w0 w L M) (i : Nat) {P : Fact} (hi : M[i]? = some P) : P.on w := h.facts P (List.mem_of_getElem? hi)
/-- A cell of the i-th block. -/
theorem St.cell {w0 w : World} {L : List (Nat × Array Value)} {M : List Fact} (h : St w0 w L M) (i : Nat) {k : Nat} {cs : Array Value} (hi : L[i]? = some (k, cs)) (j : Nat) {v : Value} (hj : cs[j]? = some v) : w.cell? ⟨k, j, none⟩ = some v := by
  obtain ⟨t, ht⟩ := h.live (k, cs) (List.mem_of_getElem? hi)
  simp only [World.cell?, ht]
  exact hj
theorem St.free {w0 w : World} {L : List (Nat × Array Value)} {M : List Fact} (h : St w0 w L M) (i : Nat) {k : Nat} {cs : Array Value} (hi : L[i]? = some (k, cs)) (j : Nat) : w.frozen? ⟨k, j, none⟩ = false := by
  obtain ⟨t, ht⟩ := h.live (k, cs) (List.mem_of_getElem? hi)
  exact frozen_of_row w k j _ _ ht
/-- A whole block is read. -/
theorem wpList_load_st {P : Program} {ops : Array Oper} {rest : List Oper} {o : Oper} {a : Act} {w : World} {Q : Exit → Act → World → Prop} (hgd : o.guard = none) (ty : TypeId) (x : Operand) (ho : o.op = .load ty x)
    {w0 : World} {L : List (Nat × Array Value)} {M : List Fact} (hS : St w0 w L M) (i k : Nat) (cs : Array Value) (hi : L[i]? = some (k, cs)) (hx : a.eval x = .pointer (some ⟨k, 0, none⟩)) (d : TypeDesc)
    (hu : P.underlying ty = some d) (hd : (match d with | .struct _ | .array _ _ => true | _ => false) = true) (hz : (P.info? ty).map (·.size) = some cs.size)
    (h : wpList P ops Q rest (a.put o.dst (.agg cs)) w) : wpList P ops Q (o :: rest) a w := by
  obtain ⟨t, ht⟩ := hS.live (k, cs) (List.mem_of_getElem? hi)
  exact wpList_load_row hgd ty x ho k hx t cs (0, 0) d ht hu hd hz h
/-- A whole new block is written. -/
theorem wpList_store_st {P : Program} {ops : Array Oper} {rest : List Oper} {o : Oper} {a : Act} {w : World} {Q : Exit → Act → World → Prop} (hgd : o.guard = none) (ty : TypeId) (x y : Operand) (ho : o.op = .store ty x y)
    {w0 : World} {L : List (Nat × Array Value)} {M : List Fact} (hS : St w0 w L M) (z cs : Array Value) (t : TypeId) (hx : a.eval x = .pointer (some ⟨w.heap.size, 0, none⟩)) (hy : a.eval y = .agg cs)
    (hz : (P.info? ty).map (·.size) = some z.size) (hsz : cs.size = z.size) (h1 : cs.all (·.oneCell') = true)
    (h : ∀ p w', p = w.heap.size → St w0 w' ((p, cs) :: L) M → Below w.heap.size w w' → wpList P ops Q rest (a.put o.dst undef) w') : wpList P ops Q (o :: rest) a (w.alloc (.cells z t)) := by
  refine wpList_store_row hgd ty x y ho w.heap.size cs hx hy t z (heap_alloc_new _ _) (by rw [hz, hsz]) (by rw [hsz]) h1 ?_
  have hb : Below w.heap.size w ((w.alloc (.cells z t)).setRow w.heap.size cs) := below_setRow (below_new w _) (Nat.le_refl _) cs
  refine h w.heap.size _ rfl ?_ hb
  have h' := hS.on hb
  refine ⟨fun u hu => ?_, h'.facts, h'.below⟩
  rcases List.mem_cons.1 hu with rfl | hu
  · exact ⟨t, setRow_heap _ _ _ _ _ _ (heap_alloc_new w (.cells z t))⟩
  · exact h'.live u hu

theorem run_storeVar_cell {P : Program} (w : World) (b j : Nat) (ty : TypeId) (v : Value) (hc : (w.cell? ⟨b, j, none⟩).isSome = true) (hf : w.frozen? ⟨b, j, none⟩ = false) (hi : (P.info? ty).map (·.size) = some 1) (h1 : v.oneCell' = true) :
    (storeVar ty ⟨b, j, none⟩ v).run P w = .ok () (w.setCell ⟨b, j, none⟩ v) := by
  have := run_storeCells_cells (P := P) b j [v] 0 w (fun i hi => by obtain rfl : i = 0 := (by simpa using hi); exact hc) (fun i hi => by obtain rfl : i = 0 := (by simpa using hi); exact hf) (fun x hx => by simp at hx; subst hx; exact h1)
  have hcs : v.cells = #[v] := by cases v <;> first | rfl | cases h1
  cases hq : P.info? ty with
  | none => simp [hq] at hi
  | some i =>
    have hs : i.size = 1 := by simpa [hq] using hi
    simp only [Nat.add_zero] at this
    simp [storeVar, sizeOf, typeInfo, hq, hcs, hs, this, World.setCells]
/-- One cell of the block that came last is written. -/
theorem wpList_storec_st {P : Program} {ops : Array Oper} {rest : List Oper} {o : Oper} {a : Act} {w u : World} {Q : Exit → Act → World → Prop} (hgd : o.guard = none) (ty : TypeId) (x y : Operand) (ho : o.op = .store ty x y)
    {w0 : World} {k : Nat} {cs : Array Value} {L : List (Nat × Array Value)} {M : List Fact} (h0 : St w0 u L M) (hS : St w0 w ((k, cs) :: L) M) (hb : Below u.heap.size u w) (hk : u.heap.size ≤ k) (j : Nat) (v old : Value) (hx : a.eval x = .pointer (some ⟨k, j, none⟩)) (hy : a.eval y = v)
    (hj : cs[j]? = some old) (hi : (P.info? ty).map (·.size) = some 1) (h1 : v.oneCell' = true)
    (h : ∀ w', St w0 w' ((k, cs.setIfInBounds j v) :: L) M → Below u.heap.size u w' → wpList P ops Q rest (a.put o.dst undef) w') : wpList P ops Q (o :: rest) a w := by
  refine wpList_plain hgd fun K hK => ?_
  have hc := hS.cell 0 rfl j hj
  have hf := hS.free 0 rfl j
  unfold Oper.wp execOp
  simp only [ho, hx, hy, Instr.storeAt, Instr.sureAddr, Sem.run_bind, Sem.run_pure, Result.andThen_ok, run_storeVar_cell w k j ty v (by rw [hc]; rfl) hf hi h1]
  exact hK _ _ (h _ (h0.cellSet hS hb hk j v) (below_setCell hb hk j v))
/-- Parameters in blocks of their own. -/
theorem St.box2 {w0 w : World} {L : List (Nat × Array Value)} {M : List Fact} (h : St w0 w L M) (c1 c2 : Array Value) (t1 t2 : TypeId) : St w0 ((w.alloc (.cells c1 t1)).alloc (.cells c2 t2)) ((w.heap.size + 1, c2) :: (w.heap.size, c1) :: L) M := by
  have k := (h.new c1 t1).new c2 t2
  rw [show (w.alloc (.cells c1 t1)).heap.size = w.heap.size + 1 by simp] at k
  exact k
theorem St.box3 {w0 w : World} {L : List (Nat × Array Value)} {M : List Fact} (h : St w0 w L M) (c1 c2 c3 : Array Value) (t1 t2 t3 : TypeId) : St w0 (((w.alloc (.cells c1 t1)).alloc (.cells c2 t2)).alloc (.cells c3 t3)) ((w.heap.size + 1 + 1, c3) :: (w.heap.size + 1, c2) :: (w.heap.size, c1) :: L) M := by
  have k := (h.box2 c1 c2 t1 t2).new c3 t3
  rw [show ((w.alloc (.cells c1 t1)).alloc (.cells c2 t2)).heap.size = w.heap.size + 1 + 1 by simp] at k
  exact k
end Go.Proofs.Yteepemibmjpnfaa
