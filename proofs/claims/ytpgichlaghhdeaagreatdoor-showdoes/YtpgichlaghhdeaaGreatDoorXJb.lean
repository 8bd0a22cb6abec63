/-
  Layer 6 (alarm): an alarm in a block of memory.
  What is known of the memory along a walk, in one word: blocks of one's own and what they hold, facts that last while nothing that is there is turned, and what was there at the start.
  Rows of windows in memory.
  Windows that are told; one window, two, in a new block.
  Rows of alarms in memory.
  Layer 8 (board): boards in memory.
  Rows of numbers of one's own.
  Words for walks over boards.
  Words for walks over boards: a board and an alarm handed back out of their blocks; a block written whole.
  More words on what is known of the memory along a walk.
  Blocks written while rows of one's own stand.
  Layer 6 (alarm): a whole alarm is laid into a block, and read out of one.
  An alarm is handed back, or read.
  Small words for memory, of no program: a slice of texts that came in.
-/
import Derived.Test.YtpgichlaghhdeaaGreatDoorXJa
import Derived.Laws.Rows
import Derived.Laws.Tables
import Derived.Deep.WholeRow
import Derived.Laws.IdiomCopy
import Derived.Test.YtpgichlaghhdeaaGreatDoorChecked
import Derived.Laws.AppendOwnNone
import Derived.Lib.OwnBridge
import Derived.Lib.Hide
import Derived.Laws.ResultCell
import Derived.BigQuiet
import Derived.Deep.QuietTactic
import Derived.StillTailTactics
import Derived.Deep.Strs
namespace Go.Proofs.YtpgichlaghhdeaaGreatDoor
set_option maxRecDepth 10000
open Go.RowKit

/-- An alarm's cells. -/
def sixV (a : Alm) : Array Value := #[.int .i64 a.b, .int .i64 a.c, .int .i64 a.ph, .int .i64 a.pr, .int .i64 a.si, .int .i64 a.un]
theorem six_one (a : Alm) : (sixV a).all (·.oneCell') = true := by simp [sixV, Value.oneCell']
/-- An alarm lies in the block k. -/
structure Six (w : World) (k : Nat) (a : Alm) : Prop where
  blk : ∃ t, w.heap[k]? = some (.cells (sixV a) t (0, 0))
theorem Six.lt {w : World} {k : Nat} {a : Alm} (h : Six w k a) : k < w.heap.size := by obtain ⟨t, h⟩ := h.blk; exact (Array.getElem?_eq_some_iff.1 h).1
theorem Six.c0 {w : World} {k : Nat} {a : Alm} (h : Six w k a) : w.cell? ⟨k, 0, none⟩ = some (.int .i64 a.b) := by obtain ⟨t, hb⟩ := h.blk; simp only [World.cell?, hb]; rfl
theorem Six.c1 {w : World} {k : Nat} {a : Alm} (h : Six w k a) : w.cell? ⟨k, 1, none⟩ = some (.int .i64 a.c) := by obtain ⟨t, hb⟩ := h.blk; simp only [World.cell?, hb]; rfl
theorem Six.c2 {w : World} {k : Nat} {a : Alm} (h : Six w k a) : w.cell? ⟨k, 2, none⟩ = some (.int .i64 a.ph) := by obtain ⟨t, hb⟩ := h.blk; simp only [World.cell?, hb]; rfl
theorem Six.c3 {w : World} {k : Nat} {a : Alm} (h : Six w k a) : w.cell? ⟨k, 3, none⟩ = some (.int .i64 a.pr) := by obtain ⟨t, hb⟩ := h.blk; simp only [World.cell?, hb]; rfl
theorem Six.c4 {w : World} {k : Nat} {a : Alm} (h : Six w k a) : w.cell? ⟨k, 4, none⟩ = some (.int .i64 a.si) := by obtain ⟨t, hb⟩ := h.blk; simp only [World.cell?, hb]; rfl
theorem Six.c5 {w : World} {k : Nat} {a : Alm} (h : Six w k a) : w.cell? ⟨k, 5, none⟩ = some (.int .i64 a.un) := by obtain ⟨t, hb⟩ := h.blk; simp only [World.cell?, hb]; rfl
theorem Six.f {w : World} {k : Nat} {a : Alm} (h : Six w k a) (j : Nat) : w.frozen? ⟨k, j, none⟩ = false := by obtain ⟨t, hb⟩ := h.blk; exact frozen_of_row w k j _ _ hb
theorem Six.new (w : World) (b c ph pr si un : Int) (t : TypeId) : Six (w.alloc (.cells #[.int .i64 b, .int .i64 c, .int .i64 ph, .int .i64 pr, .int .i64 si, .int .i64 un] t)) w.heap.size ⟨b, c, ph, pr, si, un⟩ := ⟨t, heap_alloc_new _ _⟩
theorem Six.new1 (w : World) (o : Obj) (b c ph pr si un : Int) (t : TypeId) : Six ((w.alloc o).alloc (.cells #[.int .i64 b, .int .i64 c, .int .i64 ph, .int .i64 pr, .int .i64 si, .int .i64 un] t)) (w.heap.size + 1) ⟨b, c, ph, pr, si, un⟩ := ⟨t, heap_alloc2_new _ _ _⟩
theorem Six.below {w w' : World} {k : Nat} {a : Alm} (h : Six w k a) (hB : Below w.heap.size w w') : Six w' k a := by
  obtain ⟨t, hb⟩ := h.blk
  exact ⟨t, (hB.block k h.lt).trans hb⟩
theorem Six.alloc {w : World} {k : Nat} {a : Alm} (h : Six w k a) (o : Obj) : Six (w.alloc o) k a := h.below (below_new w o)
theorem Six.other {w : World} {k g j : Nat} {a : Alm} {v : Value} (h : Six w k a) (hne : k ≠ g) : Six (w.setCell ⟨g, j, none⟩ v) k a := by
  obtain ⟨t, hb⟩ := h.blk
  exact ⟨t, (heap_setCell_other w ⟨g, j, none⟩ k v hne).trans hb⟩
theorem Six.sph {w : World} {k : Nat} {a : Alm} (h : Six w k a) (x : Int) : Six (w.setCell ⟨k, 2, none⟩ (.int .i64 x)) k ⟨a.b, a.c, x, a.pr, a.si, a.un⟩ := by obtain ⟨t, hb⟩ := h.blk; exact ⟨t, heap_setCell_same w k 2 _ _ _ hb⟩
theorem Six.spr {w : World} {k : Nat} {a : Alm} (h : Six w k a) (x : Int) : Six (w.setCell ⟨k, 3, none⟩ (.int .i64 x)) k ⟨a.b, a.c, a.ph, x, a.si, a.un⟩ := by obtain ⟨t, hb⟩ := h.blk; exact ⟨t, heap_setCell_same w k 3 _ _ _ hb⟩
theorem Six.ssi {w : World} {k : Nat} {a : Alm} (h : Six w k a) (x : Int) : Six (w.setCell ⟨k, 4, none⟩ (.int .i64 x)) k ⟨a.b, a.c, a.ph, a.pr, x, a.un⟩ := by obtain ⟨t, hb⟩ := h.blk; exact ⟨t, heap_setCell_same w k 4 _ _ _ hb⟩
theorem Six.sun {w : World} {k : Nat} {a : Alm} (h : Six w k a) (x : Int) : Six (w.setCell ⟨k, 5, none⟩ (.int .i64 x)) k ⟨a.b, a.c, a.ph, a.pr, a.si, x⟩ := by obtain ⟨t, hb⟩ := h.blk; exact ⟨t, heap_setCell_same w k 5 _ _ _ hb⟩
end Go.Proofs.YtpgichlaghhdeaaGreatDoor

namespace Go.Proofs.YtpgichlaghhdeaaGreatDoor
set_option maxRecDepth 10000
open Go.RowKit

/-- A fact that stays true as long as nothing that is there is turned. -/
def Lasts (P : World → Prop) : Prop := ∀ w w', P w → Below w.heap.size w w' → P w'
structure Fact where
  on : World → Prop
  lasts : Lasts on
/-- From w0 we have come to w: the blocks L hold these cells, the facts M hold. -/
structure St (w0 w : World) (L : List (Nat × Array Value)) (M : List Fact) : Prop where
  live : ∀ x ∈ L, ∃ t, w.heap[x.1]? = some (.cells x.2 t (0, 0))
  facts : ∀ P ∈ M, P.on w
  below : Below w0.heap.size w0 w
theorem St.start (w : World) : St w w [] [] := ⟨(fun _ h => nomatch h), (fun _ h => nomatch h), Below.refl _ _⟩
theorem St.on {w0 w w' : World} {L : List (Nat × Array Value)} {M : List Fact} (h : St w0 w L M) (hb : Below w.heap.size w w') : St w0 w' L M :=
  ⟨fun x hx => by
    obtain ⟨t, ht⟩ := h.live x hx
    exact ⟨t, (hb.block x.1 (Array.getElem?_eq_some_iff.1 ht).1).trans ht⟩, fun P hP => P.lasts _ _ (h.facts P hP) hb, below2 h.below hb⟩
theorem St.drew {w0 w : World} {L : List (Nat × Array Value)} {M : List Fact} (h : St w0 w L M) : St w0 w.drew L M := h.on (below_drew (Below.refl _ _) 1)
theorem St.drewN {w0 w : World} {L : List (Nat × Array Value)} {M : List Fact} (h : St w0 w L M) (n : Nat) : St w0 (w.drewN n) L M := h.on (below_drew (Below.refl _ _) n)
theorem St.new {w0 w : World} {L : List (Nat × Array Value)} {M : List Fact} (h : St w0 w L M) (cs : Array Value) (t : TypeId) : St w0 (w.alloc (.cells cs t)) ((w.heap.size, cs) :: L) M := by
  have h' := h.on (below_new w (.cells cs t))
  refine ⟨fun x hx => ?_, h'.facts, h'.below⟩
  rcases List.mem_cons.1 hx with rfl | hx
  · exact ⟨t, heap_alloc_new _ _⟩
  · exact h'.live x hx
theorem St.more {w0 w : World} {L : List (Nat × Array Value)} {M : List Fact} (h : St w0 w L M) (P : Fact) (hP : P.on w) : St w0 w L (P :: M) :=
  ⟨h.live, fun Q hQ => by
    rcases List.mem_cons.1 hQ with rfl | hQ
    · exact hP
    · exact h.facts Q hQ, h.below⟩
theorem St.add {w0 w : World} {L : List (Nat × Array Value)} {M : List Fact} (h : St w0 w L M) {k : Nat} {cs : Array Value} (hk : ∃ t, w.heap[k]? = some (.cells cs t (0, 0))) : St w0 w ((k, cs) :: L) M :=
  ⟨fun x hx => by
    rcases List.mem_cons.1 hx with rfl | hx
    · exact hk
    · exact h.live x hx, h.facts, h.below⟩
theorem below_setCell {B : Nat} {w w' : World} (h : Below B w w') {k : Nat} (hk : B ≤ k) (j : Nat) (v : Value) : Below B w (w'.setCell ⟨k, j, none⟩ v) :=
  ⟨h.os, h.tape, h.output, by simp [World.setCell]; exact h.size, fun i hi => (heap_setCell_other w' ⟨k, j, none⟩ i v (fun e => by have : i = k := e; omega)).trans (h.block i hi)⟩
/-- One cell of the block that came last is another one. -/
theorem St.cellSet {w0 w w' : World} {L : List (Nat × Array Value)} {M : List Fact} (h : St w0 w L M) {k : Nat} {cs : Array Value} (hS : St w0 w' ((k, cs) :: L) M) (hb : Below w.heap.size w w') (hk : w.heap.size ≤ k) (j : Nat) (v : Value) :
    St w0 (w'.setCell ⟨k, j, none⟩ v) ((k, cs.setIfInBounds j v) :: L) M := by
  obtain ⟨t, ht⟩ := hS.live (k, cs) (by simp)
  exact (h.on (below_setCell hb hk j v)).add ⟨t, heap_setCell_same w' k j cs t v ht⟩
/-- The i-th fact. -/
theorem St.fact {w0 w : World} {L : List (Nat × Array Value)} {M : List Fact} (h : St w0 w L M) (i : Nat) {P : Fact} (hi : M[i]? = some P) : P.on w := h.facts P (List.mem_of_getElem? hi)
/-- A cell of the i-th block. -/
theorem St.cell {w0 w : World} {L : List (Nat × Array Value)} {M : List Fact} (h : St w0 w L M) (i : Nat) {k : Nat} {cs : Array Value} (hi : L[i]? = some (k, cs)) (j : Nat) {v : Value} (hj : cs[j]? = some v) : w.cell? ⟨k, j, none⟩ = some v := by
  obtain ⟨t, ht⟩ := h.live (k, cs) (List.mem_of_getElem? hi)
  simp only [World.cell?, ht]
  exact hj
theorem St.free {w0 w : World} {L : List (Nat × Array Value)} {M : List Fact} (h : St w0 w L M) (i : Nat) {k : Nat} {cs : Array Value} (hi : L[i]? = some (k, cs)) (j : Nat) : w.frozen? ⟨k, j, none⟩ = false := by
  obtain ⟨t, ht⟩ := h.live (k, cs) (List.mem_of_getElem? hi)
  exact frozen_of_row w k j _ _ ht
/-- A whole block is read. -/
theorem wpList_load_st {P : Program} {ops : Array Oper} {rest : List Oper} {o : Oper} {a : Act} {w : World} {Q : Exit → Act → World → Prop} (hgd : o.guard = none) (ty : TypeId) (x : Operand) (ho : o.op = .load ty x)
    {w0 : World} {L : List (Nat × Array Value)} {M : List Fact} (hS : St w0 w L M) (i k : Nat) (cs : Array Value) (hi : L[i]? = some (k, cs)) (hx : a.eval x = .pointer (some ⟨k, 0, none⟩)) (d : TypeDesc)
    (hu : P.underlying ty = some d) (hd : (match d with | .struct _ | .array _ _ => true | _ => false) = true) (hz : (P.info? ty).map (·.size) = some cs.size)
    (h : wpList P ops Q rest (a.put o.dst (.agg cs)) w) : wpList P ops Q (o :: rest) a w := by
  obtain ⟨t, ht⟩ := hS.live (k, cs) (List.mem_of_getElem? hi)
  exact wpList_load_row hgd ty x ho k hx t cs (0, 0) d ht hu hd hz h
/-- A whole new block is written. -/
theorem wpList_store_st {P : Program} {ops : Array Oper} {rest : List Oper} {o : Oper} {a : Act} {w : World} {Q : Exit → Act → World → Prop} (hgd : o.guard = none) (ty : TypeId) (x y : Operand) (ho : o.op = .store ty x y)
    {w0 : World} {L : List (Nat × Array Value)} {M : List Fact} (hS : St w0 w L M) (z cs : Array Value) (t : TypeId) (hx : a.eval x = .pointer (some ⟨w.heap.size, 0, none⟩)) (hy : a.eval y = .agg cs)
    (hz : (P.info? ty).map (·.size) = some z.size) (hsz : cs.size = z.size) (h1 : cs.all (·.oneCell') = true)
    (h : ∀ p w', p = w.heap.size → St w0 w' ((p, cs) :: L) M → Below w.heap.size w w' → wpList P ops Q rest (a.put o.dst undef) w') : wpList P ops Q (o :: rest) a (w.alloc (.cells z t)) := by
  refine wpList_store_row hgd ty x y ho w.heap.size cs hx hy t z (heap_alloc_new _ _) (by rw [hz, hsz]) (by rw [hsz]) h1 ?_
  have hb : Below w.heap.size w ((w.alloc (.cells z t)).setRow w.heap.size cs) := below_setRow (below_new w _) (Nat.le_refl _) cs
  refine h w.heap.size _ rfl ?_ hb
  have h' := hS.on hb
  refine ⟨fun u hu => ?_, h'.facts, h'.below⟩
  rcases List.mem_cons.1 hu with rfl | hu
  · exact ⟨t, setRow_heap _ _ _ _ _ _ (heap_alloc_new w (.cells z t))⟩
  · exact h'.live u hu

theorem run_storeVar_cell {P : Program} (w : World) (b j : Nat) (ty : TypeId) (v : Value) (hc : (w.cell? ⟨b, j, none⟩).isSome = true) (hf : w.frozen? ⟨b, j, none⟩ = false) (hi : (P.info? ty).map (·.size) = some 1) (h1 : v.oneCell' = true) :
    (storeVar ty ⟨b, j, none⟩ v).run P w = .ok () (w.setCell ⟨b, j, none⟩ v) := by
  have := run_storeCells_cells (P := P) b j [v] 0 w (fun i hi => by obtain rfl : i = 0 := (by simpa using hi); exact hc) (fun i hi => by obtain rfl : i = 0 := (by simpa using hi); exact hf) (fun x hx => by simp at hx; subst hx; exact h1)
  have hcs : v.cells = #[v] := by cases v <;> first | rfl | cases h1
  cases hq : P.info? ty with
  | none => simp [hq] at hi
  | some i =>
    have hs : i.size = 1 := by simpa [hq] using hi
    simp only [Nat.add_zero] at this
    simp [storeVar, sizeOf, typeInfo, hq, hcs, hs, this, World.setCells]
/-- One cell of the block that came last is written. -/
theorem wpList_storec_st {P : Program} {ops : Array Oper} {rest : List Oper} {o : Oper} {a : Act} {w u : World} {Q : Exit → Act → World → Prop} (hgd : o.guard = none) (ty : TypeId) (x y : Operand) (ho : o.op = .store ty x y)
    {w0 : World} {k : Nat} {cs : Array Value} {L : List (Nat × Array Value)} {M : List Fact} (h0 : St w0 u L M) (hS : St w0 w ((k, cs) :: L) M) (hb : Below u.heap.size u w) (hk : u.heap.size ≤ k) (j : Nat) (v old : Value) (hx : a.eval x = .pointer (some ⟨k, j, none⟩)) (hy : a.eval y = v)
    (hj : cs[j]? = some old) (hi : (P.info? ty).map (·.size) = some 1) (h1 : v.oneCell' = true)
    (h : ∀ w', St w0 w' ((k, cs.setIfInBounds j v) :: L) M → Below u.heap.size u w' → wpList P ops Q rest (a.put o.dst undef) w') : wpList P ops Q (o :: rest) a w := by
  refine wpList_plain hgd fun K hK => ?_
  have hc := hS.cell 0 rfl j hj
  have hf := hS.free 0 rfl j
  unfold Oper.wp execOp
  simp only [ho, hx, hy, Instr.storeAt, Instr.sureAddr, Sem.run_bind, Sem.run_pure, Result.andThen_ok, run_storeVar_cell w k j ty v (by rw [hc]; rfl) hf hi h1]
  exact hK _ _ (h _ (h0.cellSet hS hb hk j v) (below_setCell hb hk j v))
/-- Parameters in blocks of their own. -/
theorem St.box2 {w0 w : World} {L : List (Nat × Array Value)} {M : List Fact} (h : St w0 w L M) (c1 c2 : Array Value) (t1 t2 : TypeId) : St w0 ((w.alloc (.cells c1 t1)).alloc (.cells c2 t2)) ((w.heap.size + 1, c2) :: (w.heap.size, c1) :: L) M := by
  have k := (h.new c1 t1).new c2 t2
  rw [show (w.alloc (.cells c1 t1)).heap.size = w.heap.size + 1 by simp] at k
  exact k
theorem St.box3 {w0 w : World} {L : List (Nat × Array Value)} {M : List Fact} (h : St w0 w L M) (c1 c2 c3 : Array Value) (t1 t2 t3 : TypeId) : St w0 (((w.alloc (.cells c1 t1)).alloc (.cells c2 t2)).alloc (.cells c3 t3)) ((w.heap.size + 1 + 1, c3) :: (w.heap.size + 1, c2) :: (w.heap.size, c1) :: L) M := by
  have k := (h.box2 c1 c2 t1 t2).new c3 t3
  rw [show ((w.alloc (.cells c1 t1)).alloc (.cells c2 t2)).heap.size = w.heap.size + 1 + 1 by simp] at k
  exact k
end Go.Proofs.YtpgichlaghhdeaaGreatDoor

namespace Go.Proofs.YtpgichlaghhdeaaGreatDoor
set_option maxRecDepth 10000
open Go.RowKit

theorem Tryz.infoWi : (Tryz.prog.info? 56).map (fun i => (i.zero, i.size, i.bytes)) = some (some (.agg #[.int .i64 0, .int .i64 0, .int .i64 0]), 3, 24) := by kernel_rfl

/-- A window lies at a place of a block. -/
structure Wi3 (w : World) (b o : Nat) (a : Win) : Prop where
  c0 : w.cell? ⟨b, o, none⟩ = some (.int .i64 a.bed)
  c1 : w.cell? ⟨b, o + 1, none⟩ = some (.int .i64 a.fr)
  c2 : w.cell? ⟨b, o + 2, none⟩ = some (.int .i64 a.to)
/-- The slice at A holds the windows ls, in blocks below B. -/
def WinsAt (w : World) (B : Nat) (A : Option Addr) (ls : List Win) : Prop :=
  ∀ i (h : i < ls.length), ∃ b off, A = some ⟨b, off, none⟩ ∧ b < B ∧ Wi3 w b (off + i * 3) ls[i]
theorem Wi3.below {w w' : World} {B b o : Nat} {a : Win} (h : Wi3 w b o a) (hb : Below B w w') (hB : b < B) : Wi3 w' b o a := by
  have f : ∀ j, w'.cell? ⟨b, j, none⟩ = w.cell? ⟨b, j, none⟩ := fun j => hb.cell (p := ⟨b, j, none⟩) hB
  exact ⟨(f _).trans h.c0, (f _).trans h.c1, (f _).trans h.c2⟩
theorem WinsAt.below {w w' : World} {B B' : Nat} {A : Option Addr} {ls : List Win} (h : WinsAt w B A ls) (hb : Below B' w w') (hB : B ≤ B') : WinsAt w' B A ls := fun i hi => by
  obtain ⟨b, off, e, hlt, h6⟩ := h i hi
  exact ⟨b, off, e, hlt, h6.below hb (by omega)⟩
theorem WinsAt.more {w : World} {B B' : Nat} {A : Option Addr} {ls : List Win} (h : WinsAt w B A ls) (hB : B ≤ B') : WinsAt w B' A ls := fun i hi => by
  obtain ⟨b, off, e, hlt, h6⟩ := h i hi
  exact ⟨b, off, e, by omega, h6⟩
theorem WinsAt.on {w w' : World} {A : Option Addr} {ls : List Win} (h : WinsAt w w.heap.size A ls) (hb : Below w.heap.size w w') : WinsAt w' w'.heap.size A ls := (h.below hb (Nat.le_refl _)).more hb.size
theorem WinsAt.nil (w : World) (B : Nat) (A : Option Addr) : WinsAt w B A [] := fun _ hi => absurd hi (Nat.not_lt_zero _)
theorem WinsAt.none_nil {w : World} {B : Nat} {ls : List Win} (h : WinsAt w B none ls) : ls = [] := by
  cases ls with
  | nil => rfl
  | cons z zs => obtain ⟨b, off, h, _⟩ := h 0 (by simp); cases h
theorem WinsAt.take {w : World} {B : Nat} {A : Option Addr} {ls : List Win} (h : WinsAt w B A ls) (k : Nat) : WinsAt w B A (ls.take k) := fun i hi => by
  have hi' : i < ls.length := by rw [List.length_take] at hi; omega
  obtain ⟨b, off, e, hlt, h6⟩ := h i hi'
  exact ⟨b, off, e, hlt, by rw [List.getElem_take]; exact h6⟩
theorem WinsAt.drop {w : World} {B b off : Nat} {ls : List Win} (h : WinsAt w B (some ⟨b, off, none⟩) ls) (k : Nat) : WinsAt w B (some ⟨b, off + k * 3, none⟩) (ls.drop k) := fun i hi => by
  have hi' : k + i < ls.length := by rw [List.length_drop] at hi; omega
  obtain ⟨b', off', e, hlt, h6⟩ := h (k + i) hi'
  cases e
  refine ⟨b, off + k * 3, rfl, hlt, ?_⟩
  rw [List.getElem_drop]
  have e : off + (k + i) * 3 = off + k * 3 + i * 3 := by omega
  rw [← e]
  exact h6

/-- Windows, cell by cell. -/
def flat3 (ls : List Win) : List Value := ls.flatMap (fun a => [.int .i64 a.bed, .int .i64 a.fr, .int .i64 a.to])
theorem flat3_cons (a : Win) (ls : List Win) : flat3 (a :: ls) = .int .i64 a.bed :: .int .i64 a.fr :: .int .i64 a.to :: flat3 ls := rfl
theorem flat3_app (ls ms : List Win) : flat3 (ls ++ ms) = flat3 ls ++ flat3 ms := by unfold flat3; exact List.flatMap_append
theorem flat3_len : ∀ ls : List Win, (flat3 ls).length = ls.length * 3
  | [] => rfl
  | a :: ls => by have := flat3_len ls; rw [flat3_cons]; simp only [List.length_cons, this]; omega
theorem flat3_one (ls : List Win) : ∀ u ∈ flat3 ls, u.oneCell' = true := by
  intro u hu
  simp only [flat3, List.mem_flatMap, List.mem_cons, List.not_mem_nil, or_false] at hu
  obtain ⟨p, _, rfl | rfl | rfl⟩ := hu <;> rfl
theorem flat3_get : ∀ (ls : List Win) (i : Nat) (h : i < ls.length), (flat3 ls)[i * 3]? = some (.int .i64 ls[i].bed) ∧ (flat3 ls)[i * 3 + 1]? = some (.int .i64 ls[i].fr) ∧ (flat3 ls)[i * 3 + 2]? = some (.int .i64 ls[i].to)
  | a :: ls, 0, _ => ⟨rfl, rfl, rfl⟩
  | a :: ls, i + 1, h => by
    have g := flat3_get ls i (by simpa using h)
    rw [flat3_cons]
    have e1 : (i + 1) * 3 = i * 3 + 1 + 1 + 1 := by omega
    rw [e1]
    refine ⟨?_, ?_, ?_⟩ <;> simp only [List.getElem_cons_succ]
    · simpa using g.1
    · have := g.2.1; simpa [Nat.add_right_comm] using this
    · have := g.2.2; simpa [Nat.add_right_comm] using this
theorem WinsAt.flat_cells {w : World} {B : Nat} {a : Addr} {ls : List Win} (h : WinsAt w B (some a) ls) : ∀ j u, (flat3 ls)[j]? = some u → w.cell? (a.add j) = some u := by
  intro j u hu
  have hj := (List.getElem?_eq_some_iff.1 hu).1
  rw [flat3_len] at hj
  obtain ⟨b, off, ha, _, h6⟩ := h (j / 3) (by omega)
  cases ha
  have g := flat3_get ls (j / 3) (by omega)
  rw [Go.WideShapes.add_plain]
  have hm : j % 3 = 0 ∨ j % 3 = 1 ∨ j % 3 = 2 := by omega
  have fin : ∀ (r : Nat) (v : Value), j / 3 * 3 + r = j → (flat3 ls)[j / 3 * 3 + r]? = some v → w.cell? ⟨b, off + j / 3 * 3 + r, none⟩ = some v → w.cell? ⟨b, off + j, none⟩ = some u := by
    intro r v e h1 h2
    have e2 : off + j / 3 * 3 + r = off + j := by omega
    rw [e2] at h2
    rw [e] at h1
    rw [h2]
    exact h1.symm.trans hu
  rcases hm with hm | hm | hm
  · exact fin 0 _ (by omega) g.1 h6.c0
  · exact fin 1 _ (by omega) g.2.1 h6.c1
  · exact fin 2 _ (by omega) g.2.2 h6.c2

/-- A slice of windows that is none has no room; it has room for its windows. -/
def Roomy (A : Option Addr) (ls : List Win) (c : Nat) : Prop := (A = none → c = 0) ∧ ls.length ≤ c
theorem Roomy.some (a : Addr) (ls : List Win) (c : Nat) (h : ls.length ≤ c) : Roomy (some a) ls c := ⟨(fun e => nomatch e), h⟩
/-- A row of windows of one's own. -/
def OwnW (w : World) (base : Nat) (v : Value) (ls : List Win) : Prop := w.ownsRow base 56 3 v ls.length (flat3 ls)
theorem OwnW.slice {w : World} {base : Nat} {v : Value} {ls : List Win} (h : OwnW w base v ls) : ∃ A cap, v = .slice A ls.length cap ∧ WinsAt w w.heap.size A ls ∧ (A = none → cap = 0) ∧ ls.length ≤ cap := by
  unfold OwnW at h
  rcases h.2 with ⟨hv, h0⟩ | ⟨g, cap, cur, hv, _, hg, hcap, _⟩
  · refine ⟨none, 0, by rw [hv, h0], ?_, fun _ => rfl, by omega⟩
    rw [List.length_eq_zero_iff] at h0
    rw [h0]
    exact WinsAt.nil _ _ _
  · refine ⟨some ⟨g, 0, none⟩, cap, hv, ?_, fun e => (by cases e), hcap⟩
    intro i hi
    have g6 := flat3_get ls i hi
    have hc := fun j u (hu : (flat3 ls)[j]? = some u) => (by have := h.cells (g := g) (by rw [hv]; rfl) _ _ hu; rw [Go.WideShapes.add_plain] at this; exact this : w.cell? ⟨g, 0 + j, none⟩ = some u)
    exact ⟨g, 0, rfl, (Array.getElem?_eq_some_iff.1 hg).1, ⟨hc _ _ g6.1, hc _ _ g6.2.1, hc _ _ g6.2.2⟩⟩
theorem OwnW.below {w W : World} {base : Nat} {v : Value} {ls : List Win} (h : OwnW w base v ls) (hb : Below w.heap.size w W) : OwnW W base v ls := owns_below h hb
theorem OwnW.lower {w : World} {base base' : Nat} {v : Value} {ls : List Win} (h : OwnW w base v ls) (hb : base' ≤ base) : OwnW w base' v ls := owns_lower h hb
theorem OwnW.nil (w : World) (base : Nat) : OwnW w base (.slice none 0 0) [] := World.ownsRow_nil w base 56 3
theorem OwnW.ge {w : World} {base : Nat} {v : Value} {ls : List Win} (h : OwnW w base v ls) : ∀ k, v.ownBlock = some k → base ≤ k := fun k hk => (World.ownsRow.lt h k hk).1
theorem OwnW.rows {w : World} {base : Nat} {A : Option Addr} {l c : Nat} {ls : List Win} (h : OwnW w base (.slice A l c) ls) : WinsAt w w.heap.size A ls ∧ Roomy A ls c := by
  obtain ⟨A', c', e, h1, h2, h3⟩ := h.slice
  cases e
  exact ⟨h1, h2, h3⟩

/-- What a call ends with that hands back windows in memory of their own. -/
def OwnedW (w : World) (n : Nat) (ls : List Win) (e : Ending) (w' : World) : Prop := ∃ A c, e = .returned (.slice A n c) ∧ OwnW w' w.heap.size (.slice A n c) ls ∧ Below w.heap.size w w'
/-- .. and an error. -/
def GivesW (w : World) (n : Nat) (ls : List Win) (er : Int) (e : Ending) (w' : World) : Prop := ∃ A c, e = .returned (.tuple #[.slice A n c, .int .i64 er]) ∧ OwnW w' w.heap.size (.slice A n c) ls ∧ Below w.heap.size w w'
/-- Turns that lie there. -/
def winF (A : Option Addr) (ls : List Win) : Fact := ⟨fun w => WinsAt w w.heap.size A ls, fun _ _ h hb => h.on hb⟩
/-- Turns of one's own. -/
def ownWF (base : Nat) (v : Value) (ls : List Win) : Fact := ⟨fun w => OwnW w base v ls, fun _ _ h hb => h.below hb⟩

/-- Turns of one's own, with those of whatever slice behind them. -/
theorem wpList_append_wins {ops : Array Oper} {rest : List Oper} {o : Oper} {a : Act} {w : World} {Q : Exit → Act → World → Prop} (hgd : o.guard = none) (s x : Operand) (t1 : TypeId)
    (ho : o.op = .call { callee := .builtin .append, args := #[s, x], argTypes := #[t1, t1] }) (hu : Tryz.prog.underlying t1 = some (.slice 56))
    (base : Nat) (v : Value) (zs ms : List Win) (hs : a.eval s = v) (hown : OwnW w base v zs)
    (A : Option Addr) (n cap : Nat) (hx : a.eval x = .slice A n cap) (hn : n = ms.length) (hA : WinsAt w w.heap.size A ms) (hnil : A = none → cap = 0) (hb : base ≤ w.heap.size) (hl : zs.length + ms.length ≤ 1000000)
    (h : ∀ v' w', OwnW w' base v' (zs ++ ms) → w.grownBy w' v.ownBlock → wpList Tryz.prog ops Q rest (a.put o.dst v') w') : wpList Tryz.prog ops Q (o :: rest) a w := by
  obtain ⟨i0, hi, hz0, hz1, hz2⟩ := info_parts Tryz.infoWi
  subst hn
  cases A with
  | none =>
    obtain rfl : cap = 0 := hnil rfl
    obtain rfl : ms = [] := hA.none_nil
    refine wpList_append_own_none hgd s x t1 ho base 56 i0 3 hu hi v _ _ hs hown hx ?_
    exact h v w (by rw [List.append_nil]; exact hown) (grown_refl _ _)
  | some ad =>
    refine wpList_append_own _ hgd s x t1 ho base 56 i0 _ 3 24 hu hi hz0 hz1 hz2 rfl (by decide) v _ _ hs hown ad ms.length cap (flat3 ms) hx (flat3_len ms) hA.flat_cells (flat3_one ms) (by unfold maxLen; omega) (by omega) hb ?_
    intro v' w' ho' hg _
    exact h v' w' (by unfold OwnW; rw [List.length_append, flat3_app]; exact ho') hg
end Go.Proofs.YtpgichlaghhdeaaGreatDoor

namespace Go.Proofs.YtpgichlaghhdeaaGreatDoor
set_option maxRecDepth 10000
open Go.RowKit

/-- What is asked of windows that are told. -/
def ToldW (w : World) (A : Option Addr) (l c : Nat) (ls : List Win) : Prop := l = ls.length ∧ WinsAt w w.heap.size A ls ∧ Roomy A ls c ∧ l ≤ 1000
theorem ToldW.on {w w' : World} {A : Option Addr} {l c : Nat} {ls : List Win} (h : ToldW w A l c ls) (hb : Below w.heap.size w w') : ToldW w' A l c ls := ⟨h.1, h.2.1.on hb, h.2.2.1, h.2.2.2⟩

theorem WinsAt.one (w : World) (a0 a1 a2 : Int) (t : TypeId) : WinsAt (w.alloc (.cells #[.int .i64 a0, .int .i64 a1, .int .i64 a2] t)) (w.alloc (.cells #[.int .i64 a0, .int .i64 a1, .int .i64 a2] t)).heap.size (some ⟨w.heap.size, 0, none⟩) [⟨a0, a1, a2⟩] := fun i hi => by
  obtain rfl : i = 0 := by simpa using hi
  have hb := World.alloc_heap_new w (.cells #[.int .i64 a0, .int .i64 a1, .int .i64 a2] t)
  refine ⟨w.heap.size, 0, rfl, by simp, ?_⟩
  exact ⟨by simp only [World.cell?, hb]; rfl, by simp only [World.cell?, hb]; rfl, by simp only [World.cell?, hb]; rfl⟩
theorem WinsAt.two (w : World) (a0 a1 a2 b0 b1 b2 : Int) (t : TypeId) : WinsAt (w.alloc (.cells #[.int .i64 a0, .int .i64 a1, .int .i64 a2, .int .i64 b0, .int .i64 b1, .int .i64 b2] t)) (w.alloc (.cells #[.int .i64 a0, .int .i64 a1, .int .i64 a2, .int .i64 b0, .int .i64 b1, .int .i64 b2] t)).heap.size (some ⟨w.heap.size, 0, none⟩) [⟨a0, a1, a2⟩, ⟨b0, b1, b2⟩] := fun i hi => by
  have hb := World.alloc_heap_new w (.cells #[.int .i64 a0, .int .i64 a1, .int .i64 a2, .int .i64 b0, .int .i64 b1, .int .i64 b2] t)
  have hi' : i = 0 ∨ i = 1 := by simp at hi; omega
  rcases hi' with rfl | rfl
  · refine ⟨w.heap.size, 0, rfl, by simp, ?_⟩
    exact ⟨by simp only [World.cell?, hb]; rfl, by simp only [World.cell?, hb]; rfl, by simp only [World.cell?, hb]; rfl⟩
  · refine ⟨w.heap.size, 0, rfl, by simp, ?_⟩
    exact ⟨by simp only [World.cell?, hb]; rfl, by simp only [World.cell?, hb]; rfl, by simp only [World.cell?, hb]; rfl⟩
end Go.Proofs.YtpgichlaghhdeaaGreatDoor

namespace Go.Proofs.YtpgichlaghhdeaaGreatDoor
set_option maxRecDepth 10000
open Go.RowKit

theorem Tryz.infoAl : (Tryz.prog.info? 25).map (fun i => (i.zero, i.size, i.bytes)) = some (some (.agg #[.int .i64 0, .int .i64 0, .int .i64 0, .int .i64 0, .int .i64 0, .int .i64 0]), 6, 48) := by kernel_rfl

/-- An alarm lies at a place of a block. -/
structure Al6 (w : World) (b o : Nat) (a : Alm) : Prop where
  c0 : w.cell? ⟨b, o, none⟩ = some (.int .i64 a.b)
  c1 : w.cell? ⟨b, o + 1, none⟩ = some (.int .i64 a.c)
  c2 : w.cell? ⟨b, o + 2, none⟩ = some (.int .i64 a.ph)
  c3 : w.cell? ⟨b, o + 3, none⟩ = some (.int .i64 a.pr)
  c4 : w.cell? ⟨b, o + 4, none⟩ = some (.int .i64 a.si)
  c5 : w.cell? ⟨b, o + 5, none⟩ = some (.int .i64 a.un)
/-- The slice at A holds the alarms ls, in blocks below B. -/
def AlmsAt (w : World) (B : Nat) (A : Option Addr) (ls : List Alm) : Prop :=
  ∀ i (h : i < ls.length), ∃ b off, A = some ⟨b, off, none⟩ ∧ b < B ∧ Al6 w b (off + i * 6) ls[i]
theorem Al6.below {w w' : World} {B b o : Nat} {a : Alm} (h : Al6 w b o a) (hb : Below B w w') (hB : b < B) : Al6 w' b o a := by
  have f : ∀ j, w'.cell? ⟨b, j, none⟩ = w.cell? ⟨b, j, none⟩ := fun j => hb.cell (p := ⟨b, j, none⟩) hB
  exact ⟨(f _).trans h.c0, (f _).trans h.c1, (f _).trans h.c2, (f _).trans h.c3, (f _).trans h.c4, (f _).trans h.c5⟩
theorem AlmsAt.below {w w' : World} {B B' : Nat} {A : Option Addr} {ls : List Alm} (h : AlmsAt w B A ls) (hb : Below B' w w') (hB : B ≤ B') : AlmsAt w' B A ls := fun i hi => by
  obtain ⟨b, off, e, hlt, h6⟩ := h i hi
  exact ⟨b, off, e, hlt, h6.below hb (by omega)⟩
theorem AlmsAt.more {w : World} {B B' : Nat} {A : Option Addr} {ls : List Alm} (h : AlmsAt w B A ls) (hB : B ≤ B') : AlmsAt w B' A ls := fun i hi => by
  obtain ⟨b, off, e, hlt, h6⟩ := h i hi
  exact ⟨b, off, e, by omega, h6⟩
theorem AlmsAt.on {w w' : World} {A : Option Addr} {ls : List Alm} (h : AlmsAt w w.heap.size A ls) (hb : Below w.heap.size w w') : AlmsAt w' w'.heap.size A ls := (h.below hb (Nat.le_refl _)).more hb.size
theorem AlmsAt.nil (w : World) (B : Nat) (A : Option Addr) : AlmsAt w B A [] := fun _ hi => absurd hi (Nat.not_lt_zero _)
theorem AlmsAt.none_nil {w : World} {B : Nat} {ls : List Alm} (h : AlmsAt w B none ls) : ls = [] := by
  cases ls with
  | nil => rfl
  | cons z zs => obtain ⟨b, off, h, _⟩ := h 0 (by simp); cases h
/-- A beginning of a row, and what is behind it. -/
theorem AlmsAt.take {w : World} {B : Nat} {A : Option Addr} {ls : List Alm} (h : AlmsAt w B A ls) (k : Nat) : AlmsAt w B A (ls.take k) := fun i hi => by
  have hi' : i < ls.length := by rw [List.length_take] at hi; omega
  obtain ⟨b, off, e, hlt, h6⟩ := h i hi'
  exact ⟨b, off, e, hlt, by rw [List.getElem_take]; exact h6⟩
theorem AlmsAt.drop {w : World} {B b off : Nat} {ls : List Alm} (h : AlmsAt w B (some ⟨b, off, none⟩) ls) (k : Nat) : AlmsAt w B (some ⟨b, off + k * 6, none⟩) (ls.drop k) := fun i hi => by
  have hi' : k + i < ls.length := by rw [List.length_drop] at hi; omega
  obtain ⟨b', off', e, hlt, h6⟩ := h (k + i) hi'
  cases e
  refine ⟨b, off + k * 6, rfl, hlt, ?_⟩
  rw [List.getElem_drop]
  have e : off + (k + i) * 6 = off + k * 6 + i * 6 := by omega
  rw [← e]
  exact h6

/-- Alarms, cell by cell. -/
def flat6 (ls : List Alm) : List Value := ls.flatMap (fun a => [.int .i64 a.b, .int .i64 a.c, .int .i64 a.ph, .int .i64 a.pr, .int .i64 a.si, .int .i64 a.un])
theorem flat6_cons (a : Alm) (ls : List Alm) : flat6 (a :: ls) = .int .i64 a.b :: .int .i64 a.c :: .int .i64 a.ph :: .int .i64 a.pr :: .int .i64 a.si :: .int .i64 a.un :: flat6 ls := rfl
theorem flat6_app (ls ms : List Alm) : flat6 (ls ++ ms) = flat6 ls ++ flat6 ms := by unfold flat6; exact List.flatMap_append
theorem flat6_len : ∀ ls : List Alm, (flat6 ls).length = ls.length * 6
  | [] => rfl
  | a :: ls => by have := flat6_len ls; rw [flat6_cons]; simp only [List.length_cons, this]; omega
theorem flat6_one (ls : List Alm) : ∀ u ∈ flat6 ls, u.oneCell' = true := by
  intro u hu
  simp only [flat6, List.mem_flatMap, List.mem_cons, List.not_mem_nil, or_false] at hu
  obtain ⟨p, _, rfl | rfl | rfl | rfl | rfl | rfl⟩ := hu <;> rfl
theorem flat6_get : ∀ (ls : List Alm) (i : Nat) (h : i < ls.length), (flat6 ls)[i * 6]? = some (.int .i64 ls[i].b) ∧ (flat6 ls)[i * 6 + 1]? = some (.int .i64 ls[i].c) ∧ (flat6 ls)[i * 6 + 2]? = some (.int .i64 ls[i].ph) ∧ (flat6 ls)[i * 6 + 3]? = some (.int .i64 ls[i].pr) ∧ (flat6 ls)[i * 6 + 4]? = some (.int .i64 ls[i].si) ∧ (flat6 ls)[i * 6 + 5]? = some (.int .i64 ls[i].un)
  | a :: ls, 0, _ => ⟨rfl, rfl, rfl, rfl, rfl, rfl⟩
  | a :: ls, i + 1, h => by
    have g := flat6_get ls i (by simpa using h)
    rw [flat6_cons]
    have e1 : (i + 1) * 6 = i * 6 + 1 + 1 + 1 + 1 + 1 + 1 := by omega
    rw [e1]
    refine ⟨?_, ?_, ?_, ?_, ?_, ?_⟩ <;> simp only [List.getElem_cons_succ]
    · simpa using g.1
    · have := g.2.1; simpa [Nat.add_right_comm] using this
    · have := g.2.2.1; simpa [Nat.add_right_comm] using this
    · have := g.2.2.2.1; simpa [Nat.add_right_comm] using this
    · have := g.2.2.2.2.1; simpa [Nat.add_right_comm] using this
    · have := g.2.2.2.2.2; simpa [Nat.add_right_comm] using this
theorem AlmsAt.flat_cells {w : World} {B : Nat} {a : Addr} {ls : List Alm} (h : AlmsAt w B (some a) ls) : ∀ j u, (flat6 ls)[j]? = some u → w.cell? (a.add j) = some u := by
  intro j u hu
  have hj := (List.getElem?_eq_some_iff.1 hu).1
  rw [flat6_len] at hj
  obtain ⟨b, off, ha, _, h6⟩ := h (j / 6) (by omega)
  cases ha
  have g := flat6_get ls (j / 6) (by omega)
  rw [Go.WideShapes.add_plain]
  have hm : j % 6 = 0 ∨ j % 6 = 1 ∨ j % 6 = 2 ∨ j % 6 = 3 ∨ j % 6 = 4 ∨ j % 6 = 5 := by omega
  have fin : ∀ (r : Nat) (v : Value), j / 6 * 6 + r = j → (flat6 ls)[j / 6 * 6 + r]? = some v → w.cell? ⟨b, off + j / 6 * 6 + r, none⟩ = some v → w.cell? ⟨b, off + j, none⟩ = some u := by
    intro r v e h1 h2
    have e2 : off + j / 6 * 6 + r = off + j := by omega
    rw [e2] at h2
    rw [e] at h1
    rw [h2]
    exact h1.symm.trans hu
  rcases hm with hm | hm | hm | hm | hm | hm
  · exact fin 0 _ (by omega) g.1 h6.c0
  · exact fin 1 _ (by omega) g.2.1 h6.c1
  · exact fin 2 _ (by omega) g.2.2.1 h6.c2
  · exact fin 3 _ (by omega) g.2.2.2.1 h6.c3
  · exact fin 4 _ (by omega) g.2.2.2.2.1 h6.c4
  · exact fin 5 _ (by omega) g.2.2.2.2.2 h6.c5

/-- A row of alarms of one's own. -/
def OwnA (w : World) (base : Nat) (v : Value) (ls : List Alm) : Prop := w.ownsRow base 25 6 v ls.length (flat6 ls)
theorem OwnA.slice {w : World} {base : Nat} {v : Value} {ls : List Alm} (h : OwnA w base v ls) : ∃ A cap, v = .slice A ls.length cap ∧ AlmsAt w w.heap.size A ls ∧ (A = none → cap = 0) ∧ ls.length ≤ cap := by
  have h' := h
  unfold OwnA at h
  rcases h.2 with ⟨hv, h0⟩ | ⟨g, cap, cur, hv, _, hg, hcap, _⟩
  · refine ⟨none, 0, by rw [hv, h0], ?_, fun _ => rfl, by omega⟩
    rw [List.length_eq_zero_iff] at h0
    rw [h0]
    exact AlmsAt.nil _ _ _
  · refine ⟨some ⟨g, 0, none⟩, cap, hv, ?_, fun e => (by cases e), hcap⟩
    intro i hi
    have g6 := flat6_get ls i hi
    have hc := fun j u (hu : (flat6 ls)[j]? = some u) => (by have := h.cells (g := g) (by rw [hv]; rfl) _ _ hu; rw [Go.WideShapes.add_plain] at this; exact this : w.cell? ⟨g, 0 + j, none⟩ = some u)
    exact ⟨g, 0, rfl, (Array.getElem?_eq_some_iff.1 hg).1, ⟨hc _ _ g6.1, hc _ _ g6.2.1, hc _ _ g6.2.2.1, hc _ _ g6.2.2.2.1, hc _ _ g6.2.2.2.2.1, hc _ _ g6.2.2.2.2.2⟩⟩
theorem OwnA.below {w W : World} {base : Nat} {v : Value} {ls : List Alm} (h : OwnA w base v ls) (hb : Below w.heap.size w W) : OwnA W base v ls := owns_below h hb
theorem OwnA.lower {w : World} {base base' : Nat} {v : Value} {ls : List Alm} (h : OwnA w base v ls) (hb : base' ≤ base) : OwnA w base' v ls := owns_lower h hb
theorem OwnA.nil (w : World) (base : Nat) : OwnA w base (.slice none 0 0) [] := World.ownsRow_nil w base 25 6

/-- What a call ends with that hands back alarms in memory of their own. -/
def OwnedA (w : World) (ls : List Alm) (e : Ending) (w' : World) : Prop := ∃ v, e = .returned v ∧ OwnA w' w.heap.size v ls ∧ Below w.heap.size w w'

/-- Alarms of one's own, with those of whatever slice behind them. -/
theorem wpList_append_alms {ops : Array Oper} {rest : List Oper} {o : Oper} {a : Act} {w : World} {Q : Exit → Act → World → Prop} (hgd : o.guard = none) (s x : Operand)
    (ho : o.op = .call { callee := .builtin .append, args := #[s, x], argTypes := #[26, 26] })
    (base : Nat) (v : Value) (zs ms : List Alm) (hs : a.eval s = v) (hown : OwnA w base v zs)
    (A : Option Addr) (n cap : Nat) (hx : a.eval x = .slice A n cap) (hn : n = ms.length) (hA : AlmsAt w w.heap.size A ms) (hnil : A = none → cap = 0) (hb : base ≤ w.heap.size) (hl : zs.length + ms.length ≤ 100000)
    (h : ∀ v' w', OwnA w' base v' (zs ++ ms) → w.grownBy w' v.ownBlock → wpList Tryz.prog ops Q rest (a.put o.dst v') w') : wpList Tryz.prog ops Q (o :: rest) a w := by
  obtain ⟨i0, hi, hz0, hz1, hz2⟩ := info_parts Tryz.infoAl
  subst hn
  cases A with
  | none =>
    obtain rfl : cap = 0 := hnil rfl
    obtain rfl : ms = [] := hA.none_nil
    refine wpList_append_own_none hgd s x 26 ho base 25 i0 6 Tryz.underlying26 hi v _ _ hs hown hx ?_
    exact h v w (by rw [List.append_nil]; exact hown) (grown_refl _ _)
  | some ad =>
    refine wpList_append_own _ hgd s x 26 ho base 25 i0 _ 6 48 Tryz.underlying26 hi hz0 hz1 hz2 rfl (by decide) v _ _ hs hown ad ms.length cap (flat6 ms) hx (flat6_len ms) hA.flat_cells (flat6_one ms) (by unfold maxLen; omega) (by omega) hb ?_
    intro v' w' ho' hg _
    exact h v' w' (by unfold OwnA; rw [List.length_append, flat6_app]; exact ho') hg
end Go.Proofs.YtpgichlaghhdeaaGreatDoor

namespace Go.Proofs.YtpgichlaghhdeaaGreatDoor
set_option maxRecDepth 10000
open Go.RowKit


/-- A board's cells. -/
def bdV (m n : Int) (A : Option Addr) (l c : Nat) : Array Value := #[.int .i64 m, .int .i64 n, .slice A l c]
theorem bd_one (m n : Int) (A : Option Addr) (l c : Nat) : (bdV m n A l c).all (·.oneCell') = true := by simp [bdV, Value.oneCell']
/-- Alarms that lie there. -/
def rowF (A : Option Addr) (ls : List Alm) : Fact := ⟨fun w => AlmsAt w w.heap.size A ls, fun _ _ h hb => h.on hb⟩
/-- Alarms of one's own. -/
def ownF (base : Nat) (v : Value) (ls : List Alm) : Fact := ⟨fun w => OwnA w base v ls, fun _ _ h hb => h.below hb⟩
/-- Numbers that lie there. -/
def numF (A : Option Addr) (zs : List Int) : Fact := ⟨fun w => IntsAt w w.heap.size A zs, fun _ _ h hb => h.on hb⟩

/-- What a call ends with that hands back a board of its own, and an error. -/
def GivesB (w : World) (b : Brd) (l : Nat) (er : Int) (e : Ending) (w' : World) : Prop :=
  ∃ A c, e = .returned (.tuple #[.agg #[.int .i64 b.most, .int .i64 b.now, .slice A l c], .int .i64 er]) ∧ OwnA w' w.heap.size (.slice A l c) b.als ∧ Below w.heap.size w w'
theorem OwnA.alms {w : World} {base : Nat} {A : Option Addr} {l c : Nat} {ls : List Alm} (h : OwnA w base (.slice A l c) ls) : AlmsAt w w.heap.size A ls ∧ (A = none → c = 0) := by
  obtain ⟨A', c', e, h1, h2, _⟩ := h.slice
  cases e
  exact ⟨h1, h2⟩
theorem OwnA.len {w : World} {base : Nat} {A : Option Addr} {l c : Nat} {ls : List Alm} (h : OwnA w base (.slice A l c) ls) : l = ls.length := by
  obtain ⟨A', c', e, h1, h2, _⟩ := h.slice
  cases e
  rfl

/-- What is asked of a board that is told. -/
def Told (w : World) (A : Option Addr) (l c : Nat) (ls : List Alm) : Prop := l = ls.length ∧ AlmsAt w w.heap.size A ls ∧ (A = none → c = 0) ∧ l ≤ 1000
end Go.Proofs.YtpgichlaghhdeaaGreatDoor

namespace Go.Proofs.YtpgichlaghhdeaaGreatDoor
set_option maxRecDepth 10000
open Go.RowKit

theorem Tryz.infoInt : (Tryz.prog.info? 3).map (fun i => (i.zero, i.size, i.bytes)) = some (some (.int .i64 0), 1, 8) := by kernel_rfl
/-- A row of numbers of one's own. -/
def OwnN (w : World) (base : Nat) (v : Value) (zs : List Int) : Prop := w.ownsRow base 3 1 v zs.length (zs.map (Value.int .i64))
theorem OwnN.nil (w : World) (base : Nat) : OwnN w base (.slice none 0 0) [] := World.ownsRow_nil w base 3 1
theorem OwnN.below {w W : World} {base : Nat} {v : Value} {ls : List Int} (h : OwnN w base v ls) (hb : Below w.heap.size w W) : OwnN W base v ls := owns_below h hb
theorem OwnN.ge {w : World} {base : Nat} {v : Value} {ls : List Int} (h : OwnN w base v ls) : ∀ k, v.ownBlock = some k → base ≤ k := fun k hk => (World.ownsRow.lt h k hk).1
/-- A slice of numbers that is none has no room; it has room for its numbers. -/
def RoomN (A : Option Addr) (n c : Nat) : Prop := (A = none → c = 0) ∧ n ≤ c ∧ ∀ ad, A = some ad → ad.spot = none
theorem OwnN.rows {w : World} {base : Nat} {v : Value} {zs : List Int} (h : OwnN w base v zs) : ∃ A c, v = .slice A zs.length c ∧ IntsAt w w.heap.size A zs ∧ RoomN A zs.length c := by
  have h' := h
  unfold OwnN at h'
  rcases h'.2 with ⟨hv, h0⟩ | ⟨g, cap, cur, hv, _, hg, hcap, _⟩
  · refine ⟨none, 0, by rw [hv, h0], ?_, fun _ => rfl, by omega, fun _ e => nomatch e⟩
    rw [List.length_eq_zero_iff.1 h0]
    exact IntsAt.nil _ _ _
  · subst hv
    exact ⟨_, _, rfl, IntsAt.of_own h, (fun e => by cases e), hcap, fun _ e => by cases e; rfl⟩

theorem wpList_append_nums {ops : Array Oper} {rest : List Oper} {o : Oper} {a : Act} {w : World} {Q : Exit → Act → World → Prop} (hgd : o.guard = none) (s x : Operand)
    (ho : o.op = .call { callee := .builtin .append, args := #[s, x], argTypes := #[47, 47] })
    (base : Nat) (v : Value) (zs ms : List Int) (hs : a.eval s = v) (hown : OwnN w base v zs)
    (A : Option Addr) (n cap : Nat) (hx : a.eval x = .slice A n cap) (hn : n = ms.length) (hA : IntsAt w w.heap.size A ms) (hnil : A = none → cap = 0) (hb : base ≤ w.heap.size) (hl : zs.length + ms.length ≤ 100000)
    (h : ∀ v' w', OwnN w' base v' (zs ++ ms) → w.grownBy w' v.ownBlock → wpList Tryz.prog ops Q rest (a.put o.dst v') w') : wpList Tryz.prog ops Q (o :: rest) a w := by
  obtain ⟨i0, hi, hz0, hz1, hz2⟩ := info_parts Tryz.infoInt
  subst hn
  cases A with
  | none =>
    obtain rfl : cap = 0 := hnil rfl
    obtain rfl : ms = [] := by
      cases ms with
      | nil => rfl
      | cons z zs => obtain ⟨b, off, h, _⟩ := hA 0 (by simp); cases h
    refine wpList_append_own_none hgd s x 47 ho base 3 i0 1 Tryz.underlying47 hi v _ _ hs hown hx ?_
    exact h v w (by simpa using hown) (grown_refl _ _)
  | some ad =>
    have hcells : ∀ j u, (ms.map (Value.int .i64))[j]? = some u → w.cell? (ad.add j) = some u := by
      intro j u hu
      have hj : j < ms.length := by
        have := (List.getElem?_eq_some_iff.1 hu).1
        simpa using this
      obtain ⟨b, off, ha, _, hc⟩ := hA j hj
      cases ha
      rw [Go.WideShapes.add_plain, hc]
      simpa [List.getElem?_eq_getElem hj] using hu
    refine wpList_append_own _ hgd s x 47 ho base 3 i0 (.int .i64 0) 1 8 Tryz.underlying47 hi hz0 hz1 hz2 rfl (by decide) v _ _ hs hown ad ms.length cap (ms.map (Value.int .i64)) hx (by simp) hcells (by simp [Value.oneCell']) (by unfold maxLen; omega) (by omega) hb ?_
    intro v' w' ho' hg _
    exact h v' w' (by unfold OwnN; simpa using ho') hg
end Go.Proofs.YtpgichlaghhdeaaGreatDoor

namespace Go.Proofs.YtpgichlaghhdeaaGreatDoor
set_option maxRecDepth 10000
open Go.RowKit

/-- A block that came earlier is written whole; rows that came later stay, for they lie behind it. -/
theorem wpList_restore_st {P : Program} {ops : Array Oper} {rest : List Oper} {o : Oper} {a : Act} {w : World} {Q : Exit → Act → World → Prop} (hgd : o.guard = none) (ty : TypeId) (x y : Operand) (ho : o.op = .store ty x y)
    {w0 u : World} {k : Nat} {old : Array Value} {L : List (Nat × Array Value)} {M : List Fact} (h0 : St w0 u L M) (hS : St w0 w ((k, old) :: L) M) (hb : Below u.heap.size u w) (hk : u.heap.size ≤ k) (cs : Array Value) (base : Nat) (v : Value) (ls : List Alm) (hO : OwnA w base v ls) (hkb : k < base)
    (hx : a.eval x = .pointer (some ⟨k, 0, none⟩)) (hy : a.eval y = .agg cs) (hz : (P.info? ty).map (·.size) = some cs.size) (hsz : old.size = cs.size) (h1 : cs.all (·.oneCell') = true)
    (h : ∀ w', St w0 w' ((k, cs) :: L) M → OwnA w' base v ls → wpList P ops Q rest (a.put o.dst undef) w') : wpList P ops Q (o :: rest) a w := by
  obtain ⟨t, ht⟩ := hS.live (k, old) (by simp)
  refine wpList_store_row hgd ty x y ho k cs hx hy t old ht hz hsz h1 ?_
  refine h _ ((h0.on (below_setRow hb hk cs)).add ⟨t, setRow_heap _ _ _ _ _ _ ht⟩) ?_
  exact World.ownsRow.kept (row := some k) hO (grown_setRow w k cs) (Or.inr (fun e => by
    have := (World.ownsRow.lt hO k e).1
    omega))
theorem St.lt {w0 w : World} {L : List (Nat × Array Value)} {M : List Fact} (h : St w0 w L M) (i : Nat) {k : Nat} {cs : Array Value} (hi : L[i]? = some (k, cs)) : k < w.heap.size := by
  obtain ⟨t, ht⟩ := h.live (k, cs) (List.mem_of_getElem? hi)
  exact (Array.getElem?_eq_some_iff.1 ht).1
theorem run_eql_sp (x0 x1 y0 y1 : Int) (z : Bool) (hz : z = decide (x0 = y0 ∧ x1 = y1)) (w : World) :
    (binOp .eql 23 (.agg #[.int .i64 x0, .int .i64 x1]) (.agg #[.int .i64 y0, .int .i64 y1])).run Tryz.prog w = .ok (.bool z) w := by
  subst hz
  go_simp
  repeat' split
  all_goals simp [*]
theorem run_neq_sp (x0 x1 y0 y1 : Int) (z : Bool) (hz : z = !decide (x0 = y0 ∧ x1 = y1)) (w : World) :
    (binOp .neq 23 (.agg #[.int .i64 x0, .int .i64 x1]) (.agg #[.int .i64 y0, .int .i64 y1])).run Tryz.prog w = .ok (.bool z) w := by
  subst hz
  go_simp
  repeat' split
  all_goals simp [*]
/-- An operation that is not wanted, by the slot that it would write. -/
theorem wpList_skipAt {P : Program} {ops : Array Oper} {rest : List Oper} {o : Oper} {a : Act} {w : World} {Q : Exit → Act → World → Prop} (d : Tmp) (hd : o.dst = some d) (hw : Region.wanted o (yielded ops a.tmps) = false) (h : wpList P ops Q rest (a.put (some d) undef) w) : wpList P ops Q (o :: rest) a w :=
  wpList_skip hw (by rw [hd]; exact h)
/-- A pick that takes the second one, by the slot that it writes. -/
theorem wpList_pickF {P : Program} {ops : Array Oper} {rest : List Oper} {o : Oper} {a : Act} {w : World} {Q : Exit → Act → World → Prop} (d : Tmp) (hd : o.dst = some d) (c x y : Operand) (ho : o.op = .pick c x y) (hw : Region.wanted o (yielded ops a.tmps) = true) (hc : a.eval c = .bool false) (v : Value) (hv : a.eval y = v) (h : wpList P ops Q rest (a.put (some d) v) w) : wpList P ops Q (o :: rest) a w := by
  refine wpList_step fun K hK => ?_
  rw [if_pos hw]
  unfold Oper.wp execOp
  simp [ho, hc, hv, asBool]
  exact hK _ _ (by rw [hd]; exact h)
end Go.Proofs.YtpgichlaghhdeaaGreatDoor

namespace Go.Proofs.YtpgichlaghhdeaaGreatDoor
set_option maxRecDepth 10000
open Go.RowKit

set_option maxRecDepth 10000 in
theorem ret_board {fn : Func} {p u : Tmp} {k : Nat} {cs : Array Value} {tmps : Array Value} {w w0 : World} {L : List (Nat × Array Value)} {M : List Fact} (h : fn.results = #[.cell p 28, .tmp u]) (hp : tmps.getD p undef = .pointer (some ⟨k, 0, none⟩)) (hS : St w0 w L M) (i : Nat) (hi : L[i]? = some (k, cs)) (hz : some cs.size = some 3) :
    (results fn tmps).run Tryz.prog w = .ok (.tuple #[.agg cs, tmps.getD u undef]) w := by
  rw [results_cell_tmp h, hp]
  obtain ⟨t, hb⟩ := hS.live (k, cs) (List.mem_of_getElem? hi)
  have hl := run_loadVar_row (P := Tryz.prog) w k t 28 cs (0, 0) _ hb Tryz.underlying28 rfl (by rw [hz]; rfl)
  simp [asAddr, Result.andThen, hl]

theorem Bd.get_drop {b c : Int} {ls : List Alm} {k : Nat} (h : k < ls.length) : Bd.getA b c (ls.drop k) = if Bd.atS b c ls[k] then (ls[k], true) else Bd.getA b c (ls.drop (k + 1)) := by
  rw [List.drop_eq_getElem_cons h]; rfl
set_option maxRecDepth 10000 in
theorem ret_alarm8 {fn : Func} {p u : Tmp} {k : Nat} {cs : Array Value} {tmps : Array Value} {w w0 : World} {L : List (Nat × Array Value)} {M : List Fact} (h : fn.results = #[.cell p 25, .tmp u]) (hp : tmps.getD p undef = .pointer (some ⟨k, 0, none⟩)) (hS : St w0 w L M) (i : Nat) (hi : L[i]? = some (k, cs)) (hz : some cs.size = some 6) :
    (results fn tmps).run Tryz.prog w = .ok (.tuple #[.agg cs, tmps.getD u undef]) w := by
  rw [results_cell_tmp h, hp]
  obtain ⟨t, hb⟩ := hS.live (k, cs) (List.mem_of_getElem? hi)
  have hl := run_loadVar_row (P := Tryz.prog) w k t 25 cs (0, 0) _ hb Tryz.underlying25 rfl (by rw [hz]; rfl)
  simp [asAddr, Result.andThen, hl]
/-- A whole block that stands there is written, and nothing is known of facts any more but what was there ahead of it. -/
theorem St.rowSet {w0 u w : World} {L : List (Nat × Array Value)} {M : List Fact} (h0 : St w0 u L M) {k : Nat} {old cs : Array Value} (hS : St w0 w ((k, old) :: L) M) (hb : Below u.heap.size u w) (hk : u.heap.size ≤ k) : St w0 (w.setRow k cs) ((k, cs) :: L) M := by
  obtain ⟨t, ht⟩ := hS.live (k, old) (by simp)
  exact (h0.on (below_setRow hb hk cs)).add ⟨t, setRow_heap _ _ _ _ _ _ ht⟩
theorem wpList_reset_st {P : Program} {ops : Array Oper} {rest : List Oper} {o : Oper} {a : Act} {w : World} {Q : Exit → Act → World → Prop} (hgd : o.guard = none) (ty : TypeId) (x y : Operand) (ho : o.op = .store ty x y)
    {w0 u : World} {k : Nat} {old : Array Value} {L : List (Nat × Array Value)} {M : List Fact} (h0 : St w0 u L M) (hS : St w0 w ((k, old) :: L) M) (hb : Below u.heap.size u w) (hk : u.heap.size ≤ k) (cs : Array Value)
    (hx : a.eval x = .pointer (some ⟨k, 0, none⟩)) (hy : a.eval y = .agg cs) (hz : (P.info? ty).map (·.size) = some cs.size) (hsz : old.size = cs.size) (h1 : cs.all (·.oneCell') = true)
    (h : ∀ w', St w0 w' ((k, cs) :: L) M → wpList P ops Q rest (a.put o.dst undef) w') : wpList P ops Q (o :: rest) a w := by
  obtain ⟨t, ht⟩ := hS.live (k, old) (by simp)
  exact wpList_store_row hgd ty x y ho k cs hx hy t old ht hz hsz h1 (h _ (h0.rowSet hS hb hk))
end Go.Proofs.YtpgichlaghhdeaaGreatDoor

namespace Go.Proofs.YtpgichlaghhdeaaGreatDoor
set_option maxRecDepth 10000
open Go.RowKit

theorem exec_load_st8 {o : Oper} {a : Act} {w : World} (ty : TypeId) (x : Operand) (ho : o.op = .load ty x) {w0 : World} {L : List (Nat × Array Value)} {M : List Fact} (hS : St w0 w L M) (i k : Nat) (cs : Array Value) (hi : L[i]? = some (k, cs)) (hx : a.eval x = .pointer (some ⟨k, 0, none⟩)) (d : TypeDesc)
    (hu : Tryz.prog.underlying ty = some d) (hd : (match d with | .struct _ | .array _ _ => true | _ => false) = true) (hz : (Tryz.prog.info? ty).map (·.size) = some cs.size) :
    (execOp a.eval o).run Tryz.prog w = .ok (.value (.agg cs)) w := by
  obtain ⟨t, ht⟩ := hS.live (k, cs) (List.mem_of_getElem? hi)
  have hl := run_loadVar_row (P := Tryz.prog) w k t ty cs (0, 0) d ht hu (by cases d <;> first | rfl | exact hd) hz
  unfold execOp
  simp only [ho, hx, Instr.loadAt, Instr.sureAddr, Sem.run_bind, Sem.run_pure, Result.andThen_ok, hl]
theorem St.pick8 {w0 w : World} {L : List (Nat × Array Value)} {M : List Fact} (h : St w0 w L M) (L' : List (Nat × Array Value)) (hL : ∀ x ∈ L', x ∈ L) : St w0 w L' [] := ⟨fun x hx => h.live x (hL x hx), (fun _ h => nomatch h), h.below⟩
theorem St.set8 {w0 w : World} {L : List (Nat × Array Value)} {M : List Fact} (h : St w0 w L M) (cs : Array Value) {k i : Nat} {old : Array Value} (hi : L[i]? = some (k, old)) (hk : w0.heap.size ≤ k) : St w0 (w.setRow k cs) [(k, cs)] [] := by
  obtain ⟨t, ht⟩ := h.live (k, old) (List.mem_of_getElem? hi)
  refine ⟨fun y hy => ?_, (fun _ h => nomatch h), below_setRow h.below hk cs⟩
  obtain rfl : y = (k, cs) := by simpa using hy
  exact ⟨t, setRow_heap _ _ _ _ _ _ ht⟩
theorem St.after8 {w0 w : World} {L : List (Nat × Array Value)} {M : List Fact} (h : St w0 w L M) (cs : Array Value) (L' : List (Nat × Array Value)) (hL : ∀ x ∈ L', x ∈ L) {k : Nat} (hne : ∀ x ∈ L', x.1 ≠ k) (hk : w0.heap.size ≤ k) : St w0 (w.setRow k cs) L' [] :=
  ⟨fun x hx => by
    obtain ⟨t, ht⟩ := h.live x (hL x hx)
    exact ⟨t, (setRow_other w k x.1 cs (hne x hx)).trans ht⟩, (fun _ h => nomatch h), below_setRow h.below hk cs⟩
theorem OwnA.after {w : World} {base : Nat} {v : Value} {ls : List Alm} (h : OwnA w base v ls) {k : Nat} (cs : Array Value) (hk : k < base) : OwnA (w.setRow k cs) base v ls :=
  World.ownsRow.kept (row := some k) h (grown_setRow w k cs) (Or.inr (fun e => by
    have := (World.ownsRow.lt h k e).1
    omega))
theorem ret_board9 {fn : Func} {p : Tmp} {k : Nat} {cs : Array Value} {tmps : Array Value} {w w0 : World} {L : List (Nat × Array Value)} {M : List Fact} (h : fn.results = #[.cell p 28]) (hp : tmps.getD p undef = .pointer (some ⟨k, 0, none⟩)) (hS : St w0 w L M) (i : Nat) (hi : L[i]? = some (k, cs)) (hz : some cs.size = some 3) :
    (results fn tmps).run Tryz.prog w = .ok (.agg cs) w := by
  obtain ⟨t, hb⟩ := hS.live (k, cs) (List.mem_of_getElem? hi)
  exact results_cell_row h tmps w k t cs (0, 0) _ hp hb Tryz.underlying28 rfl (by rw [hz]; rfl)
theorem Al6.drew {w : World} {b o : Nat} {a : Alm} (h : Al6 w b o a) : Al6 w.drew b o a := ⟨h.c0, h.c1, h.c2, h.c3, h.c4, h.c5⟩
theorem Al6.row {w : World} {b o k : Nat} {a : Alm} (h : Al6 w b o a) (cs : Array Value) (hne : b ≠ k) : Al6 (w.setRow k cs) b o a := by
  have f : ∀ j, (w.setRow k cs).cell? ⟨b, j, none⟩ = w.cell? ⟨b, j, none⟩ := fun j => World.cell?_of_block (setRow_other w k b cs hne)
  exact ⟨(f _).trans h.c0, (f _).trans h.c1, (f _).trans h.c2, (f _).trans h.c3, (f _).trans h.c4, (f _).trans h.c5⟩
theorem run_neq_same (x0 x1 x2 x3 x4 x5 : Int) (w : World) :
    (binOp .neq 25 (.agg #[.int .i64 x0, .int .i64 x1, .int .i64 x2, .int .i64 x3, .int .i64 x4, .int .i64 x5]) (.agg #[.int .i64 x0, .int .i64 x1, .int .i64 x2, .int .i64 x3, .int .i64 x4, .int .i64 x5])).run Tryz.prog w = .ok (.bool false) w := by
  go_simp
end Go.Proofs.YtpgichlaghhdeaaGreatDoor

namespace Go.Proofs.YtpgichlaghhdeaaGreatDoor
set_option maxRecDepth 10000
open Go.RowKit

theorem grown_setCell8 (w : World) (k j : Nat) (v : Value) : w.grownBy (w.setCell ⟨k, j, none⟩ v) (some k) :=
  ⟨rfl, rfl, rfl, by simp [World.setCell], fun i _ hne => heap_setCell_other w ⟨k, j, none⟩ i v (fun e => hne (by rw [show i = k from e]))⟩
/-- A block of one's own is written whole: rows behind it stay. -/
theorem wpList_setres8 {P : Program} {ops : Array Oper} {rest : List Oper} {o : Oper} {a : Act} {w : World} {Q : Exit → Act → World → Prop} (hgd : o.guard = none) (ty : TypeId) (x y : Operand) (ho : o.op = .store ty x y)
    {w0 : World} {L : List (Nat × Array Value)} {M : List Fact} (hS : St w0 w L M) (i k : Nat) (old cs : Array Value) (hi : L[i]? = some (k, old)) (hk : w0.heap.size ≤ k) (base : Nat) (v : Value) (ls : List Alm) (hO : OwnA w base v ls) (hkb : k < base)
    (hx : a.eval x = .pointer (some ⟨k, 0, none⟩)) (hy : a.eval y = .agg cs) (hz : (P.info? ty).map (·.size) = some cs.size) (hsz : old.size = cs.size) (h1 : cs.all (·.oneCell') = true)
    (h : ∀ w', St w0 w' [(k, cs)] [] → OwnA w' base v ls → wpList P ops Q rest (a.put o.dst undef) w') : wpList P ops Q (o :: rest) a w := by
  obtain ⟨t, ht⟩ := hS.live (k, old) (List.mem_of_getElem? hi)
  refine wpList_store_row hgd ty x y ho k cs hx hy t old ht hz hsz h1 ?_
  exact h _ (hS.set8 cs hi hk) (hO.after cs hkb)
/-- One cell of a block of one's own is written: rows behind it stay. -/
theorem wpList_setcell8 {P : Program} {ops : Array Oper} {rest : List Oper} {o : Oper} {a : Act} {w : World} {Q : Exit → Act → World → Prop} (hgd : o.guard = none) (ty : TypeId) (x y : Operand) (ho : o.op = .store ty x y)
    {w0 : World} {k : Nat} {cs : Array Value} {L : List (Nat × Array Value)} {M : List Fact} (hS : St w0 w ((k, cs) :: L) M) (hk : w0.heap.size ≤ k) (j : Nat) (v old : Value) (base : Nat) (u : Value) (ls : List Alm) (hO : OwnA w base u ls) (hkb : k < base)
    (hx : a.eval x = .pointer (some ⟨k, j, none⟩)) (hy : a.eval y = v) (hj : cs[j]? = some old) (hi : (P.info? ty).map (·.size) = some 1) (h1 : v.oneCell' = true)
    (h : ∀ w', w' = w.setCell ⟨k, j, none⟩ v → St w0 w' [(k, cs.setIfInBounds j v)] [] → OwnA w' base u ls → wpList P ops Q rest (a.put o.dst undef) w') : wpList P ops Q (o :: rest) a w := by
  refine wpList_plain hgd fun K hK => ?_
  have hc := hS.cell 0 rfl j hj
  have hf := hS.free 0 rfl j
  unfold Oper.wp execOp
  simp only [ho, hx, hy, Instr.storeAt, Instr.sureAddr, Sem.run_bind, Sem.run_pure, Result.andThen_ok, run_storeVar_cell w k j ty v (by rw [hc]; rfl) hf hi h1]
  refine hK _ _ (h _ rfl ⟨fun y hy => ?_, (fun _ h => nomatch h), below_setCell hS.below hk j v⟩ ?_)
  · obtain rfl : y = (k, cs.setIfInBounds j v) := by simpa using hy
    obtain ⟨t, ht⟩ := hS.live (k, cs) (by simp)
    exact ⟨t, heap_setCell_same w k j cs t v ht⟩
  · exact World.ownsRow.kept (row := some k) hO (grown_setCell8 w k j v) (Or.inr (fun e => by
      have := (World.ownsRow.lt hO k e).1
      omega))
/-- One cell of a block is read. -/
theorem wpList_loadc8 {P : Program} {ops : Array Oper} {rest : List Oper} {o : Oper} {a : Act} {w : World} {Q : Exit → Act → World → Prop} (hgd : o.guard = none) (ty : TypeId) (x : Operand) (ho : o.op = .load ty x)
    {w0 : World} {L : List (Nat × Array Value)} {M : List Fact} (hS : St w0 w L M) (i k : Nat) (cs : Array Value) (hi : L[i]? = some (k, cs)) (j : Nat) (v : Value) (hj : cs[j]? = some v) (hx : a.eval x = .pointer (some ⟨k, j, none⟩)) (ha : ∀ w, (isAgg ty).run P w = .ok false w)
    (h : wpList P ops Q rest (a.put o.dst v) w) : wpList P ops Q (o :: rest) a w := by
  refine wpList_plain hgd fun K hK => ?_
  have hc := hS.cell i hi j hj
  unfold Oper.wp execOp
  simp [ho, hx, Instr.loadAt, Instr.sureAddr, loadVar, ha, hc]
  exact hK _ _ h
/-- An alarm in a new block behind another one. -/
theorem AlmsAt.one10 (w : World) (o : Obj) (x0 x1 x2 x3 x4 x5 : Int) (t : TypeId) : AlmsAt ((w.alloc o).alloc (.cells #[.int .i64 x0, .int .i64 x1, .int .i64 x2, .int .i64 x3, .int .i64 x4, .int .i64 x5] t)) ((w.alloc o).alloc (.cells #[.int .i64 x0, .int .i64 x1, .int .i64 x2, .int .i64 x3, .int .i64 x4, .int .i64 x5] t)).heap.size (some ⟨w.heap.size + 1, 0, none⟩) [⟨x0, x1, x2, x3, x4, x5⟩] := by
  intro i hi
  obtain rfl : i = 0 := by simpa using hi
  have h := Six.new (w.alloc o) x0 x1 x2 x3 x4 x5 t
  rw [show (w.alloc o).heap.size = w.heap.size + 1 by simp] at h
  exact ⟨w.heap.size + 1, 0, rfl, h.lt, ⟨h.c0, h.c1, h.c2, h.c3, h.c4, h.c5⟩⟩
theorem AlmsAt.one11 (w : World) (x0 x1 x2 x3 x4 x5 : Int) (t : TypeId) : AlmsAt (w.alloc (.cells #[.int .i64 x0, .int .i64 x1, .int .i64 x2, .int .i64 x3, .int .i64 x4, .int .i64 x5] t)) (w.alloc (.cells #[.int .i64 x0, .int .i64 x1, .int .i64 x2, .int .i64 x3, .int .i64 x4, .int .i64 x5] t)).heap.size (some ⟨w.heap.size, 0, none⟩) [⟨x0, x1, x2, x3, x4, x5⟩] := by
  intro i hi
  obtain rfl : i = 0 := by simpa using hi
  have h := Six.new w x0 x1 x2 x3 x4 x5 t
  exact ⟨w.heap.size, 0, rfl, h.lt, ⟨h.c0, h.c1, h.c2, h.c3, h.c4, h.c5⟩⟩
theorem OwnA.ge9 {w : World} {base : Nat} {v : Value} {ls : List Alm} (h : OwnA w base v ls) : ∀ k, v.ownBlock = some k → base ≤ k := fun k hk => (World.ownsRow.lt h k hk).1

theorem Bd.drop_take8 {b c : Int} {ls : List Alm} {k : Nat} (h : k < ls.length) : Bd.dropL b c (ls.take (k + 1)) = Bd.dropL b c (ls.take k) ++ (if Bd.atS b c ls[k] then [] else [ls[k]]) := by
  unfold Bd.dropL
  rw [List.take_add_one, List.filter_append, List.getElem?_eq_getElem h]
  congr 1
  cases hz : Bd.atS b c ls[k] <;> simp [hz]
theorem Bd.pass_take8 {t : Int} {ls : List Alm} {k : Nat} (h : k < ls.length) : Bd.passL t (ls.take (k + 1)) = Bd.passL t (ls.take k) ++ [Am.pass ls[k] t] := by
  unfold Bd.passL
  rw [List.take_add_one, List.map_append, List.getElem?_eq_getElem h]
  rfl
/-- Where an alarm is put: ahead of the first one that is not less. -/
def Bd.plc8 (a : Alm) : List Alm → Nat
  | [] => 0
  | x :: l => if Bd.lessA x a then Bd.plc8 a l + 1 else 0
theorem Bd.plc8_le (a : Alm) : ∀ ls : List Alm, Bd.plc8 a ls ≤ ls.length
  | [] => Nat.le_refl _
  | x :: l => by
    unfold Bd.plc8
    split
    · have := Bd.plc8_le a l; simp; omega
    · exact Nat.zero_le _
theorem Bd.plc8_drop {a : Alm} {ls : List Alm} {k : Nat} (h : k < ls.length) : Bd.plc8 a (ls.drop k) = if Bd.lessA ls[k] a then Bd.plc8 a (ls.drop (k + 1)) + 1 else 0 := by
  rw [List.drop_eq_getElem_cons h]; rfl
theorem Bd.has_lt {a : Alm} {ls : List Alm} (h : Bd.has a.b a.c ls = true) : ls.Pairwise (fun a b => Bd.lessA a b = true) → Bd.plc8 a ls < ls.length := by
  induction ls with
  | nil => cases h
  | cons x l ih =>
    intro hp
    unfold Bd.plc8
    split
    · rename_i hx
      have h2 : Bd.has a.b a.c l = true := by
        unfold Bd.has Bd.getA at h
        rw [Bd.at_less hx] at h
        exact h
      have := ih h2 (List.pairwise_cons.1 hp).2
      simp; omega
    · simp
/-- Put, by what the reference does. -/
theorem Bd.put_eq8 {a : Alm} : ∀ {ls : List Alm}, ls.Pairwise (fun a b => Bd.lessA a b = true) → Bd.putL a ls = ls.take (Bd.plc8 a ls) ++ a :: ls.drop (Bd.plc8 a ls + (if Bd.has a.b a.c ls then 1 else 0))
  | [], _ => rfl
  | x :: l, hp => by
    have ih := Bd.put_eq8 (a := a) (List.pairwise_cons.1 hp).2
    have hh := (List.pairwise_cons.1 hp).1
    by_cases hx : Bd.lessA x a = true
    · have h1 : Bd.plc8 a (x :: l) = Bd.plc8 a l + 1 := by show (if Bd.lessA x a then _ else _) = _; rw [if_pos hx]
      have h2 : Bd.has a.b a.c (x :: l) = Bd.has a.b a.c l := by unfold Bd.has; rw [show Bd.getA a.b a.c (x :: l) = (if Bd.atS a.b a.c x then (x, true) else Bd.getA a.b a.c l) from rfl, Bd.at_less hx]; rfl
      have h3 : Bd.putL a (x :: l) = x :: Bd.putL a l := by show (if Bd.lessA x a then _ else _) = _; rw [if_pos hx]
      rw [h1, h2, h3, ih, List.take_succ_cons, Nat.add_right_comm, List.drop_succ_cons]
      rfl
    · have h1 : Bd.plc8 a (x :: l) = 0 := by show (if Bd.lessA x a then _ else _) = _; rw [if_neg hx]
      by_cases hat : Bd.atS a.b a.c x = true
      · have h2 : Bd.has a.b a.c (x :: l) = true := by unfold Bd.has; rw [show Bd.getA a.b a.c (x :: l) = (if Bd.atS a.b a.c x then (x, true) else Bd.getA a.b a.c l) from rfl, if_pos hat]
        have h3 : Bd.putL a (x :: l) = a :: l := by show (if Bd.lessA x a then _ else if Bd.atS a.b a.c x then _ else _) = _; rw [if_neg hx, if_pos hat]
        rw [h1, h2, h3]
        rfl
      · have h2 : Bd.has a.b a.c (x :: l) = false := by
          refine Bd.has_none fun y hy => ?_
          rcases List.mem_cons.1 hy with rfl | hy
          · simpa using hat
          · exact Bd.at_less' (Bd.less_trans (Bd.less_of hx hat) (hh y hy))
        have h3 : Bd.putL a (x :: l) = a :: x :: l := by show (if Bd.lessA x a then _ else if Bd.atS a.b a.c x then _ else _) = _; rw [if_neg hx, if_neg hat]
        rw [h1, h2, h3]
        rfl
end Go.Proofs.YtpgichlaghhdeaaGreatDoor

namespace Go.Proofs.YtpgichlaghhdeaaGreatDoor
set_option maxRecDepth 10000
open Go.RowKit

/-- A whole alarm is laid into a block: the world behind it by what it is. -/
theorem wpList_store_six {P : Program} {ops : Array Oper} {rest : List Oper} {o : Oper} {a : Act} {w : World} {Q : Exit → Act → World → Prop} (hgd : o.guard = none) (ty : TypeId) (x y : Operand) (ho : o.op = .store ty x y)
    (g : Nat) (al al' : Alm) (hx : a.eval x = .pointer (some ⟨g, 0, none⟩)) (hy : a.eval y = .agg (sixV al')) (h6 : Six w g al) (hi : (P.info? ty).map (·.size) = some 6)
    (h : ∀ w', w' = w.setRow g (sixV al') → wpList P ops Q rest (a.put o.dst undef) w') : wpList P ops Q (o :: rest) a w := by
  obtain ⟨t, hb⟩ := h6.blk
  exact wpList_store_row hgd ty x y ho g (sixV al') hx hy t _ hb hi rfl (six_one _) (h _ rfl)
theorem wpList_load_six {P : Program} {ops : Array Oper} {rest : List Oper} {o : Oper} {a : Act} {w : World} {Q : Exit → Act → World → Prop} (hgd : o.guard = none) (ty : TypeId) (x : Operand) (ho : o.op = .load ty x)
    (g : Nat) (al : Alm) (hx : a.eval x = .pointer (some ⟨g, 0, none⟩)) (h6 : Six w g al) (d : TypeDesc)
    (hu : P.underlying ty = some d) (hd : (match d with | .struct _ | .array _ _ => true | _ => false) = true) (hi : (P.info? ty).map (·.size) = some 6)
    (h : wpList P ops Q rest (a.put o.dst (.agg (sixV al))) w) : wpList P ops Q (o :: rest) a w := by
  obtain ⟨t, hb⟩ := h6.blk
  exact wpList_load_row hgd ty x ho g hx t (sixV al) (0, 0) d hb hu hd hi h
theorem Six.put6 {w w' : World} {k : Nat} {a a' : Alm} (h : Six w k a) (hw : w' = w.setRow k (sixV a')) : Six w' k a' := by
  obtain ⟨t, hb⟩ := h.blk
  rw [hw]
  exact ⟨t, setRow_heap _ _ _ _ _ _ hb⟩
theorem Six.put6O {w w' : World} {k g : Nat} {a : Alm} {cs : Array Value} (h : Six w k a) (hne : k ≠ g) (hw : w' = w.setRow g cs) : Six w' k a := by
  obtain ⟨t, hb⟩ := h.blk
  rw [hw]
  exact ⟨t, (setRow_other w g k cs hne).trans hb⟩
theorem below_put6 {B g : Nat} {w0 w w' : World} {cs : Array Value} (h : Below B w0 w) (hg : B ≤ g) (hw : w' = w.setRow g cs) : Below B w0 w' := by
  rw [hw]; exact below_setRow h hg _
end Go.Proofs.YtpgichlaghhdeaaGreatDoor

namespace Go.Proofs.YtpgichlaghhdeaaGreatDoor
set_option maxRecDepth 10000
open Go.RowKit


/-- How a function ends that hands back an alarm from a cell, and an error. -/
theorem ret_alarm {fn : Func} {p u : Tmp} {k : Nat} {a : Alm} {tmps : Array Value} {w : World} (h : fn.results = #[.cell p 25, .tmp u]) (hp : tmps.getD p undef = .pointer (some ⟨k, 0, none⟩)) (h2 : Six w k a) :
    (results fn tmps).run Tryz.prog w = .ok (.tuple #[.agg (sixV a), tmps.getD u undef]) w := by
  rw [results_cell_tmp h, hp]
  obtain ⟨t, hb⟩ := h2.blk
  have hl := run_loadVar_row (P := Tryz.prog) w k t 25 (sixV a) (0, 0) _ hb Tryz.underlying25 rfl (by rfl)
  simp [asAddr, Result.andThen, hl]
theorem ret_alarm1 {fn : Func} {p : Tmp} {k : Nat} {a : Alm} {tmps : Array Value} {w : World} (h : fn.results = #[.cell p 25]) (hp : tmps.getD p undef = .pointer (some ⟨k, 0, none⟩)) (h2 : Six w k a) :
    (results fn tmps).run Tryz.prog w = .ok (.agg (sixV a)) w := by
  obtain ⟨t, hb⟩ := h2.blk
  exact results_cell_row h tmps w k t (sixV a) (0, 0) _ hp hb Tryz.underlying25 rfl (by rfl)

theorem exec_load_six {o : Oper} {a : Act} {w : World} (x : Operand) (ho : o.op = .load 25 x) {k : Nat} {b c ph pr si un : Int} (hx : a.eval x = .pointer (some ⟨k, 0, none⟩)) (h : Six w k ⟨b, c, ph, pr, si, un⟩) :
    (execOp a.eval o).run Tryz.prog w = .ok (.value (.agg #[.int .i64 b, .int .i64 c, .int .i64 ph, .int .i64 pr, .int .i64 si, .int .i64 un])) w := by
  obtain ⟨t, hb⟩ := h.blk
  have hl := run_loadVar_row (P := Tryz.prog) w k t 25 (sixV ⟨b, c, ph, pr, si, un⟩) (0, 0) _ hb Tryz.underlying25 rfl (by rfl)
  unfold execOp
  simp only [ho, hx, Instr.loadAt, Instr.sureAddr, Sem.run_bind, Sem.run_pure, Result.andThen_ok, hl]
  rfl

end Go.Proofs.YtpgichlaghhdeaaGreatDoor

namespace Go.Proofs.YtpgichlaghhdeaaGreatDoor
set_option maxRecDepth 10000
open Go.RowKit

/-- What a law is told of a slice of texts that came in: nil, or len texts, ss. -/
def IsStrs (w : World) (a : Option Addr) (len cap : Nat) (ss : List ByteArray) : Prop :=
  (a = none ∧ len = 0 ∧ cap = 0 ∧ ss = []) ∨
  ∃ x, a = some x ∧ len ≤ cap ∧ cap ≤ maxLen ∧ ss.length = len ∧ (∀ i (h : i < ss.length), w.cell? (x.add i) = some (.string ss[i])) ∧ ∀ s ∈ ss, s.size ≤ maxLen

theorem IsStrs.strs {w : World} {a : Option Addr} {len cap : Nat} {ss : List ByteArray} (h : IsStrs w a len cap ss) : len = ss.length ∧ len ≤ maxLen ∧ StrsAt w w.heap.size a ss ∧ ∀ s ∈ ss, s.size ≤ maxLen := by
  rcases h with ⟨rfl, rfl, rfl, rfl⟩ | ⟨x, rfl, hl, hm, hz, hc, hw⟩
  · exact ⟨rfl, Nat.zero_le _, StrsAt.nil _ _ _, by simp⟩
  · refine ⟨hz.symm, by omega, fun i hi => ?_, hw⟩
    obtain ⟨b, off, spot⟩ := x
    have hspot : spot = none := by simpa [Addr.add] using World.cell?_spot (hc 0 (by omega))
    subst hspot
    have h1 := hc i hi
    rw [Go.WideShapes.add_plain] at h1
    exact ⟨b, off, rfl, World.block_lt_of_cell? w _ h1, h1⟩

theorem IsStrs.of_trod {H : Type} {enc : TypeId × Value → H} {P : Program} {w : World} {base : Nat} {t e : TypeId} {fuel : Nat} {a : Option Addr} {len cap : Nat} {x : DataW H × List MemPlace} (ht : P.underlying t = some (.slice e)) (he : P.underlying e = some .string) (hc : P.cellsOf e = 1)
    (h : DataW.trod enc P w base (fun _ => true) true fuel t (Value.slice a len cap).cells.toList = some x) : ∃ ss, IsStrs w a len cap ss := by
  rcases Go.Deep.open_strs ht he hc h with ⟨hcs, _⟩ | ⟨y, l, c, m, Sx, hcs, _, hl, hm, hmm, _, hcell⟩
  · simp [Value.cells] at hcs
    obtain ⟨rfl, rfl, rfl⟩ := hcs
    exact ⟨[], .inl ⟨rfl, rfl, rfl, rfl⟩⟩
  · simp [Value.cells] at hcs
    obtain ⟨rfl, rfl, rfl⟩ := hcs
    simp only [if_true] at hmm
    refine ⟨(List.range len).map Sx, .inr ⟨_, rfl, hl, hm, by simp, fun i hi => ?_, fun s hs => ?_⟩⟩
    · have : i < len := by simpa using hi
      rw [(hcell i (by omega)).1]; simp
    · obtain ⟨i, hi, rfl⟩ := List.mem_map.1 hs
      exact (hcell i (by have := List.mem_range.1 hi; omega)).2

/-- What a function with four results hands back. -/
theorem results_tmp4 {fn : Func} {t u v x : Tmp} (h : fn.results = #[.tmp t, .tmp u, .tmp v, .tmp x]) (tmps : Array Value) (P : Program) (w : World) :
    (results fn tmps).run P w = .ok (.tuple #[tmps.getD t undef, tmps.getD u undef, tmps.getD v undef, tmps.getD x undef]) w := by
  simp [results, h]

end Go.Proofs.YtpgichlaghhdeaaGreatDoor
