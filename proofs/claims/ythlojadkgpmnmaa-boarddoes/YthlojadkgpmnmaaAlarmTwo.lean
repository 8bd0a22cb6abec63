/-
  Layer 6 (alarm): an alarm in a block of memory.
-/
import Derived.Test.YthlojadkgpmnmaaAid
import Derived.Test.YthlojadkgpmnmaaAlarmM
import Derived.Laws.Rows
namespace Go.Proofs.Ythlojadkgpmnmaa
open Go.RowKit

/-- An alarm's cells. -/
def sixV (a : Alm) : Array Value := #[.int .i64 a.b, .int .i64 a.c, .int .i64 a.ph, .int .i64 a.pr, .int .i64 a.si, .int .i64 a.un]
theorem six_one (a : Alm) : (sixV a).all (·.oneCell') = true := by simp [sixV, Value.oneCell']
/-- An alarm lies in the block k. -/
structure Six (w : World) (k : Nat) (a : Alm) : Prop where
  blk : ∃ t, w.heap[k]? = some (.cells (sixV a) t (0, 0))
theorem Six.lt {w : World} {k : Nat} {a : Alm} (h : Six w k a) : k < w.heap.size := by obtain ⟨t, h⟩ := h.blk; exact (Array.getElem?_eq_some_iff.1 h).1
theorem Six.c0 {w : World} {k : Nat} {a : Alm} (h : Six w k a) : w.cell? ⟨k, 0, none⟩ = some (.int .i64 a.b) := by obtain ⟨t, hb⟩ := h.blk; simp only [World.cell?, hb]; rfl
theorem Six.c1 {w : World} {k : Nat} {a : Alm} (h : Six w k a) : w.cell? ⟨k, 1, none⟩ = some (.int .i64 a.c) := by obtain ⟨t, hb⟩ := h.blk; simp only [World.cell?, hb]; rfl
theorem Six.c2 {w : World} {k : Nat} {a : Alm} (h : Six w k a) : w.cell? ⟨k, 2, none⟩ = some (.int .i64 a.ph) := by obtain ⟨t, hb⟩ := h.blk; simp only [World.cell?, hb]; rfl
theorem Six.c3 {w : World} {k : Nat} {a : Alm} (h : Six w k a) : w.cell? ⟨k, 3, none⟩ = some (.int .i64 a.pr) := by obtain ⟨t, hb⟩ := h.blk; simp only [World.cell?, hb]; rfl
theorem Six.c4 {w : World} {k : Nat} {a : Alm} (h : Six w k a) : w.cell? ⟨k, 4, none⟩ = some (.int .i64 a.si) := by obtain ⟨t, hb⟩ := h.blk; simp only [World.cell?, hb]; rfl
theorem Six.c5 {w : World} {k : Nat} {a : Alm} (h : Six w k a) : w.cell? ⟨k, 5, none⟩ = some (.int .i64 a.un) := by obtain ⟨t, hb⟩ := h.blk; simp only [World.cell?, hb]; rfl
theorem Six.f {w : World} {k : Nat} {a : Alm} (h : Six w k a) (j : Nat) : w.frozen? ⟨k, j, none⟩ = false := by obtain ⟨t, hb⟩ := h.blk; exact frozen_of_row w k j _ _ hb
theorem Six.new (w : World) (b c ph pr si un : Int) (t : TypeId) : Six (w.alloc (.cells #[.int .i64 b, .int .i64 c, .int .i64 ph, .int .i64 pr, .int .i64 si, .int .i64 un] t)) w.heap.size ⟨b, c, ph, pr, si, un⟩ := ⟨t, heap_alloc_new _ _⟩
theorem Six.new1 (w : World) (o : Obj) (b c ph pr si un : Int) (t : TypeId) : Six ((w.alloc o).alloc (.cells #[.int .i64 b, .int .i64 c, .int .i64 ph, .int .i64 pr, .int .i64 si, .int .i64 un] t)) (w.heap.size + 1) ⟨b, c, ph, pr, si, un⟩ := ⟨t, heap_alloc2_new _ _ _⟩
theorem Six.below {w w' : World} {k : Nat} {a : Alm} (h : Six w k a) (hB : Below w.heap.size w w') : Six w' k a := by
  obtain ⟨t, hb⟩ := h.blk
  exact ⟨t, (hB.block k h.lt).trans hb⟩
theorem Six.alloc {w : World} {k : Nat} {a : Alm} (h : Six w k a) (o : Obj) : Six (w.alloc o) k a := h.below (below_new w o)
theorem Six.other {w : World} {k g j : Nat} {a : Alm} {v : Value} (h : Six w k a) (hne : k ≠ g) : Six (w.setCell ⟨g, j, none⟩ v) k a := by
  obtain ⟨t, hb⟩ := h.blk
  exact ⟨t, (heap_setCell_other w ⟨g, j, none⟩ k v hne).trans hb⟩
theorem Six.sph {w : World} {k : Nat} {a : Alm} (h : Six w k a) (x : Int) : Six (w.setCell ⟨k, 2, none⟩ (.int .i64 x)) k ⟨a.b, a.c, x, a.pr, a.si, a.un⟩ := by obtain ⟨t, hb⟩ := h.blk; exact ⟨t, heap_setCell_same w k 2 _ _ _ hb⟩
theorem Six.spr {w : World} {k : Nat} {a : Alm} (h : Six w k a) (x : Int) : Six (w.setCell ⟨k, 3, none⟩ (.int .i64 x)) k ⟨a.b, a.c, a.ph, x, a.si, a.un⟩ := by obtain ⟨t, hb⟩ := h.blk; exact ⟨t, heap_setCell_same w k 3 _ _ _ hb⟩
theorem Six.ssi {w : World} {k : Nat} {a : Alm} (h : Six w k a) (x : Int) : Six (w.setCell ⟨k, 4, none⟩ (.int .i64 x)) k ⟨a.b, a.c, a.ph, a.pr, x, a.un⟩ := by obtain ⟨t, hb⟩ := h.blk; exact ⟨t, heap_setCell_same w k 4 _ _ _ hb⟩
theorem Six.sun {w : World} {k : Nat} {a : Alm} (h : Six w k a) (x : Int) : Six (w.setCell ⟨k, 5, none⟩ (.int .i64 x)) k ⟨a.b, a.c, a.ph, a.pr, a.si, x⟩ := by obtain ⟨t, hb⟩ := h.blk; exact ⟨t, heap_setCell_same w k 5 _ _ _ hb⟩
end Go.Proofs.Ythlojadkgpmnmaa
