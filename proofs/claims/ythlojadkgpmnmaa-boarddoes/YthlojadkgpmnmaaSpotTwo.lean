/-
  Layer 4 (spot): a spot in a block of memory.
-/
import Derived.Test.YthlojadkgpmnmaaAid
namespace Go.Proofs.Ythlojadkgpmnmaa
open Go.RowKit

/-- A spot lies in the block k. -/
structure Two (w : World) (k : Nat) (b c : Int) : Prop where
  lt : k < w.heap.size
  blk : ∃ t, w.heap[k]? = some (.cells #[.int .i64 b, .int .i64 c] t (0, 0))
theorem Two.c0 {w : World} {k : Nat} {b c : Int} (h : Two w k b c) : w.cell? ⟨k, 0, none⟩ = some (.int .i64 b) := by
  obtain ⟨_, t, hb⟩ := h; simp only [World.cell?, hb]; rfl
theorem Two.c1 {w : World} {k : Nat} {b c : Int} (h : Two w k b c) : w.cell? ⟨k, 1, none⟩ = some (.int .i64 c) := by
  obtain ⟨_, t, hb⟩ := h; simp only [World.cell?, hb]; rfl
theorem Two.f0 {w : World} {k : Nat} {b c : Int} (h : Two w k b c) : w.frozen? ⟨k, 0, none⟩ = false := by
  obtain ⟨_, t, hb⟩ := h; simp only [World.frozen?, hb]; rfl
theorem Two.f1 {w : World} {k : Nat} {b c : Int} (h : Two w k b c) : w.frozen? ⟨k, 1, none⟩ = false := by
  obtain ⟨_, t, hb⟩ := h; simp only [World.frozen?, hb]; rfl
theorem Two.new (w : World) (b c : Int) (t : TypeId) : Two (w.alloc (.cells #[.int .i64 b, .int .i64 c] t)) w.heap.size b c :=
  ⟨by simp, t, World.alloc_heap_new w (.cells #[.int .i64 b, .int .i64 c] t)⟩
theorem Two.set {w : World} {k : Nat} {b c : Int} (h : Two w k b c) (b' c' : Int) : Two ((w.setCell ⟨k, 0, none⟩ (.int .i64 b')).setCell ⟨k, 1, none⟩ (.int .i64 c')) k b' c' := by
  obtain ⟨hlt, t, hb⟩ := h
  refine ⟨by simp [World.setCell]; exact hlt, t, ?_⟩
  simp only [World.setCell, Array.getElem?_modify, if_true, hb, Option.map_some]
  rfl
theorem Two.new1 (w : World) (o : Obj) (b c : Int) (t : TypeId) : Two ((w.alloc o).alloc (.cells #[.int .i64 b, .int .i64 c] t)) (w.heap.size + 1) b c := by
  have h := Two.new (w.alloc o) b c t
  have e : (w.alloc o).heap.size = w.heap.size + 1 := by simp
  rw [e] at h; exact h
theorem Two.below {w w' : World} {k : Nat} {b c : Int} (h : Two w k b c) (hB : Below w.heap.size w w') : Two w' k b c := by
  obtain ⟨hlt, t, hb⟩ := h
  exact ⟨Nat.lt_of_lt_of_le hlt hB.size, t, (hB.block k hlt).trans hb⟩
theorem Two.drew {w : World} {k : Nat} {b c : Int} (h : Two w k b c) : Two w.drew k b c := ⟨h.lt, h.blk⟩
theorem Two.alloc {w : World} {k : Nat} {b c : Int} (h : Two w k b c) (o : Obj) : Two (w.alloc o) k b c := h.below (below_new w o)


end Go.Proofs.Ythlojadkgpmnmaa
