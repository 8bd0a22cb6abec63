/-
  Layer 12 (file): a file in a block of memory; how a function hands it back.
-/
import Derived.Test.YteepemibmjpnfaaChecked
import Derived.Test.YteepemibmjpnfaaFileM
import Derived.Laws.ResultCell
namespace Go.Proofs.Yteepemibmjpnfaa
set_option maxRecDepth 10000
open Go.RowKit

/-- A file lies in the block k. -/
structure FilAt (w : World) (k : Nat) (m : Int) (x y : ByteArray) : Prop where
  lt : k < w.heap.size
  blk : ∃ t, w.heap[k]? = some (.cells #[.int .i64 m, .string x, .string y] t (0, 0))
theorem FilAt.c0 {w : World} {k : Nat} {m : Int} {x y : ByteArray} (h : FilAt w k m x y) : w.cell? ⟨k, 0, none⟩ = some (.int .i64 m) := by
  obtain ⟨_, t, hb⟩ := h; simp only [World.cell?, hb]; rfl
theorem FilAt.c1 {w : World} {k : Nat} {m : Int} {x y : ByteArray} (h : FilAt w k m x y) : w.cell? ⟨k, 1, none⟩ = some (.string x) := by
  obtain ⟨_, t, hb⟩ := h; simp only [World.cell?, hb]; rfl
theorem FilAt.c2 {w : World} {k : Nat} {m : Int} {x y : ByteArray} (h : FilAt w k m x y) : w.cell? ⟨k, 2, none⟩ = some (.string y) := by
  obtain ⟨_, t, hb⟩ := h; simp only [World.cell?, hb]; rfl
theorem FilAt.f0 {w : World} {k : Nat} {m : Int} {x y : ByteArray} (h : FilAt w k m x y) : w.frozen? ⟨k, 0, none⟩ = false := by
  obtain ⟨_, t, hb⟩ := h; simp only [World.frozen?, hb]; rfl
theorem FilAt.f1 {w : World} {k : Nat} {m : Int} {x y : ByteArray} (h : FilAt w k m x y) : w.frozen? ⟨k, 1, none⟩ = false := by
  obtain ⟨_, t, hb⟩ := h; simp only [World.frozen?, hb]; rfl
theorem FilAt.f2 {w : World} {k : Nat} {m : Int} {x y : ByteArray} (h : FilAt w k m x y) : w.frozen? ⟨k, 2, none⟩ = false := by
  obtain ⟨_, t, hb⟩ := h; simp only [World.frozen?, hb]; rfl
theorem FilAt.new (w : World) (m : Int) (x y : ByteArray) (t : TypeId) : FilAt (w.alloc (.cells #[.int .i64 m, .string x, .string y] t)) w.heap.size m x y :=
  ⟨by simp, t, World.alloc_heap_new w (.cells #[.int .i64 m, .string x, .string y] t)⟩
theorem FilAt.set0 {w : World} {k : Nat} {m : Int} {x y : ByteArray} (h : FilAt w k m x y) (v : Int) : FilAt (w.setCell ⟨k, 0, none⟩ (.int .i64 v)) k v x y := by
  obtain ⟨hlt, t, hb⟩ := h
  refine ⟨by simp [World.setCell]; exact hlt, t, ?_⟩
  simp only [World.setCell, Array.getElem?_modify, if_true, hb, Option.map_some]
  rfl
theorem FilAt.set1 {w : World} {k : Nat} {m : Int} {x y : ByteArray} (h : FilAt w k m x y) (v : ByteArray) : FilAt (w.setCell ⟨k, 1, none⟩ (.string v)) k m v y := by
  obtain ⟨hlt, t, hb⟩ := h
  refine ⟨by simp [World.setCell]; exact hlt, t, ?_⟩
  simp only [World.setCell, Array.getElem?_modify, if_true, hb, Option.map_some]
  rfl
theorem FilAt.set2 {w : World} {k : Nat} {m : Int} {x y : ByteArray} (h : FilAt w k m x y) (v : ByteArray) : FilAt (w.setCell ⟨k, 2, none⟩ (.string v)) k m x v := by
  obtain ⟨hlt, t, hb⟩ := h
  refine ⟨by simp [World.setCell]; exact hlt, t, ?_⟩
  simp only [World.setCell, Array.getElem?_modify, if_true, hb, Option.map_some]
  rfl
theorem FilAt.below {w w' : World} {k : Nat} {m : Int} {x y : ByteArray} (h : FilAt w k m x y) (hB : Below w.heap.size w w') : FilAt w' k m x y := by
  obtain ⟨hlt, t, hb⟩ := h
  exact ⟨Nat.lt_of_lt_of_le hlt hB.size, t, (hB.block k hlt).trans hb⟩
theorem FilAt.alloc {w : World} {k : Nat} {m : Int} {x y : ByteArray} (h : FilAt w k m x y) (o : Obj) : FilAt (w.alloc o) k m x y := h.below (below_new w o)
theorem FilAt.drew {w : World} {k : Nat} {m : Int} {x y : ByteArray} (h : FilAt w k m x y) : FilAt w.drew k m x y := ⟨h.lt, h.blk⟩
theorem FilAt.drewN {w : World} {k : Nat} {m : Int} {x y : ByteArray} (h : FilAt w k m x y) (n : Nat) : FilAt (w.drewN n) k m x y := ⟨h.lt, h.blk⟩
theorem FilAt.new1 (w : World) (o : Obj) (m : Int) (x y : ByteArray) (t : TypeId) : FilAt ((w.alloc o).alloc (.cells #[.int .i64 m, .string x, .string y] t)) (w.heap.size + 1) m x y := by
  have h := FilAt.new (w.alloc o) m x y t
  have e : (w.alloc o).heap.size = w.heap.size + 1 := by simp
  rw [e] at h; exact h
/-- One cell of a block of one's own is written. -/
theorem below_cell12 {B : Nat} {w w' : World} (h : Below B w w') {k : Nat} (hk : B ≤ k) (j : Nat) (v : Value) : Below B w (w'.setCell ⟨k, j, none⟩ v) :=
  ⟨h.os, h.tape, h.output, by simp [World.setCell]; exact h.size, fun i hi => (heap_setCell_other w' ⟨k, j, none⟩ i v (fun e => by have : i = k := e; omega)).trans (h.block i hi)⟩
/-- Three cells of a block of one's own are written. -/
theorem below_set3 {B : Nat} {w w' : World} (h : Below B w w') {k : Nat} (hk : B ≤ k) (a b c : Value) : Below B w (((w'.setCell ⟨k, 0, none⟩ a).setCell ⟨k, 1, none⟩ b).setCell ⟨k, 2, none⟩ c) :=
  below_cell12 (below_cell12 (below_cell12 h hk _ _) hk _ _) hk _ _
theorem below_drew12 {B : Nat} {a w : World} (h : Below B a w) : Below B a w.drew := ⟨h.os, h.tape, h.output, h.size, h.block⟩
/-- A cell of an earlier block stays. -/
theorem cell_set3 {w : World} {k g j : Nat} {v a b c : Value} (h : w.cell? ⟨g, j, none⟩ = some v) (hk : g < k) : (((w.setCell ⟨k, 0, none⟩ a).setCell ⟨k, 1, none⟩ b).setCell ⟨k, 2, none⟩ c).cell? ⟨g, j, none⟩ = some v :=
  ((below_set3 (Below.refl k w) (Nat.le_refl k) a b c).cell (p := ⟨g, j, none⟩) hk).trans h
/-- How a function ends that hands back a file from a cell, and a refusal. -/
theorem ret_file {fn : Func} {p u : Tmp} {k : Nat} {m : Int} {x y : ByteArray} {tmps : Array Value} {w : World} (h : fn.results = #[.cell p 23, .tmp u]) (hp : tmps.getD p undef = .pointer (some ⟨k, 0, none⟩)) (h2 : FilAt w k m x y) :
    (results fn tmps).run Try.prog w = .ok (.tuple #[.agg #[.int .i64 m, .string x, .string y], tmps.getD u undef]) w := by
  rw [results_cell_tmp h, hp]
  obtain ⟨t, hb⟩ := h2.blk
  have hl := run_loadVar_row (P := Try.prog) w k t 23 #[.int .i64 m, .string x, .string y] (0, 0) _ hb Try.underlying23 rfl (by rfl)
  simp [asAddr, Result.andThen, hl]

end Go.Proofs.Yteepemibmjpnfaa
