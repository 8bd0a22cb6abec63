/-
  Layer 10 (mute): going through windows: through, next.
-/
import Derived.Test.YthbkfjnpdcfepaaMuteK
import Derived.BigQuiet
import Derived.BigRegion
import Derived.IntWalk
import Derived.Deep.QuietTactic
import Derived.Deep.WholeRow
namespace Go.Proofs.Ythbkfjnpdcfepaa
set_option maxRecDepth 10000
open Go.RowKit

theorem through_any (A : Option Addr) (l c : Nat) (w : World) :
    Calls Try.prog 27 #[.slice A l c] w fun e w' => e = .returned (.pointer (some ⟨w.heap.size, 0, none⟩)) ∧ w' = w.alloc (.cells #[.int .i64 0, .int .i64 0, .int .i64 0, .slice A l c] 50) := by
  go_enter Try.func27, Try.ntmps27
  go_wp2
  go_ret
  exact ⟨rfl, rfl⟩

/-- One that goes through windows, in block g: it is at x, ls are behind. -/
def Walk (w : World) (g : Nat) (x : Win) (ls : List Win) : Prop :=
  ∃ A c t, w.heap[g]? = some (.cells #[.int .i64 x.bed, .int .i64 x.fr, .int .i64 x.to, .slice A ls.length c] t (0, 0)) ∧ WinsAt w g A ls ∧ Roomy A ls c

theorem Walk.start {w : World} {A : Option Addr} {ls : List Win} {c : Nat} (h : WinsAt w w.heap.size A ls) (hr : Roomy A ls c) (t : TypeId) : Walk (w.alloc (.cells #[.int .i64 0, .int .i64 0, .int .i64 0, .slice A ls.length c] t)) w.heap.size ⟨0, 0, 0⟩ ls :=
  ⟨A, c, t, heap_alloc_new _ _, h.below (below_new _ _) (Nat.le_refl _), hr⟩
/-- Other blocks may change. -/
theorem Walk.kept {w w' : World} {g : Nat} {x : Win} {ls : List Win} (h : Walk w g x ls) (hb : Below (g + 1) w w') : Walk w' g x ls := by
  obtain ⟨A, c, t, h1, h2, h3⟩ := h
  exact ⟨A, c, t, (hb.block g (Nat.lt_succ_self g)).trans h1, h2.below hb (Nat.le_succ g), h3⟩
theorem Walk.lt {w : World} {g : Nat} {x : Win} {ls : List Win} (h : Walk w g x ls) : g < w.heap.size := by
  obtain ⟨A, c, t, h1, _⟩ := h
  exact (Array.getElem?_eq_some_iff.1 h1).1

theorem next_end (g : Nat) (x : Win) (w : World) (h : Walk w g x []) :
    Calls Try.prog 28 #[.pointer (some ⟨g, 0, none⟩)] w fun e w' => e = .returned (.bool false) ∧ w' = w := by
  obtain ⟨A, c, t, h1, _, _⟩ := h
  have c3 : w.cell? ⟨g, 3, none⟩ = some (.slice A 0 c) := by simp only [World.cell?, h1]; rfl
  clear h1
  go_enter Try.func28, Try.ntmps28
  go_wp2
  go_ret
  exact ⟨rfl, rfl⟩

set_option maxHeartbeats 1000000 in
theorem next_cells (g b off n c : Nat) (t : TypeId) (x0 x1 x2 y0 y1 y2 : Int) (w : World) (h1 : w.heap[g]? = some (.cells #[.int .i64 x0, .int .i64 x1, .int .i64 x2, .slice (some ⟨b, off, none⟩) (n + 1) c] t (0, 0)))
    (d0 : w.cell? ⟨b, off, none⟩ = some (.int .i64 y0)) (d1 : w.cell? ⟨b, off + 1, none⟩ = some (.int .i64 y1)) (d2 : w.cell? ⟨b, off + 2, none⟩ = some (.int .i64 y2)) :
    Calls Try.prog 28 #[.pointer (some ⟨g, 0, none⟩)] w fun e w' => e = .returned (.bool true) ∧ w' = ((((w.setCell ⟨g, 0, none⟩ (.int .i64 y0)).setCell ⟨g, 1, none⟩ (.int .i64 y1)).setCell ⟨g, 2, none⟩ (.int .i64 y2)).setCell ⟨g, 3, none⟩ (.slice (if c = 1 then some ⟨b, off, none⟩ else some ⟨b, off + 3, none⟩) n (c - 1))).drew := by
  have c0 : w.cell? ⟨g, 0, none⟩ = some (.int .i64 x0) := by simp only [World.cell?, h1]; rfl
  have c1 : w.cell? ⟨g, 1, none⟩ = some (.int .i64 x1) := by simp only [World.cell?, h1]; rfl
  have c2 : w.cell? ⟨g, 2, none⟩ = some (.int .i64 x2) := by simp only [World.cell?, h1]; rfl
  have c3 : w.cell? ⟨g, 3, none⟩ = some (.slice (some ⟨b, off, none⟩) (n + 1) c) := by simp only [World.cell?, h1]; rfl
  have f0 : w.frozen? ⟨g, 0, none⟩ = false := frozen_of_row w g _ _ _ h1
  have f1 : w.frozen? ⟨g, 1, none⟩ = false := frozen_of_row w g _ _ _ h1
  have f2 : w.frozen? ⟨g, 2, none⟩ = false := frozen_of_row w g _ _ _ h1
  have f3 : w.frozen? ⟨g, 3, none⟩ = false := frozen_of_row w g _ _ _ h1
  have i1 : ((n : Int) + 1 == 0) = false := by rw [beq_eq_false_iff_ne]; omega
  have i2 : ((n : Int) + 1 = 0) = False := eq_false (by omega)
  have i3 : (0 : Int) < (n : Int) + 1 := by omega
  have i4 : (1 : Int) ≤ (n : Int) + 1 := by omega
  clear h1
  go_enter Try.func28, Try.ntmps28
  go_wp2
  go_region
  go_wp2
  all_goals go_ret
  all_goals exact ⟨rfl, rfl⟩

theorem grown_below {w w' : World} {g : Nat} (h : w.grownBy w' (some g)) (hg : g ≤ w.heap.size) : Below g w w' :=
  ⟨h.os, h.tape, h.output, h.size, fun i hi => h.block i (by omega) (fun e => by cases e; omega)⟩
theorem grown_setCell {w w' : World} {g : Nat} (h : w.grownBy w' (some g)) (j : Nat) (v : Value) : w.grownBy (w'.setCell ⟨g, j, none⟩ v) (some g) :=
  ⟨h.os, h.tape, h.output, (by simp [World.setCell]; exact h.size), fun i hi hne => (heap_setCell_other w' ⟨g, j, none⟩ i v (fun e => hne (by rw [show i = g from e]))).trans (h.block i hi hne)⟩

theorem next_on (g : Nat) (x y : Win) (ls : List Win) (w : World) (h : Walk w g x (y :: ls)) :
    Calls Try.prog 28 #[.pointer (some ⟨g, 0, none⟩)] w fun e w' => e = .returned (.bool true) ∧ Walk w' g y ls ∧ w.grownBy w' (some g) := by
  have hlt := h.lt
  obtain ⟨A, c, t, h1, h2, h3, h4⟩ := h
  obtain ⟨b, off, rfl, hb, hy⟩ := h2 0 (by simp)
  have e0 : off + 0 * 3 = off := by omega
  rw [e0] at hy
  simp only [List.getElem_cons_zero] at hy
  rw [List.length_cons] at h1 h4
  refine (next_cells g b off ls.length c t x.bed x.fr x.to y.bed y.fr y.to w h1 hy.c0 hy.c1 hy.c2).mono ?_
  rintro e w' ⟨rfl, rfl⟩
  have gr : w.grownBy ((((w.setCell ⟨g, 0, none⟩ (.int .i64 y.bed)).setCell ⟨g, 1, none⟩ (.int .i64 y.fr)).setCell ⟨g, 2, none⟩ (.int .i64 y.to)).setCell ⟨g, 3, none⟩ (.slice (if c = 1 then some ⟨b, off, none⟩ else some ⟨b, off + 3, none⟩) ls.length (c - 1))).drew (some g) := by
    have k := grown_setCell (grown_setCell (grown_setCell (grown_setCell (grown_refl w (some g)) 0 (.int .i64 y.bed)) 1 (.int .i64 y.fr)) 2 (.int .i64 y.to)) 3 (.slice (if c = 1 then some ⟨b, off, none⟩ else some ⟨b, off + 3, none⟩) ls.length (c - 1))
    exact ⟨k.os, k.tape, k.output, k.size, k.block⟩
  have hb' := grown_below gr (Nat.le_of_lt hlt)
  refine ⟨rfl, ⟨if c = 1 then some ⟨b, off, none⟩ else some ⟨b, off + 3, none⟩, c - 1, t, ?_, ?_, ?_⟩, gr⟩
  · exact heap_setCell_same _ g 3 _ t _ (heap_setCell_same _ g 2 _ t _ (heap_setCell_same _ g 1 _ t _ (heap_setCell_same _ g 0 _ t _ h1)))
  · refine WinsAt.below (B' := g) ?_ hb' (Nat.le_refl _)
    by_cases hc : c = 1
    · have hl : ls = [] := List.length_eq_zero_iff.1 (by omega)
      rw [hl]
      exact WinsAt.nil _ _ _
    · rw [if_neg hc]
      have k := h2.drop 1
      rw [List.drop_one, List.tail_cons] at k
      exact k
  · refine ⟨fun e => ?_, by omega⟩
    split at e <;> cases e

/-! ### one window, asked -/
def Mu.isT (t : Int) : Bool := decide (0 ≤ t) && decide (t ≤ 1000000000)
theorem misTime_any (n : Int) (w : World) :
    Calls Try.prog 40 #[.int .i64 n] w fun e w' => e = .returned (.bool (Mu.isT n)) ∧ w' = w := by
  go_enter Try.func40, Try.ntmps40
  go_wp2
  all_goals go_ret
  all_goals (refine ⟨?_, rfl⟩; congr 2; unfold Mu.isT; simp [*] <;> omega)

end Go.Proofs.Ythbkfjnpdcfepaa
