/-
  Layer 10 (mute): going through windows: through, next.
  Layer 10 (mute): one window, asked: has, mayBe, endsAhead, isBehind, meets.
  Layer 10 (mute): windows gone through: mayAllBe.
  Layer 10 (mute): rows of windows of one's own: beside other blocks, the last one, and its end turned.
  Layer 10 (mute): areApart, Is, fit.
  Layer 10 (mute): Till, Has.
-/
import Derived.Test.YtpgichlaghhdeaaGreatDoorXJb
import Derived.BigQuiet
import Derived.BigRegion
import Derived.IntWalk
import Derived.Deep.QuietTactic
import Derived.Deep.WholeRow
import Derived.Test.YtpgichlaghhdeaaGreatDoorXJa
import Derived.Deep.RegionHeld3
namespace Go.Proofs.YtpgichlaghhdeaaGreatDoor
set_option maxRecDepth 10000
open Go.RowKit

theorem through_any (A : Option Addr) (l c : Nat) (w : World) :
    Calls Tryz.prog 75 #[.slice A l c] w fun e w' => e = .returned (.pointer (some ⟨w.heap.size, 0, none⟩)) ∧ w' = w.alloc (.cells #[.int .i64 0, .int .i64 0, .int .i64 0, .slice A l c] 103) := by
  go_enter Tryz.func75, Tryz.ntmps75
  go_wp2
  go_ret
  exact ⟨rfl, rfl⟩

/-- One that goes through windows, in block g: it is at x, ls are behind. -/
def Walk (w : World) (g : Nat) (x : Win) (ls : List Win) : Prop :=
  ∃ A c t, w.heap[g]? = some (.cells #[.int .i64 x.bed, .int .i64 x.fr, .int .i64 x.to, .slice A ls.length c] t (0, 0)) ∧ WinsAt w g A ls ∧ Roomy A ls c

theorem Walk.start {w : World} {A : Option Addr} {ls : List Win} {c : Nat} (h : WinsAt w w.heap.size A ls) (hr : Roomy A ls c) (t : TypeId) : Walk (w.alloc (.cells #[.int .i64 0, .int .i64 0, .int .i64 0, .slice A ls.length c] t)) w.heap.size ⟨0, 0, 0⟩ ls :=
  ⟨A, c, t, heap_alloc_new _ _, h.below (below_new _ _) (Nat.le_refl _), hr⟩
/-- Other blocks may change. -/
theorem Walk.kept {w w' : World} {g : Nat} {x : Win} {ls : List Win} (h : Walk w g x ls) (hb : Below (g + 1) w w') : Walk w' g x ls := by
  obtain ⟨A, c, t, h1, h2, h3⟩ := h
  exact ⟨A, c, t, (hb.block g (Nat.lt_succ_self g)).trans h1, h2.below hb (Nat.le_succ g), h3⟩
theorem Walk.lt {w : World} {g : Nat} {x : Win} {ls : List Win} (h : Walk w g x ls) : g < w.heap.size := by
  obtain ⟨A, c, t, h1, _⟩ := h
  exact (Array.getElem?_eq_some_iff.1 h1).1

theorem next_end (g : Nat) (x : Win) (w : World) (h : Walk w g x []) :
    Calls Tryz.prog 76 #[.pointer (some ⟨g, 0, none⟩)] w fun e w' => e = .returned (.bool false) ∧ w' = w := by
  obtain ⟨A, c, t, h1, _, _⟩ := h
  have c3 : w.cell? ⟨g, 3, none⟩ = some (.slice A 0 c) := by simp only [World.cell?, h1]; rfl
  clear h1
  go_enter Tryz.func76, Tryz.ntmps76
  go_wp2
  go_ret
  exact ⟨rfl, rfl⟩

set_option maxHeartbeats 1000000 in
theorem next_cells (g b off n c : Nat) (t : TypeId) (x0 x1 x2 y0 y1 y2 : Int) (w : World) (h1 : w.heap[g]? = some (.cells #[.int .i64 x0, .int .i64 x1, .int .i64 x2, .slice (some ⟨b, off, none⟩) (n + 1) c] t (0, 0)))
    (d0 : w.cell? ⟨b, off, none⟩ = some (.int .i64 y0)) (d1 : w.cell? ⟨b, off + 1, none⟩ = some (.int .i64 y1)) (d2 : w.cell? ⟨b, off + 2, none⟩ = some (.int .i64 y2)) :
    Calls Tryz.prog 76 #[.pointer (some ⟨g, 0, none⟩)] w fun e w' => e = .returned (.bool true) ∧ w' = ((((w.setCell ⟨g, 0, none⟩ (.int .i64 y0)).setCell ⟨g, 1, none⟩ (.int .i64 y1)).setCell ⟨g, 2, none⟩ (.int .i64 y2)).setCell ⟨g, 3, none⟩ (.slice (if c = 1 then some ⟨b, off, none⟩ else some ⟨b, off + 3, none⟩) n (c - 1))).drew := by
  have c0 : w.cell? ⟨g, 0, none⟩ = some (.int .i64 x0) := by simp only [World.cell?, h1]; rfl
  have c1 : w.cell? ⟨g, 1, none⟩ = some (.int .i64 x1) := by simp only [World.cell?, h1]; rfl
  have c2 : w.cell? ⟨g, 2, none⟩ = some (.int .i64 x2) := by simp only [World.cell?, h1]; rfl
  have c3 : w.cell? ⟨g, 3, none⟩ = some (.slice (some ⟨b, off, none⟩) (n + 1) c) := by simp only [World.cell?, h1]; rfl
  have f0 : w.frozen? ⟨g, 0, none⟩ = false := frozen_of_row w g _ _ _ h1
  have f1 : w.frozen? ⟨g, 1, none⟩ = false := frozen_of_row w g _ _ _ h1
  have f2 : w.frozen? ⟨g, 2, none⟩ = false := frozen_of_row w g _ _ _ h1
  have f3 : w.frozen? ⟨g, 3, none⟩ = false := frozen_of_row w g _ _ _ h1
  have i1 : ((n : Int) + 1 == 0) = false := by rw [beq_eq_false_iff_ne]; omega
  have i2 : ((n : Int) + 1 = 0) = False := eq_false (by omega)
  have i3 : (0 : Int) < (n : Int) + 1 := by omega
  have i4 : (1 : Int) ≤ (n : Int) + 1 := by omega
  clear h1
  go_enter Tryz.func76, Tryz.ntmps76
  go_wp2
  go_region
  go_wp2
  all_goals go_ret
  all_goals exact ⟨rfl, rfl⟩

theorem grown_below {w w' : World} {g : Nat} (h : w.grownBy w' (some g)) (hg : g ≤ w.heap.size) : Below g w w' :=
  ⟨h.os, h.tape, h.output, h.size, fun i hi => h.block i (by omega) (fun e => by cases e; omega)⟩
theorem grown_setCellM {w w' : World} {g : Nat} (h : w.grownBy w' (some g)) (j : Nat) (v : Value) : w.grownBy (w'.setCell ⟨g, j, none⟩ v) (some g) :=
  ⟨h.os, h.tape, h.output, (by simp [World.setCell]; exact h.size), fun i hi hne => (heap_setCell_other w' ⟨g, j, none⟩ i v (fun e => hne (by rw [show i = g from e]))).trans (h.block i hi hne)⟩

theorem next_on (g : Nat) (x y : Win) (ls : List Win) (w : World) (h : Walk w g x (y :: ls)) :
    Calls Tryz.prog 76 #[.pointer (some ⟨g, 0, none⟩)] w fun e w' => e = .returned (.bool true) ∧ Walk w' g y ls ∧ w.grownBy w' (some g) := by
  have hlt := h.lt
  obtain ⟨A, c, t, h1, h2, h3, h4⟩ := h
  obtain ⟨b, off, rfl, hb, hy⟩ := h2 0 (by simp)
  have e0 : off + 0 * 3 = off := by omega
  rw [e0] at hy
  simp only [List.getElem_cons_zero] at hy
  rw [List.length_cons] at h1 h4
  refine (next_cells g b off ls.length c t x.bed x.fr x.to y.bed y.fr y.to w h1 hy.c0 hy.c1 hy.c2).mono ?_
  rintro e w' ⟨rfl, rfl⟩
  have gr : w.grownBy ((((w.setCell ⟨g, 0, none⟩ (.int .i64 y.bed)).setCell ⟨g, 1, none⟩ (.int .i64 y.fr)).setCell ⟨g, 2, none⟩ (.int .i64 y.to)).setCell ⟨g, 3, none⟩ (.slice (if c = 1 then some ⟨b, off, none⟩ else some ⟨b, off + 3, none⟩) ls.length (c - 1))).drew (some g) := by
    have k := grown_setCellM (grown_setCellM (grown_setCellM (grown_setCellM (grown_refl w (some g)) 0 (.int .i64 y.bed)) 1 (.int .i64 y.fr)) 2 (.int .i64 y.to)) 3 (.slice (if c = 1 then some ⟨b, off, none⟩ else some ⟨b, off + 3, none⟩) ls.length (c - 1))
    exact ⟨k.os, k.tape, k.output, k.size, k.block⟩
  have hb' := grown_below gr (Nat.le_of_lt hlt)
  refine ⟨rfl, ⟨if c = 1 then some ⟨b, off, none⟩ else some ⟨b, off + 3, none⟩, c - 1, t, ?_, ?_, ?_⟩, gr⟩
  · exact heap_setCell_same _ g 3 _ t _ (heap_setCell_same _ g 2 _ t _ (heap_setCell_same _ g 1 _ t _ (heap_setCell_same _ g 0 _ t _ h1)))
  · refine WinsAt.below (B' := g) ?_ hb' (Nat.le_refl _)
    by_cases hc : c = 1
    · have hl : ls = [] := List.length_eq_zero_iff.1 (by omega)
      rw [hl]
      exact WinsAt.nil _ _ _
    · rw [if_neg hc]
      have k := h2.drop 1
      rw [List.drop_one, List.tail_cons] at k
      exact k
  · refine ⟨fun e => ?_, by omega⟩
    split at e <;> cases e

/-! ### one window, asked -/
def Mu.isT (t : Int) : Bool := decide (0 ≤ t) && decide (t ≤ 1000000000)
theorem misTime_any (n : Int) (w : World) :
    Calls Tryz.prog 102 #[.int .i64 n] w fun e w' => e = .returned (.bool (Mu.isT n)) ∧ w' = w := by
  go_enter Tryz.func102, Tryz.ntmps102
  go_wp2
  all_goals go_ret
  all_goals (refine ⟨?_, rfl⟩; congr 2; unfold Mu.isT; simp [*] <;> omega)

end Go.Proofs.YtpgichlaghhdeaaGreatDoor

namespace Go.Proofs.YtpgichlaghhdeaaGreatDoor
set_option maxRecDepth 10000
open Go.RowKit

/-- A window is all behind another one. -/
def Mu.behind (w x : Win) : Prop := x.bed < w.bed ∨ (w.bed = x.bed ∧ x.to ≤ w.fr)
instance (w x : Win) : Decidable (Mu.behind w x) := by unfold Mu.behind; infer_instance
/-- Two windows have a time in common. -/
def Mu.meet (w x : Win) : Prop := w.bed = x.bed ∧ w.fr < x.to ∧ x.fr < w.to
instance (w x : Win) : Decidable (Mu.meet w x) := by unfold Mu.meet; infer_instance
theorem isT_true {t : Int} (h0 : 0 ≤ t) (h1 : t ≤ 1000000000) : Mu.isT t = true := by unfold Mu.isT; simp [h0, h1]
theorem isT_iff {t : Int} : Mu.isT t = true ↔ 0 ≤ t ∧ t ≤ 1000000000 := by unfold Mu.isT; simp

theorem mhas_any (x0 x1 x2 b t : Int) (w : World) : Calls Tryz.prog 77 #[.agg #[.int .i64 x0, .int .i64 x1, .int .i64 x2], .int .i64 b, .int .i64 t] w fun e w' => e = .returned (.bool (Mu.hasW ⟨x0, x1, x2⟩ b t)) ∧ Below w.heap.size w w' := by
  have key : ∀ z : Bool, z = (Mu.hasW ⟨x0, x1, x2⟩ b t) → Calls Tryz.prog 77 #[.agg #[.int .i64 x0, .int .i64 x1, .int .i64 x2], .int .i64 b, .int .i64 t] w fun e w' => e = .returned (.bool z) ∧ Below w.heap.size w w' := by
    intro z hz
    by_cases h1 : x0 = b
    · have b1 : (x0 == b) = true := beq_iff_eq.2 h1
      have a1 : (x0 = b) = True := eq_true h1
      by_cases h2 : x1 ≤ t
      · have a2 : (x1 ≤ t) = True := eq_true h2
        by_cases h3 : t < x2
        · have a3 : (t < x2) = True := eq_true h3
          obtain rfl : z = true := by rw [hz]; exact Mu.hasW_iff.2 (by simp only; omega)
          clear hz h1 h2 h3
          go_enter Tryz.func77, Tryz.ntmps77
          go_wp2
          go_ret
          exact ⟨rfl, below_new _ _⟩
        · have a3 : (t < x2) = False := eq_false h3
          obtain rfl : z = false := by rw [hz]; rw [← Bool.not_eq_true, Mu.hasW_iff]; simp only; omega
          clear hz h1 h2 h3
          go_enter Tryz.func77, Tryz.ntmps77
          go_wp2
          go_ret
          exact ⟨rfl, below_new _ _⟩
      · have a2 : (x1 ≤ t) = False := eq_false h2
        obtain rfl : z = false := by rw [hz]; rw [← Bool.not_eq_true, Mu.hasW_iff]; simp only; omega
        clear hz h1 h2
        go_enter Tryz.func77, Tryz.ntmps77
        go_wp2
        go_ret
        exact ⟨rfl, below_new _ _⟩
    · have b1 : (x0 == b) = false := by rw [beq_eq_false_iff_ne]; exact h1
      have a1 : (x0 = b) = False := eq_false h1
      obtain rfl : z = false := by rw [hz]; rw [← Bool.not_eq_true, Mu.hasW_iff]; simp only; omega
      clear hz h1
      go_enter Tryz.func77, Tryz.ntmps77
      go_wp2
      go_ret
      exact ⟨rfl, below_new _ _⟩
  exact key _ rfl

theorem mmayBe_any (x0 x1 x2 : Int) (w : World) : Calls Tryz.prog 79 #[.agg #[.int .i64 x0, .int .i64 x1, .int .i64 x2]] w fun e w' => e = .returned (.bool (Mu.may ⟨x0, x1, x2⟩)) ∧ Below w.heap.size w w' := by
  have key : ∀ z : Bool, z = (Mu.may ⟨x0, x1, x2⟩) → Calls Tryz.prog 79 #[.agg #[.int .i64 x0, .int .i64 x1, .int .i64 x2]] w fun e w' => e = .returned (.bool z) ∧ Below w.heap.size w w' := by
    intro z hz
    by_cases h1 : 1 ≤ x0
    · have a1 : (1 ≤ x0) = True := eq_true h1
      by_cases h2 : x0 ≤ 99
      · have a2 : (x0 ≤ 99) = True := eq_true h2
        by_cases h3 : Mu.isT x1 = true
        · have g3 : ∀ W, Calls Tryz.prog 102 #[.int .i64 x1] W fun e w' => e = .returned (.bool true) ∧ w' = W := fun W => by have k := misTime_any x1 W; rw [h3] at k; exact k
          have q3 := isT_iff.1 h3
          by_cases h4 : Mu.isT x2 = true
          · have g4 : ∀ W, Calls Tryz.prog 102 #[.int .i64 x2] W fun e w' => e = .returned (.bool true) ∧ w' = W := fun W => by have k := misTime_any x2 W; rw [h4] at k; exact k
            have q4 := isT_iff.1 h4
            by_cases h5 : x1 < x2
            · have a5 : (x1 < x2) = True := eq_true h5
              obtain rfl : z = true := by rw [hz]; exact Mu.may_iff.2 (by simp only; omega)
              clear hz h1 h2 h3 q3 h4 q4 h5
              go_enter Tryz.func79, Tryz.ntmps79
              go_wp2_with fail
              refine (g3 _).mono ?_
              rintro e w1 ⟨rfl, rfl⟩
              go_wp2_with fail
              refine (g4 _).mono ?_
              rintro e w1 ⟨rfl, rfl⟩
              go_wp2
              go_ret
              exact ⟨rfl, below_new _ _⟩
            · have a5 : (x1 < x2) = False := eq_false h5
              obtain rfl : z = false := by rw [hz]; rw [← Bool.not_eq_true, Mu.may_iff]; simp only; omega
              clear hz h1 h2 h3 q3 h4 q4 h5
              go_enter Tryz.func79, Tryz.ntmps79
              go_wp2_with fail
              refine (g3 _).mono ?_
              rintro e w1 ⟨rfl, rfl⟩
              go_wp2_with fail
              refine (g4 _).mono ?_
              rintro e w1 ⟨rfl, rfl⟩
              go_wp2
              go_ret
              exact ⟨rfl, below_new _ _⟩
          · have h4' : Mu.isT x2 = false := by simpa using h4
            have g4 : ∀ W, Calls Tryz.prog 102 #[.int .i64 x2] W fun e w' => e = .returned (.bool false) ∧ w' = W := fun W => by have k := misTime_any x2 W; rw [h4'] at k; exact k
            have q4 : ¬ (0 ≤ x2 ∧ x2 ≤ 1000000000) := fun k => h4 (isT_iff.2 k)
            obtain rfl : z = false := by rw [hz]; rw [← Bool.not_eq_true, Mu.may_iff]; simp only; omega
            clear hz h1 h2 h3 q3 h4 h4' q4
            go_enter Tryz.func79, Tryz.ntmps79
            go_wp2_with fail
            refine (g3 _).mono ?_
            rintro e w1 ⟨rfl, rfl⟩
            go_wp2_with fail
            refine (g4 _).mono ?_
            rintro e w1 ⟨rfl, rfl⟩
            go_wp2
            go_ret
            exact ⟨rfl, below_new _ _⟩
        · have h3' : Mu.isT x1 = false := by simpa using h3
          have g3 : ∀ W, Calls Tryz.prog 102 #[.int .i64 x1] W fun e w' => e = .returned (.bool false) ∧ w' = W := fun W => by have k := misTime_any x1 W; rw [h3'] at k; exact k
          have q3 : ¬ (0 ≤ x1 ∧ x1 ≤ 1000000000) := fun k => h3 (isT_iff.2 k)
          obtain rfl : z = false := by rw [hz]; rw [← Bool.not_eq_true, Mu.may_iff]; simp only; omega
          clear hz h1 h2 h3 h3' q3
          go_enter Tryz.func79, Tryz.ntmps79
          go_wp2_with fail
          refine (g3 _).mono ?_
          rintro e w1 ⟨rfl, rfl⟩
          go_wp2
          go_ret
          exact ⟨rfl, below_new _ _⟩
      · have a2 : (x0 ≤ 99) = False := eq_false h2
        obtain rfl : z = false := by rw [hz]; rw [← Bool.not_eq_true, Mu.may_iff]; simp only; omega
        clear hz h1 h2
        go_enter Tryz.func79, Tryz.ntmps79
        go_wp2
        go_ret
        exact ⟨rfl, below_new _ _⟩
    · have a1 : (1 ≤ x0) = False := eq_false h1
      obtain rfl : z = false := by rw [hz]; rw [← Bool.not_eq_true, Mu.may_iff]; simp only; omega
      clear hz h1
      go_enter Tryz.func79, Tryz.ntmps79
      go_wp2
      go_ret
      exact ⟨rfl, below_new _ _⟩
  exact key _ rfl

theorem endsAhead_any (x0 x1 x2 y0 y1 y2 : Int) (w : World) : Calls Tryz.prog 83 #[.agg #[.int .i64 x0, .int .i64 x1, .int .i64 x2], .agg #[.int .i64 y0, .int .i64 y1, .int .i64 y2]] w fun e w' => e = .returned (.bool (decide (Mu.before ⟨x0, x1, x2⟩ ⟨y0, y1, y2⟩))) ∧ Below w.heap.size w w' := by
  have key : ∀ z : Bool, z = (decide (Mu.before ⟨x0, x1, x2⟩ ⟨y0, y1, y2⟩)) → Calls Tryz.prog 83 #[.agg #[.int .i64 x0, .int .i64 x1, .int .i64 x2], .agg #[.int .i64 y0, .int .i64 y1, .int .i64 y2]] w fun e w' => e = .returned (.bool z) ∧ Below w.heap.size w w' := by
    intro z hz
    by_cases h1 : x0 < y0
    · have a1 : (x0 < y0) = True := eq_true h1
      obtain rfl : z = true := by rw [hz]; exact decide_eq_true (by unfold Mu.before; simp only; omega)
      clear hz h1
      go_enter Tryz.func83, Tryz.ntmps83
      go_wp2
      go_ret
      exact ⟨rfl, below_new2 _ _ _⟩
    · have a1 : (x0 < y0) = False := eq_false h1
      by_cases h2 : x0 = y0
      · have b2 : (x0 == y0) = true := beq_iff_eq.2 h2
        have a2 : (x0 = y0) = True := eq_true h2
        by_cases h3 : x2 < y1
        · have a3 : (x2 < y1) = True := eq_true h3
          obtain rfl : z = true := by rw [hz]; exact decide_eq_true (by unfold Mu.before; simp only; omega)
          clear hz h1 h2 h3
          go_enter Tryz.func83, Tryz.ntmps83
          go_wp2
          go_ret
          exact ⟨rfl, below_new2 _ _ _⟩
        · have a3 : (x2 < y1) = False := eq_false h3
          obtain rfl : z = false := by rw [hz]; exact decide_eq_false (by unfold Mu.before; simp only; omega)
          clear hz h1 h2 h3
          go_enter Tryz.func83, Tryz.ntmps83
          go_wp2
          go_ret
          exact ⟨rfl, below_new2 _ _ _⟩
      · have b2 : (x0 == y0) = false := by rw [beq_eq_false_iff_ne]; exact h2
        have a2 : (x0 = y0) = False := eq_false h2
        obtain rfl : z = false := by rw [hz]; exact decide_eq_false (by unfold Mu.before; simp only; omega)
        clear hz h1 h2
        go_enter Tryz.func83, Tryz.ntmps83
        go_wp2
        go_ret
        exact ⟨rfl, below_new2 _ _ _⟩
  exact key _ rfl

end Go.Proofs.YtpgichlaghhdeaaGreatDoor

namespace Go.Proofs.YtpgichlaghhdeaaGreatDoor
set_option maxRecDepth 10000
open Go.RowKit

/-- How many are behind. -/
def behindN (w : World) (g : Nat) : Nat := match w.cell? ⟨g, 3, none⟩ with | some (.slice _ n _) => n | _ => 0
theorem Walk.n {w : World} {g : Nat} {x : Win} {ls : List Win} (h : Walk w g x ls) : behindN w g = ls.length := by
  obtain ⟨A, c, t, h1, _⟩ := h
  have : w.cell? ⟨g, 3, none⟩ = some (.slice A ls.length c) := by simp only [World.cell?, h1]; rfl
  unfold behindN
  rw [this]
theorem Walk.c0 {w : World} {g : Nat} {x : Win} {ls : List Win} (h : Walk w g x ls) : w.cell? ⟨g, 0, none⟩ = some (.int .i64 x.bed) := by obtain ⟨A, c, t, h1, _⟩ := h; simp only [World.cell?, h1]; rfl
theorem Walk.c1 {w : World} {g : Nat} {x : Win} {ls : List Win} (h : Walk w g x ls) : w.cell? ⟨g, 1, none⟩ = some (.int .i64 x.fr) := by obtain ⟨A, c, t, h1, _⟩ := h; simp only [World.cell?, h1]; rfl
theorem Walk.c2 {w : World} {g : Nat} {x : Win} {ls : List Win} (h : Walk w g x ls) : w.cell? ⟨g, 2, none⟩ = some (.int .i64 x.to) := by obtain ⟨A, c, t, h1, _⟩ := h; simp only [World.cell?, h1]; rfl
theorem Walk.on {w w' : World} {g : Nat} {x : Win} {ls : List Win} (h : Walk w g x ls) (hb : Below w.heap.size w w') : Walk w' g x ls := h.kept (hb.mono h.lt)
/-- From one that begins, at the end of memory. -/
structure Going (w : World) (g : Nat) (rest : List Win) (x : Win) (wr : World) : Prop where
  walk : Walk wr g x rest
  below : Below w.heap.size w wr
theorem Going.start {w : World} {A : Option Addr} {l c : Nat} {ls : List Win} (h : ToldW w A l c ls) : Going w w.heap.size ls ⟨0, 0, 0⟩ (w.alloc (.cells #[.int .i64 0, .int .i64 0, .int .i64 0, .slice A l c] 103)) := by
  obtain ⟨rfl, h1, h2, _⟩ := h
  exact ⟨Walk.start h1 h2 _, below_new _ _⟩
theorem Going.on {w wr w' : World} {g : Nat} {rest : List Win} {x : Win} (h : Going w g rest x wr) (hb : Below wr.heap.size wr w') : Going w g rest x w' := ⟨h.walk.on hb, below2 h.below hb⟩
theorem Going.next {w wr w' : World} {g : Nat} {rest : List Win} {x y : Win} {ls : List Win} (h : Going w g ls x wr) (hg : w.heap.size ≤ g) (h1 : Walk w' g y rest) (h2 : wr.grownBy w' (some g)) : Going w g rest y w' :=
  ⟨h1, h.below.trans ((grown_below h2 (Nat.le_of_lt h.walk.lt)).mono hg)⟩

set_option maxHeartbeats 1000000 in
theorem mayAllBe_any (A : Option Addr) (l c : Nat) (ls : List Win) (w : World) (h : ToldW w A l c ls) :
    Calls Tryz.prog 52 #[.slice A l c] w fun e w' => e = .returned (.bool (ls.all Mu.may)) ∧ Below w.heap.size w w' := by
  have H0 := Lib.hid (Going.start h)
  obtain ⟨r, hr⟩ : ∃ r, r = ls.all Mu.may := ⟨_, rfl⟩
  have Hr := Lib.hid hr
  rw [← hr]
  clear hr h
  obtain ⟨g, hg⟩ : ∃ g, g = w.heap.size := ⟨_, rfl⟩
  have Hg := Lib.hid hg
  have T := through_any A l c w
  rw [← hg] at H0 T
  clear hg
  go_enter Tryz.func52, Tryz.ntmps52
  go_wp2_with fail
  refine T.mono ?_
  rintro e w1 ⟨rfl, hw1⟩
  rw [← hw1] at H0
  clear hw1 T
  go_wp2_with fail
  go_loopw [6] (fun _ wr => ∃ rest x, Hid (Going w g rest x wr) ∧ Hid (rest.all Mu.may = r)) (fun _ wr => behindN wr g)
  case atStart => exact ⟨ls, _, H0, Lib.hid Hr.out.symm⟩
  case round =>
    clear H0
    obtain ⟨rest, x, HW, Ha⟩ := hrel
    cases rest with
    | nil =>
      have He : Hid (r = true) := Lib.hid Ha.out.symm
      go_wp2_with fail
      refine (next_end g x wr HW.out.walk).mono ?_
      rintro e w2 ⟨rfl, rfl⟩
      go_wp2
      go_ret
      exact ⟨by rw [He.out]; rfl, HW.out.below⟩
    | cons y rest =>
      go_wp2_with fail
      refine (next_on g x y rest wr HW.out.walk).mono ?_
      rintro e w2 ⟨rfl, hw, hgr⟩
      have HW2 := Lib.hid (HW.out.next (Nat.le_of_eq Hg.out.symm) hw hgr)
      have Hn : Hid (behindN wr g = rest.length + 1) := Lib.hid HW.out.walk.n
      clear hw hgr HW
      obtain ⟨y0, y1, y2⟩ := y
      have c0 := HW2.out.walk.c0
      have c1 := HW2.out.walk.c1
      have c2 := HW2.out.walk.c2
      simp only at c0 c1 c2
      cases hm : Mu.may ⟨y0, y1, y2⟩ with
      | true =>
        have Ha2 : Hid (rest.all Mu.may = r) := Lib.hid (by have := Ha.out; rw [List.all_cons, hm] at this; simpa using this)
        have k := fun W => mmayBe_any y0 y1 y2 W
        rw [hm] at k
        clear Ha hm
        go_wp2_with fail
        refine (k _).mono ?_
        rintro e w3 ⟨rfl, hB⟩
        have HW3 := Lib.hid (HW2.out.on hB)
        clear hB HW2 c0 c1 c2
        go_wp2
        go_roundw
        case rel => exact ⟨rest, _, HW3, Ha2⟩
        case measure => rw [Hn.out, HW3.out.walk.n]; omega
      | false =>
        have He : Hid (r = false) := Lib.hid (by have := Ha.out; rw [List.all_cons, hm] at this; simpa using this.symm)
        have k := fun W => mmayBe_any y0 y1 y2 W
        rw [hm] at k
        clear Ha hm
        go_wp2_with fail
        refine (k _).mono ?_
        rintro e w3 ⟨rfl, hB⟩
        have HW3 := Lib.hid (HW2.out.on hB)
        clear hB HW2 c0 c1 c2
        go_wp2
        go_ret
        exact ⟨by rw [He.out]; rfl, HW3.out.below⟩
end Go.Proofs.YtpgichlaghhdeaaGreatDoor

namespace Go.Proofs.YtpgichlaghhdeaaGreatDoor
set_option maxRecDepth 10000
open Go.RowKit

theorem OwnW.aside {w w' : World} {base g : Nat} {v : Value} {ls : List Win} (h : OwnW w base v ls) (hg : w.grownBy w' (some g)) (hb : g < base) : OwnW w' base v ls := by
  obtain ⟨h0, h1⟩ := h
  refine ⟨h0, ?_⟩
  rcases h1 with h1 | ⟨g', cap, cur, e, hb', hgg, h2⟩
  · exact Or.inl h1
  · exact Or.inr ⟨g', cap, cur, e, hb', (hg.block g' (Array.getElem?_eq_some_iff.1 hgg).1 (fun e => by cases e; omega)).trans hgg, h2⟩
/-- The last one of a row of one's own. -/
theorem OwnW.last {w : World} {base n cap : Nat} {A : Option Addr} {pre : List Win} {y : Win} (h : OwnW w base (.slice A n cap) (pre ++ [y])) :
    ∃ g, A = some ⟨g, 0, none⟩ ∧ n = pre.length + 1 ∧ base ≤ g ∧ g < w.heap.size ∧ Wi3 w g (pre.length * 3) y ∧ w.frozen? ⟨g, pre.length * 3 + 2, none⟩ = false := by
  have hr := h.rows.1 pre.length (by simp)
  obtain ⟨b, off, hA, hb, h3⟩ := hr
  obtain ⟨h0, h1⟩ := h
  rcases h1 with ⟨e, _⟩ | ⟨g, cap', cur, e, hb', hg, h2⟩
  · cases e; cases hA
  · injection e with e1 e2 e3
    subst e1
    injection hA with hA
    injection hA with hA1 hA2
    subst hA1 hA2
    have ey : (pre ++ [y])[pre.length]'(by simp) = y := by simp
    rw [ey, Nat.zero_add] at h3
    exact ⟨g, rfl, by rw [e2]; simp, hb', (Array.getElem?_eq_some_iff.1 hg).1, h3, frozen_of_row w g _ _ _ hg⟩
theorem set_third (X : List Value) (a b c d : Value) : (X ++ [a, b, c]).set (X.length + 2) d = X ++ [a, b, d] := by
  rw [List.set_append_right _ _ (by omega)]
  have e : X.length + 2 - X.length = 2 := by omega
  rw [e]; rfl
theorem OwnW.setTo {w : World} {base g n cap : Nat} {pre : List Win} {y : Win} (t : Int) (h : OwnW w base (.slice (some ⟨g, 0, none⟩) n cap) (pre ++ [y])) :
    OwnW (w.setCell ⟨g, pre.length * 3 + 2, none⟩ (.int .i64 t)) base (.slice (some ⟨g, 0, none⟩) n cap) (pre ++ [⟨y.bed, y.fr, t⟩]) := by
  obtain ⟨h0, h1⟩ := h
  rcases h1 with ⟨e, _⟩ | ⟨g', cap', cur, e, hb, hg, hcap, hmax, hsz, ht⟩
  · cases e
  · injection e with e1 e2 e3
    injection e1 with e1
    injection e1 with e1
    subst e1 e3
    have hA : (flat3 pre).length = pre.length * 3 := flat3_len pre
    refine ⟨by rw [flat3_len], Or.inr ⟨g, cap, _, ?_, hb, heap_setCell_same _ _ _ _ _ _ hg, ?_, hmax, ?_, ?_⟩⟩
    · rw [e2]; simp
    · simpa using hcap
    · simpa using hsz
    · have el : (pre ++ [(⟨y.bed, y.fr, t⟩ : Win)]).length = (pre ++ [y]).length := by simp
      rw [el]
      rw [flat3_app] at ht ⊢
      simp only [Array.toList_setIfInBounds, List.take_set, ht]
      rw [← hA]
      exact set_third _ _ _ _ _
theorem grown_one {w w' : World} {g : Nat} (h : w.grownBy w' (some g)) (j : Nat) (v : Value) : w.grownBy (w'.setCell ⟨g, j, none⟩ v) (some g) := grown_setCellM h j v
theorem Wi3.drew {w : World} {b o : Nat} {a : Win} (h : Wi3 w b o a) : Wi3 w.drew b o a := ⟨h.c0, h.c1, h.c2⟩
theorem Walk.wi {w : World} {g : Nat} {x : Win} {ls : List Win} (h : Walk w g x ls) : Wi3 w g 0 x := ⟨h.c0, h.c1, h.c2⟩
/-- A walk that begins in a world behind another one. -/
theorem Going.begin {w w1 : World} {A : Option Addr} {c : Nat} {ls : List Win} (hB : Below w.heap.size w w1) (h1 : WinsAt w1 w1.heap.size A ls) (h2 : Roomy A ls c) :
    Going w w1.heap.size ls ⟨0, 0, 0⟩ (w1.alloc (.cells #[.int .i64 0, .int .i64 0, .int .i64 0, .slice A ls.length c] 103)) :=
  ⟨Walk.start h1 h2 _, below2 hB (below_new _ _)⟩
/-- What is done in blocks behind the walk's own. -/
theorem Going.off {w wr w' : World} {g : Nat} {rest : List Win} {x : Win} (h : Going w g rest x wr) (hg : w.heap.size ≤ g) (hb : Below (g + 1) wr w') : Going w g rest x w' :=
  ⟨h.walk.kept hb, h.below.trans (hb.mono (by omega))⟩
theorem below_setCell9 {B g j : Nat} {v : Value} (w : World) (hb : B ≤ g) : Below B w (w.setCell ⟨g, j, none⟩ v) :=
  ⟨rfl, rfl, rfl, by simp [World.setCell], fun i hi => heap_setCell_other w ⟨g, j, none⟩ i v (fun e => by simp only at e; omega)⟩
/-- Sorted, and with the same windows. -/
def Mu.Sorted (ls ss : List Win) : Prop := ss.Perm ls ∧ ss.Pairwise Mu.le2
/-- What the library's sort by compare does. -/
def MSortK : Prop := ∀ (v : Value) (base : Nat) (ls : List Win) (w : World) (_hO : OwnW w base v ls) (_hl : ls.length ≤ 10000),
    Calls Tryz.prog 81 #[v, .func (.func 82) #[] #[]] w fun e w' =>
      e = .returned (.tuple #[]) ∧ ∃ ss, Mu.Sorted ls ss ∧ OwnW w' base v ss ∧ ∀ w0, Below w0.heap.size w0 w → w0.heap.size ≤ base → Below w0.heap.size w0 w'
end Go.Proofs.YtpgichlaghhdeaaGreatDoor

namespace Go.Proofs.YtpgichlaghhdeaaGreatDoor
set_option maxRecDepth 10000
open Go.RowKit

theorem Walk.c3 {w : World} {g : Nat} {x : Win} {ls : List Win} (h : Walk w g x ls) : ∃ A c, w.cell? ⟨g, 3, none⟩ = some (.slice A ls.length c) ∧ WinsAt w g A ls := by
  obtain ⟨A, c, t, h1, h2, _⟩ := h
  exact ⟨A, c, by simp only [World.cell?, h1]; rfl, h2⟩

set_option maxHeartbeats 4000000 in
theorem areApart_any (A : Option Addr) (l c : Nat) (ls : List Win) (w : World) (h : ToldW w A l c ls) :
    Calls Tryz.prog 78 #[.slice A l c] w fun e w' => e = .returned (.bool (Mu.rising ls)) ∧ Below w.heap.size w w' := by
  have H0 := Lib.hid (Going.start h)
  have Hl : Hid (ls.length ≤ 1000) := Lib.hid (by rw [← h.1]; exact h.2.2.2)
  obtain ⟨r, hr⟩ : ∃ r, r = Mu.rising ls := ⟨_, rfl⟩
  have Hr := Lib.hid hr
  rw [← hr]
  clear hr h
  obtain ⟨g, hg⟩ : ∃ g, g = w.heap.size := ⟨_, rfl⟩
  have Hg := Lib.hid hg
  have T := through_any A l c w
  rw [← hg] at H0 T
  clear hg
  go_enter Tryz.func78, Tryz.ntmps78
  go_wp2_with fail
  refine T.mono ?_
  rintro e w1 ⟨rfl, hw1⟩
  rw [← hw1] at H0
  clear hw1 T
  go_wp2_with fail
  go_loopw [7] (fun _ wr => ∃ rest x, Hid (Going w g rest x wr) ∧ Hid (Mu.rising rest = r) ∧ Hid (rest.length ≤ 1000)) (fun _ wr => behindN wr g)
  case atStart => exact ⟨ls, _, H0, Lib.hid Hr.out.symm, Hl⟩
  case round =>
    clear H0
    obtain ⟨rest, x, HW, Ha, Hl⟩ := hrel
    cases rest with
    | nil =>
      have He : Hid (r = true) := Lib.hid Ha.out.symm
      go_wp2_with fail
      refine (next_end g x wr HW.out.walk).mono ?_
      rintro e w2 ⟨rfl, rfl⟩
      go_wp2
      go_ret
      exact ⟨by rw [He.out]; rfl, HW.out.below⟩
    | cons y rest =>
      go_wp2_with fail
      refine (next_on g x y rest wr HW.out.walk).mono ?_
      rintro e w4 ⟨rfl, hw, hgr⟩
      have HW2 := Lib.hid (HW.out.next (Nat.le_of_eq Hg.out.symm) hw hgr)
      have Hn : Hid (behindN wr g = rest.length + 1) := Lib.hid HW.out.walk.n
      clear hw hgr HW
      obtain ⟨y0, y1, y2⟩ := y
      obtain ⟨A3, c3, hc3, hA3⟩ := HW2.out.walk.c3
      cases rest with
      | nil =>
        have hc3' : w4.cell? ⟨g, 3, none⟩ = some (.slice A3 0 c3) := hc3
        have He : Hid (Mu.rising [] = r) := Lib.hid Ha.out
        clear hA3 hc3
        go_wp2_with fail
        go_quiet (fail)
        have HW3 : Hid (Going w g [] ⟨y0, y1, y2⟩ (w4.drewN nq)) := Lib.hid (HW2.out.on (below_drew (Below.refl _ _) nq))
        clear hc3' HW2
        go_wp2
        go_roundw
        case rel => exact ⟨[], _, HW3, He, Lib.hid (Nat.zero_le _)⟩
        case measure => rw [Hn.out, HW3.out.walk.n]; simp
      | cons z rest =>
        obtain ⟨z0, z1, z2⟩ := z
        obtain ⟨b2, o2, hA, hb2, h3⟩ := hA3 0 (by simp)
        subst hA
        have e0 : o2 + 0 * 3 = o2 := by omega
        rw [e0] at h3
        simp only [List.getElem_cons_zero] at h3
        have Hb2 : Hid (b2 < g) := Lib.hid hb2
        obtain ⟨n1, hn1⟩ : ∃ n1, n1 = rest.length := ⟨_, rfl⟩
        rw [List.length_cons, ← hn1] at hc3
        have hS : Wi3 w4.drew g 0 ⟨y0, y1, y2⟩ ∧ w4.drew.cell? ⟨g, 3, none⟩ = some (.slice (some ⟨b2, o2, none⟩) (n1 + 1) c3) ∧ Wi3 w4.drew b2 o2 ⟨z0, z1, z2⟩ := ⟨HW2.out.walk.wi.drew, hc3, h3.drew⟩
        have i0 : (0 : Int) < (n1 : Int) + 1 := by omega
        have i1 : ((n1 : Int) + 1 > 0) = True := eq_true (by omega)
        have i2 : 0 < n1 + 1 := by omega
        have i4 : (1 : Int) ≤ (n1 : Int) + 1 := by omega
        clear hn1 hb2 h3 e0 hc3 hA3
        have kB := fun W => endsAhead_any y0 y1 y2 z0 z1 z2 W
        have e1 : Mu.rising (⟨y0, y1, y2⟩ :: ⟨z0, z1, z2⟩ :: rest) = (decide (Mu.before ⟨y0, y1, y2⟩ ⟨z0, z1, z2⟩) && Mu.rising (⟨z0, z1, z2⟩ :: rest)) := rfl
        by_cases hbe : Mu.before ⟨y0, y1, y2⟩ ⟨z0, z1, z2⟩
        · rw [decide_eq_true hbe] at kB
          have He : Hid (Mu.rising (⟨z0, z1, z2⟩ :: rest) = r) := Lib.hid (by have := Ha.out; rw [e1, decide_eq_true hbe, Bool.true_and] at this; exact this)
          clear hbe Ha e1
          go_wp2_with fail
          refine wp_region_held_drew (S := (fun W : World => Wi3 W g 0 ⟨y0, y1, y2⟩ ∧ W.cell? ⟨g, 3, none⟩ = some (.slice (some ⟨b2, o2, none⟩) (n1 + 1) c3) ∧ Wi3 W b2 o2 ⟨z0, z1, z2⟩)) (by kernel_rfl) hS (fun hHeld => ?_)
          refine wpAnyH_take (i := 0) (oi := { dst := some 8, op := Op.move (Operand.tmp 3), type := 97, pos := _, after := #[], guard := none }) (v := ?_) rfl (by kernel_rfl) (by kernel_rfl) (by kernel_rfl) (fun _ _ _ h => h) (Or.inl ⟨by rfl, ?hy⟩) hHeld ?_
          case hy => intro w0 hSw; (try dsimp only at hSw); go_simp; (try with_reducible rfl)
          (try simp only [Act.put, List.setIfInBounds_toArray, List.set_cons_zero, List.set_cons_succ])
          refine wpAnyH_take (i := 1) (oi := { dst := some 9, op := Op.nilCheck (Operand.tmp 8), type := 0, pos := _, after := #[{ on := 0, ground := Ground.data }], guard := none }) (v := ?_) rfl (by kernel_rfl) (by kernel_rfl) (by kernel_rfl) (fun _ _ _ h => h) (Or.inl ⟨by rfl, ?hy⟩) hHeld ?_
          case hy => intro w0 hSw; (try dsimp only at hSw); go_simp; (try with_reducible rfl)
          (try simp only [Act.put, List.setIfInBounds_toArray, List.set_cons_zero, List.set_cons_succ])
          refine wpAnyH_take (i := 2) (oi := { dst := some 10, op := Op.fieldAddr 103 (Operand.tmp 9) 1, type := 0, pos := _, after := #[{ on := 1, ground := Ground.data }], guard := none }) (v := ?_) rfl (by kernel_rfl) (by kernel_rfl) (by kernel_rfl) (fun _ _ _ h => h) (Or.inl ⟨by rfl, ?hy⟩) hHeld ?_
          case hy => intro w0 hSw; (try dsimp only at hSw); go_simp; (try with_reducible rfl)
          (try simp only [Act.put, List.setIfInBounds_toArray, List.set_cons_zero, List.set_cons_succ])
          refine wpAnyH_take (i := 3) (oi := { dst := some 11, op := Op.load 29 (Operand.tmp 10), type := 29, pos := _, after := #[{ on := 2, ground := Ground.data }], guard := none }) (v := ?_) rfl (by kernel_rfl) (by kernel_rfl) (by kernel_rfl) (fun _ _ _ h => h) (Or.inl ⟨by rfl, ?hy⟩) hHeld ?_
          case hy => intro w0 hSw; have d3 := hSw.2.1; clear hSw; go_simp; (try with_reducible rfl)
          (try simp only [Act.put, List.setIfInBounds_toArray, List.set_cons_zero, List.set_cons_succ])
          refine wpAnyH_take (i := 4) (oi := { dst := some 12, op := Op.call { callee := Callee.builtin Builtin.len, args := #[Operand.tmp 11], argTypes := #[29] }, type := 3, pos := _, after := #[{ on := 3, ground := Ground.data }], guard := none }) (v := ?_) rfl (by kernel_rfl) (by kernel_rfl) (by kernel_rfl) (fun _ _ _ h => h) (Or.inl ⟨by rfl, ?hy⟩) hHeld ?_
          case hy => intro w0 hSw; (try dsimp only at hSw); go_simp; (try with_reducible rfl)
          (try simp only [Act.put, List.setIfInBounds_toArray, List.set_cons_zero, List.set_cons_succ])
          refine wpAnyH_take (i := 5) (oi := { dst := some 13, op := Op.binOp BinOp.gtr 3 (Operand.tmp 12) (Operand.const (Value.int IntKind.i64 0)) 3, type := 4, pos := _, after := #[{ on := 4, ground := Ground.data }], guard := none }) (v := ?_) rfl (by kernel_rfl) (by kernel_rfl) (by kernel_rfl) (fun _ _ _ h => h) (Or.inl ⟨by rfl, ?hy⟩) hHeld ?_
          case hy => intro w0 hSw; clear hSw; go_simp; (try rw [i1]); (try with_reducible rfl)
          (try simp only [Act.put, List.setIfInBounds_toArray, List.set_cons_zero, List.set_cons_succ])
          refine wpAnyH_take (i := 6) (oi := { dst := some 14, op := Op.move (Operand.tmp 13), type := 4, pos := _, after := #[{ on := 5, ground := Ground.data }], guard := none }) (v := ?_) rfl (by kernel_rfl) (by kernel_rfl) (by kernel_rfl) (fun _ _ _ h => h) (Or.inl ⟨by rfl, ?hy⟩) hHeld ?_
          case hy => intro w0 hSw; (try dsimp only at hSw); go_simp; (try with_reducible rfl)
          (try simp only [Act.put, List.setIfInBounds_toArray, List.set_cons_zero, List.set_cons_succ])
          refine wpAnyH_take (i := 7) (oi := { dst := some 15, op := Op.move (Operand.tmp 3), type := 97, pos := _, after := #[{ on := 6, ground := Ground.guard }], guard := some (6, true) }) (v := ?_) rfl (by kernel_rfl) (by kernel_rfl) (by kernel_rfl) (fun _ _ _ h => h) (Or.inl ⟨by rfl, ?hy⟩) hHeld ?_
          case hy => intro w0 hSw; (try dsimp only at hSw); go_simp; (try with_reducible rfl)
          (try simp only [Act.put, List.setIfInBounds_toArray, List.set_cons_zero, List.set_cons_succ])
          refine wpAnyH_take (i := 8) (oi := { dst := some 16, op := Op.nilCheck (Operand.tmp 15), type := 0, pos := _, after := #[{ on := 7, ground := Ground.data }, { on := 6, ground := Ground.guard }], guard := some (6, true) }) (v := ?_) rfl (by kernel_rfl) (by kernel_rfl) (by kernel_rfl) (fun _ _ _ h => h) (Or.inl ⟨by rfl, ?hy⟩) hHeld ?_
          case hy => intro w0 hSw; (try dsimp only at hSw); go_simp; (try with_reducible rfl)
          (try simp only [Act.put, List.setIfInBounds_toArray, List.set_cons_zero, List.set_cons_succ])
          refine wpAnyH_take (i := 9) (oi := { dst := some 17, op := Op.fieldAddr 103 (Operand.tmp 16) 0, type := 0, pos := _, after := #[{ on := 8, ground := Ground.data }, { on := 6, ground := Ground.guard }], guard := some (6, true) }) (v := ?_) rfl (by kernel_rfl) (by kernel_rfl) (by kernel_rfl) (fun _ _ _ h => h) (Or.inl ⟨by rfl, ?hy⟩) hHeld ?_
          case hy => intro w0 hSw; (try dsimp only at hSw); go_simp; (try with_reducible rfl)
          (try simp only [Act.put, List.setIfInBounds_toArray, List.set_cons_zero, List.set_cons_succ])
          refine wpAnyH_take (i := 10) (oi := { dst := some 18, op := Op.load 101 (Operand.tmp 17), type := 101, pos := _, after := #[{ on := 9, ground := Ground.data }, { on := 6, ground := Ground.guard }], guard := some (6, true) }) (v := ?_) rfl (by kernel_rfl) (by kernel_rfl) (by kernel_rfl) (fun _ _ _ h => h) (Or.inl ⟨by rfl, ?hy⟩) hHeld ?_
          case hy => intro w0 hSw; have d0 := hSw.1.c0; have d1 := hSw.1.c1; have d2 := hSw.1.c2; clear hSw; dsimp only at d0 d1 d2; go_simp; (try with_reducible rfl)
          (try simp only [Act.put, List.setIfInBounds_toArray, List.set_cons_zero, List.set_cons_succ])
          refine wpAnyH_take (i := 11) (oi := { dst := some 19, op := Op.move (Operand.tmp 3), type := 97, pos := _, after := #[{ on := 6, ground := Ground.guard }], guard := some (6, true) }) (v := ?_) rfl (by kernel_rfl) (by kernel_rfl) (by kernel_rfl) (fun _ _ _ h => h) (Or.inl ⟨by rfl, ?hy⟩) hHeld ?_
          case hy => intro w0 hSw; (try dsimp only at hSw); go_simp; (try with_reducible rfl)
          (try simp only [Act.put, List.setIfInBounds_toArray, List.set_cons_zero, List.set_cons_succ])
          refine wpAnyH_take (i := 12) (oi := { dst := some 20, op := Op.nilCheck (Operand.tmp 19), type := 0, pos := _, after := #[{ on := 11, ground := Ground.data }, { on := 6, ground := Ground.guard }], guard := some (6, true) }) (v := ?_) rfl (by kernel_rfl) (by kernel_rfl) (by kernel_rfl) (fun _ _ _ h => h) (Or.inl ⟨by rfl, ?hy⟩) hHeld ?_
          case hy => intro w0 hSw; (try dsimp only at hSw); go_simp; (try with_reducible rfl)
          (try simp only [Act.put, List.setIfInBounds_toArray, List.set_cons_zero, List.set_cons_succ])
          refine wpAnyH_take (i := 13) (oi := { dst := some 21, op := Op.fieldAddr 103 (Operand.tmp 20) 1, type := 0, pos := _, after := #[{ on := 12, ground := Ground.data }, { on := 6, ground := Ground.guard }], guard := some (6, true) }) (v := ?_) rfl (by kernel_rfl) (by kernel_rfl) (by kernel_rfl) (fun _ _ _ h => h) (Or.inl ⟨by rfl, ?hy⟩) hHeld ?_
          case hy => intro w0 hSw; (try dsimp only at hSw); go_simp; (try with_reducible rfl)
          (try simp only [Act.put, List.setIfInBounds_toArray, List.set_cons_zero, List.set_cons_succ])
          refine wpAnyH_take (i := 14) (oi := { dst := some 22, op := Op.load 29 (Operand.tmp 21), type := 29, pos := _, after := #[{ on := 13, ground := Ground.data }, { on := 6, ground := Ground.guard }], guard := some (6, true) }) (v := ?_) rfl (by kernel_rfl) (by kernel_rfl) (by kernel_rfl) (fun _ _ _ h => h) (Or.inl ⟨by rfl, ?hy⟩) hHeld ?_
          case hy => intro w0 hSw; have d3 := hSw.2.1; clear hSw; go_simp; (try with_reducible rfl)
          (try simp only [Act.put, List.setIfInBounds_toArray, List.set_cons_zero, List.set_cons_succ])
          refine wpAnyH_take (i := 15) (oi := { dst := some 23, op := Op.indexAddr 29 (Operand.tmp 22) (Operand.const (Value.int IntKind.i64 0)), type := 0, pos := _, after := #[{ on := 14, ground := Ground.data }, { on := 6, ground := Ground.guard }], guard := some (6, true) }) (v := ?_) rfl (by kernel_rfl) (by kernel_rfl) (by kernel_rfl) (fun _ _ _ h => h) (Or.inl ⟨by rfl, ?hy⟩) hHeld ?_
          case hy => intro w0 hSw; (try dsimp only at hSw); go_simp; (try with_reducible rfl)
          (try simp only [Act.put, List.setIfInBounds_toArray, List.set_cons_zero, List.set_cons_succ])
          refine wpAnyH_take (i := 16) (oi := { dst := some 24, op := Op.load 56 (Operand.tmp 23), type := 56, pos := _, after := #[{ on := 15, ground := Ground.data }, { on := 6, ground := Ground.guard }], guard := some (6, true) }) (v := ?_) rfl (by kernel_rfl) (by kernel_rfl) (by kernel_rfl) (fun _ _ _ h => h) (Or.inl ⟨by rfl, ?hy⟩) hHeld ?_
          case hy => intro w0 hSw; have d0 := hSw.2.2.c0; have d1 := hSw.2.2.c1; have d2 := hSw.2.2.c2; clear hSw; dsimp only at d0 d1 d2; go_simp; (try with_reducible rfl)
          (try simp only [Act.put, List.setIfInBounds_toArray, List.set_cons_zero, List.set_cons_succ])
          refine wpAnyH_ready (rs := [17]) (by kernel_rfl) (by simp) ?_
          refine AllReadyH.cons (o := { dst := some 25, op := Op.call { callee := Callee.value (Operand.func 83), args := #[Operand.tmp 18, Operand.tmp 24], argTypes := #[101, 56] }, type := 4, pos := _, after := #[{ on := 10, ground := Ground.data }, { on := 16, ground := Ground.data }, { on := 6, ground := Ground.chain }, { on := 6, ground := Ground.guard }], guard := some (6, true) }) rfl (fun K hK => ?_) AllReadyH.nil
          go_simp
          refine (kB _).mono ?_
          rintro e w6 ⟨rfl, hB'⟩
          have HB6 : Hid (Below w4.heap.size w4 w6) := Lib.hid (below2 (below_drew (Below.refl _ _) 1) hB')
          have HW6 := Lib.hid (HW2.out.on HB6.out)
          replace hS : Wi3 w6 g 0 ⟨y0, y1, y2⟩ ∧ w6.cell? ⟨g, 3, none⟩ = some (.slice (some ⟨b2, o2, none⟩) (n1 + 1) c3) ∧ Wi3 w6 b2 o2 ⟨z0, z1, z2⟩ := ⟨HW6.out.walk.wi, (hB'.cell (p := ⟨g, 3, none⟩) HW2.out.walk.lt).trans hS.2.1, hS.2.2.below hB' (Nat.lt_trans Hb2.out HW2.out.walk.lt)⟩
          clear hB'
          go_wp2_with fail
          refine hK.out _ _ hS (fun hHeld => ?_)
          clear hK K
          (try simp only [Act.put, List.setIfInBounds_toArray, List.set_cons_zero, List.set_cons_succ])
          refine wpAnyH_take (i := 18) (oi := { dst := some 26, op := Op.unOp UnOp.not 4 (Operand.tmp 25), type := 4, pos := _, after := #[{ on := 17, ground := Ground.data }, { on := 6, ground := Ground.guard }], guard := some (6, true) }) (v := ?_) rfl (by kernel_rfl) (by kernel_rfl) (by kernel_rfl) (fun _ _ _ h => h) (Or.inl ⟨by rfl, ?hy⟩) hHeld ?_
          case hy => intro w0 hSw; (try dsimp only at hSw); go_simp; (try with_reducible rfl)
          (try simp only [Act.put, List.setIfInBounds_toArray, List.set_cons_zero, List.set_cons_succ])
          refine wpAnyH_take (i := 19) (oi := { dst := some 27, op := Op.pick (Operand.tmp 14) (Operand.tmp 26) (Operand.const (Value.bool false)), type := 4, pos := _, after := #[{ on := 6, ground := Ground.data }, { on := 18, ground := Ground.data }], guard := none }) (v := ?_) rfl (by kernel_rfl) (by kernel_rfl) (by kernel_rfl) (fun _ _ _ h => h) (Or.inl ⟨by rfl, ?hy⟩) hHeld ?_
          case hy => intro w0 hSw; (try dsimp only at hSw); go_simp; (try with_reducible rfl)
          (try simp only [Act.put, List.setIfInBounds_toArray, List.set_cons_zero, List.set_cons_succ])
          refine wpAnyH_done (by kernel_rfl) ?_ _
          clear hHeld hS
          clear kB HW2
          go_wp2
          go_roundw
          case rel => exact ⟨⟨z0, z1, z2⟩ :: rest, _, HW6, He, Lib.hid (by have := Hl.out; simp only [List.length_cons] at this ⊢; omega)⟩
          case measure => rw [Hn.out, HW6.out.walk.n]; simp
        · rw [decide_eq_false hbe] at kB
          have He : Hid (r = false) := Lib.hid (by have := Ha.out; rw [e1, decide_eq_false hbe, Bool.false_and] at this; exact this.symm)
          clear hbe Ha e1
          go_wp2_with fail
          refine wp_region_held_drew (S := (fun W : World => Wi3 W g 0 ⟨y0, y1, y2⟩ ∧ W.cell? ⟨g, 3, none⟩ = some (.slice (some ⟨b2, o2, none⟩) (n1 + 1) c3) ∧ Wi3 W b2 o2 ⟨z0, z1, z2⟩)) (by kernel_rfl) hS (fun hHeld => ?_)
          refine wpAnyH_take (i := 0) (oi := { dst := some 8, op := Op.move (Operand.tmp 3), type := 97, pos := _, after := #[], guard := none }) (v := ?_) rfl (by kernel_rfl) (by kernel_rfl) (by kernel_rfl) (fun _ _ _ h => h) (Or.inl ⟨by rfl, ?hy⟩) hHeld ?_
          case hy => intro w0 hSw; (try dsimp only at hSw); go_simp; (try with_reducible rfl)
          (try simp only [Act.put, List.setIfInBounds_toArray, List.set_cons_zero, List.set_cons_succ])
          refine wpAnyH_take (i := 1) (oi := { dst := some 9, op := Op.nilCheck (Operand.tmp 8), type := 0, pos := _, after := #[{ on := 0, ground := Ground.data }], guard := none }) (v := ?_) rfl (by kernel_rfl) (by kernel_rfl) (by kernel_rfl) (fun _ _ _ h => h) (Or.inl ⟨by rfl, ?hy⟩) hHeld ?_
          case hy => intro w0 hSw; (try dsimp only at hSw); go_simp; (try with_reducible rfl)
          (try simp only [Act.put, List.setIfInBounds_toArray, List.set_cons_zero, List.set_cons_succ])
          refine wpAnyH_take (i := 2) (oi := { dst := some 10, op := Op.fieldAddr 103 (Operand.tmp 9) 1, type := 0, pos := _, after := #[{ on := 1, ground := Ground.data }], guard := none }) (v := ?_) rfl (by kernel_rfl) (by kernel_rfl) (by kernel_rfl) (fun _ _ _ h => h) (Or.inl ⟨by rfl, ?hy⟩) hHeld ?_
          case hy => intro w0 hSw; (try dsimp only at hSw); go_simp; (try with_reducible rfl)
          (try simp only [Act.put, List.setIfInBounds_toArray, List.set_cons_zero, List.set_cons_succ])
          refine wpAnyH_take (i := 3) (oi := { dst := some 11, op := Op.load 29 (Operand.tmp 10), type := 29, pos := _, after := #[{ on := 2, ground := Ground.data }], guard := none }) (v := ?_) rfl (by kernel_rfl) (by kernel_rfl) (by kernel_rfl) (fun _ _ _ h => h) (Or.inl ⟨by rfl, ?hy⟩) hHeld ?_
          case hy => intro w0 hSw; have d3 := hSw.2.1; clear hSw; go_simp; (try with_reducible rfl)
          (try simp only [Act.put, List.setIfInBounds_toArray, List.set_cons_zero, List.set_cons_succ])
          refine wpAnyH_take (i := 4) (oi := { dst := some 12, op := Op.call { callee := Callee.builtin Builtin.len, args := #[Operand.tmp 11], argTypes := #[29] }, type := 3, pos := _, after := #[{ on := 3, ground := Ground.data }], guard := none }) (v := ?_) rfl (by kernel_rfl) (by kernel_rfl) (by kernel_rfl) (fun _ _ _ h => h) (Or.inl ⟨by rfl, ?hy⟩) hHeld ?_
          case hy => intro w0 hSw; (try dsimp only at hSw); go_simp; (try with_reducible rfl)
          (try simp only [Act.put, List.setIfInBounds_toArray, List.set_cons_zero, List.set_cons_succ])
          refine wpAnyH_take (i := 5) (oi := { dst := some 13, op := Op.binOp BinOp.gtr 3 (Operand.tmp 12) (Operand.const (Value.int IntKind.i64 0)) 3, type := 4, pos := _, after := #[{ on := 4, ground := Ground.data }], guard := none }) (v := ?_) rfl (by kernel_rfl) (by kernel_rfl) (by kernel_rfl) (fun _ _ _ h => h) (Or.inl ⟨by rfl, ?hy⟩) hHeld ?_
          case hy => intro w0 hSw; clear hSw; go_simp; (try rw [i1]); (try with_reducible rfl)
          (try simp only [Act.put, List.setIfInBounds_toArray, List.set_cons_zero, List.set_cons_succ])
          refine wpAnyH_take (i := 6) (oi := { dst := some 14, op := Op.move (Operand.tmp 13), type := 4, pos := _, after := #[{ on := 5, ground := Ground.data }], guard := none }) (v := ?_) rfl (by kernel_rfl) (by kernel_rfl) (by kernel_rfl) (fun _ _ _ h => h) (Or.inl ⟨by rfl, ?hy⟩) hHeld ?_
          case hy => intro w0 hSw; (try dsimp only at hSw); go_simp; (try with_reducible rfl)
          (try simp only [Act.put, List.setIfInBounds_toArray, List.set_cons_zero, List.set_cons_succ])
          refine wpAnyH_take (i := 7) (oi := { dst := some 15, op := Op.move (Operand.tmp 3), type := 97, pos := _, after := #[{ on := 6, ground := Ground.guard }], guard := some (6, true) }) (v := ?_) rfl (by kernel_rfl) (by kernel_rfl) (by kernel_rfl) (fun _ _ _ h => h) (Or.inl ⟨by rfl, ?hy⟩) hHeld ?_
          case hy => intro w0 hSw; (try dsimp only at hSw); go_simp; (try with_reducible rfl)
          (try simp only [Act.put, List.setIfInBounds_toArray, List.set_cons_zero, List.set_cons_succ])
          refine wpAnyH_take (i := 8) (oi := { dst := some 16, op := Op.nilCheck (Operand.tmp 15), type := 0, pos := _, after := #[{ on := 7, ground := Ground.data }, { on := 6, ground := Ground.guard }], guard := some (6, true) }) (v := ?_) rfl (by kernel_rfl) (by kernel_rfl) (by kernel_rfl) (fun _ _ _ h => h) (Or.inl ⟨by rfl, ?hy⟩) hHeld ?_
          case hy => intro w0 hSw; (try dsimp only at hSw); go_simp; (try with_reducible rfl)
          (try simp only [Act.put, List.setIfInBounds_toArray, List.set_cons_zero, List.set_cons_succ])
          refine wpAnyH_take (i := 9) (oi := { dst := some 17, op := Op.fieldAddr 103 (Operand.tmp 16) 0, type := 0, pos := _, after := #[{ on := 8, ground := Ground.data }, { on := 6, ground := Ground.guard }], guard := some (6, true) }) (v := ?_) rfl (by kernel_rfl) (by kernel_rfl) (by kernel_rfl) (fun _ _ _ h => h) (Or.inl ⟨by rfl, ?hy⟩) hHeld ?_
          case hy => intro w0 hSw; (try dsimp only at hSw); go_simp; (try with_reducible rfl)
          (try simp only [Act.put, List.setIfInBounds_toArray, List.set_cons_zero, List.set_cons_succ])
          refine wpAnyH_take (i := 10) (oi := { dst := some 18, op := Op.load 101 (Operand.tmp 17), type := 101, pos := _, after := #[{ on := 9, ground := Ground.data }, { on := 6, ground := Ground.guard }], guard := some (6, true) }) (v := ?_) rfl (by kernel_rfl) (by kernel_rfl) (by kernel_rfl) (fun _ _ _ h => h) (Or.inl ⟨by rfl, ?hy⟩) hHeld ?_
          case hy => intro w0 hSw; have d0 := hSw.1.c0; have d1 := hSw.1.c1; have d2 := hSw.1.c2; clear hSw; dsimp only at d0 d1 d2; go_simp; (try with_reducible rfl)
          (try simp only [Act.put, List.setIfInBounds_toArray, List.set_cons_zero, List.set_cons_succ])
          refine wpAnyH_take (i := 11) (oi := { dst := some 19, op := Op.move (Operand.tmp 3), type := 97, pos := _, after := #[{ on := 6, ground := Ground.guard }], guard := some (6, true) }) (v := ?_) rfl (by kernel_rfl) (by kernel_rfl) (by kernel_rfl) (fun _ _ _ h => h) (Or.inl ⟨by rfl, ?hy⟩) hHeld ?_
          case hy => intro w0 hSw; (try dsimp only at hSw); go_simp; (try with_reducible rfl)
          (try simp only [Act.put, List.setIfInBounds_toArray, List.set_cons_zero, List.set_cons_succ])
          refine wpAnyH_take (i := 12) (oi := { dst := some 20, op := Op.nilCheck (Operand.tmp 19), type := 0, pos := _, after := #[{ on := 11, ground := Ground.data }, { on := 6, ground := Ground.guard }], guard := some (6, true) }) (v := ?_) rfl (by kernel_rfl) (by kernel_rfl) (by kernel_rfl) (fun _ _ _ h => h) (Or.inl ⟨by rfl, ?hy⟩) hHeld ?_
          case hy => intro w0 hSw; (try dsimp only at hSw); go_simp; (try with_reducible rfl)
          (try simp only [Act.put, List.setIfInBounds_toArray, List.set_cons_zero, List.set_cons_succ])
          refine wpAnyH_take (i := 13) (oi := { dst := some 21, op := Op.fieldAddr 103 (Operand.tmp 20) 1, type := 0, pos := _, after := #[{ on := 12, ground := Ground.data }, { on := 6, ground := Ground.guard }], guard := some (6, true) }) (v := ?_) rfl (by kernel_rfl) (by kernel_rfl) (by kernel_rfl) (fun _ _ _ h => h) (Or.inl ⟨by rfl, ?hy⟩) hHeld ?_
          case hy => intro w0 hSw; (try dsimp only at hSw); go_simp; (try with_reducible rfl)
          (try simp only [Act.put, List.setIfInBounds_toArray, List.set_cons_zero, List.set_cons_succ])
          refine wpAnyH_take (i := 14) (oi := { dst := some 22, op := Op.load 29 (Operand.tmp 21), type := 29, pos := _, after := #[{ on := 13, ground := Ground.data }, { on := 6, ground := Ground.guard }], guard := some (6, true) }) (v := ?_) rfl (by kernel_rfl) (by kernel_rfl) (by kernel_rfl) (fun _ _ _ h => h) (Or.inl ⟨by rfl, ?hy⟩) hHeld ?_
          case hy => intro w0 hSw; have d3 := hSw.2.1; clear hSw; go_simp; (try with_reducible rfl)
          (try simp only [Act.put, List.setIfInBounds_toArray, List.set_cons_zero, List.set_cons_succ])
          refine wpAnyH_take (i := 15) (oi := { dst := some 23, op := Op.indexAddr 29 (Operand.tmp 22) (Operand.const (Value.int IntKind.i64 0)), type := 0, pos := _, after := #[{ on := 14, ground := Ground.data }, { on := 6, ground := Ground.guard }], guard := some (6, true) }) (v := ?_) rfl (by kernel_rfl) (by kernel_rfl) (by kernel_rfl) (fun _ _ _ h => h) (Or.inl ⟨by rfl, ?hy⟩) hHeld ?_
          case hy => intro w0 hSw; (try dsimp only at hSw); go_simp; (try with_reducible rfl)
          (try simp only [Act.put, List.setIfInBounds_toArray, List.set_cons_zero, List.set_cons_succ])
          refine wpAnyH_take (i := 16) (oi := { dst := some 24, op := Op.load 56 (Operand.tmp 23), type := 56, pos := _, after := #[{ on := 15, ground := Ground.data }, { on := 6, ground := Ground.guard }], guard := some (6, true) }) (v := ?_) rfl (by kernel_rfl) (by kernel_rfl) (by kernel_rfl) (fun _ _ _ h => h) (Or.inl ⟨by rfl, ?hy⟩) hHeld ?_
          case hy => intro w0 hSw; have d0 := hSw.2.2.c0; have d1 := hSw.2.2.c1; have d2 := hSw.2.2.c2; clear hSw; dsimp only at d0 d1 d2; go_simp; (try with_reducible rfl)
          (try simp only [Act.put, List.setIfInBounds_toArray, List.set_cons_zero, List.set_cons_succ])
          refine wpAnyH_ready (rs := [17]) (by kernel_rfl) (by simp) ?_
          refine AllReadyH.cons (o := { dst := some 25, op := Op.call { callee := Callee.value (Operand.func 83), args := #[Operand.tmp 18, Operand.tmp 24], argTypes := #[101, 56] }, type := 4, pos := _, after := #[{ on := 10, ground := Ground.data }, { on := 16, ground := Ground.data }, { on := 6, ground := Ground.chain }, { on := 6, ground := Ground.guard }], guard := some (6, true) }) rfl (fun K hK => ?_) AllReadyH.nil
          go_simp
          refine (kB _).mono ?_
          rintro e w6 ⟨rfl, hB'⟩
          have HB6 : Hid (Below w4.heap.size w4 w6) := Lib.hid (below2 (below_drew (Below.refl _ _) 1) hB')
          have HW6 := Lib.hid (HW2.out.on HB6.out)
          replace hS : Wi3 w6 g 0 ⟨y0, y1, y2⟩ ∧ w6.cell? ⟨g, 3, none⟩ = some (.slice (some ⟨b2, o2, none⟩) (n1 + 1) c3) ∧ Wi3 w6 b2 o2 ⟨z0, z1, z2⟩ := ⟨HW6.out.walk.wi, (hB'.cell (p := ⟨g, 3, none⟩) HW2.out.walk.lt).trans hS.2.1, hS.2.2.below hB' (Nat.lt_trans Hb2.out HW2.out.walk.lt)⟩
          clear hB'
          go_wp2_with fail
          refine hK.out _ _ hS (fun hHeld => ?_)
          clear hK K
          (try simp only [Act.put, List.setIfInBounds_toArray, List.set_cons_zero, List.set_cons_succ])
          refine wpAnyH_take (i := 18) (oi := { dst := some 26, op := Op.unOp UnOp.not 4 (Operand.tmp 25), type := 4, pos := _, after := #[{ on := 17, ground := Ground.data }, { on := 6, ground := Ground.guard }], guard := some (6, true) }) (v := ?_) rfl (by kernel_rfl) (by kernel_rfl) (by kernel_rfl) (fun _ _ _ h => h) (Or.inl ⟨by rfl, ?hy⟩) hHeld ?_
          case hy => intro w0 hSw; (try dsimp only at hSw); go_simp; (try with_reducible rfl)
          (try simp only [Act.put, List.setIfInBounds_toArray, List.set_cons_zero, List.set_cons_succ])
          refine wpAnyH_take (i := 19) (oi := { dst := some 27, op := Op.pick (Operand.tmp 14) (Operand.tmp 26) (Operand.const (Value.bool false)), type := 4, pos := _, after := #[{ on := 6, ground := Ground.data }, { on := 18, ground := Ground.data }], guard := none }) (v := ?_) rfl (by kernel_rfl) (by kernel_rfl) (by kernel_rfl) (fun _ _ _ h => h) (Or.inl ⟨by rfl, ?hy⟩) hHeld ?_
          case hy => intro w0 hSw; (try dsimp only at hSw); go_simp; (try with_reducible rfl)
          (try simp only [Act.put, List.setIfInBounds_toArray, List.set_cons_zero, List.set_cons_succ])
          refine wpAnyH_done (by kernel_rfl) ?_ _
          clear hHeld hS
          clear kB HW2
          go_wp2
          go_ret
          exact ⟨by rw [He.out]; rfl, HW6.out.below⟩

theorem mIs_any (A : Option Addr) (l c : Nat) (ls : List Win) (w : World) (h : ToldW w A l c ls) : Calls Tryz.prog 51 #[.slice A l c] w fun e w' => e = .returned (.bool (Mu.isL ls)) ∧ Below w.heap.size w w' := by
  have H := Lib.hid h
  obtain ⟨r, hr⟩ : ∃ r, r = Mu.isL ls := ⟨_, rfl⟩
  have Hr := Lib.hid hr
  rw [← hr]
  have hl := h.1
  by_cases h1 : l ≤ 100
  · have i1 : ((l : Int) ≤ 100) = True := eq_true (by omega)
    have hd : decide (ls.length ≤ 100) = true := decide_eq_true (by omega)
    cases h2 : ls.all Mu.may with
    | true =>
      have k2 := mayAllBe_any A l c ls w h
      rw [h2] at k2
      cases h3 : Mu.rising ls with
      | true =>
        have k3 := fun W (hB : Below w.heap.size w W) => areApart_any A l c ls W (H.out.on hB)
        rw [h3] at k3
        have He : Hid (r = true) := Lib.hid (by rw [hr]; unfold Mu.isL; rw [h2, h3, hd]; rfl)
        clear hr h h1 h2 h3 hl hd
        go_enter Tryz.func51, Tryz.ntmps51
        go_wp2_with fail
        refine k2.mono ?_
        rintro e w1 ⟨rfl, hB⟩
        have HB := Lib.hid hB
        clear hB
        go_wp2_with fail
        refine (k3 w1 HB.out).mono ?_
        rintro e w2 ⟨rfl, hB⟩
        have HB2 := Lib.hid (below2 HB.out hB)
        clear hB
        go_wp2
        go_ret
        exact ⟨by rw [He.out]; rfl, HB2.out⟩
      | false =>
        have k3 := fun W (hB : Below w.heap.size w W) => areApart_any A l c ls W (H.out.on hB)
        rw [h3] at k3
        have He : Hid (r = false) := Lib.hid (by rw [hr]; unfold Mu.isL; rw [h2, h3]; rfl)
        clear hr h h1 h2 h3 hl hd
        go_enter Tryz.func51, Tryz.ntmps51
        go_wp2_with fail
        refine k2.mono ?_
        rintro e w1 ⟨rfl, hB⟩
        have HB := Lib.hid hB
        clear hB
        go_wp2_with fail
        refine (k3 w1 HB.out).mono ?_
        rintro e w2 ⟨rfl, hB⟩
        have HB2 := Lib.hid (below2 HB.out hB)
        clear hB
        go_wp2
        go_ret
        exact ⟨by rw [He.out]; rfl, HB2.out⟩
    | false =>
      have k2 := mayAllBe_any A l c ls w h
      rw [h2] at k2
      have He : Hid (r = false) := Lib.hid (by rw [hr]; unfold Mu.isL; rw [h2]; rfl)
      clear hr h h1 h2 hl hd
      go_enter Tryz.func51, Tryz.ntmps51
      go_wp2_with fail
      refine k2.mono ?_
      rintro e w1 ⟨rfl, hB⟩
      have HB := Lib.hid hB
      clear hB
      go_wp2
      go_ret
      exact ⟨by rw [He.out]; rfl, HB.out⟩
  · have i1 : ((l : Int) ≤ 100) = False := eq_false (by omega)
    have He : Hid (r = false) := Lib.hid (by rw [hr]; unfold Mu.isL; rw [decide_eq_false (by omega : ¬ ls.length ≤ 100), Bool.and_false])
    clear hr h h1 hl
    go_enter Tryz.func51, Tryz.ntmps51
    go_wp2
    go_ret
    exact ⟨by rw [He.out]; rfl, Below.refl _ _⟩

theorem mfit_any (A : Option Addr) (n c : Nat) (w : World) :
    Calls Tryz.prog 53 #[.slice A n c] w fun e w' => e = .returned (.tuple #[if 100 < n then .slice none 0 0 else .slice A n c, .int .i64 (if 100 < n then 81 else 0)]) ∧ w' = w := by
  by_cases h : 100 < n
  · have i1 : ((n : Int) > 100) = True := eq_true (by omega)
    rw [if_pos h, if_pos h]
    clear h
    go_enter Tryz.func53, Tryz.ntmps53
    go_wp2
    go_ret2
    exact ⟨rfl, rfl⟩
  · have i1 : ((n : Int) > 100) = False := eq_false (by omega)
    rw [if_neg h, if_neg h]
    clear h
    go_enter Tryz.func53, Tryz.ntmps53
    go_wp2
    go_ret2
    exact ⟨rfl, rfl⟩
end Go.Proofs.YtpgichlaghhdeaaGreatDoor

namespace Go.Proofs.YtpgichlaghhdeaaGreatDoor
set_option maxRecDepth 10000
open Go.RowKit

theorem Mu.tillN_cons (y : Win) (l : List Win) (b t : Int) : Mu.tillN (y :: l) b t = if Mu.hasW y b t then y.to else Mu.tillN l b t := by
  unfold Mu.tillN Mu.tillW
  rw [List.find?_cons]
  cases Mu.hasW y b t <;> rfl

set_option maxHeartbeats 1000000 in
theorem mTill_any (A : Option Addr) (l c : Nat) (ls : List Win) (b t : Int) (w : World) (h : ToldW w A l c ls) :
    Calls Tryz.prog 50 #[.slice A l c, .int .i64 b, .int .i64 t] w fun e w' => e = .returned (.tuple #[.int .i64 (Mu.tillN ls b t), .bool (Mu.has ls b t)]) ∧ Below w.heap.size w w' := by
  have H0 := Lib.hid (Going.start h)
  obtain ⟨r, hr⟩ : ∃ r, r = Mu.has ls b t := ⟨_, rfl⟩
  have Hr := Lib.hid hr
  obtain ⟨n, hn⟩ : ∃ n, n = Mu.tillN ls b t := ⟨_, rfl⟩
  have Hn0 := Lib.hid hn
  rw [← hr, ← hn]
  clear hr h hn
  obtain ⟨g, hg⟩ : ∃ g, g = w.heap.size := ⟨_, rfl⟩
  have Hg := Lib.hid hg
  have T := through_any A l c w
  rw [← hg] at H0 T
  clear hg
  go_enter Tryz.func50, Tryz.ntmps50
  go_wp2_with fail
  refine T.mono ?_
  rintro e w1 ⟨rfl, hw1⟩
  rw [← hw1] at H0
  clear hw1 T
  go_wp2_with fail
  go_loopw [11] (fun _ wr => ∃ rest x, Hid (Going w g rest x wr) ∧ Hid (Mu.has rest b t = r ∧ Mu.tillN rest b t = n)) (fun _ wr => behindN wr g)
  case atStart => exact ⟨ls, _, H0, Lib.hid ⟨Hr.out.symm, Hn0.out.symm⟩⟩
  case round =>
    clear H0
    obtain ⟨rest, x, HW, Ha⟩ := hrel
    cases rest with
    | nil =>
      have He : Hid (r = false ∧ n = 0) := Lib.hid ⟨Ha.out.1.symm, Ha.out.2.symm⟩
      go_wp2_with fail
      refine (next_end g x wr HW.out.walk).mono ?_
      rintro e w2 ⟨rfl, rfl⟩
      go_wp2
      go_ret2
      exact ⟨by rw [He.out.1, He.out.2]; rfl, HW.out.below⟩
    | cons y rest =>
      go_wp2_with fail
      refine (next_on g x y rest wr HW.out.walk).mono ?_
      rintro e w2 ⟨rfl, hw, hgr⟩
      have HW2 := Lib.hid (HW.out.next (Nat.le_of_eq Hg.out.symm) hw hgr)
      have Hn : Hid (behindN wr g = rest.length + 1) := Lib.hid HW.out.walk.n
      clear hw hgr HW
      obtain ⟨y0, y1, y2⟩ := y
      have c0 := HW2.out.walk.c0
      have c1 := HW2.out.walk.c1
      have c2 := HW2.out.walk.c2
      simp only at c0 c1 c2
      cases hm : Mu.hasW ⟨y0, y1, y2⟩ b t with
      | false =>
        have Ha2 : Hid (Mu.has rest b t = r ∧ Mu.tillN rest b t = n) := Lib.hid (by have := Ha.out; rw [Mu.has_cons, Mu.tillN_cons, hm] at this; simpa using this)
        have k := fun W => mhas_any y0 y1 y2 b t W
        rw [hm] at k
        clear Ha hm
        go_wp2_with fail
        refine (k _).mono ?_
        rintro e w3 ⟨rfl, hB⟩
        have HW3 := Lib.hid (HW2.out.on hB)
        clear hB HW2 c0 c1 c2
        go_wp2
        go_roundw
        case rel => exact ⟨rest, _, HW3, Ha2⟩
        case measure => rw [Hn.out, HW3.out.walk.n]; omega
      | true =>
        have He : Hid (r = true ∧ n = y2) := Lib.hid (by have := Ha.out; rw [Mu.has_cons, Mu.tillN_cons, hm] at this; exact ⟨this.1.symm, this.2.symm⟩)
        have k := fun W => mhas_any y0 y1 y2 b t W
        rw [hm] at k
        clear Ha hm
        go_wp2_with fail
        refine (k _).mono ?_
        rintro e w3 ⟨rfl, hB⟩
        have HW3 := Lib.hid (HW2.out.on hB)
        clear hB HW2 c0 c1 c2
        have c2 := HW3.out.walk.c2
        simp only at c2
        go_wp2
        go_ret2
        exact ⟨by rw [He.out.1, He.out.2]; rfl, HW3.out.below⟩

theorem mHas_any (A : Option Addr) (l c : Nat) (ls : List Win) (b t : Int) (w : World) (h : ToldW w A l c ls) :
    Calls Tryz.prog 25 #[.slice A l c, .int .i64 b, .int .i64 t] w fun e w' => e = .returned (.bool (Mu.has ls b t)) ∧ Below w.heap.size w w' := by
  have K := Lib.hid (mTill_any A l c ls b t w h)
  clear h
  go_enter Tryz.func25, Tryz.ntmps25
  go_wp2_with fail
  refine K.out.mono ?_
  rintro e w1 ⟨rfl, hB⟩
  go_wp2
  go_ret
  exact ⟨rfl, hB⟩
end Go.Proofs.YtpgichlaghhdeaaGreatDoor
