/-
  Layer 4 (spot): a spot in a block of memory.
  Layer 4 (spot): the walk of Is.
  Layer 4 (spot): the walks of isAhead and Less.
  Layer 4 (spot): the walk of the reference's Is.
  Layer 4 (spot): the reference's Less.
  Layer 4 (spot): the walks of the small functions: what may be, numbers, the order; and of the reference's.
  Layer 6 (alarm): the walks of Wait, isPrio, isTime, isLong, Is.
  Layer 8 (board): the walks of isTime, tooMany, hold, board, takes.
  Layer 8 (board): the walks of rise and right.
  Layer 8 (board): the walk of right.
  Layer 8 (board): blocks written while rows of one's own stand; the walks of New, Is, Get, Of.
  Layer 8 (board): the walk of Is.
-/
import Derived.Test.YtpgichlaghhdeaaGreatDoorXJa
import Derived.Test.YtpgichlaghhdeaaGreatDoorChecked
import Derived.Laws.ResultCell
import Derived.Test.YtpgichlaghhdeaaGreatDoorXJb
import Derived.Lib.Hide
import Derived.Deep.RegionHeld3
namespace Go.Proofs.YtpgichlaghhdeaaGreatDoor
set_option maxRecDepth 10000
open Go.RowKit

/-- A spot lies in the block k. -/
structure Two (w : World) (k : Nat) (b c : Int) : Prop where
  lt : k < w.heap.size
  blk : ∃ t, w.heap[k]? = some (.cells #[.int .i64 b, .int .i64 c] t (0, 0))
theorem Two.c0 {w : World} {k : Nat} {b c : Int} (h : Two w k b c) : w.cell? ⟨k, 0, none⟩ = some (.int .i64 b) := by
  obtain ⟨_, t, hb⟩ := h; simp only [World.cell?, hb]; rfl
theorem Two.c1 {w : World} {k : Nat} {b c : Int} (h : Two w k b c) : w.cell? ⟨k, 1, none⟩ = some (.int .i64 c) := by
  obtain ⟨_, t, hb⟩ := h; simp only [World.cell?, hb]; rfl
theorem Two.f0 {w : World} {k : Nat} {b c : Int} (h : Two w k b c) : w.frozen? ⟨k, 0, none⟩ = false := by
  obtain ⟨_, t, hb⟩ := h; simp only [World.frozen?, hb]; rfl
theorem Two.f1 {w : World} {k : Nat} {b c : Int} (h : Two w k b c) : w.frozen? ⟨k, 1, none⟩ = false := by
  obtain ⟨_, t, hb⟩ := h; simp only [World.frozen?, hb]; rfl
theorem Two.new (w : World) (b c : Int) (t : TypeId) : Two (w.alloc (.cells #[.int .i64 b, .int .i64 c] t)) w.heap.size b c :=
  ⟨by simp, t, World.alloc_heap_new w (.cells #[.int .i64 b, .int .i64 c] t)⟩
theorem Two.set {w : World} {k : Nat} {b c : Int} (h : Two w k b c) (b' c' : Int) : Two ((w.setCell ⟨k, 0, none⟩ (.int .i64 b')).setCell ⟨k, 1, none⟩ (.int .i64 c')) k b' c' := by
  obtain ⟨hlt, t, hb⟩ := h
  refine ⟨by simp [World.setCell]; exact hlt, t, ?_⟩
  simp only [World.setCell, Array.getElem?_modify, if_true, hb, Option.map_some]
  rfl
theorem Two.new1 (w : World) (o : Obj) (b c : Int) (t : TypeId) : Two ((w.alloc o).alloc (.cells #[.int .i64 b, .int .i64 c] t)) (w.heap.size + 1) b c := by
  have h := Two.new (w.alloc o) b c t
  have e : (w.alloc o).heap.size = w.heap.size + 1 := by simp
  rw [e] at h; exact h
theorem Two.below {w w' : World} {k : Nat} {b c : Int} (h : Two w k b c) (hB : Below w.heap.size w w') : Two w' k b c := by
  obtain ⟨hlt, t, hb⟩ := h
  exact ⟨Nat.lt_of_lt_of_le hlt hB.size, t, (hB.block k hlt).trans hb⟩
theorem Two.drew {w : World} {k : Nat} {b c : Int} (h : Two w k b c) : Two w.drew k b c := ⟨h.lt, h.blk⟩
theorem Two.alloc {w : World} {k : Nat} {b c : Int} (h : Two w k b c) (o : Obj) : Two (w.alloc o) k b c := h.below (below_new w o)


end Go.Proofs.YtpgichlaghhdeaaGreatDoor

namespace Go.Proofs.YtpgichlaghhdeaaGreatDoor
set_option maxRecDepth 10000
open Go.RowKit

set_option maxHeartbeats 400000 in
theorem mayBe_any (b c : Int) (w : World) :
    Calls Tryz.prog 87 #[.agg #[.int .i64 b, .int .i64 c]] w fun e w' => e = .returned (.bool (Sp.may b c)) ∧ Below w.heap.size w w' := by
  go_enter Tryz.func87, Tryz.ntmps87
  go_wp2
  all_goals go_ret
  all_goals refine ⟨?_, below_new _ _⟩
  all_goals congr 2
  all_goals (unfold Sp.may; simp [*] <;> omega)

theorem Is_any (b c : Int) (w : World) :
    Calls Tryz.prog 84 #[.agg #[.int .i64 b, .int .i64 c]] w fun e w' => e = .returned (.bool (Sp.may b c)) ∧ Below w.heap.size w w' := by
  go_enter Tryz.func84, Tryz.ntmps84
  go_wp2_with fail
  refine (mayBe_any b c _).mono ?_
  rintro e w1 ⟨rfl, hB⟩
  go_wp2
  go_ret
  exact ⟨rfl, below2 (below_new _ _) hB⟩

end Go.Proofs.YtpgichlaghhdeaaGreatDoor

namespace Go.Proofs.YtpgichlaghhdeaaGreatDoor
set_option maxRecDepth 10000
open Go.RowKit

set_option maxHeartbeats 400000 in
theorem isAhead_any (b c b' c' : Int) (w : World) :
    Calls Tryz.prog 167 #[.agg #[.int .i64 b, .int .i64 c], .agg #[.int .i64 b', .int .i64 c']] w fun e w' => e = .returned (.bool (Sp.less b c b' c')) ∧ Below w.heap.size w w' := by
  rcases Int.lt_trichotomy b b' with h | h | h
  · have h1 : decide (b < b') = true := decide_eq_true h
    have e0 : Sp.less b c b' c' = true := by unfold Sp.less; rw [h1]; rfl
    rw [e0]; clear e0 h
    go_enter Tryz.func167, Tryz.ntmps167
    go_wp2
    go_ret
    exact ⟨rfl, below_new2 _ _ _⟩
  · subst h
    have h1 : decide (b < b) = false := decide_eq_false (by omega)
    have e0 : Sp.less b c b c' = decide (c < c') := by unfold Sp.less; rw [h1]; simp
    rw [e0]; clear e0
    go_enter Tryz.func167, Tryz.ntmps167
    go_wp2
    go_ret
    exact ⟨rfl, below_new2 _ _ _⟩
  · have h1 : decide (b < b') = false := decide_eq_false (by omega)
    have h2 : (b == b') = false := by rw [beq_eq_false_iff_ne]; omega
    have e0 : Sp.less b c b' c' = false := by unfold Sp.less; rw [h1, h2]; rfl
    rw [e0]; clear e0 h
    go_enter Tryz.func167, Tryz.ntmps167
    go_wp2
    go_ret
    exact ⟨rfl, below_new2 _ _ _⟩

theorem Less_any (b c b' c' : Int) (w : World) :
    Calls Tryz.prog 146 #[.agg #[.int .i64 b, .int .i64 c], .agg #[.int .i64 b', .int .i64 c']] w fun e w' => e = .returned (.bool (Sp.less b c b' c')) ∧ Below w.heap.size w w' := by
  go_enter Tryz.func146, Tryz.ntmps146
  go_wp2_with fail
  refine (isAhead_any b c b' c' _).mono ?_
  rintro e w1 ⟨rfl, hB⟩
  go_wp2
  go_ret
  exact ⟨rfl, below2 (below_new2 _ _ _) hB⟩

end Go.Proofs.YtpgichlaghhdeaaGreatDoor

namespace Go.Proofs.YtpgichlaghhdeaaGreatDoor
set_option maxRecDepth 10000
open Go.RowKit

set_option maxHeartbeats 400000 in
theorem RIs_any (b c : Int) (w : World) :
    Calls Tryz.prog 60 #[.agg #[.int .i64 b, .int .i64 c]] w fun e w' => e = .returned (.bool (Sp.may b c)) ∧ Below w.heap.size w w' := by
  go_enter Tryz.func60, Tryz.ntmps60
  go_wp2
  all_goals go_ret
  all_goals refine ⟨?_, below_new _ _⟩
  all_goals congr 2
  all_goals (unfold Sp.may; simp [*] <;> omega)

end Go.Proofs.YtpgichlaghhdeaaGreatDoor

namespace Go.Proofs.YtpgichlaghhdeaaGreatDoor
set_option maxRecDepth 10000
open Go.RowKit

set_option maxHeartbeats 400000 in
theorem RLess_any (b c b' c' : Int) (w : World) :
    Calls Tryz.prog 69 #[.agg #[.int .i64 b, .int .i64 c], .agg #[.int .i64 b', .int .i64 c']] w fun e w' => e = .returned (.bool (Sp.less b c b' c')) ∧ Below w.heap.size w w' := by
  rcases Int.lt_trichotomy b b' with h | h | h
  · have h1 : decide (b < b') = true := decide_eq_true h
    have e0 : Sp.less b c b' c' = true := by unfold Sp.less; rw [h1]; rfl
    rw [e0]; clear e0 h
    go_enter Tryz.func69, Tryz.ntmps69
    go_wp2
    go_ret
    exact ⟨rfl, below_new2 _ _ _⟩
  · subst h
    have h1 : decide (b < b) = false := decide_eq_false (by omega)
    have e0 : Sp.less b c b c' = decide (c < c') := by unfold Sp.less; rw [h1]; simp
    rw [e0]; clear e0
    go_enter Tryz.func69, Tryz.ntmps69
    go_wp2
    go_ret
    exact ⟨rfl, below_new2 _ _ _⟩
  · have h1 : decide (b < b') = false := decide_eq_false (by omega)
    have h2 : (b == b') = false := by rw [beq_eq_false_iff_ne]; omega
    have e0 : Sp.less b c b' c' = false := by unfold Sp.less; rw [h1, h2]; rfl
    rw [e0]; clear e0 h
    go_enter Tryz.func69, Tryz.ntmps69
    go_wp2
    go_ret
    exact ⟨rfl, below_new2 _ _ _⟩

end Go.Proofs.YtpgichlaghhdeaaGreatDoor

namespace Go.Proofs.YtpgichlaghhdeaaGreatDoor
set_option maxRecDepth 10000
open Go.RowKit

/-- How a function ends that hands back a spot from a cell, and a refusal. -/
theorem ret_spot {fn : Func} {p u : Tmp} {k : Nat} {b c : Int} {tmps : Array Value} {w : World} (h : fn.results = #[.cell p 23, .tmp u]) (hp : tmps.getD p undef = .pointer (some ⟨k, 0, none⟩)) (h2 : Two w k b c) :
    (results fn tmps).run Tryz.prog w = .ok (.tuple #[.agg #[.int .i64 b, .int .i64 c], tmps.getD u undef]) w := by
  rw [results_cell_tmp h, hp]
  have h0 := h2.c0
  have h1 := h2.c1
  have hl := run_loadCells_list (P := Tryz.prog) (w := w) ⟨k, 0, none⟩ [.int .i64 b, .int .i64 c] (fun j v hj => by
    match j, hj with
    | 0, hj => simp at hj; subst hj; simpa [Addr.add] using h0
    | 1, hj => simp at hj; subst hj; simpa [Addr.add] using h1
    | j + 2, hj => simp at hj)
  simp only [List.length_cons, List.length_nil, Nat.zero_add, Nat.reduceAdd] at hl
  simp [asAddr, Result.andThen, loadVar, hl]

end Go.Proofs.YtpgichlaghhdeaaGreatDoor

namespace Go.Proofs.YtpgichlaghhdeaaGreatDoor
set_option maxRecDepth 10000
open Go.RowKit

theorem AWait_any0 (p : Int) (w : World) :
    Calls Tryz.prog 107 #[.int .i64 p] w fun e w' => e = .returned (.int .i64 (Am.wait p)) ∧ w' = w := by
  by_cases h1 : p = 1
  · subst h1
    go_enter Tryz.func107, Tryz.ntmps107
    go_wp2
    go_ret
    exact ⟨rfl, rfl⟩
  · by_cases h2 : p = 2
    · subst h2
      go_enter Tryz.func107, Tryz.ntmps107
      go_wp2
      go_ret
      exact ⟨rfl, rfl⟩
    · by_cases h3 : p = 3
      · subst h3
        go_enter Tryz.func107, Tryz.ntmps107
        go_wp2
        go_ret
        exact ⟨rfl, rfl⟩
      · have e0 : Am.wait p = 0 := by unfold Am.wait; rw [if_neg h1, if_neg h2, if_neg h3]
        rw [e0]
        have d1 : (p == 1) = false := by rw [beq_eq_false_iff_ne]; exact h1
        have d2 : (p == 2) = false := by rw [beq_eq_false_iff_ne]; exact h2
        have d3 : (p == 3) = false := by rw [beq_eq_false_iff_ne]; exact h3
        clear e0 h1 h2 h3
        go_enter Tryz.func107, Tryz.ntmps107
        go_wp2
        go_ret
        exact ⟨rfl, rfl⟩

theorem isTime_any (n : Int) (w : World) :
    Calls Tryz.prog 86 #[.int .i64 n] w fun e w' => e = .returned (.bool (Am.isT n)) ∧ w' = w := by
  go_enter Tryz.func86, Tryz.ntmps86
  go_wp2
  all_goals go_ret
  all_goals (refine ⟨?_, rfl⟩; congr 2; unfold Am.isT; simp [*] <;> omega)

/-- Is a length one? -/
def Am.isL (n : Int) : Bool := decide (1 ≤ n) && decide (n ≤ 1000)
def Am.isP (p : Int) : Bool := decide (0 < Am.wait p)
theorem isPrio_any (p : Int) (w : World) :
    Calls Tryz.prog 85 #[.int .i64 p] w fun e w' => e = .returned (.bool (Am.isP p)) ∧ w' = w := by
  have h := fun W => AWait_any0 p W
  unfold Am.isP
  obtain ⟨x, hx⟩ : ∃ x, x = Am.wait p := ⟨_, rfl⟩
  rw [← hx] at h ⊢
  clear hx
  go_enter Tryz.func85, Tryz.ntmps85
  go_wp2_with fail
  refine (h _).mono ?_
  rintro e w1 ⟨rfl, rfl⟩
  go_wp2
  go_ret
  exact ⟨rfl, rfl⟩


theorem Am.isP_eq (p : Int) : Am.isP p = (decide (1 ≤ p) && decide (p ≤ 3)) := by
  have h := Am.wait_zero (p := p)
  have h2 := Am.wait_bounds p
  unfold Am.isP
  rw [Bool.eq_iff_iff]
  simp only [decide_eq_true_eq, Bool.and_eq_true]
  omega
theorem Am.right_eq (b c ph pr si un : Int) : Am.right ⟨b, c, ph, pr, si, un⟩ = (Sp.may b c && decide (1 ≤ ph) && decide (ph ≤ 4) && Am.isP pr && Am.isT si && decide (si ≤ un) && Am.late un) := by
  rw [Am.isP_eq]
  unfold Am.right
  simp only [Bool.and_assoc]

set_option linter.unusedSimpArgs false in
set_option maxHeartbeats 2000000 in
theorem AIs_any (b c ph pr si un : Int) (w : World) :
    Calls Tryz.prog 56 #[.agg #[.int .i64 b, .int .i64 c, .int .i64 ph, .int .i64 pr, .int .i64 si, .int .i64 un]] w fun e w' => e = .returned (.bool (Am.right ⟨b, c, ph, pr, si, un⟩)) ∧ Below w.heap.size w w' := by
  have h1 := fun W => Is_any b c W
  have h2 := fun W => isPrio_any pr W
  have h3 := fun W => isTime_any si W
  rw [Am.right_eq]
  obtain ⟨m, hm⟩ : ∃ m, m = Sp.may b c := ⟨_, rfl⟩
  obtain ⟨p, hp⟩ : ∃ p, p = Am.isP pr := ⟨_, rfl⟩
  obtain ⟨t, ht⟩ : ∃ t, t = Am.isT si := ⟨_, rfl⟩
  rw [← hm] at h1 ⊢
  rw [← hp] at h2 ⊢
  rw [← ht] at h3 ⊢
  clear hm hp ht
  obtain ⟨x1, e1⟩ : ∃ x, decide (1 ≤ ph) = x := ⟨_, rfl⟩
  obtain ⟨x2, e2⟩ : ∃ x, decide (ph ≤ 4) = x := ⟨_, rfl⟩
  obtain ⟨x5, e5⟩ : ∃ x, decide (si ≤ un) = x := ⟨_, rfl⟩
  rw [e1, e2, e5]
  cases m
  · simp only [Bool.true_and, Bool.false_and]
    go_enter Tryz.func56, Tryz.ntmps56
    go_wp2_with fail
    refine (h1 _).mono ?_
    rintro e w1 ⟨rfl, hB⟩
    have kk := (Six.new w b c ph pr si un 25).below hB
    have k2 := kk.c2
    have k3 := kk.c3
    have k4 := kk.c4
    have k5 := kk.c5
    have HB := Lib.hid (below2 (below_new _ _) hB)
    clear kk h1 hB
    go_wp2
    go_ret
    exact ⟨rfl, HB.out⟩
  · skip
    cases x1
    · simp only [Bool.true_and, Bool.false_and]
      go_enter Tryz.func56, Tryz.ntmps56
      go_wp2_with fail
      refine (h1 _).mono ?_
      rintro e w1 ⟨rfl, hB⟩
      have kk := (Six.new w b c ph pr si un 25).below hB
      have k2 := kk.c2
      have k3 := kk.c3
      have k4 := kk.c4
      have k5 := kk.c5
      have HB := Lib.hid (below2 (below_new _ _) hB)
      clear kk h1 hB
      go_wp2
      go_ret
      exact ⟨rfl, HB.out⟩
    · skip
      cases x2
      · simp only [Bool.true_and, Bool.false_and]
        go_enter Tryz.func56, Tryz.ntmps56
        go_wp2_with fail
        refine (h1 _).mono ?_
        rintro e w1 ⟨rfl, hB⟩
        have kk := (Six.new w b c ph pr si un 25).below hB
        have k2 := kk.c2
        have k3 := kk.c3
        have k4 := kk.c4
        have k5 := kk.c5
        have HB := Lib.hid (below2 (below_new _ _) hB)
        clear kk h1 hB
        go_wp2
        go_ret
        exact ⟨rfl, HB.out⟩
      · skip
        cases p
        · simp only [Bool.true_and, Bool.false_and]
          go_enter Tryz.func56, Tryz.ntmps56
          go_wp2_with fail
          refine (h1 _).mono ?_
          rintro e w1 ⟨rfl, hB⟩
          have kk := (Six.new w b c ph pr si un 25).below hB
          have k2 := kk.c2
          have k3 := kk.c3
          have k4 := kk.c4
          have k5 := kk.c5
          have HB := Lib.hid (below2 (below_new _ _) hB)
          clear kk h1 hB
          go_wp2_with fail
          refine (h2 _).mono ?_
          rintro e w2 ⟨rfl, rfl⟩
          clear h2
          go_wp2
          go_ret
          exact ⟨rfl, HB.out⟩
        · skip
          cases t
          · simp only [Bool.true_and, Bool.false_and]
            go_enter Tryz.func56, Tryz.ntmps56
            go_wp2_with fail
            refine (h1 _).mono ?_
            rintro e w1 ⟨rfl, hB⟩
            have kk := (Six.new w b c ph pr si un 25).below hB
            have k2 := kk.c2
            have k3 := kk.c3
            have k4 := kk.c4
            have k5 := kk.c5
            have HB := Lib.hid (below2 (below_new _ _) hB)
            clear kk h1 hB
            go_wp2_with fail
            refine (h2 _).mono ?_
            rintro e w2 ⟨rfl, rfl⟩
            clear h2
            go_wp2_with fail
            refine (h3 _).mono ?_
            rintro e w3 ⟨rfl, rfl⟩
            clear h3
            go_wp2
            go_ret
            exact ⟨rfl, HB.out⟩
          · skip
            cases x5
            · simp only [Bool.true_and, Bool.false_and]
              go_enter Tryz.func56, Tryz.ntmps56
              go_wp2_with fail
              refine (h1 _).mono ?_
              rintro e w1 ⟨rfl, hB⟩
              have kk := (Six.new w b c ph pr si un 25).below hB
              have k2 := kk.c2
              have k3 := kk.c3
              have k4 := kk.c4
              have k5 := kk.c5
              have HB := Lib.hid (below2 (below_new _ _) hB)
              clear kk h1 hB
              go_wp2_with fail
              refine (h2 _).mono ?_
              rintro e w2 ⟨rfl, rfl⟩
              clear h2
              go_wp2_with fail
              refine (h3 _).mono ?_
              rintro e w3 ⟨rfl, rfl⟩
              clear h3
              go_wp2
              go_ret
              exact ⟨rfl, HB.out⟩
            · simp only [Bool.true_and]
              go_enter Tryz.func56, Tryz.ntmps56
              go_wp2_with fail
              refine (h1 _).mono ?_
              rintro e w1 ⟨rfl, hB⟩
              have kk := (Six.new w b c ph pr si un 25).below hB
              have k2 := kk.c2
              have k3 := kk.c3
              have k4 := kk.c4
              have k5 := kk.c5
              have HB := Lib.hid (below2 (below_new _ _) hB)
              clear kk h1 hB
              go_wp2_with fail
              refine (h2 _).mono ?_
              rintro e w2 ⟨rfl, rfl⟩
              clear h2
              go_wp2_with fail
              refine (h3 _).mono ?_
              rintro e w3 ⟨rfl, rfl⟩
              clear h3
              go_wp2
              go_ret
              exact ⟨rfl, HB.out⟩
end Go.Proofs.YtpgichlaghhdeaaGreatDoor

namespace Go.Proofs.YtpgichlaghhdeaaGreatDoor
set_option maxRecDepth 10000
open Go.RowKit

theorem bIsTime_any (n : Int) (w : World) :
    Calls Tryz.prog 118 #[.int .i64 n] w fun e w' => e = .returned (.bool (Am.isT n)) ∧ w' = w := by
  go_enter Tryz.func118, Tryz.ntmps118
  go_wp2
  all_goals go_ret
  all_goals (refine ⟨?_, rfl⟩; congr 2; unfold Am.isT; simp [*] <;> omega)

theorem tooMany_any (m n : Int) (A : Option Addr) (l c : Nat) (w : World) :
    Calls Tryz.prog 119 #[.agg #[.int .i64 m, .int .i64 n, .slice A l c]] w fun e w' => e = .returned (.bool (decide (m < (l : Int)))) ∧ Below w.heap.size w w' := by
  go_enter Tryz.func119, Tryz.ntmps119
  go_wp2
  go_ret
  exact ⟨rfl, below_new _ _⟩

theorem ret_held8 {fn : Func} {p : Tmp} {k : Nat} {cs : Array Value} {tmps : Array Value} {w w0 : World} {L : List (Nat × Array Value)} {M : List Fact} (h : fn.results = #[.cell p 122]) (hp : tmps.getD p undef = .pointer (some ⟨k, 0, none⟩)) (hS : St w0 w L M) (i : Nat) (hi : L[i]? = some (k, cs)) (hz : some cs.size = some 3) :
    (results fn tmps).run Tryz.prog w = .ok (.agg cs) w := by
  obtain ⟨t, hb⟩ := hS.live (k, cs) (List.mem_of_getElem? hi)
  exact results_cell_row h tmps w k t cs (0, 0) _ hp hb Tryz.underlying122 rfl (by rw [hz]; rfl)

theorem ret_board8 {fn : Func} {p : Tmp} {k : Nat} {cs : Array Value} {tmps : Array Value} {w w0 : World} {L : List (Nat × Array Value)} {M : List Fact} (h : fn.results = #[.cell p 28]) (hp : tmps.getD p undef = .pointer (some ⟨k, 0, none⟩)) (hS : St w0 w L M) (i : Nat) (hi : L[i]? = some (k, cs)) (hz : some cs.size = some 3) :
    (results fn tmps).run Tryz.prog w = .ok (.agg cs) w := by
  obtain ⟨t, hb⟩ := hS.live (k, cs) (List.mem_of_getElem? hi)
  exact results_cell_row h tmps w k t cs (0, 0) _ hp hb Tryz.underlying28 rfl (by rw [hz]; rfl)

theorem hold_any (m n : Int) (A : Option Addr) (l c : Nat) (w : World) :
    Calls Tryz.prog 96 #[.agg #[.int .i64 m, .int .i64 n, .slice A l c]] w fun e w' => e = .returned (.agg #[.int .i64 m, .int .i64 n, .slice A l c]) ∧ Below w.heap.size w w' := by
  have HS := Lib.hid ((St.start w).box2 #[.int .i64 m, .int .i64 n, .slice A l c] #[.int .i64 m, .int .i64 n, .slice A l c] 28 122)
  go_enter Tryz.func96, Tryz.ntmps96
  go_wp2
  (try simp only [Exit.inBlock, Exit.then]); refine bodyPost_ret (ret_held8 rfl rfl HS.out 0 rfl rfl) rfl ?_
  exact ⟨rfl, HS.out.below⟩

set_option maxHeartbeats 1000000 in
theorem takes_any (m n : Int) (A : Option Addr) (l c : Nat) (x0 x1 x2 x3 x4 x5 : Int) (w : World) :
    Calls Tryz.prog 121 #[.agg #[.int .i64 m, .int .i64 n, .slice A l c], .agg #[.int .i64 x0, .int .i64 x1, .int .i64 x2, .int .i64 x3, .int .i64 x4, .int .i64 x5]] w fun e w' => e = .returned (.bool (Bd.may n ⟨x0, x1, x2, x3, x4, x5⟩)) ∧ Below w.heap.size w w' := by
  have HS0 := Lib.hid ((St.start w).box2 #[.int .i64 m, .int .i64 n, .slice A l c] #[.int .i64 x0, .int .i64 x1, .int .i64 x2, .int .i64 x3, .int .i64 x4, .int .i64 x5] 122 25)
  have g := fun W => AIs_any x0 x1 x2 x3 x4 x5 W
  unfold Bd.may
  obtain ⟨r, hr⟩ : ∃ r, r = Am.right ⟨x0, x1, x2, x3, x4, x5⟩ := ⟨_, rfl⟩
  rw [← hr]
  simp only [← hr] at g
  clear hr
  cases r
  · go_enter Tryz.func121, Tryz.ntmps121
    go_wp2_with (refine wpList_load_st rfl 25 _ rfl HS0.out 0 _ _ rfl rfl _ Tryz.underlying25 rfl (by rfl) ?_)
    refine (g _).mono ?_
    rintro e w1 ⟨rfl, hB⟩
    have HS := Lib.hid (HS0.out.on hB)
    clear hB HS0 g
    go_wp2
    go_ret
    exact ⟨rfl, HS.out.below⟩
  · go_enter Tryz.func121, Tryz.ntmps121
    go_wp2_with (refine wpList_load_st rfl 25 _ rfl HS0.out 0 _ _ rfl rfl _ Tryz.underlying25 rfl (by rfl) ?_)
    refine (g _).mono ?_
    rintro e w1 ⟨rfl, hB⟩
    have HS := Lib.hid (HS0.out.on hB)
    clear hB HS0 g
    have s1 := HS.out.cell 0 rfl 4 rfl
    have s2 := HS.out.cell 1 rfl 1 rfl
    go_wp2
    go_ret
    exact ⟨rfl, HS.out.below⟩
end Go.Proofs.YtpgichlaghhdeaaGreatDoor

namespace Go.Proofs.YtpgichlaghhdeaaGreatDoor
set_option maxRecDepth 10000
open Go.RowKit

theorem Bd.rise_step {ls : List Alm} {j : Nat} (h : j + 1 < ls.length) : Bd.rising (ls.drop j) = (Bd.lessA (ls[j]'(by omega)) (ls[j + 1]'h) && Bd.rising (ls.drop (j + 1))) := by
  rw [List.drop_eq_getElem_cons (by omega : j < ls.length), List.drop_eq_getElem_cons h]
  rfl
theorem Bd.rise_end {ls : List Alm} {j : Nat} (h : ls.length ≤ j + 1) : Bd.rising (ls.drop j) = true := by
  have h1 : (ls.drop j).length ≤ 1 := by rw [List.length_drop]; omega
  rcases hd : ls.drop j with _ | ⟨x, _ | ⟨y, l⟩⟩
  · rfl
  · rfl
  · rw [hd] at h1; simp at h1
theorem Bd.all_step {n : Int} {ls : List Alm} {k : Nat} (h : k < ls.length) : (ls.drop k).all (Bd.may n) = (Bd.may n ls[k] && (ls.drop (k + 1)).all (Bd.may n)) := by
  rw [List.drop_eq_getElem_cons h]; rfl

set_option maxRecDepth 10000 in
set_option maxHeartbeats 2000000 in
theorem rise_any (A : Option Addr) (l c : Nat) (ls : List Alm) (w : World) (h : Told w A l c ls) :
    Calls Tryz.prog 120 #[.slice A l c] w fun e w' => e = .returned (.bool (Bd.rising ls)) ∧ Below w.heap.size w w' := by
  obtain ⟨hl, hA, _, hf⟩ := h
  have Hl := Lib.hid hl
  have Hf := Lib.hid hf
  have HA0 := Lib.hid hA
  obtain ⟨r, hr⟩ : ∃ r, r = Bd.rising ls := ⟨_, rfl⟩
  have Hr := Lib.hid hr
  rw [← hr]
  clear hl hf hA hr
  go_enter Tryz.func120, Tryz.ntmps120
  go_wp2_with fail
  go_loopw [3] (fun i wr => ∃ j : Nat, i = .int .i64 ((j : Int) + 1) ∧ Hid (Bd.rising (ls.drop j) = r) ∧ Hid (Below w.heap.size w wr)) (fun i _ => l - (intOf i).toNat)
  case atStart => exact ⟨0, rfl, Lib.hid (by rw [Hr.out]; rfl), Lib.hid (Below.refl _ _)⟩
  case round =>
    obtain ⟨j, rfl, Hg, HB⟩ := hrel
    by_cases hlt : j + 1 < l
    · have kl : j + 1 < ls.length := by rw [← Hl.out]; exact hlt
      have HA := Lib.hid (HA0.out.on HB.out)
      obtain ⟨b0, o0, rfl, hb0, h6⟩ := HA.out j (by omega)
      obtain ⟨b1, o1, e1, hb1, h7⟩ := HA.out (j + 1) kl
      cases e1
      have Hs := Lib.hid (Bd.rise_step kl)
      obtain ⟨x, hx⟩ : ∃ x, x = ls[j]'(by omega) := ⟨_, rfl⟩
      obtain ⟨y, hy⟩ : ∃ y, y = ls[j + 1]'kl := ⟨_, rfl⟩
      rw [← hx] at h6 Hs
      rw [← hy] at h7 Hs
      clear hx hy
      obtain ⟨x0, x1, x2, x3, x4, x5⟩ := x
      obtain ⟨y0, y1, y2, y3, y4, y5⟩ := y
      have d0 := h6.c0
      have d1 := h6.c1
      have f0 := h7.c0
      have f1 := h7.c1
      simp only at d0 d1 f0 f1
      have i1 : (j : Int) + 1 < (l : Int) := by omega
      have i2 : (j : Int) < (l : Int) := by omega
      have i3 : (0 : Int) ≤ (j : Int) := by omega
      have i4 : (0 : Int) ≤ (j : Int) + 1 := by omega
      have i5 : ((j : Int) + 1).toNat = j + 1 := by omega
      have i6 : wrap64 ((j : Int) + 1 - 1) = (j : Int) := by have := Hf.out; unfold wrap64; omega
      have i7 : IntKind.i64.wrap ((j : Int) + 1 - 1) = (j : Int) := by have := Hf.out; rw [IntKind.wrap_i64]; omega
      have i8 : wrap64 (j : Int) = (j : Int) := by have := Hf.out; clear i6 i7; unfold wrap64; omega
      have i9 : IntKind.i64.wrap (j : Int) = (j : Int) := by have := Hf.out; clear i6 i7 i8; rw [IntKind.wrap_i64]; omega
      have Ik : Hid (wrap64 ((j : Int) + 1 + 1) = (j : Int) + 1 + 1) := Lib.hid (by have := Hf.out; clear i6 i7 i8 i9; unfold wrap64; omega)
      have Hk := Lib.hid hlt
      have g := fun W => Less_any x0 x1 y0 y1 W
      obtain ⟨z, hz⟩ : ∃ z, z = Sp.less x0 x1 y0 y1 := ⟨_, rfl⟩
      simp only [← hz] at g
      have Ha : Hid (Bd.lessA ⟨x0, x1, x2, x3, x4, x5⟩ ⟨y0, y1, y2, y3, y4, y5⟩ = z) := Lib.hid (by rw [hz]; rfl)
      clear h6 h7 kl hlt hz hb1
      cases z
      · have He : Hid (r = false) := Lib.hid (by rw [← Hg.out, Hs.out, Ha.out]; rfl)
        clear Hs Hg Ha
        go_wp2_with fail
        go_region_held3 (fun W => W.cell? ⟨b0, o0 + j * 6, none⟩ = some (.int .i64 x0) ∧ W.cell? ⟨b0, o0 + j * 6 + 1, none⟩ = some (.int .i64 x1) ∧ W.cell? ⟨b0, o0 + (j + 1) * 6, none⟩ = some (.int .i64 y0) ∧ W.cell? ⟨b0, o0 + (j + 1) * 6 + 1, none⟩ = some (.int .i64 y1)) (exact ⟨d0, d1, f0, f1⟩) ((go_at_call 146; refine (g _).mono ?_; rintro e w' ⟨rfl, hB'⟩; have hB2 : Below wr.heap.size wr w' := (by first | exact hB' | exact below_undrew hB'); replace d0 := (hB2.cell (p := ⟨b0, o0 + j * 6, none⟩) hb0).trans d0; replace d1 := (hB2.cell (p := ⟨b0, o0 + j * 6 + 1, none⟩) hb0).trans d1; replace f0 := (hB2.cell (p := ⟨b0, o0 + (j + 1) * 6, none⟩) hb0).trans f0; replace f1 := (hB2.cell (p := ⟨b0, o0 + (j + 1) * 6 + 1, none⟩) hb0).trans f1; have HB2 : Hid (Below w.heap.size w w') := Lib.hid (below2 HB.out hB2); clear hB' hB2))
        go_wp2
        go_ret
        exact ⟨by rw [He.out]; rfl, HB2.out⟩
      · have He : Hid (Bd.rising (ls.drop (j + 1)) = r) := Lib.hid (by rw [← Hg.out, Hs.out, Ha.out]; rfl)
        clear Hs Hg Ha
        go_wp2_with fail
        go_region_held3 (fun W => W.cell? ⟨b0, o0 + j * 6, none⟩ = some (.int .i64 x0) ∧ W.cell? ⟨b0, o0 + j * 6 + 1, none⟩ = some (.int .i64 x1) ∧ W.cell? ⟨b0, o0 + (j + 1) * 6, none⟩ = some (.int .i64 y0) ∧ W.cell? ⟨b0, o0 + (j + 1) * 6 + 1, none⟩ = some (.int .i64 y1)) (exact ⟨d0, d1, f0, f1⟩) ((go_at_call 146; refine (g _).mono ?_; rintro e w' ⟨rfl, hB'⟩; have hB2 : Below wr.heap.size wr w' := (by first | exact hB' | exact below_undrew hB'); replace d0 := (hB2.cell (p := ⟨b0, o0 + j * 6, none⟩) hb0).trans d0; replace d1 := (hB2.cell (p := ⟨b0, o0 + j * 6 + 1, none⟩) hb0).trans d1; replace f0 := (hB2.cell (p := ⟨b0, o0 + (j + 1) * 6, none⟩) hb0).trans f0; replace f1 := (hB2.cell (p := ⟨b0, o0 + (j + 1) * 6 + 1, none⟩) hb0).trans f1; have HB2 : Hid (Below w.heap.size w w') := Lib.hid (below2 HB.out hB2); clear hB' hB2))
        go_wp2
        go_roundw
        case rel => exact ⟨j + 1, by first | rfl | (rw [Ik.out]; rfl), He, HB2⟩
        case measure => have := Hk.out; (try rw [Ik.out]); simp [intOf]; omega
    · have ik : ((j : Int) + 1 < (l : Int)) = False := eq_false (by omega)
      have He : Hid (r = true) := Lib.hid (by rw [← Hg.out, Bd.rise_end (by have := Hl.out; omega)])
      clear hlt Hg
      go_wp2
      go_ret
      exact ⟨by rw [He.out]; rfl, HB.out⟩
end Go.Proofs.YtpgichlaghhdeaaGreatDoor

namespace Go.Proofs.YtpgichlaghhdeaaGreatDoor
set_option maxRecDepth 10000
open Go.RowKit

/-- A board that is wrong ahead of its alarms. -/
theorem Bd.isB_lt {m n : Int} {ls : List Alm} (h : m < 1) : Bd.isB m n ls = false := by
  unfold Bd.isB; rw [decide_eq_false (by omega : ¬ 1 ≤ m)]; rfl
theorem Bd.isB_gt {m n : Int} {ls : List Alm} (h : 200 < m) : Bd.isB m n ls = false := by
  unfold Bd.isB; rw [decide_eq_false (by omega : ¬ m ≤ 200)]; simp
theorem Bd.isB_t {m n : Int} {ls : List Alm} (h : Am.isT n = false) : Bd.isB m n ls = false := by
  unfold Bd.isB; rw [h]; simp
theorem Bd.isB_many {m n : Int} {ls : List Alm} (h : m < (ls.length : Int)) : Bd.isB m n ls = false := by
  unfold Bd.isB; rw [decide_eq_false (by omega : ¬ (ls.length : Int) ≤ m)]; simp
theorem Bd.isB_rise {m n : Int} {ls : List Alm} (h : Bd.rising ls = false) : Bd.isB m n ls = false := by
  unfold Bd.isB Bd.rows; rw [h]; simp
theorem Bd.isB_rest {m n : Int} {ls : List Alm} (h1 : ¬ m < 1) (h2 : ¬ 200 < m) (h3 : Am.isT n = true) (h4 : ¬ m < (ls.length : Int)) (h5 : Bd.rising ls = true) : Bd.isB m n ls = ls.all (Bd.may n) := by
  unfold Bd.isB Bd.rows; rw [h3, h5, decide_eq_true (by omega : 1 ≤ m), decide_eq_true (by omega : m ≤ 200), decide_eq_true (by omega : (ls.length : Int) ≤ m)]; simp

set_option maxRecDepth 10000 in
set_option maxHeartbeats 2000000 in
theorem right_any (m n : Int) (A : Option Addr) (l c : Nat) (ls : List Alm) (w : World) (h : Told w A l c ls) :
    Calls Tryz.prog 97 #[.agg #[.int .i64 m, .int .i64 n, .slice A l c]] w fun e w' => e = .returned (.bool (Bd.isB m n ls)) ∧ Below w.heap.size w w' := by
  obtain ⟨hl, hA, hn0, hf⟩ := h
  have HS := Lib.hid (((St.start w).more (rowF A ls) hA).new #[.int .i64 m, .int .i64 n, .slice A l c] 122)
  have Hl := Lib.hid hl
  have Hf := Lib.hid hf
  have Hn0 := Lib.hid hn0
  clear hA hn0 hf
  by_cases h1 : m < 1
  · rw [Bd.isB_lt h1]
    clear hl
    go_enter Tryz.func97, Tryz.ntmps97
    go_wp2
    go_ret
    exact ⟨rfl, below_new _ _⟩
  have i1 : (m < 1) = False := eq_false h1
  by_cases h2 : 200 < m
  · rw [Bd.isB_gt h2]
    clear hl h1
    go_enter Tryz.func97, Tryz.ntmps97
    go_wp2
    go_ret
    exact ⟨rfl, below_new _ _⟩
  have i2 : (200 < m) = False := eq_false h2
  have g1 := fun W => bIsTime_any n W
  cases h3 : Am.isT n
  · rw [Bd.isB_t h3]
    simp only [h3] at g1
    clear hl h1 h2 h3
    go_enter Tryz.func97, Tryz.ntmps97
    go_wp2_with fail
    refine (g1 _).mono ?_
    rintro e w1 ⟨rfl, rfl⟩
    go_wp2
    go_ret
    exact ⟨rfl, below_new _ _⟩
  simp only [h3] at g1
  have g2 := fun W => tooMany_any m n A l c W
  by_cases h4 : m < (l : Int)
  · rw [Bd.isB_many (by rw [← hl]; exact h4)]
    simp only [decide_eq_true h4] at g2
    clear hl h1 h2 h3 h4
    go_enter Tryz.func97, Tryz.ntmps97
    go_wp2_with fail
    refine (g1 _).mono ?_
    rintro e w1 ⟨rfl, rfl⟩
    go_wp2_with fail
    refine (g2 _).mono ?_
    rintro e w1 ⟨rfl, hB⟩
    have HB := Lib.hid (below2 (below_new w _) hB)
    clear hB
    go_wp2
    go_ret
    exact ⟨rfl, HB.out⟩
  simp only [decide_eq_false h4] at g2
  have g3 := fun W (hA : AlmsAt W W.heap.size A ls) => Lib.hid (rise_any A l c ls W ⟨Hl.out, hA, Hn0.out, Hf.out⟩)
  cases h5 : Bd.rising ls
  · rw [Bd.isB_rise h5]
    simp only [h5] at g3
    clear hl h1 h2 h3 h4 h5
    go_enter Tryz.func97, Tryz.ntmps97
    go_wp2_with fail
    refine (g1 _).mono ?_
    rintro e w1 ⟨rfl, rfl⟩
    go_wp2_with fail
    refine (g2 _).mono ?_
    rintro e w1 ⟨rfl, hB⟩
    replace HS := Lib.hid (HS.out.on hB)
    clear hB
    have s2 := HS.out.cell 0 rfl 2 rfl
    go_wp2_with fail
    refine (g3 _ (HS.out.fact 0 rfl)).out.mono ?_
    rintro e w2 ⟨rfl, hB⟩
    replace HS := Lib.hid (HS.out.on hB)
    clear hB s2
    go_wp2
    go_ret
    exact ⟨rfl, HS.out.below⟩
  simp only [h5] at g3
  rw [Bd.isB_rest h1 h2 h3 (by rw [← hl]; exact h4) h5]
  obtain ⟨r, hr⟩ : ∃ r, r = ls.all (Bd.may n) := ⟨_, rfl⟩
  have Hr := Lib.hid hr
  rw [← hr]
  clear hl h1 h2 h3 h4 h5 hr
  go_enter Tryz.func97, Tryz.ntmps97
  go_wp2_with fail
  refine (g1 _).mono ?_
  rintro e w1 ⟨rfl, rfl⟩
  go_wp2_with fail
  refine (g2 _).mono ?_
  rintro e w1 ⟨rfl, hB⟩
  replace HS := Lib.hid (HS.out.on hB)
  clear hB
  have s2 := HS.out.cell 0 rfl 2 rfl
  go_wp2_with fail
  refine (g3 _ (HS.out.fact 0 rfl)).out.mono ?_
  rintro e w2 ⟨rfl, hB⟩
  replace HS := Lib.hid (HS.out.on hB)
  clear hB s2 g1 g2 g3 i1 i2
  have s2 := HS.out.cell 0 rfl 2 rfl
  obtain ⟨p1, hp1⟩ : ∃ p, p = w.heap.size := ⟨_, rfl⟩
  rw [← hp1] at HS s2 ⊢
  clear hp1
  go_wp2_with fail
  go_loopw [32] (fun i wr => ∃ k : Nat, i = .int .i64 (k : Int) ∧ Hid ((ls.drop k).all (Bd.may n) = r) ∧ Hid (Below w2.heap.size w2 wr)) (fun i _ => l - (intOf i).toNat)
  case atStart => exact ⟨0, rfl, Lib.hid (by rw [Hr.out]; rfl), Lib.hid (Below.refl _ _)⟩
  case round =>
    obtain ⟨k, rfl, Hg, HB⟩ := hrel
    have HSr := Lib.hid (HS.out.on HB.out)
    by_cases hlt : k < l
    · have kl : k < ls.length := by rw [← Hl.out]; exact hlt
      have HA : Hid (AlmsAt wr wr.heap.size A ls) := Lib.hid (HSr.out.fact 0 rfl)
      obtain ⟨b0, o0, rfl, hb0, h6⟩ := HA.out k kl
      have Hs := Lib.hid (Bd.all_step (n := n) kl)
      obtain ⟨x, hx⟩ : ∃ x, x = ls[k]'kl := ⟨_, rfl⟩
      rw [← hx] at h6 Hs
      clear hx
      obtain ⟨x0, x1, x2, x3, x4, x5⟩ := x
      have d0 := h6.c0
      have d1 := h6.c1
      have d2 := h6.c2
      have d3 := h6.c3
      have d4 := h6.c4
      have d5 := h6.c5
      simp only at d0 d1 d2 d3 d4 d5
      have i1 : (k : Int) < (l : Int) := by omega
      have i3 : (0 : Int) ≤ (k : Int) := by omega
      have Ik : Hid (wrap64 ((k : Int) + 1) = (k : Int) + 1) := Lib.hid (by have := Hf.out; unfold wrap64; omega)
      have Hk := Lib.hid hlt
      have g := fun W => takes_any m n (some ⟨b0, o0, none⟩) l c x0 x1 x2 x3 x4 x5 W
      obtain ⟨z, hz⟩ : ∃ z, z = Bd.may n ⟨x0, x1, x2, x3, x4, x5⟩ := ⟨_, rfl⟩
      simp only [← hz] at g
      rw [← hz] at Hs
      have HSn := Lib.hid (HSr.out.new #[.int .i64 x0, .int .i64 x1, .int .i64 x2, .int .i64 x3, .int .i64 x4, .int .i64 x5] 25)
      have HBn := Lib.hid (below2 HB.out (below_new wr (.cells #[.int .i64 x0, .int .i64 x1, .int .i64 x2, .int .i64 x3, .int .i64 x4, .int .i64 x5] 25)))
      clear h6 kl hlt hz hb0 HB HSr HA
      cases z
      · have He : Hid (r = false) := Lib.hid (by rw [← Hg.out, Hs.out]; rfl)
        clear Hs Hg
        go_wp2_with (refine wpList_load_st rfl 122 _ rfl HSn.out 1 _ _ rfl rfl _ Tryz.underlying122 rfl (by rfl) ?_)
        refine (g _).mono ?_
        rintro e w3 ⟨rfl, hB⟩
        have HS3 := Lib.hid (HSn.out.on hB)
        clear hB d0 d1 d2 d3 d4 d5 s2
        go_wp2
        go_ret
        exact ⟨by rw [He.out]; rfl, HS3.out.below⟩
      · have He : Hid ((ls.drop (k + 1)).all (Bd.may n) = r) := Lib.hid (by rw [← Hg.out, Hs.out]; rfl)
        clear Hs Hg
        go_wp2_with (refine wpList_load_st rfl 122 _ rfl HSn.out 1 _ _ rfl rfl _ Tryz.underlying122 rfl (by rfl) ?_)
        refine (g _).mono ?_
        rintro e w3 ⟨rfl, hB⟩
        have HB3 := Lib.hid (below2 HBn.out hB)
        clear hB d0 d1 d2 d3 d4 d5 s2
        go_wp2
        go_roundw
        case rel => exact ⟨k + 1, by first | rfl | (rw [Ik.out]; rfl), He, HB3⟩
        case measure => have := Hk.out; (try rw [Ik.out]); simp [intOf]; omega
    · have ik : ((k : Int) < (l : Int)) = False := eq_false (by omega)
      have He : Hid (r = true) := Lib.hid (by rw [← Hg.out, List.drop_eq_nil_of_le (by have := Hl.out; omega)]; rfl)
      clear hlt Hg
      go_wp2
      go_ret
      exact ⟨by rw [He.out]; rfl, HSr.out.below⟩
end Go.Proofs.YtpgichlaghhdeaaGreatDoor

namespace Go.Proofs.YtpgichlaghhdeaaGreatDoor
set_option maxRecDepth 10000
open Go.RowKit

theorem grown_setCell (w : World) (k j : Nat) (v : Value) : w.grownBy (w.setCell ⟨k, j, none⟩ v) (some k) :=
  ⟨rfl, rfl, rfl, by simp [World.setCell], fun i _ hne => heap_setCell_other w ⟨k, j, none⟩ i v (fun e => hne (by rw [show i = k from e]))⟩
/-- A block of one's own is written whole: rows behind it stay. -/
theorem wpList_setres {P : Program} {ops : Array Oper} {rest : List Oper} {o : Oper} {a : Act} {w : World} {Q : Exit → Act → World → Prop} (hgd : o.guard = none) (ty : TypeId) (x y : Operand) (ho : o.op = .store ty x y)
    {w0 : World} {L : List (Nat × Array Value)} {M : List Fact} (hS : St w0 w L M) (i k : Nat) (old cs : Array Value) (hi : L[i]? = some (k, old)) (hk : w0.heap.size ≤ k) (base : Nat) (v : Value) (ls : List Alm) (hO : OwnA w base v ls) (hkb : k < base)
    (hx : a.eval x = .pointer (some ⟨k, 0, none⟩)) (hy : a.eval y = .agg cs) (hz : (P.info? ty).map (·.size) = some cs.size) (hsz : old.size = cs.size) (h1 : cs.all (·.oneCell') = true)
    (h : ∀ w', St w0 w' [(k, cs)] [] → OwnA w' base v ls → wpList P ops Q rest (a.put o.dst undef) w') : wpList P ops Q (o :: rest) a w := by
  obtain ⟨t, ht⟩ := hS.live (k, old) (List.mem_of_getElem? hi)
  refine wpList_store_row hgd ty x y ho k cs hx hy t old ht hz hsz h1 ?_
  refine h _ ⟨fun y hy => ?_, (fun _ h => nomatch h), below_setRow hS.below hk cs⟩ ?_
  · obtain rfl : y = (k, cs) := by simpa using hy
    exact ⟨t, setRow_heap _ _ _ _ _ _ ht⟩
  · exact World.ownsRow.kept (row := some k) hO (grown_setRow w k cs) (Or.inr (fun e => by
      have := (World.ownsRow.lt hO k e).1
      omega))
/-- One cell of the block that came last is written: rows behind it stay. -/
theorem wpList_setcell {P : Program} {ops : Array Oper} {rest : List Oper} {o : Oper} {a : Act} {w : World} {Q : Exit → Act → World → Prop} (hgd : o.guard = none) (ty : TypeId) (x y : Operand) (ho : o.op = .store ty x y)
    {w0 : World} {k : Nat} {cs : Array Value} {L : List (Nat × Array Value)} {M : List Fact} (hS : St w0 w ((k, cs) :: L) M) (hne : ∀ y ∈ L, y.1 ≠ k) (hk : w0.heap.size ≤ k) (j : Nat) (v old : Value) (base : Nat) (u : Value) (ls : List Alm) (hO : OwnA w base u ls) (hkb : k < base)
    (hx : a.eval x = .pointer (some ⟨k, j, none⟩)) (hy : a.eval y = v) (hj : cs[j]? = some old) (hi : (P.info? ty).map (·.size) = some 1) (h1 : v.oneCell' = true)
    (h : ∀ w', St w0 w' ((k, cs.setIfInBounds j v) :: L) [] → OwnA w' base u ls → wpList P ops Q rest (a.put o.dst undef) w') : wpList P ops Q (o :: rest) a w := by
  refine wpList_plain hgd fun K hK => ?_
  have hc := hS.cell 0 rfl j hj
  have hf := hS.free 0 rfl j
  unfold Oper.wp execOp
  simp only [ho, hx, hy, Instr.storeAt, Instr.sureAddr, Sem.run_bind, Sem.run_pure, Result.andThen_ok, run_storeVar_cell w k j ty v (by rw [hc]; rfl) hf hi h1]
  refine hK _ _ (h _ ⟨fun y hy => ?_, (fun _ h => nomatch h), below_setCell hS.below hk j v⟩ ?_)
  · rcases List.mem_cons.1 hy with rfl | hy
    · obtain ⟨t, ht⟩ := hS.live (k, cs) (by simp)
      exact ⟨t, heap_setCell_same w k j cs t v ht⟩
    · obtain ⟨t, ht⟩ := hS.live y (List.mem_cons_of_mem _ hy)
      exact ⟨t, (heap_setCell_other w ⟨k, j, none⟩ y.1 v (hne y hy)).trans ht⟩
  · exact World.ownsRow.kept (row := some k) hO (grown_setCell w k j v) (Or.inr (fun e => by
      have := (World.ownsRow.lt hO k e).1
      omega))

theorem run_field_als (m n : Int) (A : Option Addr) (l c : Nat) (w : World) : (Instr.field 122 (.agg #[.int .i64 m, .int .i64 n, .slice A l c]) 2).run Tryz.prog w = .ok (.slice A l c) w := by
  kernel_rfl

end Go.Proofs.YtpgichlaghhdeaaGreatDoor

namespace Go.Proofs.YtpgichlaghhdeaaGreatDoor
set_option maxRecDepth 10000
open Go.RowKit

theorem kk_is (m n : Int) (A : Option Addr) (l c : Nat) (ls : List Alm) (w : World) (h : Told w A l c ls) :
    Calls Tryz.prog 67 #[.agg #[.int .i64 m, .int .i64 n, .slice A l c]] w fun e w' => e = .returned (.bool (Bd.isB m n ls)) ∧ Below w.heap.size w w' := by
  have HS := Lib.hid (((St.start w).more (rowF A ls) h.2.1).new #[.int .i64 m, .int .i64 n, .slice A l c] 28)
  have g := fun W (hA : AlmsAt W W.heap.size A ls) => Lib.hid (right_any m n A l c ls W ⟨h.1, hA, h.2.2⟩)
  obtain ⟨r, hr⟩ : ∃ r, r = Bd.isB m n ls := ⟨_, rfl⟩
  simp only [← hr] at g ⊢
  clear hr h
  go_enter Tryz.func67, Tryz.ntmps67
  go_wp2_with (refine wpList_load_st rfl 28 _ rfl HS.out 0 _ _ rfl rfl _ Tryz.underlying28 rfl (by rfl) ?_)
  refine (hold_any m n A l c _).mono ?_
  rintro e w1 ⟨rfl, hB⟩
  replace HS := Lib.hid (HS.out.on hB)
  clear hB
  go_wp2_with fail
  refine (g _ (HS.out.fact 0 rfl)).out.mono ?_
  rintro e w2 ⟨rfl, hB⟩
  replace HS := Lib.hid (HS.out.on hB)
  clear hB g
  go_wp2
  go_ret
  exact ⟨rfl, HS.out.below⟩
end Go.Proofs.YtpgichlaghhdeaaGreatDoor
