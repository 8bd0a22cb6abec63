/-
  Layer 4 (spot): a spot in a block of memory.
  Layer 4 (spot): the walk of Is.
  Layer 6 (alarm): the walks of Wait, isPrio, isTime, isLong, Is.
  Layer 6 (alarm): a whole alarm is laid into a block, and read out of one.
  Layer 5 (life): the walks of the table: what is a phase, what is a deed, what a deed makes of a phase.
  Layer 5 (life): the walk of Next.
  An alarm is handed back, or read.
  Layer 6 (alarm): the walks of an embedded alarm's turn and inTime.
  Layer 6 (alarm): the walks of inTime, escalate, ack, silence.
  Layer 6 (alarm): the walk of wake.
  Layer 6 (alarm): the walk of Pass.
  Layer 4 (spot): the walks of isAhead and Less.
-/
import Derived.Test.YtplpadblhjdpcaaGreatXJa
import Derived.Test.YtplpadblhjdpcaaGreatChecked
import Derived.Lib.Hide
import Derived.Laws.Tables
import Derived.Deep.WholeRow
import Derived.Great.BuildSlice
import Derived.StillTailTactics
import Derived.Laws.ResultCell
import Derived.Deep.RegionHeld3
namespace Go.Proofs.YtplpadblhjdpcaaGreat
set_option maxRecDepth 10000
set_option maxRecDepth 10000
open Go.RowKit

/-- A spot lies in the block k. -/
structure Two (w : World) (k : Nat) (b c : Int) : Prop where
  lt : k < w.heap.size
  blk : ∃ t, w.heap[k]? = some (.cells #[.int .i64 b, .int .i64 c] t (0, 0))
theorem Two.c0 {w : World} {k : Nat} {b c : Int} (h : Two w k b c) : w.cell? ⟨k, 0, none⟩ = some (.int .i64 b) := by
  obtain ⟨_, t, hb⟩ := h; simp only [World.cell?, hb]; rfl
theorem Two.c1 {w : World} {k : Nat} {b c : Int} (h : Two w k b c) : w.cell? ⟨k, 1, none⟩ = some (.int .i64 c) := by
  obtain ⟨_, t, hb⟩ := h; simp only [World.cell?, hb]; rfl
theorem Two.f0 {w : World} {k : Nat} {b c : Int} (h : Two w k b c) : w.frozen? ⟨k, 0, none⟩ = false := by
  obtain ⟨_, t, hb⟩ := h; simp only [World.frozen?, hb]; rfl
theorem Two.f1 {w : World} {k : Nat} {b c : Int} (h : Two w k b c) : w.frozen? ⟨k, 1, none⟩ = false := by
  obtain ⟨_, t, hb⟩ := h; simp only [World.frozen?, hb]; rfl
theorem Two.new (w : World) (b c : Int) (t : TypeId) : Two (w.alloc (.cells #[.int .i64 b, .int .i64 c] t)) w.heap.size b c :=
  ⟨by simp, t, World.alloc_heap_new w (.cells #[.int .i64 b, .int .i64 c] t)⟩
theorem Two.set {w : World} {k : Nat} {b c : Int} (h : Two w k b c) (b' c' : Int) : Two ((w.setCell ⟨k, 0, none⟩ (.int .i64 b')).setCell ⟨k, 1, none⟩ (.int .i64 c')) k b' c' := by
  obtain ⟨hlt, t, hb⟩ := h
  refine ⟨by simp [World.setCell]; exact hlt, t, ?_⟩
  simp only [World.setCell, Array.getElem?_modify, if_true, hb, Option.map_some]
  rfl
theorem Two.new1 (w : World) (o : Obj) (b c : Int) (t : TypeId) : Two ((w.alloc o).alloc (.cells #[.int .i64 b, .int .i64 c] t)) (w.heap.size + 1) b c := by
  have h := Two.new (w.alloc o) b c t
  have e : (w.alloc o).heap.size = w.heap.size + 1 := by simp
  rw [e] at h; exact h
theorem Two.below {w w' : World} {k : Nat} {b c : Int} (h : Two w k b c) (hB : Below w.heap.size w w') : Two w' k b c := by
  obtain ⟨hlt, t, hb⟩ := h
  exact ⟨Nat.lt_of_lt_of_le hlt hB.size, t, (hB.block k hlt).trans hb⟩
theorem Two.drew {w : World} {k : Nat} {b c : Int} (h : Two w k b c) : Two w.drew k b c := ⟨h.lt, h.blk⟩
theorem Two.alloc {w : World} {k : Nat} {b c : Int} (h : Two w k b c) (o : Obj) : Two (w.alloc o) k b c := h.below (below_new w o)


end Go.Proofs.YtplpadblhjdpcaaGreat

namespace Go.Proofs.YtplpadblhjdpcaaGreat
set_option maxRecDepth 10000
open Go.RowKit

set_option maxHeartbeats 400000 in
theorem mayBe_any (b c : Int) (w : World) :
    Calls Tryz.prog 75 #[.agg #[.int .i64 b, .int .i64 c]] w fun e w' => e = .returned (.bool (Sp.may b c)) ∧ Below w.heap.size w w' := by
  go_enter Tryz.func75, Tryz.ntmps75
  go_wp2
  all_goals go_ret
  all_goals refine ⟨?_, below_new _ _⟩
  all_goals congr 2
  all_goals (unfold Sp.may; simp [*] <;> omega)

theorem Is_any (b c : Int) (w : World) :
    Calls Tryz.prog 54 #[.agg #[.int .i64 b, .int .i64 c]] w fun e w' => e = .returned (.bool (Sp.may b c)) ∧ Below w.heap.size w w' := by
  go_enter Tryz.func54, Tryz.ntmps54
  go_wp2_with fail
  refine (mayBe_any b c _).mono ?_
  rintro e w1 ⟨rfl, hB⟩
  go_wp2
  go_ret
  exact ⟨rfl, below2 (below_new _ _) hB⟩

end Go.Proofs.YtplpadblhjdpcaaGreat

namespace Go.Proofs.YtplpadblhjdpcaaGreat
set_option maxRecDepth 10000
open Go.RowKit

theorem AWait_any0 (p : Int) (w : World) :
    Calls Tryz.prog 57 #[.int .i64 p] w fun e w' => e = .returned (.int .i64 (Am.wait p)) ∧ w' = w := by
  by_cases h1 : p = 1
  · subst h1
    go_enter Tryz.func57, Tryz.ntmps57
    go_wp2
    go_ret
    exact ⟨rfl, rfl⟩
  · by_cases h2 : p = 2
    · subst h2
      go_enter Tryz.func57, Tryz.ntmps57
      go_wp2
      go_ret
      exact ⟨rfl, rfl⟩
    · by_cases h3 : p = 3
      · subst h3
        go_enter Tryz.func57, Tryz.ntmps57
        go_wp2
        go_ret
        exact ⟨rfl, rfl⟩
      · have e0 : Am.wait p = 0 := by unfold Am.wait; rw [if_neg h1, if_neg h2, if_neg h3]
        rw [e0]
        have d1 : (p == 1) = false := by rw [beq_eq_false_iff_ne]; exact h1
        have d2 : (p == 2) = false := by rw [beq_eq_false_iff_ne]; exact h2
        have d3 : (p == 3) = false := by rw [beq_eq_false_iff_ne]; exact h3
        clear e0 h1 h2 h3
        go_enter Tryz.func57, Tryz.ntmps57
        go_wp2
        go_ret
        exact ⟨rfl, rfl⟩

theorem isTime_any (n : Int) (w : World) :
    Calls Tryz.prog 56 #[.int .i64 n] w fun e w' => e = .returned (.bool (Am.isT n)) ∧ w' = w := by
  go_enter Tryz.func56, Tryz.ntmps56
  go_wp2
  all_goals go_ret
  all_goals (refine ⟨?_, rfl⟩; congr 2; unfold Am.isT; simp [*] <;> omega)

/-- Is a length one? -/
def Am.isL (n : Int) : Bool := decide (1 ≤ n) && decide (n ≤ 1000)
def Am.isP (p : Int) : Bool := decide (0 < Am.wait p)
theorem isPrio_any (p : Int) (w : World) :
    Calls Tryz.prog 55 #[.int .i64 p] w fun e w' => e = .returned (.bool (Am.isP p)) ∧ w' = w := by
  have h := fun W => AWait_any0 p W
  unfold Am.isP
  obtain ⟨x, hx⟩ : ∃ x, x = Am.wait p := ⟨_, rfl⟩
  rw [← hx] at h ⊢
  clear hx
  go_enter Tryz.func55, Tryz.ntmps55
  go_wp2_with fail
  refine (h _).mono ?_
  rintro e w1 ⟨rfl, rfl⟩
  go_wp2
  go_ret
  exact ⟨rfl, rfl⟩


theorem Am.isP_eq (p : Int) : Am.isP p = (decide (1 ≤ p) && decide (p ≤ 3)) := by
  have h := Am.wait_zero (p := p)
  have h2 := Am.wait_bounds p
  unfold Am.isP
  rw [Bool.eq_iff_iff]
  simp only [decide_eq_true_eq, Bool.and_eq_true]
  omega
theorem Am.right_eq (b c ph pr si un : Int) : Am.right ⟨b, c, ph, pr, si, un⟩ = (Sp.may b c && decide (1 ≤ ph) && decide (ph ≤ 4) && Am.isP pr && Am.isT si && decide (si ≤ un) && Am.late un) := by
  rw [Am.isP_eq]
  unfold Am.right
  simp only [Bool.and_assoc]

set_option linter.unusedSimpArgs false in
set_option maxHeartbeats 2000000 in
theorem AIs_any (b c ph pr si un : Int) (w : World) :
    Calls Tryz.prog 48 #[.agg #[.int .i64 b, .int .i64 c, .int .i64 ph, .int .i64 pr, .int .i64 si, .int .i64 un]] w fun e w' => e = .returned (.bool (Am.right ⟨b, c, ph, pr, si, un⟩)) ∧ Below w.heap.size w w' := by
  have h1 := fun W => Is_any b c W
  have h2 := fun W => isPrio_any pr W
  have h3 := fun W => isTime_any si W
  rw [Am.right_eq]
  obtain ⟨m, hm⟩ : ∃ m, m = Sp.may b c := ⟨_, rfl⟩
  obtain ⟨p, hp⟩ : ∃ p, p = Am.isP pr := ⟨_, rfl⟩
  obtain ⟨t, ht⟩ : ∃ t, t = Am.isT si := ⟨_, rfl⟩
  rw [← hm] at h1 ⊢
  rw [← hp] at h2 ⊢
  rw [← ht] at h3 ⊢
  clear hm hp ht
  obtain ⟨x1, e1⟩ : ∃ x, decide (1 ≤ ph) = x := ⟨_, rfl⟩
  obtain ⟨x2, e2⟩ : ∃ x, decide (ph ≤ 4) = x := ⟨_, rfl⟩
  obtain ⟨x5, e5⟩ : ∃ x, decide (si ≤ un) = x := ⟨_, rfl⟩
  rw [e1, e2, e5]
  cases m
  · simp only [Bool.true_and, Bool.false_and]
    go_enter Tryz.func48, Tryz.ntmps48
    go_wp2_with fail
    refine (h1 _).mono ?_
    rintro e w1 ⟨rfl, hB⟩
    have kk := (Six.new w b c ph pr si un 38).below hB
    have k2 := kk.c2
    have k3 := kk.c3
    have k4 := kk.c4
    have k5 := kk.c5
    have HB := Lib.hid (below2 (below_new _ _) hB)
    clear kk h1 hB
    go_wp2
    go_ret
    exact ⟨rfl, HB.out⟩
  · skip
    cases x1
    · simp only [Bool.true_and, Bool.false_and]
      go_enter Tryz.func48, Tryz.ntmps48
      go_wp2_with fail
      refine (h1 _).mono ?_
      rintro e w1 ⟨rfl, hB⟩
      have kk := (Six.new w b c ph pr si un 38).below hB
      have k2 := kk.c2
      have k3 := kk.c3
      have k4 := kk.c4
      have k5 := kk.c5
      have HB := Lib.hid (below2 (below_new _ _) hB)
      clear kk h1 hB
      go_wp2
      go_ret
      exact ⟨rfl, HB.out⟩
    · skip
      cases x2
      · simp only [Bool.true_and, Bool.false_and]
        go_enter Tryz.func48, Tryz.ntmps48
        go_wp2_with fail
        refine (h1 _).mono ?_
        rintro e w1 ⟨rfl, hB⟩
        have kk := (Six.new w b c ph pr si un 38).below hB
        have k2 := kk.c2
        have k3 := kk.c3
        have k4 := kk.c4
        have k5 := kk.c5
        have HB := Lib.hid (below2 (below_new _ _) hB)
        clear kk h1 hB
        go_wp2
        go_ret
        exact ⟨rfl, HB.out⟩
      · skip
        cases p
        · simp only [Bool.true_and, Bool.false_and]
          go_enter Tryz.func48, Tryz.ntmps48
          go_wp2_with fail
          refine (h1 _).mono ?_
          rintro e w1 ⟨rfl, hB⟩
          have kk := (Six.new w b c ph pr si un 38).below hB
          have k2 := kk.c2
          have k3 := kk.c3
          have k4 := kk.c4
          have k5 := kk.c5
          have HB := Lib.hid (below2 (below_new _ _) hB)
          clear kk h1 hB
          go_wp2_with fail
          refine (h2 _).mono ?_
          rintro e w2 ⟨rfl, rfl⟩
          clear h2
          go_wp2
          go_ret
          exact ⟨rfl, HB.out⟩
        · skip
          cases t
          · simp only [Bool.true_and, Bool.false_and]
            go_enter Tryz.func48, Tryz.ntmps48
            go_wp2_with fail
            refine (h1 _).mono ?_
            rintro e w1 ⟨rfl, hB⟩
            have kk := (Six.new w b c ph pr si un 38).below hB
            have k2 := kk.c2
            have k3 := kk.c3
            have k4 := kk.c4
            have k5 := kk.c5
            have HB := Lib.hid (below2 (below_new _ _) hB)
            clear kk h1 hB
            go_wp2_with fail
            refine (h2 _).mono ?_
            rintro e w2 ⟨rfl, rfl⟩
            clear h2
            go_wp2_with fail
            refine (h3 _).mono ?_
            rintro e w3 ⟨rfl, rfl⟩
            clear h3
            go_wp2
            go_ret
            exact ⟨rfl, HB.out⟩
          · skip
            cases x5
            · simp only [Bool.true_and, Bool.false_and]
              go_enter Tryz.func48, Tryz.ntmps48
              go_wp2_with fail
              refine (h1 _).mono ?_
              rintro e w1 ⟨rfl, hB⟩
              have kk := (Six.new w b c ph pr si un 38).below hB
              have k2 := kk.c2
              have k3 := kk.c3
              have k4 := kk.c4
              have k5 := kk.c5
              have HB := Lib.hid (below2 (below_new _ _) hB)
              clear kk h1 hB
              go_wp2_with fail
              refine (h2 _).mono ?_
              rintro e w2 ⟨rfl, rfl⟩
              clear h2
              go_wp2_with fail
              refine (h3 _).mono ?_
              rintro e w3 ⟨rfl, rfl⟩
              clear h3
              go_wp2
              go_ret
              exact ⟨rfl, HB.out⟩
            · simp only [Bool.true_and]
              go_enter Tryz.func48, Tryz.ntmps48
              go_wp2_with fail
              refine (h1 _).mono ?_
              rintro e w1 ⟨rfl, hB⟩
              have kk := (Six.new w b c ph pr si un 38).below hB
              have k2 := kk.c2
              have k3 := kk.c3
              have k4 := kk.c4
              have k5 := kk.c5
              have HB := Lib.hid (below2 (below_new _ _) hB)
              clear kk h1 hB
              go_wp2_with fail
              refine (h2 _).mono ?_
              rintro e w2 ⟨rfl, rfl⟩
              clear h2
              go_wp2_with fail
              refine (h3 _).mono ?_
              rintro e w3 ⟨rfl, rfl⟩
              clear h3
              go_wp2
              go_ret
              exact ⟨rfl, HB.out⟩
end Go.Proofs.YtplpadblhjdpcaaGreat

namespace Go.Proofs.YtplpadblhjdpcaaGreat
set_option maxRecDepth 10000
open Go.RowKit

/-- A whole alarm is laid into a block: the world behind it by what it is. -/
theorem wpList_store_six {P : Program} {ops : Array Oper} {rest : List Oper} {o : Oper} {a : Act} {w : World} {Q : Exit → Act → World → Prop} (hgd : o.guard = none) (ty : TypeId) (x y : Operand) (ho : o.op = .store ty x y)
    (g : Nat) (al al' : Alm) (hx : a.eval x = .pointer (some ⟨g, 0, none⟩)) (hy : a.eval y = .agg (sixV al')) (h6 : Six w g al) (hi : (P.info? ty).map (·.size) = some 6)
    (h : ∀ w', w' = w.setRow g (sixV al') → wpList P ops Q rest (a.put o.dst undef) w') : wpList P ops Q (o :: rest) a w := by
  obtain ⟨t, hb⟩ := h6.blk
  exact wpList_store_row hgd ty x y ho g (sixV al') hx hy t _ hb hi rfl (six_one _) (h _ rfl)
theorem wpList_load_six {P : Program} {ops : Array Oper} {rest : List Oper} {o : Oper} {a : Act} {w : World} {Q : Exit → Act → World → Prop} (hgd : o.guard = none) (ty : TypeId) (x : Operand) (ho : o.op = .load ty x)
    (g : Nat) (al : Alm) (hx : a.eval x = .pointer (some ⟨g, 0, none⟩)) (h6 : Six w g al) (d : TypeDesc)
    (hu : P.underlying ty = some d) (hd : (match d with | .struct _ | .array _ _ => true | _ => false) = true) (hi : (P.info? ty).map (·.size) = some 6)
    (h : wpList P ops Q rest (a.put o.dst (.agg (sixV al))) w) : wpList P ops Q (o :: rest) a w := by
  obtain ⟨t, hb⟩ := h6.blk
  exact wpList_load_row hgd ty x ho g hx t (sixV al) (0, 0) d hb hu hd hi h
theorem Six.put6 {w w' : World} {k : Nat} {a a' : Alm} (h : Six w k a) (hw : w' = w.setRow k (sixV a')) : Six w' k a' := by
  obtain ⟨t, hb⟩ := h.blk
  rw [hw]
  exact ⟨t, setRow_heap _ _ _ _ _ _ hb⟩
theorem Six.put6O {w w' : World} {k g : Nat} {a : Alm} {cs : Array Value} (h : Six w k a) (hne : k ≠ g) (hw : w' = w.setRow g cs) : Six w' k a := by
  obtain ⟨t, hb⟩ := h.blk
  rw [hw]
  exact ⟨t, (setRow_other w g k cs hne).trans hb⟩
theorem below_put6 {B g : Nat} {w0 w w' : World} {cs : Array Value} (h : Below B w0 w) (hg : B ≤ g) (hw : w' = w.setRow g cs) : Below B w0 w' := by
  rw [hw]; exact below_setRow h hg _
end Go.Proofs.YtplpadblhjdpcaaGreat

namespace Go.Proofs.YtplpadblhjdpcaaGreat
set_option maxRecDepth 10000
open Go.RowKit

theorem setRow_alloc2_new (w : World) (A : Obj) (c c' : Array Value) (t : TypeId) : ((w.alloc A).alloc (.cells c t)).setRow (w.heap.size + 1) c' = (w.alloc A).alloc (.cells c' t) := by
  have h := World.setRow_alloc_new (w.alloc A) c c' t
  have e : (w.alloc A).heap.size = w.heap.size + 1 := by simp
  rw [e] at h; exact h

theorem isPhase_any (p : Int) (w : World) :
    Calls Tryz.prog 105 #[.int .i64 p] w fun e w' => e = .returned (.bool (Lf.isP p)) ∧ w' = w := by
  go_enter Tryz.func105, Tryz.ntmps105
  go_wp2
  all_goals go_ret
  all_goals (refine ⟨?_, rfl⟩; congr 2; unfold Lf.isP; simp [*] <;> omega)
theorem isDeed_any (p : Int) (w : World) :
    Calls Tryz.prog 106 #[.int .i64 p] w fun e w' => e = .returned (.bool (Lf.isD p)) ∧ w' = w := by
  go_enter Tryz.func106, Tryz.ntmps106
  go_wp2
  all_goals go_ret
  all_goals (refine ⟨?_, rfl⟩; congr 2; unfold Lf.isD; simp [*] <;> omega)

/-- The table, as cells hold it. -/
def tabV : Array Value := (Lf.tab.map (Value.int .i64)).toArray
theorem tabV_size : tabV.size = 30 := by simp [tabV, Lf.tab]

set_option maxHeartbeats 1000000 in
theorem all_any (w : World) :
    Calls Tryz.prog 102 #[] w fun e w' => e = .returned (.agg tabV) ∧ w' = w.alloc (.cells tabV 131) := by
  go_enter Tryz.func102, Tryz.ntmps102
  go_wp2_with (first | refine wpList_buildTo rfl 131 _ rfl (some 6) rfl tabV (by kernel_rfl) ?_ | (refine wpList_store_row rfl 131 _ _ rfl w.heap.size tabV rfl rfl 131 _ (heap_alloc_new _ _) (by kernel_rfl) (by kernel_rfl) (by kernel_rfl) ?_; rw [World.setRow_alloc_new]))
  refine bodyPost_ret (results_cell_row rfl _ _ w.heap.size 131 tabV (0, 0) _ (by rfl) (heap_alloc_new _ _) Tryz.underlying131 rfl (by kernel_rfl)) rfl ⟨rfl, rfl⟩

/-- The table lies in the block k. -/
def TabAt (w : World) (k : Nat) : Prop := w.heap[k]? = some (.cells tabV 131 (0, 0))
theorem TabAt.new (w : World) : TabAt (w.alloc (.cells tabV 131)) w.heap.size := heap_alloc_new _ _
theorem TabAt.lt {w : World} {k : Nat} (h : TabAt w k) : k < w.heap.size := (Array.getElem?_eq_some_iff.1 h).1
theorem TabAt.below {w w' : World} {k : Nat} (h : TabAt w k) (hB : Below w.heap.size w w') : TabAt w' k := (hB.block k h.lt).trans h
theorem TabAt.upto {w w' : World} {k B : Nat} (h : TabAt w k) (hk : k < B) (hB : Below B w w') : TabAt w' k := (hB.block k hk).trans h
theorem TabAt.cell {w : World} {k : Nat} (h : TabAt w k) {i j : Nat} (hi : i < 5) (hj : j < 6) : w.cell? ⟨k, i * 6 + j, none⟩ = some (.int .i64 (Lf.tab.getD (i * 6 + j) 0)) := by
  have hlt : i * 6 + j < Lf.tab.length := by have : Lf.tab.length = 30 := rfl; omega
  rw [cell_of_row w k _ tabV _ _ h]
  simp [tabV, hlt]
theorem next_any (p d : Int) (w : World) :
    Calls Tryz.prog 103 #[.agg tabV, .int .i64 p, .int .i64 d] w fun e w' => e = .returned (.tuple #[.int .i64 (Lf.nx p d), .bool (Lf.ok p d)]) ∧ Below w.heap.size w w' := by
  have h1 := fun W => isPhase_any p W
  have h2 := fun W => isDeed_any d W
  cases hp : Lf.isP p
  · have e1 : Lf.ok p d = false := by unfold Lf.ok; rw [hp]; rfl
    have e2 : Lf.nx p d = 0 := by unfold Lf.nx; rw [e1]; rfl
    rw [e1, e2]
    rw [hp] at h1
    clear e1 e2 hp h2
    go_enter Tryz.func103, Tryz.ntmps103
    go_wp2_with fail
    refine (h1 _).mono ?_
    rintro e w1 ⟨rfl, rfl⟩
    go_wp2
    go_ret2
    exact ⟨rfl, below_new _ _⟩
  · cases hd : Lf.isD d
    · have e1 : Lf.ok p d = false := by unfold Lf.ok; rw [hp, hd]; rfl
      have e2 : Lf.nx p d = 0 := by unfold Lf.nx; rw [e1]; rfl
      rw [e1, e2]
      rw [hp] at h1
      rw [hd] at h2
      clear e1 e2 hp hd
      go_enter Tryz.func103, Tryz.ntmps103
      go_wp2_with fail
      refine (h1 _).mono ?_
      rintro e w1 ⟨rfl, rfl⟩
      go_wp2_with fail
      refine (h2 _).mono ?_
      rintro e w1 ⟨rfl, rfl⟩
      go_wp2
      go_ret2
      exact ⟨rfl, below_new _ _⟩
    · rw [hp] at h1
      rw [hd] at h2
      have hok : Lf.ok p d = !(Lf.look p d == -1) := by unfold Lf.ok; rw [hp, hd]; rfl
      have hnx : Lf.nx p d = if Lf.ok p d then Lf.look p d else 0 := rfl
      obtain ⟨p0, p1⟩ := Lf.isP_iff.1 hp
      obtain ⟨d0, d1⟩ := Lf.isD_iff.1 hd
      clear hp hd
      have w1 : wrap64 (d - 1) = d - 1 := by unfold wrap64; omega
      have w2 : 0 ≤ d - 1 := by omega
      have w3 : d - 1 < 6 := by omega
      have hc := (TabAt.new w).cell (i := p.toNat) (j := d.toNat - 1) (by omega) (by omega)
      obtain ⟨x, hx⟩ : ∃ x, x = Lf.look p d := ⟨_, rfl⟩
      have hx2 : Lf.tab.getD (p.toNat * 6 + (d.toNat - 1)) 0 = x := by rw [hx, show d.toNat - 1 = (d - 1).toNat by omega]; rfl
      rw [hx2] at hc
      rw [← hx] at hok hnx
      rw [hnx, hok]
      clear hx hx2 hnx hok
      by_cases hneg : x = -1
      · subst hneg
        go_enter Tryz.func103, Tryz.ntmps103
        go_wp2_with fail
        refine (h1 _).mono ?_
        rintro e w1 ⟨rfl, rfl⟩
        go_wp2_with fail
        refine (h2 _).mono ?_
        rintro e w1 ⟨rfl, rfl⟩
        go_wp2
        go_ret2
        exact ⟨rfl, below_new _ _⟩
      · have hb : (x == -1) = false := by rw [beq_eq_false_iff_ne]; exact hneg
        rw [hb]
        go_enter Tryz.func103, Tryz.ntmps103
        go_wp2_with fail
        refine (h1 _).mono ?_
        rintro e w1 ⟨rfl, rfl⟩
        go_wp2_with fail
        refine (h2 _).mono ?_
        rintro e w1 ⟨rfl, rfl⟩
        go_wp2
        go_ret2
        exact ⟨rfl, below_new _ _⟩

end Go.Proofs.YtplpadblhjdpcaaGreat

namespace Go.Proofs.YtplpadblhjdpcaaGreat
set_option maxRecDepth 10000
open Go.RowKit

theorem Next_any (p d : Int) (w : World) :
    Calls Tryz.prog 99 #[.int .i64 p, .int .i64 d] w fun e w' => e = .returned (.tuple #[.int .i64 (Lf.nx p d), .bool (Lf.ok p d)]) ∧ Below w.heap.size w w' := by
  obtain ⟨x, hx⟩ : ∃ x, x = Lf.nx p d := ⟨_, rfl⟩
  obtain ⟨b, hb⟩ : ∃ b, b = Lf.ok p d := ⟨_, rfl⟩
  have h := fun W => next_any p d W
  rw [← hx, ← hb] at h ⊢
  clear hx hb
  go_enter Tryz.func99, Tryz.ntmps99
  go_wp2_with fail
  refine (all_any w).mono ?_
  rintro e w1 ⟨rfl, rfl⟩
  go_wp2_with fail
  refine (h _).mono ?_
  rintro e w2 ⟨rfl, hB⟩
  go_wp2
  go_ret2
  exact ⟨rfl, below2 (below_new _ _) hB⟩

end Go.Proofs.YtplpadblhjdpcaaGreat

namespace Go.Proofs.YtplpadblhjdpcaaGreat
set_option maxRecDepth 10000
open Go.RowKit


/-- How a function ends that hands back an alarm from a cell, and an error. -/
theorem ret_alarm {fn : Func} {p u : Tmp} {k : Nat} {a : Alm} {tmps : Array Value} {w : World} (h : fn.results = #[.cell p 38, .tmp u]) (hp : tmps.getD p undef = .pointer (some ⟨k, 0, none⟩)) (h2 : Six w k a) :
    (results fn tmps).run Tryz.prog w = .ok (.tuple #[.agg (sixV a), tmps.getD u undef]) w := by
  rw [results_cell_tmp h, hp]
  obtain ⟨t, hb⟩ := h2.blk
  have hl := run_loadVar_row (P := Tryz.prog) w k t 38 (sixV a) (0, 0) _ hb Tryz.underlying38 rfl (by rfl)
  simp [asAddr, Result.andThen, hl]
theorem ret_alarm1 {fn : Func} {p : Tmp} {k : Nat} {a : Alm} {tmps : Array Value} {w : World} (h : fn.results = #[.cell p 38]) (hp : tmps.getD p undef = .pointer (some ⟨k, 0, none⟩)) (h2 : Six w k a) :
    (results fn tmps).run Tryz.prog w = .ok (.agg (sixV a)) w := by
  obtain ⟨t, hb⟩ := h2.blk
  exact results_cell_row h tmps w k t (sixV a) (0, 0) _ hp hb Tryz.underlying38 rfl (by rfl)

theorem exec_load_six {o : Oper} {a : Act} {w : World} (x : Operand) (ho : o.op = .load 38 x) {k : Nat} {b c ph pr si un : Int} (hx : a.eval x = .pointer (some ⟨k, 0, none⟩)) (h : Six w k ⟨b, c, ph, pr, si, un⟩) :
    (execOp a.eval o).run Tryz.prog w = .ok (.value (.agg #[.int .i64 b, .int .i64 c, .int .i64 ph, .int .i64 pr, .int .i64 si, .int .i64 un])) w := by
  obtain ⟨t, hb⟩ := h.blk
  have hl := run_loadVar_row (P := Tryz.prog) w k t 38 (sixV ⟨b, c, ph, pr, si, un⟩) (0, 0) _ hb Tryz.underlying38 rfl (by rfl)
  unfold execOp
  simp only [ho, hx, Instr.loadAt, Instr.sureAddr, Sem.run_bind, Sem.run_pure, Result.andThen_ok, hl]
  rfl

end Go.Proofs.YtplpadblhjdpcaaGreat

namespace Go.Proofs.YtplpadblhjdpcaaGreat
set_option maxRecDepth 10000
open Go.RowKit

/-- What a deed makes of an alarm, whatever Until it is told. -/
def Am.tnE (a : Alm) (deed : Int) : Int := if Lf.ok a.ph deed = true then 0 else 60
def Am.tnA (a : Alm) (deed u : Int) : Alm := if Lf.ok a.ph deed = true then ⟨a.b, a.c, Lf.nx a.ph deed, a.pr, a.si, u⟩ else Am.zero
def Am.inE (a : Alm) (deed t : Int) : Int := if Lf.ok a.ph deed = true then (if t < a.un then 61 else 0) else 60
def Am.inA (a : Alm) (deed t u : Int) : Alm := if Lf.ok a.ph deed = true then (if t < a.un then Am.zero else ⟨a.b, a.c, Lf.nx a.ph deed, a.pr, a.si, u⟩) else Am.zero

set_option maxRecDepth 10000 in
set_option maxHeartbeats 4000000 in
theorem tturn_f (b c ph pr si un deed u : Int) (w : World) (ho : Lf.ok ph deed = false) :
    Calls Tryz.prog 91 #[.agg #[.int .i64 b, .int .i64 c, .int .i64 ph, .int .i64 pr, .int .i64 si, .int .i64 un], .int .i64 deed, .int .i64 u] w fun e w' => e = .returned (.tuple #[.agg (sixV Am.zero), .int .i64 60]) ∧ Below w.heap.size w w' := by
  have g1 := fun W => Next_any ph deed W
  rw [ho] at g1
  obtain ⟨y, hy⟩ : ∃ y, y = Lf.nx ph deed := ⟨_, rfl⟩
  rw [← hy] at g1
  clear ho hy
  go_enter Tryz.func91, Tryz.ntmps91
  go_wp2_with fail
  refine (g1 _).mono ?_
  rintro e w1 ⟨rfl, hB⟩
  have kz := (Six.new1 w (.cells #[.int .i64 b, .int .i64 c, .int .i64 ph, .int .i64 pr, .int .i64 si, .int .i64 un] 82) 0 0 0 0 0 0 38).below hB
  have HB := Lib.hid (below2 (below_new2 w _ _) hB)
  have Kz := Lib.hid kz
  clear g1 hB kz
  go_wp2_with (refine wpList_store_six rfl 38 _ _ rfl (w.heap.size + 1) _ Am.zero rfl rfl Kz.out (by rfl) ?_; intro w2 hw2; have K2 := Lib.hid (Kz.out.put6 hw2); have HB2 := Lib.hid (below_put6 HB.out (by omega) hw2); clear hw2)
  (try simp only [Exit.inBlock, Exit.then]); refine bodyPost_ret (ret_alarm (a := Am.zero) rfl rfl K2.out) rfl ?_
  exact ⟨rfl, HB2.out⟩

set_option maxRecDepth 10000 in
set_option maxHeartbeats 4000000 in
theorem tturn_t (b c ph pr si un deed u y : Int) (w : World) (ho : Lf.ok ph deed = true) (hy : Lf.nx ph deed = y) :
    Calls Tryz.prog 91 #[.agg #[.int .i64 b, .int .i64 c, .int .i64 ph, .int .i64 pr, .int .i64 si, .int .i64 un], .int .i64 deed, .int .i64 u] w fun e w' => e = .returned (.tuple #[.agg (sixV ⟨b, c, y, pr, si, u⟩), .int .i64 0]) ∧ Below w.heap.size w w' := by
  have g1 := fun W => Next_any ph deed W
  rw [ho, hy] at g1
  clear ho hy
  go_enter Tryz.func91, Tryz.ntmps91
  go_wp2_with fail
  refine (g1 _).mono ?_
  rintro e w1 ⟨rfl, hB⟩
  have ka := ((Six.new w b c ph pr si un 82).alloc (.cells #[.int .i64 0, .int .i64 0, .int .i64 0, .int .i64 0, .int .i64 0, .int .i64 0] 38)).below hB
  have kz := (Six.new1 w (.cells #[.int .i64 b, .int .i64 c, .int .i64 ph, .int .i64 pr, .int .i64 si, .int .i64 un] 82) 0 0 0 0 0 0 38).below hB
  have HB := Lib.hid (below2 (below_new2 w _ _) hB)
  have Ka := Lib.hid ka
  have Kz := Lib.hid kz
  have Hle : Hid (w.heap.size + 1 < w1.heap.size) := Lib.hid kz.lt
  clear g1 hB ka kz
  go_wp2_with (first
    | (refine wpList_load_six rfl 38 _ rfl w.heap.size _ rfl Ka.out _ Tryz.underlying38 rfl (by rfl) ?_)
    | (refine wpList_load_six rfl 38 _ rfl w1.heap.size _ rfl HL.out _ Tryz.underlying38 rfl (by rfl) ?_)
    | (refine wpList_store_six rfl 38 _ _ rfl (w.heap.size + 1) _ ⟨b, c, y, pr, si, u⟩ rfl rfl HS.out (by rfl) ?_; intro w3 hw3; have K3 := Lib.hid (HS.out.put6 hw3); have HB3 := Lib.hid (below_put6 HBf.out (by omega) hw3); clear hw3)
    | (refine wpList_store_six rfl 38 _ _ rfl w1.heap.size _ ⟨b, c, ph, pr, si, un⟩ rfl rfl (Six.new w1 0 0 0 0 0 0 _) (by rfl) ?_
       intro w2 hw2
       have K2 := (Six.new w1 0 0 0 0 0 0 38).put6 hw2
       have Z2 := (Kz.out.alloc (.cells #[.int .i64 0, .int .i64 0, .int .i64 0, .int .i64 0, .int .i64 0, .int .i64 0] 38)).put6O (by have := Hle.out; omega) hw2
       have HB2 := below_put6 (HB.out.alloc (by have := Hle.out; omega) _) (by have := Hle.out; omega) hw2
       have c2 := K2.c2
       have c5 := K2.c5
       have f2 := K2.f 2
       have f5 := K2.f 5
       have HL := Lib.hid ((K2.sph y).sun u)
       have HS := Lib.hid ((Z2.other (g := w1.heap.size) (j := 2) (v := .int .i64 y) (by have := Hle.out; omega)).other (g := w1.heap.size) (j := 5) (v := .int .i64 u) (by have := Hle.out; omega))
       have HBf := Lib.hid ((HB2.setCell (p := ⟨w1.heap.size, 2, none⟩) (by have := Hle.out; show w.heap.size ≤ w1.heap.size; omega) (.int .i64 y)).setCell (p := ⟨w1.heap.size, 5, none⟩) (by have := Hle.out; show w.heap.size ≤ w1.heap.size; omega) (.int .i64 u))
       clear hw2 K2 Z2 HB2))
  (try simp only [Exit.inBlock, Exit.then]); refine bodyPost_ret (ret_alarm (a := ⟨b, c, y, pr, si, u⟩) rfl rfl K3.out) rfl ?_
  exact ⟨rfl, HB3.out⟩
end Go.Proofs.YtplpadblhjdpcaaGreat

namespace Go.Proofs.YtplpadblhjdpcaaGreat
set_option maxRecDepth 10000
open Go.RowKit

theorem tturn_any (b c ph pr si un deed u : Int) (w : World) :
    Calls Tryz.prog 91 #[.agg #[.int .i64 b, .int .i64 c, .int .i64 ph, .int .i64 pr, .int .i64 si, .int .i64 un], .int .i64 deed, .int .i64 u] w fun e w' => e = .returned (.tuple #[.agg (sixV (Am.tnA ⟨b, c, ph, pr, si, un⟩ deed u)), .int .i64 (Am.tnE ⟨b, c, ph, pr, si, un⟩ deed)]) ∧ Below w.heap.size w w' := by
  unfold Am.tnA Am.tnE
  simp only
  cases ho : Lf.ok ph deed
  · exact tturn_f b c ph pr si un deed u w ho
  · exact tturn_t b c ph pr si un deed u _ w ho rfl

set_option maxRecDepth 10000 in
set_option maxHeartbeats 4000000 in
theorem inTime_f (b c ph pr si un deed t u : Int) (X : Alm) (E : Int) (hE : (E == 0) = false) (w : World)
    (g1 : ∀ W, Calls Tryz.prog 91 #[.agg #[.int .i64 b, .int .i64 c, .int .i64 ph, .int .i64 pr, .int .i64 si, .int .i64 un], .int .i64 deed, .int .i64 u] W fun e w' => e = .returned (.tuple #[.agg (sixV X), .int .i64 E]) ∧ Below W.heap.size W w') :
    Calls Tryz.prog 72 #[.agg #[.int .i64 b, .int .i64 c, .int .i64 ph, .int .i64 pr, .int .i64 si, .int .i64 un], .int .i64 deed, .int .i64 t, .int .i64 u] w fun e w' => e = .returned (.tuple #[.agg (sixV X), .int .i64 E]) ∧ Below w.heap.size w w' := by
  go_enter Tryz.func72, Tryz.ntmps72
  have H0 := Lib.hid ((Six.new w b c ph pr si un 82).alloc (.cells #[.int .i64 0, .int .i64 0, .int .i64 0, .int .i64 0, .int .i64 0, .int .i64 0] 38))
  go_wp2_with (refine wpList_load_six rfl 82 _ rfl w.heap.size _ rfl H0.out _ Tryz.underlying82 rfl (by rfl) ?_)
  refine (g1 _).mono ?_
  rintro e w1 ⟨rfl, hB⟩
  clear H0
  have ka := ((Six.new w b c ph pr si un 82).alloc (.cells #[.int .i64 0, .int .i64 0, .int .i64 0, .int .i64 0, .int .i64 0, .int .i64 0] 38)).below hB
  have kz := (Six.new1 w (.cells #[.int .i64 b, .int .i64 c, .int .i64 ph, .int .i64 pr, .int .i64 si, .int .i64 un] 82) 0 0 0 0 0 0 38).below hB
  have HB := Lib.hid (below2 (below_new2 w _ _) hB)
  have Ka := Lib.hid ka
  have Kz := Lib.hid kz
  have c5 := ka.c5
  have Hle : Hid (w.heap.size + 1 < w1.heap.size) := Lib.hid kz.lt
  clear g1 hB ka kz
  go_wp2_with (first
    | (refine wpList_load_six rfl 38 _ rfl w1.heap.size _ rfl K2.out _ Tryz.underlying38 rfl (by rfl) ?_)
    | (refine wpList_store_six rfl 38 _ _ rfl (w.heap.size + 1) _ X rfl rfl Z2.out (by rfl) ?_; intro w3 hw3; have K3 := Lib.hid (Z2.out.put6 hw3); have HB3 := Lib.hid (below_put6 HB2.out (by omega) hw3); clear hw3)
    | (refine wpList_store_six rfl 38 _ _ rfl w1.heap.size _ X rfl rfl (Six.new w1 0 0 0 0 0 0 _) (by rfl) ?_
       intro w2 hw2
       have K2 := Lib.hid ((Six.new w1 0 0 0 0 0 0 38).put6 hw2)
       have A2 := (Ka.out.alloc (.cells #[.int .i64 0, .int .i64 0, .int .i64 0, .int .i64 0, .int .i64 0, .int .i64 0] 38)).put6O (by have := Hle.out; omega) hw2
       have Z2 := Lib.hid ((Kz.out.alloc (.cells #[.int .i64 0, .int .i64 0, .int .i64 0, .int .i64 0, .int .i64 0, .int .i64 0] 38)).put6O (by have := Hle.out; omega) hw2)
       have HB2 := Lib.hid (below_put6 (HB.out.alloc (by have := Hle.out; omega) _) (by have := Hle.out; omega) hw2)
       have d5 := A2.c5
       clear hw2 A2 c5))
  (try simp only [Exit.inBlock, Exit.then]); refine bodyPost_ret (ret_alarm (a := X) rfl rfl K3.out) rfl ?_
  exact ⟨rfl, HB3.out⟩

set_option maxRecDepth 10000 in
set_option maxHeartbeats 4000000 in
theorem inTime_y (b c ph pr si un deed t u : Int) (X : Alm) (hu : decide (t < un) = true) (w : World)
    (g1 : ∀ W, Calls Tryz.prog 91 #[.agg #[.int .i64 b, .int .i64 c, .int .i64 ph, .int .i64 pr, .int .i64 si, .int .i64 un], .int .i64 deed, .int .i64 u] W fun e w' => e = .returned (.tuple #[.agg (sixV X), .int .i64 0]) ∧ Below W.heap.size W w') :
    Calls Tryz.prog 72 #[.agg #[.int .i64 b, .int .i64 c, .int .i64 ph, .int .i64 pr, .int .i64 si, .int .i64 un], .int .i64 deed, .int .i64 t, .int .i64 u] w fun e w' => e = .returned (.tuple #[.agg (sixV Am.zero), .int .i64 61]) ∧ Below w.heap.size w w' := by
  go_enter Tryz.func72, Tryz.ntmps72
  have H0 := Lib.hid ((Six.new w b c ph pr si un 82).alloc (.cells #[.int .i64 0, .int .i64 0, .int .i64 0, .int .i64 0, .int .i64 0, .int .i64 0] 38))
  go_wp2_with (refine wpList_load_six rfl 82 _ rfl w.heap.size _ rfl H0.out _ Tryz.underlying82 rfl (by rfl) ?_)
  refine (g1 _).mono ?_
  rintro e w1 ⟨rfl, hB⟩
  clear H0
  have ka := ((Six.new w b c ph pr si un 82).alloc (.cells #[.int .i64 0, .int .i64 0, .int .i64 0, .int .i64 0, .int .i64 0, .int .i64 0] 38)).below hB
  have kz := (Six.new1 w (.cells #[.int .i64 b, .int .i64 c, .int .i64 ph, .int .i64 pr, .int .i64 si, .int .i64 un] 82) 0 0 0 0 0 0 38).below hB
  have HB := Lib.hid (below2 (below_new2 w _ _) hB)
  have Ka := Lib.hid ka
  have Kz := Lib.hid kz
  have c5 := ka.c5
  have Hle : Hid (w.heap.size + 1 < w1.heap.size) := Lib.hid kz.lt
  clear g1 hB ka kz
  go_wp2_with (first
    | (refine wpList_load_six rfl 38 _ rfl w1.heap.size _ rfl K2.out _ Tryz.underlying38 rfl (by rfl) ?_)
    | (refine wpList_store_six rfl 38 _ _ rfl (w.heap.size + 1) _ Am.zero rfl rfl Z2.out (by rfl) ?_; intro w3 hw3; have K3 := Lib.hid (Z2.out.put6 hw3); have HB3 := Lib.hid (below_put6 HB2.out (by omega) hw3); clear hw3)
    | (refine wpList_store_six rfl 38 _ _ rfl w1.heap.size _ X rfl rfl (Six.new w1 0 0 0 0 0 0 _) (by rfl) ?_
       intro w2 hw2
       have K2 := Lib.hid ((Six.new w1 0 0 0 0 0 0 38).put6 hw2)
       have A2 := (Ka.out.alloc (.cells #[.int .i64 0, .int .i64 0, .int .i64 0, .int .i64 0, .int .i64 0, .int .i64 0] 38)).put6O (by have := Hle.out; omega) hw2
       have Z2 := Lib.hid ((Kz.out.alloc (.cells #[.int .i64 0, .int .i64 0, .int .i64 0, .int .i64 0, .int .i64 0, .int .i64 0] 38)).put6O (by have := Hle.out; omega) hw2)
       have HB2 := Lib.hid (below_put6 (HB.out.alloc (by have := Hle.out; omega) _) (by have := Hle.out; omega) hw2)
       have d5 := A2.c5
       clear hw2 A2 c5))
  (try simp only [Exit.inBlock, Exit.then]); refine bodyPost_ret (ret_alarm (a := Am.zero) rfl rfl K3.out) rfl ?_
  exact ⟨rfl, HB3.out⟩

set_option maxRecDepth 10000 in
set_option maxHeartbeats 4000000 in
theorem inTime_k (b c ph pr si un deed t u : Int) (X : Alm) (hu : decide (t < un) = false) (w : World)
    (g1 : ∀ W, Calls Tryz.prog 91 #[.agg #[.int .i64 b, .int .i64 c, .int .i64 ph, .int .i64 pr, .int .i64 si, .int .i64 un], .int .i64 deed, .int .i64 u] W fun e w' => e = .returned (.tuple #[.agg (sixV X), .int .i64 0]) ∧ Below W.heap.size W w') :
    Calls Tryz.prog 72 #[.agg #[.int .i64 b, .int .i64 c, .int .i64 ph, .int .i64 pr, .int .i64 si, .int .i64 un], .int .i64 deed, .int .i64 t, .int .i64 u] w fun e w' => e = .returned (.tuple #[.agg (sixV X), .int .i64 0]) ∧ Below w.heap.size w w' := by
  go_enter Tryz.func72, Tryz.ntmps72
  have H0 := Lib.hid ((Six.new w b c ph pr si un 82).alloc (.cells #[.int .i64 0, .int .i64 0, .int .i64 0, .int .i64 0, .int .i64 0, .int .i64 0] 38))
  go_wp2_with (refine wpList_load_six rfl 82 _ rfl w.heap.size _ rfl H0.out _ Tryz.underlying82 rfl (by rfl) ?_)
  refine (g1 _).mono ?_
  rintro e w1 ⟨rfl, hB⟩
  clear H0
  have ka := ((Six.new w b c ph pr si un 82).alloc (.cells #[.int .i64 0, .int .i64 0, .int .i64 0, .int .i64 0, .int .i64 0, .int .i64 0] 38)).below hB
  have kz := (Six.new1 w (.cells #[.int .i64 b, .int .i64 c, .int .i64 ph, .int .i64 pr, .int .i64 si, .int .i64 un] 82) 0 0 0 0 0 0 38).below hB
  have HB := Lib.hid (below2 (below_new2 w _ _) hB)
  have Ka := Lib.hid ka
  have Kz := Lib.hid kz
  have c5 := ka.c5
  have Hle : Hid (w.heap.size + 1 < w1.heap.size) := Lib.hid kz.lt
  clear g1 hB ka kz
  go_wp2_with (first
    | (refine wpList_load_six rfl 38 _ rfl w1.heap.size _ rfl K2.out _ Tryz.underlying38 rfl (by rfl) ?_)
    | (refine wpList_store_six rfl 38 _ _ rfl (w.heap.size + 1) _ X rfl rfl Z2.out (by rfl) ?_; intro w3 hw3; have K3 := Lib.hid (Z2.out.put6 hw3); have HB3 := Lib.hid (below_put6 HB2.out (by omega) hw3); clear hw3)
    | (refine wpList_store_six rfl 38 _ _ rfl w1.heap.size _ X rfl rfl (Six.new w1 0 0 0 0 0 0 _) (by rfl) ?_
       intro w2 hw2
       have K2 := Lib.hid ((Six.new w1 0 0 0 0 0 0 38).put6 hw2)
       have A2 := (Ka.out.alloc (.cells #[.int .i64 0, .int .i64 0, .int .i64 0, .int .i64 0, .int .i64 0, .int .i64 0] 38)).put6O (by have := Hle.out; omega) hw2
       have Z2 := Lib.hid ((Kz.out.alloc (.cells #[.int .i64 0, .int .i64 0, .int .i64 0, .int .i64 0, .int .i64 0, .int .i64 0] 38)).put6O (by have := Hle.out; omega) hw2)
       have HB2 := Lib.hid (below_put6 (HB.out.alloc (by have := Hle.out; omega) _) (by have := Hle.out; omega) hw2)
       have d5 := A2.c5
       clear hw2 A2 c5))
  (try simp only [Exit.inBlock, Exit.then]); refine bodyPost_ret (ret_alarm (a := X) rfl rfl K3.out) rfl ?_
  exact ⟨rfl, HB3.out⟩

theorem inTime_any (b c ph pr si un deed t u : Int) (w : World) :
    Calls Tryz.prog 72 #[.agg #[.int .i64 b, .int .i64 c, .int .i64 ph, .int .i64 pr, .int .i64 si, .int .i64 un], .int .i64 deed, .int .i64 t, .int .i64 u] w fun e w' => e = .returned (.tuple #[.agg (sixV (Am.inA ⟨b, c, ph, pr, si, un⟩ deed t u)), .int .i64 (Am.inE ⟨b, c, ph, pr, si, un⟩ deed t)]) ∧ Below w.heap.size w w' := by
  unfold Am.inA Am.inE
  simp only
  cases ho : Lf.ok ph deed
  · exact inTime_f b c ph pr si un deed t u Am.zero 60 (by decide) w (fun W => tturn_f b c ph pr si un deed u W ho)
  · rw [if_pos rfl, if_pos rfl]
    by_cases hu : t < un
    · rw [if_pos hu, if_pos hu]
      exact inTime_y b c ph pr si un deed t u _ (decide_eq_true hu) w (fun W => tturn_t b c ph pr si un deed u _ W ho rfl)
    · rw [if_neg hu, if_neg hu]
      exact inTime_k b c ph pr si un deed t u _ (decide_eq_false hu) w (fun W => tturn_t b c ph pr si un deed u _ W ho rfl)

set_option maxRecDepth 10000 in
set_option maxHeartbeats 4000000 in
theorem escalate_any (b c ph pr si un t l : Int) (w : World) :
    Calls Tryz.prog 49 #[.agg #[.int .i64 b, .int .i64 c, .int .i64 ph, .int .i64 pr, .int .i64 si, .int .i64 un], .int .i64 t, .int .i64 l] w fun e w' => e = .returned (.tuple #[.agg (sixV (Am.inA ⟨b, c, ph, pr, si, un⟩ 2 t t)), .int .i64 (Am.inE ⟨b, c, ph, pr, si, un⟩ 2 t)]) ∧ Below w.heap.size w w' := by
  have g1 := fun W => inTime_any b c ph pr si un 2 t t W
  obtain ⟨X, hX⟩ : ∃ X, X = Am.inA ⟨b, c, ph, pr, si, un⟩ 2 t t := ⟨_, rfl⟩
  obtain ⟨Y, hY⟩ : ∃ Y, Y = Am.inE ⟨b, c, ph, pr, si, un⟩ 2 t := ⟨_, rfl⟩
  rw [← hX, ← hY] at g1 ⊢
  clear hX hY
  go_enter Tryz.func49, Tryz.ntmps49
  have H0 := Lib.hid ((Six.new w b c ph pr si un 82).alloc (.cells #[.int .i64 0, .int .i64 0, .int .i64 0, .int .i64 0, .int .i64 0, .int .i64 0] 38))
  go_wp2_with (refine wpList_load_six rfl 82 _ rfl w.heap.size _ rfl H0.out _ Tryz.underlying82 rfl (by rfl) ?_)
  refine (g1 _).mono ?_
  rintro e w1 ⟨rfl, hB⟩
  have kz := (Six.new1 w (.cells #[.int .i64 b, .int .i64 c, .int .i64 ph, .int .i64 pr, .int .i64 si, .int .i64 un] 82) 0 0 0 0 0 0 38).below hB
  have HB := Lib.hid (below2 (below_new2 w _ _) hB)
  have Kz := Lib.hid kz
  clear g1 hB kz H0
  go_wp2_with (refine wpList_store_six rfl 38 _ _ rfl (w.heap.size + 1) _ X rfl rfl Kz.out (by rfl) ?_; intro w3 hw3; have K3 := Lib.hid (Kz.out.put6 hw3); have HB3 := Lib.hid (below_put6 HB.out (by omega) hw3); clear hw3)
  (try simp only [Exit.inBlock, Exit.then]); refine bodyPost_ret (ret_alarm (a := X) rfl rfl K3.out) rfl ?_
  exact ⟨rfl, HB3.out⟩

end Go.Proofs.YtplpadblhjdpcaaGreat

namespace Go.Proofs.YtplpadblhjdpcaaGreat
set_option maxRecDepth 10000
open Go.RowKit

theorem exec_load_sixT {o : Oper} {a : Act} {w : World} (ty : TypeId) (x : Operand) (ho : o.op = .load ty x) {k : Nat} {al : Alm} (hx : a.eval x = .pointer (some ⟨k, 0, none⟩)) (h : Six w k al) (d : TypeDesc)
    (hu : Tryz.prog.underlying ty = some d) (hd : (match d with | .struct _ | .array _ _ => true | _ => false) = true) (hi : (Tryz.prog.info? ty).map (·.size) = some 6) :
    (execOp a.eval o).run Tryz.prog w = .ok (.value (.agg (sixV al))) w := by
  obtain ⟨t, hb⟩ := h.blk
  have hl := run_loadVar_row (P := Tryz.prog) w k t ty (sixV al) (0, 0) d hb hu (by cases d <;> first | rfl | exact hd) (by rw [hi]; rfl)
  unfold execOp
  simp only [ho, hx, Instr.loadAt, Instr.sureAddr, Sem.run_bind, Sem.run_pure, Result.andThen_ok, hl]
theorem wp_store_six {P : Program} {o : Oper} {a : Act} {w : World} {K : Act → World → Prop} {Q : Exit → Act → World → Prop} (ty : TypeId) (x y : Operand) (ho : o.op = .store ty x y)
    (g : Nat) (al al' : Alm) (hx : a.eval x = .pointer (some ⟨g, 0, none⟩)) (hy : a.eval y = .agg (sixV al')) (h6 : Six w g al) (hi : (P.info? ty).map (·.size) = some 6)
    (h : ∀ w', w' = w.setRow g (sixV al') → K (a.put o.dst undef) w') : o.wp P a w K Q := by
  obtain ⟨t, hb⟩ := h6.blk
  exact wp_store_row ty x y ho g (sixV al') hx hy t _ hb hi rfl (six_one _) (h _ rfl)

set_option maxRecDepth 10000 in
set_option maxHeartbeats 4000000 in
theorem wake_any (b c ph pr si un t l : Int) (w : World) (Iw : Hid (IntKind.i64.wrap (t + Am.wait pr) = t + Am.wait pr)) :
    Calls Tryz.prog 50 #[.agg #[.int .i64 b, .int .i64 c, .int .i64 ph, .int .i64 pr, .int .i64 si, .int .i64 un], .int .i64 t, .int .i64 l] w fun e w' => e = .returned (.tuple #[.agg (sixV (Am.inA ⟨b, c, ph, pr, si, un⟩ 6 t (t + Am.wait pr))), .int .i64 (Am.inE ⟨b, c, ph, pr, si, un⟩ 6 t)]) ∧ Below w.heap.size w w' := by
  have g1 := fun W => inTime_any b c ph pr si un 6 t (t + Am.wait pr) W
  have g2 := fun W => AWait_any0 pr W
  obtain ⟨X, hX⟩ : ∃ X, X = Am.inA ⟨b, c, ph, pr, si, un⟩ 6 t (t + Am.wait pr) := ⟨_, rfl⟩
  obtain ⟨Y, hY⟩ : ∃ Y, Y = Am.inE ⟨b, c, ph, pr, si, un⟩ 6 t := ⟨_, rfl⟩
  rw [← hX, ← hY] at g1 ⊢
  clear hX hY
  obtain ⟨x, hx⟩ : ∃ x, x = Am.wait pr := ⟨_, rfl⟩
  rw [← hx] at g1 g2 Iw
  clear hx
  have ka := (Six.new w b c ph pr si un 82).alloc (.cells #[.int .i64 0, .int .i64 0, .int .i64 0, .int .i64 0, .int .i64 0, .int .i64 0] 38)
  have kz := Six.new1 w (.cells #[.int .i64 b, .int .i64 c, .int .i64 ph, .int .i64 pr, .int .i64 si, .int .i64 un] 82) 0 0 0 0 0 0 38
  have hB0 := below_new2 w (.cells #[.int .i64 b, .int .i64 c, .int .i64 ph, .int .i64 pr, .int .i64 si, .int .i64 un] 82) (.cells #[.int .i64 0, .int .i64 0, .int .i64 0, .int .i64 0, .int .i64 0, .int .i64 0] 38)
  go_enter Tryz.func50, Tryz.ntmps50
  go_wp2_with fail
  refine wp_region_held_drew (S := (fun W : World => Six W w.heap.size ⟨b, c, ph, pr, si, un⟩)) (by kernel_rfl) (by first | exact ka | exact ⟨ka.blk⟩) (fun hHeld => ?_)
  refine wpAnyH_take (i := 0) (oi := { dst := some 8, op := Op.load 82 (Operand.tmp 3), type := 82, pos := _, after := #[], guard := none }) (v := ?_) rfl (by kernel_rfl) (by kernel_rfl) (by kernel_rfl) (fun _ _ _ h => h) (Or.inl ⟨by rfl, ?hy⟩) hHeld ?_
  case hy => (intro w0 hSw; refine exec_load_sixT 82 (Operand.tmp 3) ?_ ?_ hSw _ Tryz.underlying82 rfl (by rfl) <;> rfl)
  (try simp only [Act.put, List.setIfInBounds_toArray, List.set_cons_zero, List.set_cons_succ])
  refine wpAnyH_take (i := 1) (oi := { dst := some 9, op := Op.move (Operand.tmp 1), type := 3, pos := _, after := #[], guard := none }) (v := ?_) rfl (by kernel_rfl) (by kernel_rfl) (by kernel_rfl) (fun _ _ _ h => h) (Or.inl ⟨by rfl, ?hy⟩) hHeld ?_
  case hy => intro w0 hSw; (try dsimp only at hSw); go_simp; (try with_reducible rfl)
  (try simp only [Act.put, List.setIfInBounds_toArray, List.set_cons_zero, List.set_cons_succ])
  refine wpAnyH_take (i := 2) (oi := { dst := some 10, op := Op.move (Operand.tmp 1), type := 3, pos := _, after := #[], guard := none }) (v := ?_) rfl (by kernel_rfl) (by kernel_rfl) (by kernel_rfl) (fun _ _ _ h => h) (Or.inl ⟨by rfl, ?hy⟩) hHeld ?_
  case hy => intro w0 hSw; (try dsimp only at hSw); go_simp; (try with_reducible rfl)
  (try simp only [Act.put, List.setIfInBounds_toArray, List.set_cons_zero, List.set_cons_succ])
  refine wpAnyH_take (i := 3) (oi := { dst := some 11, op := Op.fieldAddr 82 (Operand.tmp 3) 0, type := 0, pos := _, after := #[], guard := none }) (v := ?_) rfl (by kernel_rfl) (by kernel_rfl) (by kernel_rfl) (fun _ _ _ h => h) (Or.inl ⟨by rfl, ?hy⟩) hHeld ?_
  case hy => intro w0 hSw; (try dsimp only at hSw); go_simp; (try with_reducible rfl)
  (try simp only [Act.put, List.setIfInBounds_toArray, List.set_cons_zero, List.set_cons_succ])
  refine wpAnyH_take (i := 4) (oi := { dst := some 12, op := Op.fieldAddr 38 (Operand.tmp 11) 2, type := 0, pos := _, after := #[{ on := 3, ground := Ground.data }], guard := none }) (v := ?_) rfl (by kernel_rfl) (by kernel_rfl) (by kernel_rfl) (fun _ _ _ h => h) (Or.inl ⟨by rfl, ?hy⟩) hHeld ?_
  case hy => intro w0 hSw; (try dsimp only at hSw); go_simp; (try with_reducible rfl)
  (try simp only [Act.put, List.setIfInBounds_toArray, List.set_cons_zero, List.set_cons_succ])
  refine wpAnyH_take (i := 5) (oi := { dst := some 13, op := Op.load 3 (Operand.tmp 12), type := 3, pos := _, after := #[{ on := 4, ground := Ground.data }], guard := none }) (v := ?_) rfl (by kernel_rfl) (by kernel_rfl) (by kernel_rfl) (fun _ _ _ h => h) (Or.inl ⟨by rfl, ?hy⟩) hHeld ?_
  case hy => intro w0 hSw; have q3 := hSw.c3; (try dsimp only at q3); go_simp; (try with_reducible rfl)
  (try simp only [Act.put, List.setIfInBounds_toArray, List.set_cons_zero, List.set_cons_succ])
  refine wpAnyH_ready (rs := [6]) (by kernel_rfl) (by simp) ?_
  refine AllReadyH.cons (o := { dst := some 14, op := Op.call { callee := Callee.value (Operand.func 57), args := #[Operand.tmp 13], argTypes := #[3] }, type := 3, pos := _, after := #[{ on := 5, ground := Ground.data }], guard := none }) rfl (fun K hK => ?_) AllReadyH.nil
  go_simp
  refine (g2 _).mono ?_
  rintro e w1 ⟨rfl, hw1⟩
  replace ka : Six w1 w.heap.size ⟨b, c, ph, pr, si, un⟩ := by rw [hw1]; exact ⟨ka.blk⟩
  replace kz : Six w1 (w.heap.size + 1) ⟨0, 0, 0, 0, 0, 0⟩ := by rw [hw1]; exact ⟨kz.blk⟩
  replace hB0 : Below w.heap.size w w1 := by rw [hw1]; exact below2 hB0 ⟨rfl, rfl, rfl, Nat.le_refl _, fun _ _ => rfl⟩
  clear hw1 g2
  go_wp2_with fail
  refine hK.out _ _ (by first | exact ka | exact ⟨ka.blk⟩) (fun hHeld => ?_)
  clear hK K
  (try simp only [Act.put, List.setIfInBounds_toArray, List.set_cons_zero, List.set_cons_succ])
  refine wpAnyH_take (i := 7) (oi := { dst := some 15, op := Op.binOp BinOp.add 3 (Operand.tmp 10) (Operand.tmp 14) 3, type := 3, pos := _, after := #[{ on := 2, ground := Ground.data }, { on := 6, ground := Ground.data }], guard := none }) (v := ?_) rfl (by kernel_rfl) (by kernel_rfl) (by kernel_rfl) (fun _ _ _ h => h) (Or.inl ⟨by rfl, ?hy⟩) hHeld ?_
  case hy => intro w0 hSw; go_simp; rw [Iw.out]; (try with_reducible rfl)
  (try simp only [Act.put, List.setIfInBounds_toArray, List.set_cons_zero, List.set_cons_succ])
  refine wpAnyH_ready (rs := [8]) (by kernel_rfl) (by simp) ?_
  refine AllReadyH.cons (o := { dst := some 16, op := Op.call { callee := Callee.value (Operand.func 72), args := #[Operand.tmp 8, Operand.const (Value.int IntKind.i64 6), Operand.tmp 9, Operand.tmp 15], argTypes := #[82, 3, 3, 3] }, type := 65, pos := _, after := #[{ on := 0, ground := Ground.data }, { on := 1, ground := Ground.data }, { on := 7, ground := Ground.data }, { on := 6, ground := Ground.chain }], guard := none }) rfl (fun K hK => ?_) AllReadyH.nil
  go_simp
  refine (g1 _).mono ?_
  rintro e w2 ⟨rfl, hB'⟩
  replace ka := ka.below hB'
  replace kz := kz.below hB'
  replace hB0 := below2 hB0 hB'
  clear hB' g1
  go_wp2_with fail
  refine hK.out _ _ (by first | exact ka | exact ⟨ka.blk⟩) (fun hHeld => ?_)
  clear hK K
  (try simp only [Act.put, List.setIfInBounds_toArray, List.set_cons_zero, List.set_cons_succ])
  refine wpAnyH_take (i := 9) (oi := { dst := some 17, op := Op.extract (Operand.tmp 16) 0, type := 38, pos := _, after := #[{ on := 8, ground := Ground.data }], guard := none }) (v := ?_) rfl (by kernel_rfl) (by kernel_rfl) (by kernel_rfl) (fun _ _ _ h => h) (Or.inl ⟨by rfl, ?hy⟩) hHeld ?_
  case hy => intro w0 hSw; (try dsimp only at hSw); go_simp; (try with_reducible rfl)
  (try simp only [Act.put, List.setIfInBounds_toArray, List.set_cons_zero, List.set_cons_succ])
  refine wpAnyH_take (i := 10) (oi := { dst := some 18, op := Op.extract (Operand.tmp 16) 1, type := 31, pos := _, after := #[{ on := 8, ground := Ground.data }], guard := none }) (v := ?_) rfl (by kernel_rfl) (by kernel_rfl) (by kernel_rfl) (fun _ _ _ h => h) (Or.inl ⟨by rfl, ?hy⟩) hHeld ?_
  case hy => intro w0 hSw; (try dsimp only at hSw); go_simp; (try with_reducible rfl)
  (try simp only [Act.put, List.setIfInBounds_toArray, List.set_cons_zero, List.set_cons_succ])
  refine wpAnyH_ready (rs := [11]) (by kernel_rfl) (by simp) ?_
  refine AllReadyH.cons (o := { dst := none, op := Op.store 38 (Operand.tmp 6) (Operand.tmp 17), type := 0, pos := _, after := #[{ on := 9, ground := Ground.data }, { on := 8, ground := Ground.chain }, { on := 0, ground := Ground.phase }, { on := 1, ground := Ground.phase }, { on := 2, ground := Ground.phase }, { on := 3, ground := Ground.phase }, { on := 4, ground := Ground.phase }, { on := 5, ground := Ground.phase }, { on := 6, ground := Ground.phase }, { on := 7, ground := Ground.phase }, { on := 8, ground := Ground.phase }, { on := 9, ground := Ground.phase }, { on := 10, ground := Ground.phase }], guard := none }) rfl (fun K hK => ?_) AllReadyH.nil
  rw [if_pos (by rfl)]
  refine wp_store_six 38 _ _ rfl (w.heap.size + 1) _ X rfl rfl kz (by rfl) ?_
  intro w3 hw3
  replace ka := ka.put6O (by omega) hw3
  replace kz := kz.put6 hw3
  replace hB0 := below_put6 hB0 (by omega) hw3
  clear hw3
  refine hK.out _ _ (by first | exact ka | exact ⟨ka.blk⟩) (fun hHeld => ?_)
  clear hK K
  (try simp only [Act.put])
  refine wpAnyH_take (i := 12) (oi := { dst := some 7, op := Op.assign (Operand.tmp 18), type := 31, pos := _, after := #[{ on := 10, ground := Ground.data }, { on := 11, ground := Ground.chain }, { on := 0, ground := Ground.phase }, { on := 1, ground := Ground.phase }, { on := 2, ground := Ground.phase }, { on := 3, ground := Ground.phase }, { on := 4, ground := Ground.phase }, { on := 5, ground := Ground.phase }, { on := 6, ground := Ground.phase }, { on := 7, ground := Ground.phase }, { on := 8, ground := Ground.phase }, { on := 9, ground := Ground.phase }, { on := 10, ground := Ground.phase }, { on := 11, ground := Ground.phase }], guard := none }) (v := ?_) rfl (by kernel_rfl) (by kernel_rfl) (by kernel_rfl) (fun _ _ _ h => h) (Or.inl ⟨by rfl, ?hy⟩) hHeld ?_
  case hy => intro w0 hSw; (try dsimp only at hSw); go_simp; (try with_reducible rfl)
  (try simp only [Act.put, List.setIfInBounds_toArray, List.set_cons_zero, List.set_cons_succ])
  refine wpAnyH_done (by kernel_rfl) ?_ _
  clear hHeld
  have K3 := Lib.hid kz
  have HB := Lib.hid hB0
  clear ka kz hB0
  go_wp2
  (try simp only [Exit.inBlock, Exit.then]); refine bodyPost_ret (ret_alarm (a := X) rfl rfl K3.out) rfl ?_
  exact ⟨rfl, HB.out⟩
end Go.Proofs.YtplpadblhjdpcaaGreat

namespace Go.Proofs.YtplpadblhjdpcaaGreat
set_option maxRecDepth 10000
open Go.RowKit

/-- Three steps of time. -/
def Am.run (a : Alm) (t : Int) : Alm := Am.step (Am.step (Am.step a t) t) t
theorem Am.still_of {a : Alm} {t : Int} (h : Am.step a t = a) : Am.run a t = a := by unfold Am.run; rw [h, h, h]
theorem Am.run_four {b c r s u t : Int} (hu : u ≤ t) : Am.run ⟨b, c, 4, r, s, u⟩ t = Am.run ⟨b, c, 1, r, s, u + Am.wait r⟩ t := by
  have e1 : Am.step ⟨b, c, 4, r, s, u⟩ t = ⟨b, c, 1, r, s, u + Am.wait r⟩ := Am.step_four rfl hu
  unfold Am.run
  rw [e1]
  by_cases hv : u + Am.wait r ≤ t
  · have e2 : Am.step ⟨b, c, 1, r, s, u + Am.wait r⟩ t = ⟨b, c, 2, r, s, u + Am.wait r⟩ := Am.step_one rfl hv
    have e3 : Am.step ⟨b, c, 2, r, s, u + Am.wait r⟩ t = ⟨b, c, 2, r, s, u + Am.wait r⟩ := Am.step_still (by simp)
    rw [e2, e3, e3]
  · have e2 : Am.step ⟨b, c, 1, r, s, u + Am.wait r⟩ t = ⟨b, c, 1, r, s, u + Am.wait r⟩ := Am.step_still (by simp; omega)
    rw [e2, e2, e2]
theorem Am.run_one {b c r s u t : Int} (hu : u ≤ t) : Am.run ⟨b, c, 1, r, s, u⟩ t = Am.run ⟨b, c, 2, r, s, u⟩ t := by
  have e1 : Am.step ⟨b, c, 1, r, s, u⟩ t = ⟨b, c, 2, r, s, u⟩ := Am.step_one rfl hu
  have e2 : Am.step ⟨b, c, 2, r, s, u⟩ t = ⟨b, c, 2, r, s, u⟩ := Am.step_still (by simp)
  unfold Am.run
  rw [e1, e2, e2, e2]
theorem Am.run_late {b c p r s u t : Int} (hu : ¬ u ≤ t) : Am.run ⟨b, c, p, r, s, u⟩ t = ⟨b, c, p, r, s, u⟩ := Am.still_of (Am.step_still (fun h => hu h.2))
theorem Am.run_else {b c p r s u t : Int} (h4 : p ≠ 4) (h1 : p ≠ 1) : Am.run ⟨b, c, p, r, s, u⟩ t = ⟨b, c, p, r, s, u⟩ := Am.still_of (Am.step_still (fun h => by rcases h.1 with h | h; exact h4 h; exact h1 h))
theorem Am.in_two (b c r s u : Int) : Am.inA ⟨b, c, 1, r, s, u⟩ 2 u u = ⟨b, c, 2, r, s, u⟩ := by
  unfold Am.inA; simp only; rw [if_pos (by decide), if_neg (by omega), Am.nx_two]
theorem Am.in_six (b c r s u v : Int) : Am.inA ⟨b, c, 4, r, s, u⟩ 6 u v = ⟨b, c, 1, r, s, v⟩ := by
  unfold Am.inA; simp only; rw [if_pos (by decide), if_neg (by omega), Am.nx_six]

/-- How many rounds are left. -/
def roundsOf : Option Value → Nat
  | some (.int .i64 n) => if n = 4 then 2 else if n = 1 then 1 else 0
  | _ => 0
theorem rounds_four : roundsOf (some (.int .i64 4)) = 2 := rfl
theorem rounds_one : roundsOf (some (.int .i64 1)) = 1 := rfl
theorem rounds_two : roundsOf (some (.int .i64 2)) = 0 := rfl

/-- What holds ahead of each round of Pass. -/
def PassR (w : World) (a0 : Alm) (t : Int) (wr : World) : Prop :=
  ∃ a : Alm, Six wr w.heap.size a ∧ Six wr (w.heap.size + 1) ⟨0, 0, 0, 0, 0, 0⟩ ∧ Below w.heap.size w wr ∧ Am.run a t = Am.run a0 t ∧ (a.ph = 4 → 0 ≤ a.un ∧ a.un ≤ 1000002000)

set_option maxRecDepth 10000 in
set_option maxHeartbeats 4000000 in
theorem pass_w (b c ph pr si un t : Int) (w : World) (hr : Am.right ⟨b, c, ph, pr, si, un⟩ = false) :
    Calls Tryz.prog 28 #[.agg #[.int .i64 b, .int .i64 c, .int .i64 ph, .int .i64 pr, .int .i64 si, .int .i64 un], .int .i64 t] w fun e w' => e = .returned (.agg (sixV ⟨b, c, ph, pr, si, un⟩)) ∧ Below w.heap.size w w' := by
  have g1 := fun W => AIs_any b c ph pr si un W
  rw [hr] at g1
  clear hr
  go_enter Tryz.func28, Tryz.ntmps28
  go_wp2_with fail
  refine (g1 _).mono ?_
  rintro e w1 ⟨rfl, hB⟩
  have Ka := Lib.hid (((Six.new w b c ph pr si un 38).alloc (.cells #[.int .i64 0, .int .i64 0, .int .i64 0, .int .i64 0, .int .i64 0, .int .i64 0] 38)).below hB)
  have Kz := Lib.hid ((Six.new1 w (.cells #[.int .i64 b, .int .i64 c, .int .i64 ph, .int .i64 pr, .int .i64 si, .int .i64 un] 38) 0 0 0 0 0 0 38).below hB)
  have HB := Lib.hid (below2 (below_new2 w _ _) hB)
  clear g1 hB
  go_wp2_with (first
    | (refine wpList_load_six rfl 38 _ rfl w.heap.size _ rfl Ka.out _ Tryz.underlying38 rfl (by rfl) ?_)
    | (refine wpList_store_six rfl 38 _ _ rfl (w.heap.size + 1) _ ⟨b, c, ph, pr, si, un⟩ rfl rfl Kz.out (by rfl) ?_; intro w6 hw6; have K6 := Lib.hid (Kz.out.put6 hw6); have HB6 := Lib.hid (below_put6 HB.out (by omega) hw6); clear hw6))
  (try simp only [Exit.inBlock, Exit.then]); refine bodyPost_ret (ret_alarm1 (a := ⟨b, c, ph, pr, si, un⟩) rfl rfl K6.out) rfl ?_
  exact ⟨rfl, HB6.out⟩

set_option maxRecDepth 10000 in
set_option maxHeartbeats 4000000 in
theorem pass_r (b c ph pr si un t : Int) (w : World) (hr : Am.right ⟨b, c, ph, pr, si, un⟩ = true) :
    Calls Tryz.prog 28 #[.agg #[.int .i64 b, .int .i64 c, .int .i64 ph, .int .i64 pr, .int .i64 si, .int .i64 un], .int .i64 t] w fun e w' => e = .returned (.agg (sixV (Am.run ⟨b, c, ph, pr, si, un⟩ t))) ∧ Below w.heap.size w w' := by
  have g1 := fun W => AIs_any b c ph pr si un W
  have hr' := Am.right_iff.1 hr
  simp only at hr'
  have Hu : Hid (0 ≤ un ∧ un ≤ 1000002000) := Lib.hid (by omega)
  rw [hr] at g1
  clear hr hr'
  obtain ⟨z, hz⟩ : ∃ z, z = Am.run ⟨b, c, ph, pr, si, un⟩ t := ⟨_, rfl⟩
  have Hz := Lib.hid hz
  rw [← hz]
  clear hz
  go_enter Tryz.func28, Tryz.ntmps28
  go_wp2_with fail
  refine (g1 _).mono ?_
  rintro e w1 ⟨rfl, hB⟩
  have Ka := Lib.hid (((Six.new w b c ph pr si un 38).alloc (.cells #[.int .i64 0, .int .i64 0, .int .i64 0, .int .i64 0, .int .i64 0, .int .i64 0] 38)).below hB)
  have Kz := Lib.hid ((Six.new1 w (.cells #[.int .i64 b, .int .i64 c, .int .i64 ph, .int .i64 pr, .int .i64 si, .int .i64 un] 38) 0 0 0 0 0 0 38).below hB)
  have HB := Lib.hid (below2 (below_new2 w _ _) hB)
  clear g1 hB
  have HR : Hid (PassR w ⟨b, c, ph, pr, si, un⟩ t w1) := Lib.hid ⟨_, Ka.out, Kz.out, HB.out, rfl, fun _ => Hu.out⟩
  clear Ka Kz HB Hu
  go_wp2_with fail
  go_loopw [5] (fun _ wr => PassR w ⟨b, c, ph, pr, si, un⟩ t wr) (fun _ wr => roundsOf (wr.cell? ⟨w.heap.size, 2, none⟩))
  case atStart => exact HR.out
  case round =>
    clear HR
    obtain ⟨⟨b', c', p', r', s', u'⟩, k1, k2, hB, hrun, h4⟩ := hrel
    rw [← Hz.out] at hrun
    have Hrun := Lib.hid hrun
    have K1 := Lib.hid k1
    have K2 := Lib.hid k2
    have HB := Lib.hid hB
    have Hle : Hid (w.heap.size + 1 < wr.heap.size) := Lib.hid k2.lt
    simp only at h4
    by_cases hu : u' ≤ t
    · have Hu := Lib.hid hu
      by_cases p1 : p' = 1
      · skip
        subst p1
        have g5 := fun W => escalate_any b' c' 1 r' s' u' u' 0 W
        rw [Am.in_two] at g5
        obtain ⟨Y, hY⟩ : ∃ Y, Y = Am.inE ⟨b', c', 1, r', s', u'⟩ 2 u' := ⟨_, rfl⟩
        rw [← hY] at g5
        clear hY
        have Hc2 := Lib.hid k1.c2
        have c0 := k1.c0
        have c1 := k1.c1
        have c2 := k1.c2
        have c3 := k1.c3
        have c4 := k1.c4
        have c5 := k1.c5
        simp only at c0 c1 c2 c3 c4 c5
        clear k1 k2 hB hrun h4
        go_wp2_with (first
          | (refine wpList_load_six rfl 82 _ rfl wr.heap.size _ rfl HQ.out _ Tryz.underlying82 rfl (by rfl) ?_)
          | (refine wpList_store_six rfl 84 _ _ rfl wr.heap.size _ ⟨b', c', 1, r', s', u'⟩ rfl rfl (Six.new wr 0 0 0 0 0 0 _) (by rfl) ?_
             intro w2 hw2
             have Q2 := (Six.new wr 0 0 0 0 0 0 84).put6 hw2
             have A2 := Lib.hid ((K1.out.alloc (.cells #[.int .i64 0, .int .i64 0, .int .i64 0, .int .i64 0, .int .i64 0, .int .i64 0] 84)).put6O (by have := Hle.out; omega) hw2)
             have Z2 := Lib.hid ((K2.out.alloc (.cells #[.int .i64 0, .int .i64 0, .int .i64 0, .int .i64 0, .int .i64 0, .int .i64 0] 84)).put6O (by have := Hle.out; omega) hw2)
             have HB2 := Lib.hid (below_put6 (HB.out.alloc (by have := Hle.out; omega) _) (by have := Hle.out; omega) hw2)
             have d2 := Q2.c2
             have d5 := Q2.c5
             have HQ := Lib.hid Q2
             clear hw2 Q2 c0 c1 c2 c3 c4 c5))
        refine (g5 _).mono ?_
        rintro e w3 ⟨rfl, hB3⟩
        have A3 := Lib.hid (A2.out.below hB3)
        have Z3 := Lib.hid (Z2.out.below hB3)
        have HB3 := Lib.hid (below2 HB2.out hB3)
        clear g5 hB3 A2 Z2 HB2 HQ d2 d5
        go_wp2_with (refine wpList_store_six rfl 38 _ _ rfl w.heap.size _ ⟨b', c', 2, r', s', u'⟩ rfl rfl A3.out (by rfl) ?_; intro w4 hw4; have A4 := Lib.hid (A3.out.put6 hw4); have Z4 := Lib.hid (Z3.out.put6O (by omega) hw4); have HB4 := Lib.hid (below_put6 HB3.out (Nat.le_refl _) hw4); clear hw4)
        refine ⟨?_, ?measure⟩
        · (repeat apply Exists.intro)
          refine ⟨?_, rfl⟩
          exact ⟨_, A4.out, Z4.out, HB4.out, by rw [← Hz.out, ← Hrun.out]; exact (Am.run_one Hu.out).symm, fun h => absurd h (by simp)⟩
        case measure => rw [A4.out.c2, Hc2.out]; show roundsOf (some (.int .i64 _)) < roundsOf (some (.int .i64 _)); first | (rw [rounds_two, rounds_one]; decide) | (rw [rounds_one, rounds_four]; decide)
      · by_cases p4 : p' = 4
        · skip
          subst p4
          have hw := Am.wait_bounds r'
          have hb := h4 rfl
          have g5 := fun W => wake_any b' c' 4 r' s' u' u' 0 W (Lib.hid (by rw [IntKind.wrap_i64]; omega))
          clear hw hb
          rw [Am.in_six] at g5
          obtain ⟨Y, hY⟩ : ∃ Y, Y = Am.inE ⟨b', c', 4, r', s', u'⟩ 6 u' := ⟨_, rfl⟩
          rw [← hY] at g5
          clear hY
          have Hc2 := Lib.hid k1.c2
          have c0 := k1.c0
          have c1 := k1.c1
          have c2 := k1.c2
          have c3 := k1.c3
          have c4 := k1.c4
          have c5 := k1.c5
          simp only at c0 c1 c2 c3 c4 c5
          clear k1 k2 hB hrun h4
          go_wp2_with (first
            | (refine wpList_load_six rfl 82 _ rfl wr.heap.size _ rfl HQ.out _ Tryz.underlying82 rfl (by rfl) ?_)
            | (refine wpList_store_six rfl 84 _ _ rfl wr.heap.size _ ⟨b', c', 4, r', s', u'⟩ rfl rfl (Six.new wr 0 0 0 0 0 0 _) (by rfl) ?_
               intro w2 hw2
               have Q2 := (Six.new wr 0 0 0 0 0 0 84).put6 hw2
               have A2 := Lib.hid ((K1.out.alloc (.cells #[.int .i64 0, .int .i64 0, .int .i64 0, .int .i64 0, .int .i64 0, .int .i64 0] 84)).put6O (by have := Hle.out; omega) hw2)
               have Z2 := Lib.hid ((K2.out.alloc (.cells #[.int .i64 0, .int .i64 0, .int .i64 0, .int .i64 0, .int .i64 0, .int .i64 0] 84)).put6O (by have := Hle.out; omega) hw2)
               have HB2 := Lib.hid (below_put6 (HB.out.alloc (by have := Hle.out; omega) _) (by have := Hle.out; omega) hw2)
               have d2 := Q2.c2
               have d5 := Q2.c5
               have HQ := Lib.hid Q2
               clear hw2 Q2 c0 c1 c2 c3 c4 c5))
          refine (g5 _).mono ?_
          rintro e w3 ⟨rfl, hB3⟩
          have A3 := Lib.hid (A2.out.below hB3)
          have Z3 := Lib.hid (Z2.out.below hB3)
          have HB3 := Lib.hid (below2 HB2.out hB3)
          clear g5 hB3 A2 Z2 HB2 HQ d2 d5
          go_wp2_with (refine wpList_store_six rfl 38 _ _ rfl w.heap.size _ ⟨b', c', 1, r', s', u' + Am.wait r'⟩ rfl rfl A3.out (by rfl) ?_; intro w4 hw4; have A4 := Lib.hid (A3.out.put6 hw4); have Z4 := Lib.hid (Z3.out.put6O (by omega) hw4); have HB4 := Lib.hid (below_put6 HB3.out (Nat.le_refl _) hw4); clear hw4)
          refine ⟨?_, ?measure⟩
          · (repeat apply Exists.intro)
            refine ⟨?_, rfl⟩
            exact ⟨_, A4.out, Z4.out, HB4.out, by rw [← Hz.out, ← Hrun.out]; exact (Am.run_four Hu.out).symm, fun h => absurd h (by simp)⟩
          case measure => rw [A4.out.c2, Hc2.out]; show roundsOf (some (.int .i64 _)) < roundsOf (some (.int .i64 _)); first | (rw [rounds_two, rounds_one]; decide) | (rw [rounds_one, rounds_four]; decide)
        · have e4 : (p' == 4) = false := by rw [beq_eq_false_iff_ne]; exact p4
          have e1 : (p' == 1) = false := by rw [beq_eq_false_iff_ne]; exact p1
          have He : Hid (z = ⟨b', c', p', r', s', u'⟩) := Lib.hid (by rw [← Hrun.out]; exact Am.run_else p4 p1)
          have c0 := k1.c0
          have c1 := k1.c1
          have c2 := k1.c2
          have c3 := k1.c3
          have c4 := k1.c4
          have c5 := k1.c5
          simp only at c0 c1 c2 c3 c4 c5
          clear k1 k2 hB hrun h4 p1 p4
          go_wp2_with (first
            | (refine wpList_load_six rfl 38 _ rfl w.heap.size _ rfl A2.out _ Tryz.underlying38 rfl (by rfl) ?_)
            | (refine wpList_store_six rfl 38 _ _ rfl (w.heap.size + 1) _ ⟨b', c', p', r', s', u'⟩ rfl rfl Z2.out (by rfl) ?_; intro w6 hw6; have K6 := Lib.hid (Z2.out.put6 hw6); have HB6 := Lib.hid (below_put6 HB2.out (by omega) hw6); clear hw6)
            | (refine wpList_store_six rfl 84 _ _ rfl wr.heap.size _ ⟨b', c', p', r', s', u'⟩ rfl rfl (Six.new wr 0 0 0 0 0 0 _) (by rfl) ?_
               intro w2 hw2
               have Q2 := (Six.new wr 0 0 0 0 0 0 84).put6 hw2
               have A2 := Lib.hid ((K1.out.alloc (.cells #[.int .i64 0, .int .i64 0, .int .i64 0, .int .i64 0, .int .i64 0, .int .i64 0] 84)).put6O (by have := Hle.out; omega) hw2)
               have Z2 := Lib.hid ((K2.out.alloc (.cells #[.int .i64 0, .int .i64 0, .int .i64 0, .int .i64 0, .int .i64 0, .int .i64 0] 84)).put6O (by have := Hle.out; omega) hw2)
               have HB2 := Lib.hid (below_put6 (HB.out.alloc (by have := Hle.out; omega) _) (by have := Hle.out; omega) hw2)
               have d2 := Q2.c2
               have d5 := Q2.c5
               have HQ := Lib.hid Q2
               clear hw2 Q2 c0 c1 c2 c3 c4 c5))
          (try simp only [Exit.inBlock, Exit.then]); refine bodyPost_ret (ret_alarm1 (a := ⟨b', c', p', r', s', u'⟩) rfl rfl K6.out) rfl ?_
          exact ⟨by rw [He.out], HB6.out⟩
    · have He : Hid (z = ⟨b', c', p', r', s', u'⟩) := Lib.hid (by rw [← Hrun.out]; exact Am.run_late hu)
      have hu' : decide (u' ≤ t) = false := decide_eq_false hu
      have c5 := k1.c5
      simp only at c5
      clear k1 k2 hB hrun h4 hu
      go_wp2_with (first
        | (refine wpList_load_six rfl 38 _ rfl w.heap.size _ rfl K1.out _ Tryz.underlying38 rfl (by rfl) ?_)
        | (refine wpList_store_six rfl 38 _ _ rfl (w.heap.size + 1) _ ⟨b', c', p', r', s', u'⟩ rfl rfl K2.out (by rfl) ?_; intro w6 hw6; have K6 := Lib.hid (K2.out.put6 hw6); have HB6 := Lib.hid (below_put6 HB.out (by omega) hw6); clear hw6))
      (try simp only [Exit.inBlock, Exit.then]); refine bodyPost_ret (ret_alarm1 (a := ⟨b', c', p', r', s', u'⟩) rfl rfl K6.out) rfl ?_
      exact ⟨by rw [He.out], HB6.out⟩

theorem APass_any (b c ph pr si un t : Int) (w : World) :
    Calls Tryz.prog 28 #[.agg #[.int .i64 b, .int .i64 c, .int .i64 ph, .int .i64 pr, .int .i64 si, .int .i64 un], .int .i64 t] w fun e w' => e = .returned (.agg (sixV (Am.pass ⟨b, c, ph, pr, si, un⟩ t))) ∧ Below w.heap.size w w' := by
  cases hr : Am.right ⟨b, c, ph, pr, si, un⟩
  · rw [Am.pass_wrong t hr]
    exact pass_w b c ph pr si un t w hr
  · have e : Am.pass ⟨b, c, ph, pr, si, un⟩ t = Am.run ⟨b, c, ph, pr, si, un⟩ t := by unfold Am.pass Am.run; rw [if_pos hr]
    rw [e]
    exact pass_r b c ph pr si un t w hr
end Go.Proofs.YtplpadblhjdpcaaGreat

namespace Go.Proofs.YtplpadblhjdpcaaGreat
set_option maxRecDepth 10000
open Go.RowKit

set_option maxHeartbeats 400000 in
theorem isAhead_any (b c b' c' : Int) (w : World) :
    Calls Tryz.prog 74 #[.agg #[.int .i64 b, .int .i64 c], .agg #[.int .i64 b', .int .i64 c']] w fun e w' => e = .returned (.bool (Sp.less b c b' c')) ∧ Below w.heap.size w w' := by
  rcases Int.lt_trichotomy b b' with h | h | h
  · have h1 : decide (b < b') = true := decide_eq_true h
    have e0 : Sp.less b c b' c' = true := by unfold Sp.less; rw [h1]; rfl
    rw [e0]; clear e0 h
    go_enter Tryz.func74, Tryz.ntmps74
    go_wp2
    go_ret
    exact ⟨rfl, below_new2 _ _ _⟩
  · subst h
    have h1 : decide (b < b) = false := decide_eq_false (by omega)
    have e0 : Sp.less b c b c' = decide (c < c') := by unfold Sp.less; rw [h1]; simp
    rw [e0]; clear e0
    go_enter Tryz.func74, Tryz.ntmps74
    go_wp2
    go_ret
    exact ⟨rfl, below_new2 _ _ _⟩
  · have h1 : decide (b < b') = false := decide_eq_false (by omega)
    have h2 : (b == b') = false := by rw [beq_eq_false_iff_ne]; omega
    have e0 : Sp.less b c b' c' = false := by unfold Sp.less; rw [h1, h2]; rfl
    rw [e0]; clear e0 h
    go_enter Tryz.func74, Tryz.ntmps74
    go_wp2
    go_ret
    exact ⟨rfl, below_new2 _ _ _⟩

theorem Less_any (b c b' c' : Int) (w : World) :
    Calls Tryz.prog 52 #[.agg #[.int .i64 b, .int .i64 c], .agg #[.int .i64 b', .int .i64 c']] w fun e w' => e = .returned (.bool (Sp.less b c b' c')) ∧ Below w.heap.size w w' := by
  go_enter Tryz.func52, Tryz.ntmps52
  go_wp2_with fail
  refine (isAhead_any b c b' c' _).mono ?_
  rintro e w1 ⟨rfl, hB⟩
  go_wp2
  go_ret
  exact ⟨rfl, below2 (below_new2 _ _ _) hB⟩

end Go.Proofs.YtplpadblhjdpcaaGreat
