/-
  Layer 6 (alarm): the walks of Wait, isPrio, isTime, isLong, Is.
-/
import Derived.Test.YthlojadkgpmnmaaAlarmTwo
import Derived.Test.YthlojadkgpmnmaaSpotIs
import Derived.Lib.Hide
namespace Go.Proofs.Ythlojadkgpmnmaa
open Go.RowKit

theorem AWait_any0 (p : Int) (w : World) :
    Calls Try.prog 59 #[.int .i64 p] w fun e w' => e = .returned (.int .i64 (Am.wait p)) ∧ w' = w := by
  by_cases h1 : p = 1
  · subst h1
    go_enter Try.func59, Try.ntmps59
    go_wp2
    go_ret
    exact ⟨rfl, rfl⟩
  · by_cases h2 : p = 2
    · subst h2
      go_enter Try.func59, Try.ntmps59
      go_wp2
      go_ret
      exact ⟨rfl, rfl⟩
    · by_cases h3 : p = 3
      · subst h3
        go_enter Try.func59, Try.ntmps59
        go_wp2
        go_ret
        exact ⟨rfl, rfl⟩
      · have e0 : Am.wait p = 0 := by unfold Am.wait; rw [if_neg h1, if_neg h2, if_neg h3]
        rw [e0]
        have d1 : (p == 1) = false := by rw [beq_eq_false_iff_ne]; exact h1
        have d2 : (p == 2) = false := by rw [beq_eq_false_iff_ne]; exact h2
        have d3 : (p == 3) = false := by rw [beq_eq_false_iff_ne]; exact h3
        clear e0 h1 h2 h3
        go_enter Try.func59, Try.ntmps59
        go_wp2
        go_ret
        exact ⟨rfl, rfl⟩

theorem isTime_any (n : Int) (w : World) :
    Calls Try.prog 58 #[.int .i64 n] w fun e w' => e = .returned (.bool (Am.isT n)) ∧ w' = w := by
  go_enter Try.func58, Try.ntmps58
  go_wp2
  all_goals go_ret
  all_goals (refine ⟨?_, rfl⟩; congr 2; unfold Am.isT; simp [*] <;> omega)

/-- Is a length one? -/
def Am.isL (n : Int) : Bool := decide (1 ≤ n) && decide (n ≤ 1000)
def Am.isP (p : Int) : Bool := decide (0 < Am.wait p)
theorem isPrio_any (p : Int) (w : World) :
    Calls Try.prog 57 #[.int .i64 p] w fun e w' => e = .returned (.bool (Am.isP p)) ∧ w' = w := by
  have h := fun W => AWait_any0 p W
  unfold Am.isP
  obtain ⟨x, hx⟩ : ∃ x, x = Am.wait p := ⟨_, rfl⟩
  rw [← hx] at h ⊢
  clear hx
  go_enter Try.func57, Try.ntmps57
  go_wp2_with fail
  refine (h _).mono ?_
  rintro e w1 ⟨rfl, rfl⟩
  go_wp2
  go_ret
  exact ⟨rfl, rfl⟩


theorem Am.isP_eq (p : Int) : Am.isP p = (decide (1 ≤ p) && decide (p ≤ 3)) := by
  have h := Am.wait_zero (p := p)
  have h2 := Am.wait_bounds p
  unfold Am.isP
  rw [Bool.eq_iff_iff]
  simp only [decide_eq_true_eq, Bool.and_eq_true]
  omega
theorem Am.right_eq (b c ph pr si un : Int) : Am.right ⟨b, c, ph, pr, si, un⟩ = (Sp.may b c && decide (1 ≤ ph) && decide (ph ≤ 4) && Am.isP pr && Am.isT si && decide (si ≤ un) && Am.late un) := by
  rw [Am.isP_eq]
  unfold Am.right
  simp only [Bool.and_assoc]

set_option linter.unusedSimpArgs false in
set_option maxHeartbeats 2000000 in
theorem AIs_any (b c ph pr si un : Int) (w : World) :
    Calls Try.prog 46 #[.agg #[.int .i64 b, .int .i64 c, .int .i64 ph, .int .i64 pr, .int .i64 si, .int .i64 un]] w fun e w' => e = .returned (.bool (Am.right ⟨b, c, ph, pr, si, un⟩)) ∧ Below w.heap.size w w' := by
  have h1 := fun W => Is_any b c W
  have h2 := fun W => isPrio_any pr W
  have h3 := fun W => isTime_any si W
  rw [Am.right_eq]
  obtain ⟨m, hm⟩ : ∃ m, m = Sp.may b c := ⟨_, rfl⟩
  obtain ⟨p, hp⟩ : ∃ p, p = Am.isP pr := ⟨_, rfl⟩
  obtain ⟨t, ht⟩ : ∃ t, t = Am.isT si := ⟨_, rfl⟩
  rw [← hm] at h1 ⊢
  rw [← hp] at h2 ⊢
  rw [← ht] at h3 ⊢
  clear hm hp ht
  obtain ⟨x1, e1⟩ : ∃ x, decide (1 ≤ ph) = x := ⟨_, rfl⟩
  obtain ⟨x2, e2⟩ : ∃ x, decide (ph ≤ 4) = x := ⟨_, rfl⟩
  obtain ⟨x5, e5⟩ : ∃ x, decide (si ≤ un) = x := ⟨_, rfl⟩
  rw [e1, e2, e5]
  cases m
  · simp only [Bool.true_and, Bool.false_and]
    go_enter Try.func46, Try.ntmps46
    go_wp2_with fail
    refine (h1 _).mono ?_
    rintro e w1 ⟨rfl, hB⟩
    have kk := (Six.new w b c ph pr si un 28).below hB
    have k2 := kk.c2
    have k3 := kk.c3
    have k4 := kk.c4
    have k5 := kk.c5
    have HB := Lib.hid (below2 (below_new _ _) hB)
    clear kk h1 hB
    go_wp2
    go_ret
    exact ⟨rfl, HB.out⟩
  · skip
    cases x1
    · simp only [Bool.true_and, Bool.false_and]
      go_enter Try.func46, Try.ntmps46
      go_wp2_with fail
      refine (h1 _).mono ?_
      rintro e w1 ⟨rfl, hB⟩
      have kk := (Six.new w b c ph pr si un 28).below hB
      have k2 := kk.c2
      have k3 := kk.c3
      have k4 := kk.c4
      have k5 := kk.c5
      have HB := Lib.hid (below2 (below_new _ _) hB)
      clear kk h1 hB
      go_wp2
      go_ret
      exact ⟨rfl, HB.out⟩
    · skip
      cases x2
      · simp only [Bool.true_and, Bool.false_and]
        go_enter Try.func46, Try.ntmps46
        go_wp2_with fail
        refine (h1 _).mono ?_
        rintro e w1 ⟨rfl, hB⟩
        have kk := (Six.new w b c ph pr si un 28).below hB
        have k2 := kk.c2
        have k3 := kk.c3
        have k4 := kk.c4
        have k5 := kk.c5
        have HB := Lib.hid (below2 (below_new _ _) hB)
        clear kk h1 hB
        go_wp2
        go_ret
        exact ⟨rfl, HB.out⟩
      · skip
        cases p
        · simp only [Bool.true_and, Bool.false_and]
          go_enter Try.func46, Try.ntmps46
          go_wp2_with fail
          refine (h1 _).mono ?_
          rintro e w1 ⟨rfl, hB⟩
          have kk := (Six.new w b c ph pr si un 28).below hB
          have k2 := kk.c2
          have k3 := kk.c3
          have k4 := kk.c4
          have k5 := kk.c5
          have HB := Lib.hid (below2 (below_new _ _) hB)
          clear kk h1 hB
          go_wp2_with fail
          refine (h2 _).mono ?_
          rintro e w2 ⟨rfl, rfl⟩
          clear h2
          go_wp2
          go_ret
          exact ⟨rfl, HB.out⟩
        · skip
          cases t
          · simp only [Bool.true_and, Bool.false_and]
            go_enter Try.func46, Try.ntmps46
            go_wp2_with fail
            refine (h1 _).mono ?_
            rintro e w1 ⟨rfl, hB⟩
            have kk := (Six.new w b c ph pr si un 28).below hB
            have k2 := kk.c2
            have k3 := kk.c3
            have k4 := kk.c4
            have k5 := kk.c5
            have HB := Lib.hid (below2 (below_new _ _) hB)
            clear kk h1 hB
            go_wp2_with fail
            refine (h2 _).mono ?_
            rintro e w2 ⟨rfl, rfl⟩
            clear h2
            go_wp2_with fail
            refine (h3 _).mono ?_
            rintro e w3 ⟨rfl, rfl⟩
            clear h3
            go_wp2
            go_ret
            exact ⟨rfl, HB.out⟩
          · skip
            cases x5
            · simp only [Bool.true_and, Bool.false_and]
              go_enter Try.func46, Try.ntmps46
              go_wp2_with fail
              refine (h1 _).mono ?_
              rintro e w1 ⟨rfl, hB⟩
              have kk := (Six.new w b c ph pr si un 28).below hB
              have k2 := kk.c2
              have k3 := kk.c3
              have k4 := kk.c4
              have k5 := kk.c5
              have HB := Lib.hid (below2 (below_new _ _) hB)
              clear kk h1 hB
              go_wp2_with fail
              refine (h2 _).mono ?_
              rintro e w2 ⟨rfl, rfl⟩
              clear h2
              go_wp2_with fail
              refine (h3 _).mono ?_
              rintro e w3 ⟨rfl, rfl⟩
              clear h3
              go_wp2
              go_ret
              exact ⟨rfl, HB.out⟩
            · simp only [Bool.true_and]
              go_enter Try.func46, Try.ntmps46
              go_wp2_with fail
              refine (h1 _).mono ?_
              rintro e w1 ⟨rfl, hB⟩
              have kk := (Six.new w b c ph pr si un 28).below hB
              have k2 := kk.c2
              have k3 := kk.c3
              have k4 := kk.c4
              have k5 := kk.c5
              have HB := Lib.hid (below2 (below_new _ _) hB)
              clear kk h1 hB
              go_wp2_with fail
              refine (h2 _).mono ?_
              rintro e w2 ⟨rfl, rfl⟩
              clear h2
              go_wp2_with fail
              refine (h3 _).mono ?_
              rintro e w3 ⟨rfl, rfl⟩
              clear h3
              go_wp2
              go_ret
              exact ⟨rfl, HB.out⟩
end Go.Proofs.Ythlojadkgpmnmaa
