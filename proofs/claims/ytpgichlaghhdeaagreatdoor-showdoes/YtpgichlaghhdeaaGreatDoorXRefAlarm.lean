/-
  Layer 6 (alarm): the walks of the reference's small functions.
-/
import Derived.Test.YtpgichlaghhdeaaGreatDoorXJb
import Derived.Test.YtpgichlaghhdeaaGreatDoorXJc
import Derived.Test.YtpgichlaghhdeaaGreatDoorXRefNext
namespace Go.Proofs.YtpgichlaghhdeaaGreatDoor
set_option maxRecDepth 10000
open Go.RowKit

theorem RTime_any (n : Int) (w : World) :
    Calls Tryz.prog 61 #[.int .i64 n] w fun e w' => e = .returned (.bool (Am.isT n)) ∧ w' = w := by
  go_enter Tryz.func61, Tryz.ntmps61
  go_wp2
  all_goals go_ret
  all_goals (refine ⟨?_, rfl⟩; congr 2; unfold Am.isT; simp [*] <;> omega)

set_option linter.unusedSimpArgs false in
set_option maxHeartbeats 2000000 in
theorem RAIs_any (b c ph pr si un : Int) (w : World) :
    Calls Tryz.prog 31 #[.agg #[.int .i64 b, .int .i64 c, .int .i64 ph, .int .i64 pr, .int .i64 si, .int .i64 un]] w fun e w' => e = .returned (.bool (Am.right ⟨b, c, ph, pr, si, un⟩)) ∧ Below w.heap.size w w' := by
  have h1 := fun W => RIs_any b c W
  have h2 := fun W => RTime_any si W
  have e0 : Am.right ⟨b, c, ph, pr, si, un⟩ = (Sp.may b c && decide (1 ≤ ph) && decide (ph ≤ 4) && decide (1 ≤ pr) && decide (pr ≤ 3) && Am.isT si && decide (si ≤ un) && Am.late un) := rfl
  rw [e0]
  clear e0
  obtain ⟨m, hm⟩ : ∃ m, m = Sp.may b c := ⟨_, rfl⟩
  obtain ⟨t, ht⟩ : ∃ t, t = Am.isT si := ⟨_, rfl⟩
  rw [← hm] at h1 ⊢
  rw [← ht] at h2 ⊢
  clear hm ht
  obtain ⟨x1, e1⟩ : ∃ x, decide (1 ≤ ph) = x := ⟨_, rfl⟩
  obtain ⟨x2, e2⟩ : ∃ x, decide (ph ≤ 4) = x := ⟨_, rfl⟩
  obtain ⟨x3, e3⟩ : ∃ x, decide (1 ≤ pr) = x := ⟨_, rfl⟩
  obtain ⟨x4, e4⟩ : ∃ x, decide (pr ≤ 3) = x := ⟨_, rfl⟩
  obtain ⟨x5, e5⟩ : ∃ x, decide (si ≤ un) = x := ⟨_, rfl⟩
  rw [e1, e2, e3, e4, e5]
  cases m
  · simp only [Bool.true_and, Bool.false_and]
    go_enter Tryz.func31, Tryz.ntmps31
    go_wp2_with fail
    refine (h1 _).mono ?_
    rintro e w1 ⟨rfl, hB⟩
    have kk := (Six.new w b c ph pr si un 25).below hB
    have k2 := kk.c2
    have k3 := kk.c3
    have k4 := kk.c4
    have k5 := kk.c5
    have HB := Lib.hid (below2 (below_new _ _) hB)
    clear kk h1 hB
    go_wp2
    go_ret
    exact ⟨rfl, HB.out⟩
  · skip
    cases x1
    · simp only [Bool.true_and, Bool.false_and]
      go_enter Tryz.func31, Tryz.ntmps31
      go_wp2_with fail
      refine (h1 _).mono ?_
      rintro e w1 ⟨rfl, hB⟩
      have kk := (Six.new w b c ph pr si un 25).below hB
      have k2 := kk.c2
      have k3 := kk.c3
      have k4 := kk.c4
      have k5 := kk.c5
      have HB := Lib.hid (below2 (below_new _ _) hB)
      clear kk h1 hB
      go_wp2
      go_ret
      exact ⟨rfl, HB.out⟩
    · skip
      cases x2
      · simp only [Bool.true_and, Bool.false_and]
        go_enter Tryz.func31, Tryz.ntmps31
        go_wp2_with fail
        refine (h1 _).mono ?_
        rintro e w1 ⟨rfl, hB⟩
        have kk := (Six.new w b c ph pr si un 25).below hB
        have k2 := kk.c2
        have k3 := kk.c3
        have k4 := kk.c4
        have k5 := kk.c5
        have HB := Lib.hid (below2 (below_new _ _) hB)
        clear kk h1 hB
        go_wp2
        go_ret
        exact ⟨rfl, HB.out⟩
      · skip
        cases x3
        · simp only [Bool.true_and, Bool.false_and]
          go_enter Tryz.func31, Tryz.ntmps31
          go_wp2_with fail
          refine (h1 _).mono ?_
          rintro e w1 ⟨rfl, hB⟩
          have kk := (Six.new w b c ph pr si un 25).below hB
          have k2 := kk.c2
          have k3 := kk.c3
          have k4 := kk.c4
          have k5 := kk.c5
          have HB := Lib.hid (below2 (below_new _ _) hB)
          clear kk h1 hB
          go_wp2
          go_ret
          exact ⟨rfl, HB.out⟩
        · skip
          cases x4
          · simp only [Bool.true_and, Bool.false_and]
            go_enter Tryz.func31, Tryz.ntmps31
            go_wp2_with fail
            refine (h1 _).mono ?_
            rintro e w1 ⟨rfl, hB⟩
            have kk := (Six.new w b c ph pr si un 25).below hB
            have k2 := kk.c2
            have k3 := kk.c3
            have k4 := kk.c4
            have k5 := kk.c5
            have HB := Lib.hid (below2 (below_new _ _) hB)
            clear kk h1 hB
            go_wp2
            go_ret
            exact ⟨rfl, HB.out⟩
          · skip
            cases t
            · simp only [Bool.true_and, Bool.false_and]
              go_enter Tryz.func31, Tryz.ntmps31
              go_wp2_with fail
              refine (h1 _).mono ?_
              rintro e w1 ⟨rfl, hB⟩
              have kk := (Six.new w b c ph pr si un 25).below hB
              have k2 := kk.c2
              have k3 := kk.c3
              have k4 := kk.c4
              have k5 := kk.c5
              have HB := Lib.hid (below2 (below_new _ _) hB)
              clear kk h1 hB
              go_wp2_with fail
              refine (h2 _).mono ?_
              rintro e w2 ⟨rfl, rfl⟩
              clear h2
              go_wp2
              go_ret
              exact ⟨rfl, HB.out⟩
            · skip
              cases x5
              · simp only [Bool.true_and, Bool.false_and]
                go_enter Tryz.func31, Tryz.ntmps31
                go_wp2_with fail
                refine (h1 _).mono ?_
                rintro e w1 ⟨rfl, hB⟩
                have kk := (Six.new w b c ph pr si un 25).below hB
                have k2 := kk.c2
                have k3 := kk.c3
                have k4 := kk.c4
                have k5 := kk.c5
                have HB := Lib.hid (below2 (below_new _ _) hB)
                clear kk h1 hB
                go_wp2_with fail
                refine (h2 _).mono ?_
                rintro e w2 ⟨rfl, rfl⟩
                clear h2
                go_wp2
                go_ret
                exact ⟨rfl, HB.out⟩
              · simp only [Bool.true_and]
                go_enter Tryz.func31, Tryz.ntmps31
                go_wp2_with fail
                refine (h1 _).mono ?_
                rintro e w1 ⟨rfl, hB⟩
                have kk := (Six.new w b c ph pr si un 25).below hB
                have k2 := kk.c2
                have k3 := kk.c3
                have k4 := kk.c4
                have k5 := kk.c5
                have HB := Lib.hid (below2 (below_new _ _) hB)
                clear kk h1 hB
                go_wp2_with fail
                refine (h2 _).mono ?_
                rintro e w2 ⟨rfl, rfl⟩
                clear h2
                go_wp2
                go_ret
                exact ⟨rfl, HB.out⟩
end Go.Proofs.YtpgichlaghhdeaaGreatDoor
