/-
  Layer 6 (alarm): the walk of the law AlarmDue.
-/
import Derived.Test.YtepcjlnjhbaioaaAlarmRung
namespace Go.Proofs.Ytepcjlnjhbaioaa
open Go.RowKit

set_option maxRecDepth 10000 in
set_option maxHeartbeats 4000000 in
theorem alarmDue_a (b c ph pr si un t : Int) (w : World) (hr : Am.right ⟨b, c, ph, pr, si, un⟩ = false) :
    Calls Try.prog 7 #[.agg #[.int .i64 b, .int .i64 c, .int .i64 ph, .int .i64 pr, .int .i64 si, .int .i64 un], .int .i64 t] w fun e w' => e = .returned (.bool true) ∧ Below w.heap.size w w' := by
  have h1 := fun W => APass_any b c ph pr si un t W
  rw [Am.pass_wrong t hr] at h1
  have h2 := fun W => AIs_any b c ph pr si un W
  rw [hr] at h2
  simp only [sixV] at h1
  clear hr
  go_enter Try.func7, Try.ntmps7
  go_wp2_with fail
  refine (h1 _).mono ?_
  rintro e w1 ⟨rfl, hB1⟩
  have ka := ((Six.new w b c ph pr si un 25).below hB1).alloc (.cells #[.int .i64 b, .int .i64 c, .int .i64 ph, .int .i64 pr, .int .i64 si, .int .i64 un] 25)
  have kb := Six.new w1 b c ph pr si un 25
  have hB0 := below2 (below2 (below_new _ _) hB1) (below_new w1 (.cells #[.int .i64 b, .int .i64 c, .int .i64 ph, .int .i64 pr, .int .i64 si, .int .i64 un] 25))
  clear h1 hB1
  have q0 := ka.c0
  have q1 := ka.c1
  have q2 := ka.c2
  have q3 := ka.c3
  have q4 := ka.c4
  have q5 := ka.c5
  go_wp2_with fail
  refine (h2 _).mono ?_
  rintro e w2 ⟨rfl, hB1⟩
  clear q0 q1 q2 q3 q4 q5
  replace ka := ka.below hB1
  replace kb := kb.below hB1
  replace hB0 := below2 hB0 hB1
  clear hB1
  go_wp2_with fail
  refine (rung_any _).mono ?_
  rintro e w3 ⟨rfl, hB1⟩
  replace ka := ka.below hB1
  replace kb := kb.below hB1
  replace hB0 := below2 hB0 hB1
  clear hB1
  have q0 := ka.c0
  have q1 := ka.c1
  have q2 := ka.c2
  have q3 := ka.c3
  have q4 := ka.c4
  have q5 := ka.c5
  go_wp2_with fail
  refine (h2 _).mono ?_
  rintro e w4 ⟨rfl, hB1⟩
  clear q0 q1 q2 q3 q4 q5
  replace ka := ka.below hB1
  replace kb := kb.below hB1
  replace hB0 := below2 hB0 hB1
  clear hB1
  have q0 := ka.c0
  have q1 := ka.c1
  have q2 := ka.c2
  have q3 := ka.c3
  have q4 := ka.c4
  have q5 := ka.c5
  have v0 := kb.c0
  have v1 := kb.c1
  have v2 := kb.c2
  have v3 := kb.c3
  have v4 := kb.c4
  have v5 := kb.c5
  have HB := Lib.hid hB0
  clear ka kb hB0
  go_wp2
  go_ret
  exact ⟨rfl, HB.out⟩

set_option maxRecDepth 10000 in
set_option maxHeartbeats 4000000 in
theorem alarmDue_b (b c ph pr si un t : Int) (w : World) (hr : Am.right ⟨b, c, ph, pr, si, un⟩ = true) (ht : t < 0) :
    Calls Try.prog 7 #[.agg #[.int .i64 b, .int .i64 c, .int .i64 ph, .int .i64 pr, .int .i64 si, .int .i64 un], .int .i64 t] w fun e w' => e = .returned (.bool true) ∧ Below w.heap.size w w' := by
  have h1 := fun W => APass_any b c ph pr si un t W
  obtain ⟨a1, ha1⟩ : ∃ a1, a1 = Am.pass ⟨b, c, ph, pr, si, un⟩ t := ⟨_, rfl⟩
  rw [← ha1] at h1
  clear ha1
  obtain ⟨b1, c1, p1, r1, s1, u1⟩ := a1
  have h2 := fun W => AIs_any b c ph pr si un W
  rw [hr] at h2
  simp only [sixV] at h1
  clear hr
  go_enter Try.func7, Try.ntmps7
  go_wp2_with fail
  refine (h1 _).mono ?_
  rintro e w1 ⟨rfl, hB1⟩
  have ka := ((Six.new w b c ph pr si un 25).below hB1).alloc (.cells #[.int .i64 b1, .int .i64 c1, .int .i64 p1, .int .i64 r1, .int .i64 s1, .int .i64 u1] 25)
  have kb := Six.new w1 b1 c1 p1 r1 s1 u1 25
  have hB0 := below2 (below2 (below_new _ _) hB1) (below_new w1 (.cells #[.int .i64 b1, .int .i64 c1, .int .i64 p1, .int .i64 r1, .int .i64 s1, .int .i64 u1] 25))
  clear h1 hB1
  have q0 := ka.c0
  have q1 := ka.c1
  have q2 := ka.c2
  have q3 := ka.c3
  have q4 := ka.c4
  have q5 := ka.c5
  go_wp2_with fail
  refine (h2 _).mono ?_
  rintro e w2 ⟨rfl, hB1⟩
  clear q0 q1 q2 q3 q4 q5
  replace ka := ka.below hB1
  replace kb := kb.below hB1
  replace hB0 := below2 hB0 hB1
  clear hB1
  go_wp2_with fail
  refine (rung_any _).mono ?_
  rintro e w3 ⟨rfl, hB1⟩
  replace ka := ka.below hB1
  replace kb := kb.below hB1
  replace hB0 := below2 hB0 hB1
  clear hB1
  have q0 := ka.c0
  have q1 := ka.c1
  have q2 := ka.c2
  have q3 := ka.c3
  have q4 := ka.c4
  have q5 := ka.c5
  go_wp2_with fail
  refine (h2 _).mono ?_
  rintro e w4 ⟨rfl, hB1⟩
  clear q0 q1 q2 q3 q4 q5
  replace ka := ka.below hB1
  replace kb := kb.below hB1
  replace hB0 := below2 hB0 hB1
  clear hB1
  have HB := Lib.hid hB0
  clear ka kb hB0
  go_wp2
  go_ret
  exact ⟨rfl, HB.out⟩

set_option maxRecDepth 10000 in
set_option maxHeartbeats 4000000 in
theorem alarmDue_c (b c ph pr si un t : Int) (w : World) (hr : Am.right ⟨b, c, ph, pr, si, un⟩ = true) (t0 : 0 ≤ t) (s : Int) (hs : (t ≤ 1000000000 ∧ s = t) ∨ (1000000000 < t ∧ s = 1000000000)) :
    Calls Try.prog 7 #[.agg #[.int .i64 b, .int .i64 c, .int .i64 ph, .int .i64 pr, .int .i64 si, .int .i64 un], .int .i64 t] w fun e w' => e = .returned (.bool true) ∧ Below w.heap.size w w' := by
  have h1 := fun W => APass_any b c ph pr si un t W
  have hd := Am.pass_due t hr
  have hdd := Am.due_two (t := t) (s := s) hr (by omega)
  obtain ⟨a1, ha1⟩ : ∃ a1, a1 = Am.pass ⟨b, c, ph, pr, si, un⟩ t := ⟨_, rfl⟩
  rw [← ha1] at h1 hd hdd
  clear ha1
  obtain ⟨b1, c1, p1, r1, s1, u1⟩ := a1
  have h2 := fun W => AIs_any b c ph pr si un W
  rw [hr] at h2
  have h3 := fun W => ADo_any b1 c1 p1 r1 s1 u1 2 s 0 W
  have h4 := fun W => ADo_any b1 c1 p1 r1 s1 u1 6 s 0 W
  have z3 : Am.doA ⟨b1, c1, p1, r1, s1, u1⟩ 2 s 0 = Am.zero := by unfold Am.doA; rw [if_neg hdd.1]
  have z4 : Am.doA ⟨b1, c1, p1, r1, s1, u1⟩ 6 s 0 = Am.zero := by unfold Am.doA; rw [if_neg hdd.2]
  rw [z3] at h3
  rw [z4] at h4
  obtain ⟨e3, he3⟩ : ∃ e3, e3 = Am.doE ⟨b1, c1, p1, r1, s1, u1⟩ 2 s 0 := ⟨_, rfl⟩
  obtain ⟨e4, he4⟩ : ∃ e4, e4 = Am.doE ⟨b1, c1, p1, r1, s1, u1⟩ 6 s 0 := ⟨_, rfl⟩
  rw [← he3] at h3 hdd
  rw [← he4] at h4 hdd
  have n3 : (e3 != 0) = true := by rw [bne_iff_ne]; exact hdd.1
  have n4 : (e4 != 0) = true := by rw [bne_iff_ne]; exact hdd.2
  simp only [sixV, Am.zero] at h1 h3 h4
  have hp : ((p1 != 1) = false ∧ t < u1) ∨ ((p1 != 1) = true ∧ (p1 != 4) = false ∧ t < u1) ∨ ((p1 != 1) = true ∧ (p1 != 4) = true) := by
    unfold Am.due at hd
    simp only at hd
    by_cases x1 : p1 = 1
    · left; exact ⟨by rw [x1]; rfl, by omega⟩
    · by_cases x4 : p1 = 4
      · right; left; exact ⟨by rw [bne_iff_ne]; exact x1, by rw [x4]; rfl, by omega⟩
      · right; right; exact ⟨by rw [bne_iff_ne]; exact x1, by rw [bne_iff_ne]; exact x4⟩
  clear hd hdd he3 he4 z3 z4 hr
  rcases hs with ⟨hs, rfl⟩ | ⟨hs, rfl⟩ <;> rcases hp with ⟨n1, hu⟩ | ⟨n1, n2, hu⟩ | ⟨n1, n2⟩
  all_goals (
    go_enter Try.func7, Try.ntmps7
    go_wp2_with fail
    refine (h1 _).mono ?_
    rintro e w1 ⟨rfl, hB1⟩
    have ka := ((Six.new w b c ph pr si un 25).below hB1).alloc (.cells #[.int .i64 b1, .int .i64 c1, .int .i64 p1, .int .i64 r1, .int .i64 s1, .int .i64 u1] 25)
    have kb := Six.new w1 b1 c1 p1 r1 s1 u1 25
    have hB0 := below2 (below2 (below_new _ _) hB1) (below_new w1 (.cells #[.int .i64 b1, .int .i64 c1, .int .i64 p1, .int .i64 r1, .int .i64 s1, .int .i64 u1] 25))
    clear h1 hB1
    have q0 := ka.c0
    have q1 := ka.c1
    have q2 := ka.c2
    have q3 := ka.c3
    have q4 := ka.c4
    have q5 := ka.c5
    go_wp2_with fail
    refine (h2 _).mono ?_
    rintro e w2 ⟨rfl, hB1⟩
    clear q0 q1 q2 q3 q4 q5
    replace ka := ka.below hB1
    replace kb := kb.below hB1
    replace hB0 := below2 hB0 hB1
    clear hB1
    have v0 := kb.c0
    have v1 := kb.c1
    have v2 := kb.c2
    have v3 := kb.c3
    have v4 := kb.c4
    have v5 := kb.c5
    go_wp2_with fail
    refine (h3 _).mono ?_
    rintro e w3 ⟨rfl, hB1⟩
    clear v0 v1 v2 v3 v4 v5
    replace ka := ka.below hB1
    replace kb := kb.below hB1
    replace hB0 := below2 hB0 hB1
    clear hB1
    replace ka := ka.alloc (.cells #[.int .i64 0, .int .i64 0, .int .i64 0, .int .i64 0, .int .i64 0, .int .i64 0] 25)
    replace kb := kb.alloc (.cells #[.int .i64 0, .int .i64 0, .int .i64 0, .int .i64 0, .int .i64 0, .int .i64 0] 25)
    replace hB0 := below2 hB0 (below_new w3 (.cells #[.int .i64 0, .int .i64 0, .int .i64 0, .int .i64 0, .int .i64 0, .int .i64 0] 25))
    have v0 := kb.c0
    have v1 := kb.c1
    have v2 := kb.c2
    have v3 := kb.c3
    have v4 := kb.c4
    have v5 := kb.c5
    go_wp2_with fail
    refine (h4 _).mono ?_
    rintro e w4 ⟨rfl, hB1⟩
    clear v0 v1 v2 v3 v4 v5
    replace ka := ka.below hB1
    replace kb := kb.below hB1
    replace hB0 := below2 hB0 hB1
    clear hB1
    replace ka := ka.alloc (.cells #[.int .i64 0, .int .i64 0, .int .i64 0, .int .i64 0, .int .i64 0, .int .i64 0] 25)
    replace kb := kb.alloc (.cells #[.int .i64 0, .int .i64 0, .int .i64 0, .int .i64 0, .int .i64 0, .int .i64 0] 25)
    replace hB0 := below2 hB0 (below_new w4 (.cells #[.int .i64 0, .int .i64 0, .int .i64 0, .int .i64 0, .int .i64 0, .int .i64 0] 25))
    go_wp2_with fail
    refine (rung_any _).mono ?_
    rintro e w5 ⟨rfl, hB1⟩
    replace ka := ka.below hB1
    replace kb := kb.below hB1
    replace hB0 := below2 hB0 hB1
    clear hB1
    have v0 := kb.c0
    have v1 := kb.c1
    have v2 := kb.c2
    have v3 := kb.c3
    have v4 := kb.c4
    have v5 := kb.c5
    have HB := Lib.hid hB0
    clear ka kb hB0
    go_wp2
    go_ret
    exact ⟨rfl, HB.out⟩)

theorem alarmDue_walk (b c ph pr si un t : Int) (w : World) :
    Calls Try.prog 7 #[.agg #[.int .i64 b, .int .i64 c, .int .i64 ph, .int .i64 pr, .int .i64 si, .int .i64 un], .int .i64 t] w fun e w' => e = .returned (.bool true) ∧ Below w.heap.size w w' := by
  cases hr : Am.right ⟨b, c, ph, pr, si, un⟩
  · exact alarmDue_a b c ph pr si un t w hr
  · by_cases ht : t < 0
    · exact alarmDue_b b c ph pr si un t w hr ht
    · by_cases hs : t ≤ 1000000000
      · exact alarmDue_c b c ph pr si un t w hr (by omega) t (Or.inl ⟨hs, rfl⟩)
      · exact alarmDue_c b c ph pr si un t w hr (by omega) 1000000000 (Or.inr ⟨by omega, rfl⟩)
end Go.Proofs.Ytepcjlnjhbaioaa
