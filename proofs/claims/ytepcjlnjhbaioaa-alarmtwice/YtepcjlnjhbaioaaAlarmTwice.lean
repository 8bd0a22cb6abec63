/-
  Layer 6 (alarm): the walk of the law AlarmTwice.
-/
import Derived.Test.YtepcjlnjhbaioaaAlarmRung
namespace Go.Proofs.Ytepcjlnjhbaioaa
open Go.RowKit

set_option maxRecDepth 10000 in
set_option maxHeartbeats 4000000 in
theorem alarmTwice_case (b c ph pr si un p q t m : Int) (w : World) (hm : (p ≤ q ∧ m = p) ∨ (q < p ∧ m = q)) :
    Calls Try.prog 8 #[.agg #[.int .i64 b, .int .i64 c, .int .i64 ph, .int .i64 pr, .int .i64 si, .int .i64 un], .int .i64 p, .int .i64 q, .int .i64 t] w fun e w' => e = .returned (.bool true) ∧ Below w.heap.size w w' := by
  have em : m = min p q := by omega
  have h1 := fun W => ARaise_any b c ph pr si un p t W
  have h3 := fun W => ARaise_any b c ph pr si un m t W
  have hT := Am.raise_twice (a := ⟨b, c, ph, pr, si, un⟩) (p := p) (q := q) (t := t)
  rw [← em] at hT
  obtain ⟨e1, he1⟩ : ∃ e1, e1 = Am.raiseE ⟨b, c, ph, pr, si, un⟩ p t := ⟨_, rfl⟩
  obtain ⟨a1, ha1⟩ : ∃ a1, a1 = Am.raise ⟨b, c, ph, pr, si, un⟩ p t := ⟨_, rfl⟩
  obtain ⟨e3, he3⟩ : ∃ e3, e3 = Am.raiseE ⟨b, c, ph, pr, si, un⟩ m t := ⟨_, rfl⟩
  obtain ⟨a3, ha3⟩ : ∃ a3, a3 = Am.raise ⟨b, c, ph, pr, si, un⟩ m t := ⟨_, rfl⟩
  rw [← he1, ← ha1] at h1
  rw [← he3, ← ha3] at h3
  rw [← he1, ← ha1, ← he3, ← ha3] at hT
  clear he1 ha1 he3 ha3 em
  obtain ⟨b1, c1, p1, r1, s1, u1⟩ := a1
  have h2 := fun W => ARaise_any b1 c1 p1 r1 s1 u1 q t W
  obtain ⟨e2, he2⟩ : ∃ e2, e2 = Am.raiseE ⟨b1, c1, p1, r1, s1, u1⟩ q t := ⟨_, rfl⟩
  obtain ⟨a2, ha2⟩ : ∃ a2, a2 = Am.raise ⟨b1, c1, p1, r1, s1, u1⟩ q t := ⟨_, rfl⟩
  rw [← he2, ← ha2] at h2 hT
  clear he2 ha2
  obtain ⟨b2, c2, p2, r2, s2, u2⟩ := a2
  obtain ⟨b3, c3, p3, r3, s3, u3⟩ := a3
  simp only [sixV] at h1 h2 h3
  have hcase : ((e1 != 0) = true) ∨ ((e1 != 0) = false ∧ (e2 != 0) = true) ∨ (e1 = 0 ∧ e2 = 0 ∧ e3 = 0 ∧ (⟨b2, c2, p2, r2, s2, u2⟩ : Alm) = ⟨b3, c3, p3, r3, s3, u3⟩) := by
    by_cases z1 : e1 = 0
    · by_cases z2 : e2 = 0
      · exact Or.inr (Or.inr ⟨z1, z2, hT z1 z2⟩)
      · exact Or.inr (Or.inl ⟨by simp [z1], by rw [bne_iff_ne]; exact z2⟩)
    · exact Or.inl (by rw [bne_iff_ne]; exact z1)
  clear hT
  rcases hm with ⟨hm, rfl⟩ | ⟨hm, rfl⟩ <;> rcases hcase with n1 | ⟨n1, n2⟩ | ⟨rfl, rfl, rfl, n4⟩
  all_goals (
    (try (injection n4 with i1 i2 i3 i4 i5 i6; subst i1 i2 i3 i4 i5 i6))
    go_enter Try.func8, Try.ntmps8
    go_wp2_with fail
    refine (h1 _).mono ?_
    rintro e w1 ⟨rfl, hB1⟩
    have ka := ((Six.new w b c ph pr si un 25).below hB1).alloc (.cells #[.int .i64 b1, .int .i64 c1, .int .i64 p1, .int .i64 r1, .int .i64 s1, .int .i64 u1] 25)
    have hB0 := below2 (below2 (below_new _ _) hB1) (below_new w1 (.cells #[.int .i64 b1, .int .i64 c1, .int .i64 p1, .int .i64 r1, .int .i64 s1, .int .i64 u1] 25))
    clear h1 hB1
    go_wp2_with fail
    refine (h2 _).mono ?_
    rintro e w2 ⟨rfl, hB1⟩
    replace ka := (ka.below hB1).alloc (.cells #[.int .i64 b2, .int .i64 c2, .int .i64 p2, .int .i64 r2, .int .i64 s2, .int .i64 u2] 25)
    replace hB0 := below2 (below2 hB0 hB1) (below_new w2 (.cells #[.int .i64 b2, .int .i64 c2, .int .i64 p2, .int .i64 r2, .int .i64 s2, .int .i64 u2] 25))
    have kc := Six.new w2 b2 c2 p2 r2 s2 u2 25
    have k0 := ka.c0
    have k1 := ka.c1
    have k2 := ka.c2
    have k3 := ka.c3
    have k4 := ka.c4
    have k5 := ka.c5
    clear h2 hB1
    go_wp2_with fail
    refine (h3 _).mono ?_
    rintro e w3 ⟨rfl, hB1⟩
    have HB0 := Lib.hid (below2 hB0 hB1)
    have HC := Lib.hid (kc.below hB1)
    clear h3 hB1 k0 k1 k2 k3 k4 k5 ka hB0 kc
    go_wp2_with fail
    refine (rung_any _).mono ?_
    rintro e w4 ⟨rfl, hB4⟩
    have HB4 := Lib.hid (below2 (below2 HB0.out (below_new _ _)) hB4)
    have kd := (Six.new w3 _ _ _ _ _ _ _).below hB4
    have kc := (HC.out.alloc _).below hB4
    have d0 := kd.c0
    have d1 := kd.c1
    have d2 := kd.c2
    have d3 := kd.c3
    have d4 := kd.c4
    have d5 := kd.c5
    have k0 := kc.c0
    have k1 := kc.c1
    have k2 := kc.c2
    have k3 := kc.c3
    have k4 := kc.c4
    have k5 := kc.c5
    clear kd kc hB4 HC HB0
    go_wp2
    go_ret
    exact ⟨rfl, HB4.out⟩)

theorem alarmTwice_walk (b c ph pr si un p q t : Int) (w : World) :
    Calls Try.prog 8 #[.agg #[.int .i64 b, .int .i64 c, .int .i64 ph, .int .i64 pr, .int .i64 si, .int .i64 un], .int .i64 p, .int .i64 q, .int .i64 t] w fun e w' => e = .returned (.bool true) ∧ Below w.heap.size w w' := by
  by_cases h : p ≤ q
  · exact alarmTwice_case b c ph pr si un p q t p w (Or.inl ⟨h, rfl⟩)
  · exact alarmTwice_case b c ph pr si un p q t q w (Or.inr ⟨by omega, rfl⟩)
end Go.Proofs.Ytepcjlnjhbaioaa
