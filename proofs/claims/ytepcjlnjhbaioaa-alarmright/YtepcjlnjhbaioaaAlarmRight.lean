/-
  Layer 6 (alarm): the walk of the law AlarmRight.
-/
import Derived.Test.YtepcjlnjhbaioaaAlarmRung
namespace Go.Proofs.Ytepcjlnjhbaioaa
open Go.RowKit

set_option maxRecDepth 10000 in
set_option maxHeartbeats 4000000 in
theorem alarmRight_yyy (sb sc b c ph pr si un prio deed t long : Int) (w : World) (hE1 : Am.openE sb sc prio t = 0) (hE2 : Am.raiseE ⟨b, c, ph, pr, si, un⟩ prio t = 0) (hE3 : Am.doE ⟨b, c, ph, pr, si, un⟩ deed t long = 0) :
    Calls Try.prog 5 #[.agg #[.int .i64 sb, .int .i64 sc], .agg #[.int .i64 b, .int .i64 c, .int .i64 ph, .int .i64 pr, .int .i64 si, .int .i64 un], .int .i64 prio, .int .i64 deed, .int .i64 t, .int .i64 long] w fun e w' => e = .returned (.bool true) ∧ Below w.heap.size w w' := by
  have h1 := fun W => AOpen_any sb sc prio t W
  have z1 := Am.opn_right hE1
  rw [hE1] at h1
  obtain ⟨a1, ha1⟩ : ∃ a1, a1 = Am.opn sb sc prio t := ⟨_, rfl⟩
  rw [← ha1] at h1 z1
  clear ha1 hE1
  obtain ⟨b1, c1, p1, r1, s1, u1⟩ := a1
  obtain ⟨x1, y1, y2, y3⟩ := z1
  simp only at y1 y2 y3
  replace y1 := y1.symm
  replace y2 := y2.symm
  replace y3 := y3.symm
  subst y1 y2 y3
  have i1 := fun W => AIs_any sb sc p1 r1 t u1 W
  rw [x1] at i1
  clear x1
  have h2 := fun W => ARaise_any b c ph pr si un prio t W
  have z2 := Am.raise_right hE2
  rw [hE2] at h2
  obtain ⟨a2, ha2⟩ : ∃ a2, a2 = Am.raise ⟨b, c, ph, pr, si, un⟩ prio t := ⟨_, rfl⟩
  rw [← ha2] at h2 z2
  clear ha2 hE2
  obtain ⟨b2, c2, p2, r2, s2, u2⟩ := a2
  obtain ⟨x1, y1, y2, y3, y4, y5⟩ := z2
  simp only at y1 y2 y3 y4 y5
  replace y1 := y1.symm
  replace y2 := y2.symm
  subst y1 y2
  have i2 := fun W => AIs_any b c p2 r2 s2 u2 W
  rw [x1] at i2
  have d1 : decide (pr < r2) = false := decide_eq_false (by omega)
  have d2 : decide (prio < r2) = false := decide_eq_false (by omega)
  have d3 : decide (s2 < si) = false := decide_eq_false (by omega)
  clear x1 y3 y4 y5
  have h3 := fun W => ADo_any b c ph pr si un deed t long W
  have z3 := Am.do_right hE3
  rw [hE3] at h3
  obtain ⟨a3, ha3⟩ : ∃ a3, a3 = Am.doA ⟨b, c, ph, pr, si, un⟩ deed t long := ⟨_, rfl⟩
  rw [← ha3] at h3 z3
  clear ha3 hE3
  obtain ⟨b3, c3, p3, r3, s3, u3⟩ := a3
  obtain ⟨x1, y1, y2, y3, y4, y5⟩ := z3
  simp only at y1 y2 y3 y4 y5
  replace y1 := y1.symm
  replace y2 := y2.symm
  replace y3 := y3.symm
  replace y4 := y4.symm
  subst y1 y2 y3 y4
  have i3 := fun W => AIs_any b c p3 pr si u3 W
  rw [x1] at i3
  have d4 : decide (t ≤ u3) = true := decide_eq_true y5
  clear x1 y5
  simp only [sixV] at h1 h2 h3
  go_enter Try.func5, Try.ntmps5
  go_wp2_with fail
  refine (h1 _).mono ?_
  rintro e w1 ⟨rfl, hB1⟩
  have ks := (((Two.new w sb sc 23).alloc (.cells #[.int .i64 b, .int .i64 c, .int .i64 ph, .int .i64 pr, .int .i64 si, .int .i64 un] 25)).below hB1).alloc (.cells #[.int .i64 sb, .int .i64 sc, .int .i64 p1, .int .i64 r1, .int .i64 t, .int .i64 u1] 25)
  have ka := ((Six.new1 w (.cells #[.int .i64 sb, .int .i64 sc] 23) b c ph pr si un 25).below hB1).alloc (.cells #[.int .i64 sb, .int .i64 sc, .int .i64 p1, .int .i64 r1, .int .i64 t, .int .i64 u1] 25)
  have kb := Six.new w1 sb sc p1 r1 t u1 25
  have hB0 := below2 (below2 (below_new2 w _ _) hB1) (below_new w1 (.cells #[.int .i64 sb, .int .i64 sc, .int .i64 p1, .int .i64 r1, .int .i64 t, .int .i64 u1] 25))
  clear h1 hB1
  have fka0 := ka.c0
  have fka1 := ka.c1
  have fka2 := ka.c2
  have fka3 := ka.c3
  have fka4 := ka.c4
  have fka5 := ka.c5
  go_wp2_with fail
  refine (h2 _).mono ?_
  rintro e w2 ⟨rfl, hB1⟩
  clear fka0 fka1 fka2 fka3 fka4 fka5
  replace ks := (ks.below hB1).alloc (.cells #[.int .i64 b, .int .i64 c, .int .i64 p2, .int .i64 r2, .int .i64 s2, .int .i64 u2] 25)
  replace ka := (ka.below hB1).alloc (.cells #[.int .i64 b, .int .i64 c, .int .i64 p2, .int .i64 r2, .int .i64 s2, .int .i64 u2] 25)
  replace kb := (kb.below hB1).alloc (.cells #[.int .i64 b, .int .i64 c, .int .i64 p2, .int .i64 r2, .int .i64 s2, .int .i64 u2] 25)
  have kc := Six.new w2 b c p2 r2 s2 u2 25
  replace hB0 := below2 (below2 hB0 hB1) (below_new w2 (.cells #[.int .i64 b, .int .i64 c, .int .i64 p2, .int .i64 r2, .int .i64 s2, .int .i64 u2] 25))
  clear hB1
  have fka0 := ka.c0
  have fka1 := ka.c1
  have fka2 := ka.c2
  have fka3 := ka.c3
  have fka4 := ka.c4
  have fka5 := ka.c5
  go_wp2_with fail
  refine (h3 _).mono ?_
  rintro e w3 ⟨rfl, hB1⟩
  clear fka0 fka1 fka2 fka3 fka4 fka5
  replace ks := (ks.below hB1).alloc (.cells #[.int .i64 b, .int .i64 c, .int .i64 p3, .int .i64 pr, .int .i64 si, .int .i64 u3] 25)
  replace ka := (ka.below hB1).alloc (.cells #[.int .i64 b, .int .i64 c, .int .i64 p3, .int .i64 pr, .int .i64 si, .int .i64 u3] 25)
  replace kb := (kb.below hB1).alloc (.cells #[.int .i64 b, .int .i64 c, .int .i64 p3, .int .i64 pr, .int .i64 si, .int .i64 u3] 25)
  replace kc := (kc.below hB1).alloc (.cells #[.int .i64 b, .int .i64 c, .int .i64 p3, .int .i64 pr, .int .i64 si, .int .i64 u3] 25)
  have kd := Six.new w3 b c p3 pr si u3 25
  replace hB0 := below2 (below2 hB0 hB1) (below_new w3 (.cells #[.int .i64 b, .int .i64 c, .int .i64 p3, .int .i64 pr, .int .i64 si, .int .i64 u3] 25))
  clear hB1
  clear h2 h3
  have fkb0 := kb.c0
  have fkb1 := kb.c1
  have fkb2 := kb.c2
  have fkb3 := kb.c3
  have fkb4 := kb.c4
  have fkb5 := kb.c5
  go_wp2_with fail
  refine (i1 _).mono ?_
  rintro e w4 ⟨rfl, hB1⟩
  clear fkb0 fkb1 fkb2 fkb3 fkb4 fkb5
  replace ks := ks.below hB1
  replace ka := ka.below hB1
  replace kb := kb.below hB1
  replace kc := kc.below hB1
  replace kd := kd.below hB1
  replace hB0 := below2 hB0 hB1
  clear hB1
  have fks0 := ks.c0
  have fks1 := ks.c1
  have fkb0 := kb.c0
  have fkb1 := kb.c1
  have fkb2 := kb.c2
  have fkb3 := kb.c3
  have fkb4 := kb.c4
  have fkb5 := kb.c5
  have fkc0 := kc.c0
  have fkc1 := kc.c1
  have fkc2 := kc.c2
  have fkc3 := kc.c3
  have fkc4 := kc.c4
  have fkc5 := kc.c5
  go_wp2_with fail
  refine (i2 _).mono ?_
  rintro e w5 ⟨rfl, hB1⟩
  clear fks0 fks1 fkb0 fkb1 fkb2 fkb3 fkb4 fkb5 fkc0 fkc1 fkc2 fkc3 fkc4 fkc5
  replace ks := ks.below hB1
  replace ka := ka.below hB1
  replace kb := kb.below hB1
  replace kc := kc.below hB1
  replace kd := kd.below hB1
  replace hB0 := below2 hB0 hB1
  clear hB1
  have fka0 := ka.c0
  have fka1 := ka.c1
  have fka2 := ka.c2
  have fka3 := ka.c3
  have fka4 := ka.c4
  have fka5 := ka.c5
  have fkc0 := kc.c0
  have fkc1 := kc.c1
  have fkc2 := kc.c2
  have fkc3 := kc.c3
  have fkc4 := kc.c4
  have fkc5 := kc.c5
  go_wp2_with fail
  refine (rung_any _).mono ?_
  rintro e w6 ⟨rfl, hB1⟩
  clear fka0 fka1 fka2 fka3 fka4 fka5 fkc0 fkc1 fkc2 fkc3 fkc4 fkc5
  replace ks := ks.below hB1
  replace ka := ka.below hB1
  replace kb := kb.below hB1
  replace kc := kc.below hB1
  replace kd := kd.below hB1
  replace hB0 := below2 hB0 hB1
  clear hB1
  have fkd0 := kd.c0
  have fkd1 := kd.c1
  have fkd2 := kd.c2
  have fkd3 := kd.c3
  have fkd4 := kd.c4
  have fkd5 := kd.c5
  go_wp2_with fail
  refine (i3 _).mono ?_
  rintro e w7 ⟨rfl, hB1⟩
  clear fkd0 fkd1 fkd2 fkd3 fkd4 fkd5
  replace ks := ks.below hB1
  replace ka := ka.below hB1
  replace kb := kb.below hB1
  replace kc := kc.below hB1
  replace kd := kd.below hB1
  replace hB0 := below2 hB0 hB1
  clear hB1
  have fkd0 := kd.c0
  have fkd1 := kd.c1
  have fkd2 := kd.c2
  have fkd3 := kd.c3
  have fkd4 := kd.c4
  have fkd5 := kd.c5
  have fka0 := ka.c0
  have fka1 := ka.c1
  have fka2 := ka.c2
  have fka3 := ka.c3
  have fka4 := ka.c4
  have fka5 := ka.c5
  have HB := Lib.hid hB0
  clear ks ka kb kc kd hB0
  go_wp2
  go_ret
  exact ⟨rfl, HB.out⟩

set_option maxRecDepth 10000 in
set_option maxHeartbeats 4000000 in
theorem alarmRight_yyn (sb sc b c ph pr si un prio deed t long : Int) (w : World) (hE1 : Am.openE sb sc prio t = 0) (hE2 : Am.raiseE ⟨b, c, ph, pr, si, un⟩ prio t = 0) (hE3 : Am.doE ⟨b, c, ph, pr, si, un⟩ deed t long ≠ 0) :
    Calls Try.prog 5 #[.agg #[.int .i64 sb, .int .i64 sc], .agg #[.int .i64 b, .int .i64 c, .int .i64 ph, .int .i64 pr, .int .i64 si, .int .i64 un], .int .i64 prio, .int .i64 deed, .int .i64 t, .int .i64 long] w fun e w' => e = .returned (.bool true) ∧ Below w.heap.size w w' := by
  have h1 := fun W => AOpen_any sb sc prio t W
  have z1 := Am.opn_right hE1
  rw [hE1] at h1
  obtain ⟨a1, ha1⟩ : ∃ a1, a1 = Am.opn sb sc prio t := ⟨_, rfl⟩
  rw [← ha1] at h1 z1
  clear ha1 hE1
  obtain ⟨b1, c1, p1, r1, s1, u1⟩ := a1
  obtain ⟨x1, y1, y2, y3⟩ := z1
  simp only at y1 y2 y3
  replace y1 := y1.symm
  replace y2 := y2.symm
  replace y3 := y3.symm
  subst y1 y2 y3
  have i1 := fun W => AIs_any sb sc p1 r1 t u1 W
  rw [x1] at i1
  clear x1
  have h2 := fun W => ARaise_any b c ph pr si un prio t W
  have z2 := Am.raise_right hE2
  rw [hE2] at h2
  obtain ⟨a2, ha2⟩ : ∃ a2, a2 = Am.raise ⟨b, c, ph, pr, si, un⟩ prio t := ⟨_, rfl⟩
  rw [← ha2] at h2 z2
  clear ha2 hE2
  obtain ⟨b2, c2, p2, r2, s2, u2⟩ := a2
  obtain ⟨x1, y1, y2, y3, y4, y5⟩ := z2
  simp only at y1 y2 y3 y4 y5
  replace y1 := y1.symm
  replace y2 := y2.symm
  subst y1 y2
  have i2 := fun W => AIs_any b c p2 r2 s2 u2 W
  rw [x1] at i2
  have d1 : decide (pr < r2) = false := decide_eq_false (by omega)
  have d2 : decide (prio < r2) = false := decide_eq_false (by omega)
  have d3 : decide (s2 < si) = false := decide_eq_false (by omega)
  clear x1 y3 y4 y5
  have h3 := fun W => ADo_any b c ph pr si un deed t long W
  obtain ⟨a3, ha3⟩ : ∃ a3, a3 = Am.doA ⟨b, c, ph, pr, si, un⟩ deed t long := ⟨_, rfl⟩
  obtain ⟨e3, he3⟩ : ∃ e3, e3 = Am.doE ⟨b, c, ph, pr, si, un⟩ deed t long := ⟨_, rfl⟩
  rw [← ha3, ← he3] at h3
  rw [← he3] at hE3
  clear ha3 he3
  obtain ⟨b3, c3, p3, r3, s3, u3⟩ := a3
  have n3 : (e3 != 0) = true := by rw [bne_iff_ne]; exact hE3
  clear hE3
  simp only [sixV] at h1 h2 h3
  go_enter Try.func5, Try.ntmps5
  go_wp2_with fail
  refine (h1 _).mono ?_
  rintro e w1 ⟨rfl, hB1⟩
  have ks := (((Two.new w sb sc 23).alloc (.cells #[.int .i64 b, .int .i64 c, .int .i64 ph, .int .i64 pr, .int .i64 si, .int .i64 un] 25)).below hB1).alloc (.cells #[.int .i64 sb, .int .i64 sc, .int .i64 p1, .int .i64 r1, .int .i64 t, .int .i64 u1] 25)
  have ka := ((Six.new1 w (.cells #[.int .i64 sb, .int .i64 sc] 23) b c ph pr si un 25).below hB1).alloc (.cells #[.int .i64 sb, .int .i64 sc, .int .i64 p1, .int .i64 r1, .int .i64 t, .int .i64 u1] 25)
  have kb := Six.new w1 sb sc p1 r1 t u1 25
  have hB0 := below2 (below2 (below_new2 w _ _) hB1) (below_new w1 (.cells #[.int .i64 sb, .int .i64 sc, .int .i64 p1, .int .i64 r1, .int .i64 t, .int .i64 u1] 25))
  clear h1 hB1
  have fka0 := ka.c0
  have fka1 := ka.c1
  have fka2 := ka.c2
  have fka3 := ka.c3
  have fka4 := ka.c4
  have fka5 := ka.c5
  go_wp2_with fail
  refine (h2 _).mono ?_
  rintro e w2 ⟨rfl, hB1⟩
  clear fka0 fka1 fka2 fka3 fka4 fka5
  replace ks := (ks.below hB1).alloc (.cells #[.int .i64 b, .int .i64 c, .int .i64 p2, .int .i64 r2, .int .i64 s2, .int .i64 u2] 25)
  replace ka := (ka.below hB1).alloc (.cells #[.int .i64 b, .int .i64 c, .int .i64 p2, .int .i64 r2, .int .i64 s2, .int .i64 u2] 25)
  replace kb := (kb.below hB1).alloc (.cells #[.int .i64 b, .int .i64 c, .int .i64 p2, .int .i64 r2, .int .i64 s2, .int .i64 u2] 25)
  have kc := Six.new w2 b c p2 r2 s2 u2 25
  replace hB0 := below2 (below2 hB0 hB1) (below_new w2 (.cells #[.int .i64 b, .int .i64 c, .int .i64 p2, .int .i64 r2, .int .i64 s2, .int .i64 u2] 25))
  clear hB1
  have fka0 := ka.c0
  have fka1 := ka.c1
  have fka2 := ka.c2
  have fka3 := ka.c3
  have fka4 := ka.c4
  have fka5 := ka.c5
  go_wp2_with fail
  refine (h3 _).mono ?_
  rintro e w3 ⟨rfl, hB1⟩
  clear fka0 fka1 fka2 fka3 fka4 fka5
  replace ks := (ks.below hB1).alloc (.cells #[.int .i64 b3, .int .i64 c3, .int .i64 p3, .int .i64 r3, .int .i64 s3, .int .i64 u3] 25)
  replace ka := (ka.below hB1).alloc (.cells #[.int .i64 b3, .int .i64 c3, .int .i64 p3, .int .i64 r3, .int .i64 s3, .int .i64 u3] 25)
  replace kb := (kb.below hB1).alloc (.cells #[.int .i64 b3, .int .i64 c3, .int .i64 p3, .int .i64 r3, .int .i64 s3, .int .i64 u3] 25)
  replace kc := (kc.below hB1).alloc (.cells #[.int .i64 b3, .int .i64 c3, .int .i64 p3, .int .i64 r3, .int .i64 s3, .int .i64 u3] 25)
  have kd := Six.new w3 b3 c3 p3 r3 s3 u3 25
  replace hB0 := below2 (below2 hB0 hB1) (below_new w3 (.cells #[.int .i64 b3, .int .i64 c3, .int .i64 p3, .int .i64 r3, .int .i64 s3, .int .i64 u3] 25))
  clear hB1
  clear h2 h3
  have fkb0 := kb.c0
  have fkb1 := kb.c1
  have fkb2 := kb.c2
  have fkb3 := kb.c3
  have fkb4 := kb.c4
  have fkb5 := kb.c5
  go_wp2_with fail
  refine (i1 _).mono ?_
  rintro e w4 ⟨rfl, hB1⟩
  clear fkb0 fkb1 fkb2 fkb3 fkb4 fkb5
  replace ks := ks.below hB1
  replace ka := ka.below hB1
  replace kb := kb.below hB1
  replace kc := kc.below hB1
  replace kd := kd.below hB1
  replace hB0 := below2 hB0 hB1
  clear hB1
  have fks0 := ks.c0
  have fks1 := ks.c1
  have fkb0 := kb.c0
  have fkb1 := kb.c1
  have fkb2 := kb.c2
  have fkb3 := kb.c3
  have fkb4 := kb.c4
  have fkb5 := kb.c5
  have fkc0 := kc.c0
  have fkc1 := kc.c1
  have fkc2 := kc.c2
  have fkc3 := kc.c3
  have fkc4 := kc.c4
  have fkc5 := kc.c5
  go_wp2_with fail
  refine (i2 _).mono ?_
  rintro e w5 ⟨rfl, hB1⟩
  clear fks0 fks1 fkb0 fkb1 fkb2 fkb3 fkb4 fkb5 fkc0 fkc1 fkc2 fkc3 fkc4 fkc5
  replace ks := ks.below hB1
  replace ka := ka.below hB1
  replace kb := kb.below hB1
  replace kc := kc.below hB1
  replace kd := kd.below hB1
  replace hB0 := below2 hB0 hB1
  clear hB1
  have fka0 := ka.c0
  have fka1 := ka.c1
  have fka2 := ka.c2
  have fka3 := ka.c3
  have fka4 := ka.c4
  have fka5 := ka.c5
  have fkc0 := kc.c0
  have fkc1 := kc.c1
  have fkc2 := kc.c2
  have fkc3 := kc.c3
  have fkc4 := kc.c4
  have fkc5 := kc.c5
  go_wp2_with fail
  refine (rung_any _).mono ?_
  rintro e w6 ⟨rfl, hB1⟩
  clear fka0 fka1 fka2 fka3 fka4 fka5 fkc0 fkc1 fkc2 fkc3 fkc4 fkc5
  replace ks := ks.below hB1
  replace ka := ka.below hB1
  replace kb := kb.below hB1
  replace kc := kc.below hB1
  replace kd := kd.below hB1
  replace hB0 := below2 hB0 hB1
  clear hB1
  have HB := Lib.hid hB0
  clear ks ka kb kc kd hB0
  go_wp2
  go_ret
  exact ⟨rfl, HB.out⟩

set_option maxRecDepth 10000 in
set_option maxHeartbeats 4000000 in
theorem alarmRight_yny (sb sc b c ph pr si un prio deed t long : Int) (w : World) (hE1 : Am.openE sb sc prio t = 0) (hE2 : Am.raiseE ⟨b, c, ph, pr, si, un⟩ prio t ≠ 0) (hE3 : Am.doE ⟨b, c, ph, pr, si, un⟩ deed t long = 0) :
    Calls Try.prog 5 #[.agg #[.int .i64 sb, .int .i64 sc], .agg #[.int .i64 b, .int .i64 c, .int .i64 ph, .int .i64 pr, .int .i64 si, .int .i64 un], .int .i64 prio, .int .i64 deed, .int .i64 t, .int .i64 long] w fun e w' => e = .returned (.bool true) ∧ Below w.heap.size w w' := by
  have h1 := fun W => AOpen_any sb sc prio t W
  have z1 := Am.opn_right hE1
  rw [hE1] at h1
  obtain ⟨a1, ha1⟩ : ∃ a1, a1 = Am.opn sb sc prio t := ⟨_, rfl⟩
  rw [← ha1] at h1 z1
  clear ha1 hE1
  obtain ⟨b1, c1, p1, r1, s1, u1⟩ := a1
  obtain ⟨x1, y1, y2, y3⟩ := z1
  simp only at y1 y2 y3
  replace y1 := y1.symm
  replace y2 := y2.symm
  replace y3 := y3.symm
  subst y1 y2 y3
  have i1 := fun W => AIs_any sb sc p1 r1 t u1 W
  rw [x1] at i1
  clear x1
  have h2 := fun W => ARaise_any b c ph pr si un prio t W
  obtain ⟨a2, ha2⟩ : ∃ a2, a2 = Am.raise ⟨b, c, ph, pr, si, un⟩ prio t := ⟨_, rfl⟩
  obtain ⟨e2, he2⟩ : ∃ e2, e2 = Am.raiseE ⟨b, c, ph, pr, si, un⟩ prio t := ⟨_, rfl⟩
  rw [← ha2, ← he2] at h2
  rw [← he2] at hE2
  clear ha2 he2
  obtain ⟨b2, c2, p2, r2, s2, u2⟩ := a2
  have n2 : (e2 == 0) = false := beq_false_of_ne hE2
  clear hE2
  have h3 := fun W => ADo_any b c ph pr si un deed t long W
  have z3 := Am.do_right hE3
  rw [hE3] at h3
  obtain ⟨a3, ha3⟩ : ∃ a3, a3 = Am.doA ⟨b, c, ph, pr, si, un⟩ deed t long := ⟨_, rfl⟩
  rw [← ha3] at h3 z3
  clear ha3 hE3
  obtain ⟨b3, c3, p3, r3, s3, u3⟩ := a3
  obtain ⟨x1, y1, y2, y3, y4, y5⟩ := z3
  simp only at y1 y2 y3 y4 y5
  replace y1 := y1.symm
  replace y2 := y2.symm
  replace y3 := y3.symm
  replace y4 := y4.symm
  subst y1 y2 y3 y4
  have i3 := fun W => AIs_any b c p3 pr si u3 W
  rw [x1] at i3
  have d4 : decide (t ≤ u3) = true := decide_eq_true y5
  clear x1 y5
  simp only [sixV] at h1 h2 h3
  go_enter Try.func5, Try.ntmps5
  go_wp2_with fail
  refine (h1 _).mono ?_
  rintro e w1 ⟨rfl, hB1⟩
  have ks := (((Two.new w sb sc 23).alloc (.cells #[.int .i64 b, .int .i64 c, .int .i64 ph, .int .i64 pr, .int .i64 si, .int .i64 un] 25)).below hB1).alloc (.cells #[.int .i64 sb, .int .i64 sc, .int .i64 p1, .int .i64 r1, .int .i64 t, .int .i64 u1] 25)
  have ka := ((Six.new1 w (.cells #[.int .i64 sb, .int .i64 sc] 23) b c ph pr si un 25).below hB1).alloc (.cells #[.int .i64 sb, .int .i64 sc, .int .i64 p1, .int .i64 r1, .int .i64 t, .int .i64 u1] 25)
  have kb := Six.new w1 sb sc p1 r1 t u1 25
  have hB0 := below2 (below2 (below_new2 w _ _) hB1) (below_new w1 (.cells #[.int .i64 sb, .int .i64 sc, .int .i64 p1, .int .i64 r1, .int .i64 t, .int .i64 u1] 25))
  clear h1 hB1
  have fka0 := ka.c0
  have fka1 := ka.c1
  have fka2 := ka.c2
  have fka3 := ka.c3
  have fka4 := ka.c4
  have fka5 := ka.c5
  go_wp2_with fail
  refine (h2 _).mono ?_
  rintro e w2 ⟨rfl, hB1⟩
  clear fka0 fka1 fka2 fka3 fka4 fka5
  replace ks := (ks.below hB1).alloc (.cells #[.int .i64 b2, .int .i64 c2, .int .i64 p2, .int .i64 r2, .int .i64 s2, .int .i64 u2] 25)
  replace ka := (ka.below hB1).alloc (.cells #[.int .i64 b2, .int .i64 c2, .int .i64 p2, .int .i64 r2, .int .i64 s2, .int .i64 u2] 25)
  replace kb := (kb.below hB1).alloc (.cells #[.int .i64 b2, .int .i64 c2, .int .i64 p2, .int .i64 r2, .int .i64 s2, .int .i64 u2] 25)
  have kc := Six.new w2 b2 c2 p2 r2 s2 u2 25
  replace hB0 := below2 (below2 hB0 hB1) (below_new w2 (.cells #[.int .i64 b2, .int .i64 c2, .int .i64 p2, .int .i64 r2, .int .i64 s2, .int .i64 u2] 25))
  clear hB1
  have fka0 := ka.c0
  have fka1 := ka.c1
  have fka2 := ka.c2
  have fka3 := ka.c3
  have fka4 := ka.c4
  have fka5 := ka.c5
  go_wp2_with fail
  refine (h3 _).mono ?_
  rintro e w3 ⟨rfl, hB1⟩
  clear fka0 fka1 fka2 fka3 fka4 fka5
  replace ks := (ks.below hB1).alloc (.cells #[.int .i64 b, .int .i64 c, .int .i64 p3, .int .i64 pr, .int .i64 si, .int .i64 u3] 25)
  replace ka := (ka.below hB1).alloc (.cells #[.int .i64 b, .int .i64 c, .int .i64 p3, .int .i64 pr, .int .i64 si, .int .i64 u3] 25)
  replace kb := (kb.below hB1).alloc (.cells #[.int .i64 b, .int .i64 c, .int .i64 p3, .int .i64 pr, .int .i64 si, .int .i64 u3] 25)
  replace kc := (kc.below hB1).alloc (.cells #[.int .i64 b, .int .i64 c, .int .i64 p3, .int .i64 pr, .int .i64 si, .int .i64 u3] 25)
  have kd := Six.new w3 b c p3 pr si u3 25
  replace hB0 := below2 (below2 hB0 hB1) (below_new w3 (.cells #[.int .i64 b, .int .i64 c, .int .i64 p3, .int .i64 pr, .int .i64 si, .int .i64 u3] 25))
  clear hB1
  clear h2 h3
  have fkb0 := kb.c0
  have fkb1 := kb.c1
  have fkb2 := kb.c2
  have fkb3 := kb.c3
  have fkb4 := kb.c4
  have fkb5 := kb.c5
  go_wp2_with fail
  refine (i1 _).mono ?_
  rintro e w4 ⟨rfl, hB1⟩
  clear fkb0 fkb1 fkb2 fkb3 fkb4 fkb5
  replace ks := ks.below hB1
  replace ka := ka.below hB1
  replace kb := kb.below hB1
  replace kc := kc.below hB1
  replace kd := kd.below hB1
  replace hB0 := below2 hB0 hB1
  clear hB1
  have fks0 := ks.c0
  have fks1 := ks.c1
  have fkb0 := kb.c0
  have fkb1 := kb.c1
  have fkb2 := kb.c2
  have fkb3 := kb.c3
  have fkb4 := kb.c4
  have fkb5 := kb.c5
  go_wp2_with fail
  refine (rung_any _).mono ?_
  rintro e w5 ⟨rfl, hB1⟩
  clear fks0 fks1 fkb0 fkb1 fkb2 fkb3 fkb4 fkb5
  replace ks := ks.below hB1
  replace ka := ka.below hB1
  replace kb := kb.below hB1
  replace kc := kc.below hB1
  replace kd := kd.below hB1
  replace hB0 := below2 hB0 hB1
  clear hB1
  have fkd0 := kd.c0
  have fkd1 := kd.c1
  have fkd2 := kd.c2
  have fkd3 := kd.c3
  have fkd4 := kd.c4
  have fkd5 := kd.c5
  go_wp2_with fail
  refine (i3 _).mono ?_
  rintro e w6 ⟨rfl, hB1⟩
  clear fkd0 fkd1 fkd2 fkd3 fkd4 fkd5
  replace ks := ks.below hB1
  replace ka := ka.below hB1
  replace kb := kb.below hB1
  replace kc := kc.below hB1
  replace kd := kd.below hB1
  replace hB0 := below2 hB0 hB1
  clear hB1
  have fkd0 := kd.c0
  have fkd1 := kd.c1
  have fkd2 := kd.c2
  have fkd3 := kd.c3
  have fkd4 := kd.c4
  have fkd5 := kd.c5
  have fka0 := ka.c0
  have fka1 := ka.c1
  have fka2 := ka.c2
  have fka3 := ka.c3
  have fka4 := ka.c4
  have fka5 := ka.c5
  have HB := Lib.hid hB0
  clear ks ka kb kc kd hB0
  go_wp2
  go_ret
  exact ⟨rfl, HB.out⟩

set_option maxRecDepth 10000 in
set_option maxHeartbeats 4000000 in
theorem alarmRight_ynn (sb sc b c ph pr si un prio deed t long : Int) (w : World) (hE1 : Am.openE sb sc prio t = 0) (hE2 : Am.raiseE ⟨b, c, ph, pr, si, un⟩ prio t ≠ 0) (hE3 : Am.doE ⟨b, c, ph, pr, si, un⟩ deed t long ≠ 0) :
    Calls Try.prog 5 #[.agg #[.int .i64 sb, .int .i64 sc], .agg #[.int .i64 b, .int .i64 c, .int .i64 ph, .int .i64 pr, .int .i64 si, .int .i64 un], .int .i64 prio, .int .i64 deed, .int .i64 t, .int .i64 long] w fun e w' => e = .returned (.bool true) ∧ Below w.heap.size w w' := by
  have h1 := fun W => AOpen_any sb sc prio t W
  have z1 := Am.opn_right hE1
  rw [hE1] at h1
  obtain ⟨a1, ha1⟩ : ∃ a1, a1 = Am.opn sb sc prio t := ⟨_, rfl⟩
  rw [← ha1] at h1 z1
  clear ha1 hE1
  obtain ⟨b1, c1, p1, r1, s1, u1⟩ := a1
  obtain ⟨x1, y1, y2, y3⟩ := z1
  simp only at y1 y2 y3
  replace y1 := y1.symm
  replace y2 := y2.symm
  replace y3 := y3.symm
  subst y1 y2 y3
  have i1 := fun W => AIs_any sb sc p1 r1 t u1 W
  rw [x1] at i1
  clear x1
  have h2 := fun W => ARaise_any b c ph pr si un prio t W
  obtain ⟨a2, ha2⟩ : ∃ a2, a2 = Am.raise ⟨b, c, ph, pr, si, un⟩ prio t := ⟨_, rfl⟩
  obtain ⟨e2, he2⟩ : ∃ e2, e2 = Am.raiseE ⟨b, c, ph, pr, si, un⟩ prio t := ⟨_, rfl⟩
  rw [← ha2, ← he2] at h2
  rw [← he2] at hE2
  clear ha2 he2
  obtain ⟨b2, c2, p2, r2, s2, u2⟩ := a2
  have n2 : (e2 == 0) = false := beq_false_of_ne hE2
  clear hE2
  have h3 := fun W => ADo_any b c ph pr si un deed t long W
  obtain ⟨a3, ha3⟩ : ∃ a3, a3 = Am.doA ⟨b, c, ph, pr, si, un⟩ deed t long := ⟨_, rfl⟩
  obtain ⟨e3, he3⟩ : ∃ e3, e3 = Am.doE ⟨b, c, ph, pr, si, un⟩ deed t long := ⟨_, rfl⟩
  rw [← ha3, ← he3] at h3
  rw [← he3] at hE3
  clear ha3 he3
  obtain ⟨b3, c3, p3, r3, s3, u3⟩ := a3
  have n3 : (e3 != 0) = true := by rw [bne_iff_ne]; exact hE3
  clear hE3
  simp only [sixV] at h1 h2 h3
  go_enter Try.func5, Try.ntmps5
  go_wp2_with fail
  refine (h1 _).mono ?_
  rintro e w1 ⟨rfl, hB1⟩
  have ks := (((Two.new w sb sc 23).alloc (.cells #[.int .i64 b, .int .i64 c, .int .i64 ph, .int .i64 pr, .int .i64 si, .int .i64 un] 25)).below hB1).alloc (.cells #[.int .i64 sb, .int .i64 sc, .int .i64 p1, .int .i64 r1, .int .i64 t, .int .i64 u1] 25)
  have ka := ((Six.new1 w (.cells #[.int .i64 sb, .int .i64 sc] 23) b c ph pr si un 25).below hB1).alloc (.cells #[.int .i64 sb, .int .i64 sc, .int .i64 p1, .int .i64 r1, .int .i64 t, .int .i64 u1] 25)
  have kb := Six.new w1 sb sc p1 r1 t u1 25
  have hB0 := below2 (below2 (below_new2 w _ _) hB1) (below_new w1 (.cells #[.int .i64 sb, .int .i64 sc, .int .i64 p1, .int .i64 r1, .int .i64 t, .int .i64 u1] 25))
  clear h1 hB1
  have fka0 := ka.c0
  have fka1 := ka.c1
  have fka2 := ka.c2
  have fka3 := ka.c3
  have fka4 := ka.c4
  have fka5 := ka.c5
  go_wp2_with fail
  refine (h2 _).mono ?_
  rintro e w2 ⟨rfl, hB1⟩
  clear fka0 fka1 fka2 fka3 fka4 fka5
  replace ks := (ks.below hB1).alloc (.cells #[.int .i64 b2, .int .i64 c2, .int .i64 p2, .int .i64 r2, .int .i64 s2, .int .i64 u2] 25)
  replace ka := (ka.below hB1).alloc (.cells #[.int .i64 b2, .int .i64 c2, .int .i64 p2, .int .i64 r2, .int .i64 s2, .int .i64 u2] 25)
  replace kb := (kb.below hB1).alloc (.cells #[.int .i64 b2, .int .i64 c2, .int .i64 p2, .int .i64 r2, .int .i64 s2, .int .i64 u2] 25)
  have kc := Six.new w2 b2 c2 p2 r2 s2 u2 25
  replace hB0 := below2 (below2 hB0 hB1) (below_new w2 (.cells #[.int .i64 b2, .int .i64 c2, .int .i64 p2, .int .i64 r2, .int .i64 s2, .int .i64 u2] 25))
  clear hB1
  have fka0 := ka.c0
  have fka1 := ka.c1
  have fka2 := ka.c2
  have fka3 := ka.c3
  have fka4 := ka.c4
  have fka5 := ka.c5
  go_wp2_with fail
  refine (h3 _).mono ?_
  rintro e w3 ⟨rfl, hB1⟩
  clear fka0 fka1 fka2 fka3 fka4 fka5
  replace ks := (ks.below hB1).alloc (.cells #[.int .i64 b3, .int .i64 c3, .int .i64 p3, .int .i64 r3, .int .i64 s3, .int .i64 u3] 25)
  replace ka := (ka.below hB1).alloc (.cells #[.int .i64 b3, .int .i64 c3, .int .i64 p3, .int .i64 r3, .int .i64 s3, .int .i64 u3] 25)
  replace kb := (kb.below hB1).alloc (.cells #[.int .i64 b3, .int .i64 c3, .int .i64 p3, .int .i64 r3, .int .i64 s3, .int .i64 u3] 25)
  replace kc := (kc.below hB1).alloc (.cells #[.int .i64 b3, .int .i64 c3, .int .i64 p3, .int .i64 r3, .int .i64 s3, .int .i64 u3] 25)
  have kd := Six.new w3 b3 c3 p3 r3 s3 u3 25
  replace hB0 := below2 (below2 hB0 hB1) (below_new w3 (.cells #[.int .i64 b3, .int .i64 c3, .int .i64 p3, .int .i64 r3, .int .i64 s3, .int .i64 u3] 25))
  clear hB1
  clear h2 h3
  have fkb0 := kb.c0
  have fkb1 := kb.c1
  have fkb2 := kb.c2
  have fkb3 := kb.c3
  have fkb4 := kb.c4
  have fkb5 := kb.c5
  go_wp2_with fail
  refine (i1 _).mono ?_
  rintro e w4 ⟨rfl, hB1⟩
  clear fkb0 fkb1 fkb2 fkb3 fkb4 fkb5
  replace ks := ks.below hB1
  replace ka := ka.below hB1
  replace kb := kb.below hB1
  replace kc := kc.below hB1
  replace kd := kd.below hB1
  replace hB0 := below2 hB0 hB1
  clear hB1
  have fks0 := ks.c0
  have fks1 := ks.c1
  have fkb0 := kb.c0
  have fkb1 := kb.c1
  have fkb2 := kb.c2
  have fkb3 := kb.c3
  have fkb4 := kb.c4
  have fkb5 := kb.c5
  go_wp2_with fail
  refine (rung_any _).mono ?_
  rintro e w5 ⟨rfl, hB1⟩
  clear fks0 fks1 fkb0 fkb1 fkb2 fkb3 fkb4 fkb5
  replace ks := ks.below hB1
  replace ka := ka.below hB1
  replace kb := kb.below hB1
  replace kc := kc.below hB1
  replace kd := kd.below hB1
  replace hB0 := below2 hB0 hB1
  clear hB1
  have HB := Lib.hid hB0
  clear ks ka kb kc kd hB0
  go_wp2
  go_ret
  exact ⟨rfl, HB.out⟩

set_option maxRecDepth 10000 in
set_option maxHeartbeats 4000000 in
theorem alarmRight_nyy (sb sc b c ph pr si un prio deed t long : Int) (w : World) (hE1 : Am.openE sb sc prio t ≠ 0) (hE2 : Am.raiseE ⟨b, c, ph, pr, si, un⟩ prio t = 0) (hE3 : Am.doE ⟨b, c, ph, pr, si, un⟩ deed t long = 0) :
    Calls Try.prog 5 #[.agg #[.int .i64 sb, .int .i64 sc], .agg #[.int .i64 b, .int .i64 c, .int .i64 ph, .int .i64 pr, .int .i64 si, .int .i64 un], .int .i64 prio, .int .i64 deed, .int .i64 t, .int .i64 long] w fun e w' => e = .returned (.bool true) ∧ Below w.heap.size w w' := by
  have h1 := fun W => AOpen_any sb sc prio t W
  obtain ⟨a1, ha1⟩ : ∃ a1, a1 = Am.opn sb sc prio t := ⟨_, rfl⟩
  obtain ⟨e1, he1⟩ : ∃ e1, e1 = Am.openE sb sc prio t := ⟨_, rfl⟩
  rw [← ha1, ← he1] at h1
  rw [← he1] at hE1
  clear ha1 he1
  obtain ⟨b1, c1, p1, r1, s1, u1⟩ := a1
  have n1 : (e1 == 0) = false := beq_false_of_ne hE1
  clear hE1
  have h2 := fun W => ARaise_any b c ph pr si un prio t W
  have z2 := Am.raise_right hE2
  rw [hE2] at h2
  obtain ⟨a2, ha2⟩ : ∃ a2, a2 = Am.raise ⟨b, c, ph, pr, si, un⟩ prio t := ⟨_, rfl⟩
  rw [← ha2] at h2 z2
  clear ha2 hE2
  obtain ⟨b2, c2, p2, r2, s2, u2⟩ := a2
  obtain ⟨x1, y1, y2, y3, y4, y5⟩ := z2
  simp only at y1 y2 y3 y4 y5
  replace y1 := y1.symm
  replace y2 := y2.symm
  subst y1 y2
  have i2 := fun W => AIs_any b c p2 r2 s2 u2 W
  rw [x1] at i2
  have d1 : decide (pr < r2) = false := decide_eq_false (by omega)
  have d2 : decide (prio < r2) = false := decide_eq_false (by omega)
  have d3 : decide (s2 < si) = false := decide_eq_false (by omega)
  clear x1 y3 y4 y5
  have h3 := fun W => ADo_any b c ph pr si un deed t long W
  have z3 := Am.do_right hE3
  rw [hE3] at h3
  obtain ⟨a3, ha3⟩ : ∃ a3, a3 = Am.doA ⟨b, c, ph, pr, si, un⟩ deed t long := ⟨_, rfl⟩
  rw [← ha3] at h3 z3
  clear ha3 hE3
  obtain ⟨b3, c3, p3, r3, s3, u3⟩ := a3
  obtain ⟨x1, y1, y2, y3, y4, y5⟩ := z3
  simp only at y1 y2 y3 y4 y5
  replace y1 := y1.symm
  replace y2 := y2.symm
  replace y3 := y3.symm
  replace y4 := y4.symm
  subst y1 y2 y3 y4
  have i3 := fun W => AIs_any b c p3 pr si u3 W
  rw [x1] at i3
  have d4 : decide (t ≤ u3) = true := decide_eq_true y5
  clear x1 y5
  simp only [sixV] at h1 h2 h3
  go_enter Try.func5, Try.ntmps5
  go_wp2_with fail
  refine (h1 _).mono ?_
  rintro e w1 ⟨rfl, hB1⟩
  have ks := (((Two.new w sb sc 23).alloc (.cells #[.int .i64 b, .int .i64 c, .int .i64 ph, .int .i64 pr, .int .i64 si, .int .i64 un] 25)).below hB1).alloc (.cells #[.int .i64 b1, .int .i64 c1, .int .i64 p1, .int .i64 r1, .int .i64 s1, .int .i64 u1] 25)
  have ka := ((Six.new1 w (.cells #[.int .i64 sb, .int .i64 sc] 23) b c ph pr si un 25).below hB1).alloc (.cells #[.int .i64 b1, .int .i64 c1, .int .i64 p1, .int .i64 r1, .int .i64 s1, .int .i64 u1] 25)
  have kb := Six.new w1 b1 c1 p1 r1 s1 u1 25
  have hB0 := below2 (below2 (below_new2 w _ _) hB1) (below_new w1 (.cells #[.int .i64 b1, .int .i64 c1, .int .i64 p1, .int .i64 r1, .int .i64 s1, .int .i64 u1] 25))
  clear h1 hB1
  have fka0 := ka.c0
  have fka1 := ka.c1
  have fka2 := ka.c2
  have fka3 := ka.c3
  have fka4 := ka.c4
  have fka5 := ka.c5
  go_wp2_with fail
  refine (h2 _).mono ?_
  rintro e w2 ⟨rfl, hB1⟩
  clear fka0 fka1 fka2 fka3 fka4 fka5
  replace ks := (ks.below hB1).alloc (.cells #[.int .i64 b, .int .i64 c, .int .i64 p2, .int .i64 r2, .int .i64 s2, .int .i64 u2] 25)
  replace ka := (ka.below hB1).alloc (.cells #[.int .i64 b, .int .i64 c, .int .i64 p2, .int .i64 r2, .int .i64 s2, .int .i64 u2] 25)
  replace kb := (kb.below hB1).alloc (.cells #[.int .i64 b, .int .i64 c, .int .i64 p2, .int .i64 r2, .int .i64 s2, .int .i64 u2] 25)
  have kc := Six.new w2 b c p2 r2 s2 u2 25
  replace hB0 := below2 (below2 hB0 hB1) (below_new w2 (.cells #[.int .i64 b, .int .i64 c, .int .i64 p2, .int .i64 r2, .int .i64 s2, .int .i64 u2] 25))
  clear hB1
  have fka0 := ka.c0
  have fka1 := ka.c1
  have fka2 := ka.c2
  have fka3 := ka.c3
  have fka4 := ka.c4
  have fka5 := ka.c5
  go_wp2_with fail
  refine (h3 _).mono ?_
  rintro e w3 ⟨rfl, hB1⟩
  clear fka0 fka1 fka2 fka3 fka4 fka5
  replace ks := (ks.below hB1).alloc (.cells #[.int .i64 b, .int .i64 c, .int .i64 p3, .int .i64 pr, .int .i64 si, .int .i64 u3] 25)
  replace ka := (ka.below hB1).alloc (.cells #[.int .i64 b, .int .i64 c, .int .i64 p3, .int .i64 pr, .int .i64 si, .int .i64 u3] 25)
  replace kb := (kb.below hB1).alloc (.cells #[.int .i64 b, .int .i64 c, .int .i64 p3, .int .i64 pr, .int .i64 si, .int .i64 u3] 25)
  replace kc := (kc.below hB1).alloc (.cells #[.int .i64 b, .int .i64 c, .int .i64 p3, .int .i64 pr, .int .i64 si, .int .i64 u3] 25)
  have kd := Six.new w3 b c p3 pr si u3 25
  replace hB0 := below2 (below2 hB0 hB1) (below_new w3 (.cells #[.int .i64 b, .int .i64 c, .int .i64 p3, .int .i64 pr, .int .i64 si, .int .i64 u3] 25))
  clear hB1
  clear h2 h3
  have fkc0 := kc.c0
  have fkc1 := kc.c1
  have fkc2 := kc.c2
  have fkc3 := kc.c3
  have fkc4 := kc.c4
  have fkc5 := kc.c5
  go_wp2_with fail
  refine (i2 _).mono ?_
  rintro e w4 ⟨rfl, hB1⟩
  clear fkc0 fkc1 fkc2 fkc3 fkc4 fkc5
  replace ks := ks.below hB1
  replace ka := ka.below hB1
  replace kb := kb.below hB1
  replace kc := kc.below hB1
  replace kd := kd.below hB1
  replace hB0 := below2 hB0 hB1
  clear hB1
  have fka0 := ka.c0
  have fka1 := ka.c1
  have fka2 := ka.c2
  have fka3 := ka.c3
  have fka4 := ka.c4
  have fka5 := ka.c5
  have fkc0 := kc.c0
  have fkc1 := kc.c1
  have fkc2 := kc.c2
  have fkc3 := kc.c3
  have fkc4 := kc.c4
  have fkc5 := kc.c5
  go_wp2_with fail
  refine (rung_any _).mono ?_
  rintro e w5 ⟨rfl, hB1⟩
  clear fka0 fka1 fka2 fka3 fka4 fka5 fkc0 fkc1 fkc2 fkc3 fkc4 fkc5
  replace ks := ks.below hB1
  replace ka := ka.below hB1
  replace kb := kb.below hB1
  replace kc := kc.below hB1
  replace kd := kd.below hB1
  replace hB0 := below2 hB0 hB1
  clear hB1
  have fkd0 := kd.c0
  have fkd1 := kd.c1
  have fkd2 := kd.c2
  have fkd3 := kd.c3
  have fkd4 := kd.c4
  have fkd5 := kd.c5
  go_wp2_with fail
  refine (i3 _).mono ?_
  rintro e w6 ⟨rfl, hB1⟩
  clear fkd0 fkd1 fkd2 fkd3 fkd4 fkd5
  replace ks := ks.below hB1
  replace ka := ka.below hB1
  replace kb := kb.below hB1
  replace kc := kc.below hB1
  replace kd := kd.below hB1
  replace hB0 := below2 hB0 hB1
  clear hB1
  have fkd0 := kd.c0
  have fkd1 := kd.c1
  have fkd2 := kd.c2
  have fkd3 := kd.c3
  have fkd4 := kd.c4
  have fkd5 := kd.c5
  have fka0 := ka.c0
  have fka1 := ka.c1
  have fka2 := ka.c2
  have fka3 := ka.c3
  have fka4 := ka.c4
  have fka5 := ka.c5
  have HB := Lib.hid hB0
  clear ks ka kb kc kd hB0
  go_wp2
  go_ret
  exact ⟨rfl, HB.out⟩

set_option maxRecDepth 10000 in
set_option maxHeartbeats 4000000 in
theorem alarmRight_nyn (sb sc b c ph pr si un prio deed t long : Int) (w : World) (hE1 : Am.openE sb sc prio t ≠ 0) (hE2 : Am.raiseE ⟨b, c, ph, pr, si, un⟩ prio t = 0) (hE3 : Am.doE ⟨b, c, ph, pr, si, un⟩ deed t long ≠ 0) :
    Calls Try.prog 5 #[.agg #[.int .i64 sb, .int .i64 sc], .agg #[.int .i64 b, .int .i64 c, .int .i64 ph, .int .i64 pr, .int .i64 si, .int .i64 un], .int .i64 prio, .int .i64 deed, .int .i64 t, .int .i64 long] w fun e w' => e = .returned (.bool true) ∧ Below w.heap.size w w' := by
  have h1 := fun W => AOpen_any sb sc prio t W
  obtain ⟨a1, ha1⟩ : ∃ a1, a1 = Am.opn sb sc prio t := ⟨_, rfl⟩
  obtain ⟨e1, he1⟩ : ∃ e1, e1 = Am.openE sb sc prio t := ⟨_, rfl⟩
  rw [← ha1, ← he1] at h1
  rw [← he1] at hE1
  clear ha1 he1
  obtain ⟨b1, c1, p1, r1, s1, u1⟩ := a1
  have n1 : (e1 == 0) = false := beq_false_of_ne hE1
  clear hE1
  have h2 := fun W => ARaise_any b c ph pr si un prio t W
  have z2 := Am.raise_right hE2
  rw [hE2] at h2
  obtain ⟨a2, ha2⟩ : ∃ a2, a2 = Am.raise ⟨b, c, ph, pr, si, un⟩ prio t := ⟨_, rfl⟩
  rw [← ha2] at h2 z2
  clear ha2 hE2
  obtain ⟨b2, c2, p2, r2, s2, u2⟩ := a2
  obtain ⟨x1, y1, y2, y3, y4, y5⟩ := z2
  simp only at y1 y2 y3 y4 y5
  replace y1 := y1.symm
  replace y2 := y2.symm
  subst y1 y2
  have i2 := fun W => AIs_any b c p2 r2 s2 u2 W
  rw [x1] at i2
  have d1 : decide (pr < r2) = false := decide_eq_false (by omega)
  have d2 : decide (prio < r2) = false := decide_eq_false (by omega)
  have d3 : decide (s2 < si) = false := decide_eq_false (by omega)
  clear x1 y3 y4 y5
  have h3 := fun W => ADo_any b c ph pr si un deed t long W
  obtain ⟨a3, ha3⟩ : ∃ a3, a3 = Am.doA ⟨b, c, ph, pr, si, un⟩ deed t long := ⟨_, rfl⟩
  obtain ⟨e3, he3⟩ : ∃ e3, e3 = Am.doE ⟨b, c, ph, pr, si, un⟩ deed t long := ⟨_, rfl⟩
  rw [← ha3, ← he3] at h3
  rw [← he3] at hE3
  clear ha3 he3
  obtain ⟨b3, c3, p3, r3, s3, u3⟩ := a3
  have n3 : (e3 != 0) = true := by rw [bne_iff_ne]; exact hE3
  clear hE3
  simp only [sixV] at h1 h2 h3
  go_enter Try.func5, Try.ntmps5
  go_wp2_with fail
  refine (h1 _).mono ?_
  rintro e w1 ⟨rfl, hB1⟩
  have ks := (((Two.new w sb sc 23).alloc (.cells #[.int .i64 b, .int .i64 c, .int .i64 ph, .int .i64 pr, .int .i64 si, .int .i64 un] 25)).below hB1).alloc (.cells #[.int .i64 b1, .int .i64 c1, .int .i64 p1, .int .i64 r1, .int .i64 s1, .int .i64 u1] 25)
  have ka := ((Six.new1 w (.cells #[.int .i64 sb, .int .i64 sc] 23) b c ph pr si un 25).below hB1).alloc (.cells #[.int .i64 b1, .int .i64 c1, .int .i64 p1, .int .i64 r1, .int .i64 s1, .int .i64 u1] 25)
  have kb := Six.new w1 b1 c1 p1 r1 s1 u1 25
  have hB0 := below2 (below2 (below_new2 w _ _) hB1) (below_new w1 (.cells #[.int .i64 b1, .int .i64 c1, .int .i64 p1, .int .i64 r1, .int .i64 s1, .int .i64 u1] 25))
  clear h1 hB1
  have fka0 := ka.c0
  have fka1 := ka.c1
  have fka2 := ka.c2
  have fka3 := ka.c3
  have fka4 := ka.c4
  have fka5 := ka.c5
  go_wp2_with fail
  refine (h2 _).mono ?_
  rintro e w2 ⟨rfl, hB1⟩
  clear fka0 fka1 fka2 fka3 fka4 fka5
  replace ks := (ks.below hB1).alloc (.cells #[.int .i64 b, .int .i64 c, .int .i64 p2, .int .i64 r2, .int .i64 s2, .int .i64 u2] 25)
  replace ka := (ka.below hB1).alloc (.cells #[.int .i64 b, .int .i64 c, .int .i64 p2, .int .i64 r2, .int .i64 s2, .int .i64 u2] 25)
  replace kb := (kb.below hB1).alloc (.cells #[.int .i64 b, .int .i64 c, .int .i64 p2, .int .i64 r2, .int .i64 s2, .int .i64 u2] 25)
  have kc := Six.new w2 b c p2 r2 s2 u2 25
  replace hB0 := below2 (below2 hB0 hB1) (below_new w2 (.cells #[.int .i64 b, .int .i64 c, .int .i64 p2, .int .i64 r2, .int .i64 s2, .int .i64 u2] 25))
  clear hB1
  have fka0 := ka.c0
  have fka1 := ka.c1
  have fka2 := ka.c2
  have fka3 := ka.c3
  have fka4 := ka.c4
  have fka5 := ka.c5
  go_wp2_with fail
  refine (h3 _).mono ?_
  rintro e w3 ⟨rfl, hB1⟩
  clear fka0 fka1 fka2 fka3 fka4 fka5
  replace ks := (ks.below hB1).alloc (.cells #[.int .i64 b3, .int .i64 c3, .int .i64 p3, .int .i64 r3, .int .i64 s3, .int .i64 u3] 25)
  replace ka := (ka.below hB1).alloc (.cells #[.int .i64 b3, .int .i64 c3, .int .i64 p3, .int .i64 r3, .int .i64 s3, .int .i64 u3] 25)
  replace kb := (kb.below hB1).alloc (.cells #[.int .i64 b3, .int .i64 c3, .int .i64 p3, .int .i64 r3, .int .i64 s3, .int .i64 u3] 25)
  replace kc := (kc.below hB1).alloc (.cells #[.int .i64 b3, .int .i64 c3, .int .i64 p3, .int .i64 r3, .int .i64 s3, .int .i64 u3] 25)
  have kd := Six.new w3 b3 c3 p3 r3 s3 u3 25
  replace hB0 := below2 (below2 hB0 hB1) (below_new w3 (.cells #[.int .i64 b3, .int .i64 c3, .int .i64 p3, .int .i64 r3, .int .i64 s3, .int .i64 u3] 25))
  clear hB1
  clear h2 h3
  have fkc0 := kc.c0
  have fkc1 := kc.c1
  have fkc2 := kc.c2
  have fkc3 := kc.c3
  have fkc4 := kc.c4
  have fkc5 := kc.c5
  go_wp2_with fail
  refine (i2 _).mono ?_
  rintro e w4 ⟨rfl, hB1⟩
  clear fkc0 fkc1 fkc2 fkc3 fkc4 fkc5
  replace ks := ks.below hB1
  replace ka := ka.below hB1
  replace kb := kb.below hB1
  replace kc := kc.below hB1
  replace kd := kd.below hB1
  replace hB0 := below2 hB0 hB1
  clear hB1
  have fka0 := ka.c0
  have fka1 := ka.c1
  have fka2 := ka.c2
  have fka3 := ka.c3
  have fka4 := ka.c4
  have fka5 := ka.c5
  have fkc0 := kc.c0
  have fkc1 := kc.c1
  have fkc2 := kc.c2
  have fkc3 := kc.c3
  have fkc4 := kc.c4
  have fkc5 := kc.c5
  go_wp2_with fail
  refine (rung_any _).mono ?_
  rintro e w5 ⟨rfl, hB1⟩
  clear fka0 fka1 fka2 fka3 fka4 fka5 fkc0 fkc1 fkc2 fkc3 fkc4 fkc5
  replace ks := ks.below hB1
  replace ka := ka.below hB1
  replace kb := kb.below hB1
  replace kc := kc.below hB1
  replace kd := kd.below hB1
  replace hB0 := below2 hB0 hB1
  clear hB1
  have HB := Lib.hid hB0
  clear ks ka kb kc kd hB0
  go_wp2
  go_ret
  exact ⟨rfl, HB.out⟩

set_option maxRecDepth 10000 in
set_option maxHeartbeats 4000000 in
theorem alarmRight_nny (sb sc b c ph pr si un prio deed t long : Int) (w : World) (hE1 : Am.openE sb sc prio t ≠ 0) (hE2 : Am.raiseE ⟨b, c, ph, pr, si, un⟩ prio t ≠ 0) (hE3 : Am.doE ⟨b, c, ph, pr, si, un⟩ deed t long = 0) :
    Calls Try.prog 5 #[.agg #[.int .i64 sb, .int .i64 sc], .agg #[.int .i64 b, .int .i64 c, .int .i64 ph, .int .i64 pr, .int .i64 si, .int .i64 un], .int .i64 prio, .int .i64 deed, .int .i64 t, .int .i64 long] w fun e w' => e = .returned (.bool true) ∧ Below w.heap.size w w' := by
  have h1 := fun W => AOpen_any sb sc prio t W
  obtain ⟨a1, ha1⟩ : ∃ a1, a1 = Am.opn sb sc prio t := ⟨_, rfl⟩
  obtain ⟨e1, he1⟩ : ∃ e1, e1 = Am.openE sb sc prio t := ⟨_, rfl⟩
  rw [← ha1, ← he1] at h1
  rw [← he1] at hE1
  clear ha1 he1
  obtain ⟨b1, c1, p1, r1, s1, u1⟩ := a1
  have n1 : (e1 == 0) = false := beq_false_of_ne hE1
  clear hE1
  have h2 := fun W => ARaise_any b c ph pr si un prio t W
  obtain ⟨a2, ha2⟩ : ∃ a2, a2 = Am.raise ⟨b, c, ph, pr, si, un⟩ prio t := ⟨_, rfl⟩
  obtain ⟨e2, he2⟩ : ∃ e2, e2 = Am.raiseE ⟨b, c, ph, pr, si, un⟩ prio t := ⟨_, rfl⟩
  rw [← ha2, ← he2] at h2
  rw [← he2] at hE2
  clear ha2 he2
  obtain ⟨b2, c2, p2, r2, s2, u2⟩ := a2
  have n2 : (e2 == 0) = false := beq_false_of_ne hE2
  clear hE2
  have h3 := fun W => ADo_any b c ph pr si un deed t long W
  have z3 := Am.do_right hE3
  rw [hE3] at h3
  obtain ⟨a3, ha3⟩ : ∃ a3, a3 = Am.doA ⟨b, c, ph, pr, si, un⟩ deed t long := ⟨_, rfl⟩
  rw [← ha3] at h3 z3
  clear ha3 hE3
  obtain ⟨b3, c3, p3, r3, s3, u3⟩ := a3
  obtain ⟨x1, y1, y2, y3, y4, y5⟩ := z3
  simp only at y1 y2 y3 y4 y5
  replace y1 := y1.symm
  replace y2 := y2.symm
  replace y3 := y3.symm
  replace y4 := y4.symm
  subst y1 y2 y3 y4
  have i3 := fun W => AIs_any b c p3 pr si u3 W
  rw [x1] at i3
  have d4 : decide (t ≤ u3) = true := decide_eq_true y5
  clear x1 y5
  simp only [sixV] at h1 h2 h3
  go_enter Try.func5, Try.ntmps5
  go_wp2_with fail
  refine (h1 _).mono ?_
  rintro e w1 ⟨rfl, hB1⟩
  have ks := (((Two.new w sb sc 23).alloc (.cells #[.int .i64 b, .int .i64 c, .int .i64 ph, .int .i64 pr, .int .i64 si, .int .i64 un] 25)).below hB1).alloc (.cells #[.int .i64 b1, .int .i64 c1, .int .i64 p1, .int .i64 r1, .int .i64 s1, .int .i64 u1] 25)
  have ka := ((Six.new1 w (.cells #[.int .i64 sb, .int .i64 sc] 23) b c ph pr si un 25).below hB1).alloc (.cells #[.int .i64 b1, .int .i64 c1, .int .i64 p1, .int .i64 r1, .int .i64 s1, .int .i64 u1] 25)
  have kb := Six.new w1 b1 c1 p1 r1 s1 u1 25
  have hB0 := below2 (below2 (below_new2 w _ _) hB1) (below_new w1 (.cells #[.int .i64 b1, .int .i64 c1, .int .i64 p1, .int .i64 r1, .int .i64 s1, .int .i64 u1] 25))
  clear h1 hB1
  have fka0 := ka.c0
  have fka1 := ka.c1
  have fka2 := ka.c2
  have fka3 := ka.c3
  have fka4 := ka.c4
  have fka5 := ka.c5
  go_wp2_with fail
  refine (h2 _).mono ?_
  rintro e w2 ⟨rfl, hB1⟩
  clear fka0 fka1 fka2 fka3 fka4 fka5
  replace ks := (ks.below hB1).alloc (.cells #[.int .i64 b2, .int .i64 c2, .int .i64 p2, .int .i64 r2, .int .i64 s2, .int .i64 u2] 25)
  replace ka := (ka.below hB1).alloc (.cells #[.int .i64 b2, .int .i64 c2, .int .i64 p2, .int .i64 r2, .int .i64 s2, .int .i64 u2] 25)
  replace kb := (kb.below hB1).alloc (.cells #[.int .i64 b2, .int .i64 c2, .int .i64 p2, .int .i64 r2, .int .i64 s2, .int .i64 u2] 25)
  have kc := Six.new w2 b2 c2 p2 r2 s2 u2 25
  replace hB0 := below2 (below2 hB0 hB1) (below_new w2 (.cells #[.int .i64 b2, .int .i64 c2, .int .i64 p2, .int .i64 r2, .int .i64 s2, .int .i64 u2] 25))
  clear hB1
  have fka0 := ka.c0
  have fka1 := ka.c1
  have fka2 := ka.c2
  have fka3 := ka.c3
  have fka4 := ka.c4
  have fka5 := ka.c5
  go_wp2_with fail
  refine (h3 _).mono ?_
  rintro e w3 ⟨rfl, hB1⟩
  clear fka0 fka1 fka2 fka3 fka4 fka5
  replace ks := (ks.below hB1).alloc (.cells #[.int .i64 b, .int .i64 c, .int .i64 p3, .int .i64 pr, .int .i64 si, .int .i64 u3] 25)
  replace ka := (ka.below hB1).alloc (.cells #[.int .i64 b, .int .i64 c, .int .i64 p3, .int .i64 pr, .int .i64 si, .int .i64 u3] 25)
  replace kb := (kb.below hB1).alloc (.cells #[.int .i64 b, .int .i64 c, .int .i64 p3, .int .i64 pr, .int .i64 si, .int .i64 u3] 25)
  replace kc := (kc.below hB1).alloc (.cells #[.int .i64 b, .int .i64 c, .int .i64 p3, .int .i64 pr, .int .i64 si, .int .i64 u3] 25)
  have kd := Six.new w3 b c p3 pr si u3 25
  replace hB0 := below2 (below2 hB0 hB1) (below_new w3 (.cells #[.int .i64 b, .int .i64 c, .int .i64 p3, .int .i64 pr, .int .i64 si, .int .i64 u3] 25))
  clear hB1
  clear h2 h3
  go_wp2_with fail
  refine (rung_any _).mono ?_
  rintro e w4 ⟨rfl, hB1⟩
  replace ks := ks.below hB1
  replace ka := ka.below hB1
  replace kb := kb.below hB1
  replace kc := kc.below hB1
  replace kd := kd.below hB1
  replace hB0 := below2 hB0 hB1
  clear hB1
  have fkd0 := kd.c0
  have fkd1 := kd.c1
  have fkd2 := kd.c2
  have fkd3 := kd.c3
  have fkd4 := kd.c4
  have fkd5 := kd.c5
  go_wp2_with fail
  refine (i3 _).mono ?_
  rintro e w5 ⟨rfl, hB1⟩
  clear fkd0 fkd1 fkd2 fkd3 fkd4 fkd5
  replace ks := ks.below hB1
  replace ka := ka.below hB1
  replace kb := kb.below hB1
  replace kc := kc.below hB1
  replace kd := kd.below hB1
  replace hB0 := below2 hB0 hB1
  clear hB1
  have fkd0 := kd.c0
  have fkd1 := kd.c1
  have fkd2 := kd.c2
  have fkd3 := kd.c3
  have fkd4 := kd.c4
  have fkd5 := kd.c5
  have fka0 := ka.c0
  have fka1 := ka.c1
  have fka2 := ka.c2
  have fka3 := ka.c3
  have fka4 := ka.c4
  have fka5 := ka.c5
  have HB := Lib.hid hB0
  clear ks ka kb kc kd hB0
  go_wp2
  go_ret
  exact ⟨rfl, HB.out⟩

set_option maxRecDepth 10000 in
set_option maxHeartbeats 4000000 in
theorem alarmRight_nnn (sb sc b c ph pr si un prio deed t long : Int) (w : World) (hE1 : Am.openE sb sc prio t ≠ 0) (hE2 : Am.raiseE ⟨b, c, ph, pr, si, un⟩ prio t ≠ 0) (hE3 : Am.doE ⟨b, c, ph, pr, si, un⟩ deed t long ≠ 0) :
    Calls Try.prog 5 #[.agg #[.int .i64 sb, .int .i64 sc], .agg #[.int .i64 b, .int .i64 c, .int .i64 ph, .int .i64 pr, .int .i64 si, .int .i64 un], .int .i64 prio, .int .i64 deed, .int .i64 t, .int .i64 long] w fun e w' => e = .returned (.bool true) ∧ Below w.heap.size w w' := by
  have h1 := fun W => AOpen_any sb sc prio t W
  obtain ⟨a1, ha1⟩ : ∃ a1, a1 = Am.opn sb sc prio t := ⟨_, rfl⟩
  obtain ⟨e1, he1⟩ : ∃ e1, e1 = Am.openE sb sc prio t := ⟨_, rfl⟩
  rw [← ha1, ← he1] at h1
  rw [← he1] at hE1
  clear ha1 he1
  obtain ⟨b1, c1, p1, r1, s1, u1⟩ := a1
  have n1 : (e1 == 0) = false := beq_false_of_ne hE1
  clear hE1
  have h2 := fun W => ARaise_any b c ph pr si un prio t W
  obtain ⟨a2, ha2⟩ : ∃ a2, a2 = Am.raise ⟨b, c, ph, pr, si, un⟩ prio t := ⟨_, rfl⟩
  obtain ⟨e2, he2⟩ : ∃ e2, e2 = Am.raiseE ⟨b, c, ph, pr, si, un⟩ prio t := ⟨_, rfl⟩
  rw [← ha2, ← he2] at h2
  rw [← he2] at hE2
  clear ha2 he2
  obtain ⟨b2, c2, p2, r2, s2, u2⟩ := a2
  have n2 : (e2 == 0) = false := beq_false_of_ne hE2
  clear hE2
  have h3 := fun W => ADo_any b c ph pr si un deed t long W
  obtain ⟨a3, ha3⟩ : ∃ a3, a3 = Am.doA ⟨b, c, ph, pr, si, un⟩ deed t long := ⟨_, rfl⟩
  obtain ⟨e3, he3⟩ : ∃ e3, e3 = Am.doE ⟨b, c, ph, pr, si, un⟩ deed t long := ⟨_, rfl⟩
  rw [← ha3, ← he3] at h3
  rw [← he3] at hE3
  clear ha3 he3
  obtain ⟨b3, c3, p3, r3, s3, u3⟩ := a3
  have n3 : (e3 != 0) = true := by rw [bne_iff_ne]; exact hE3
  clear hE3
  simp only [sixV] at h1 h2 h3
  go_enter Try.func5, Try.ntmps5
  go_wp2_with fail
  refine (h1 _).mono ?_
  rintro e w1 ⟨rfl, hB1⟩
  have ks := (((Two.new w sb sc 23).alloc (.cells #[.int .i64 b, .int .i64 c, .int .i64 ph, .int .i64 pr, .int .i64 si, .int .i64 un] 25)).below hB1).alloc (.cells #[.int .i64 b1, .int .i64 c1, .int .i64 p1, .int .i64 r1, .int .i64 s1, .int .i64 u1] 25)
  have ka := ((Six.new1 w (.cells #[.int .i64 sb, .int .i64 sc] 23) b c ph pr si un 25).below hB1).alloc (.cells #[.int .i64 b1, .int .i64 c1, .int .i64 p1, .int .i64 r1, .int .i64 s1, .int .i64 u1] 25)
  have kb := Six.new w1 b1 c1 p1 r1 s1 u1 25
  have hB0 := below2 (below2 (below_new2 w _ _) hB1) (below_new w1 (.cells #[.int .i64 b1, .int .i64 c1, .int .i64 p1, .int .i64 r1, .int .i64 s1, .int .i64 u1] 25))
  clear h1 hB1
  have fka0 := ka.c0
  have fka1 := ka.c1
  have fka2 := ka.c2
  have fka3 := ka.c3
  have fka4 := ka.c4
  have fka5 := ka.c5
  go_wp2_with fail
  refine (h2 _).mono ?_
  rintro e w2 ⟨rfl, hB1⟩
  clear fka0 fka1 fka2 fka3 fka4 fka5
  replace ks := (ks.below hB1).alloc (.cells #[.int .i64 b2, .int .i64 c2, .int .i64 p2, .int .i64 r2, .int .i64 s2, .int .i64 u2] 25)
  replace ka := (ka.below hB1).alloc (.cells #[.int .i64 b2, .int .i64 c2, .int .i64 p2, .int .i64 r2, .int .i64 s2, .int .i64 u2] 25)
  replace kb := (kb.below hB1).alloc (.cells #[.int .i64 b2, .int .i64 c2, .int .i64 p2, .int .i64 r2, .int .i64 s2, .int .i64 u2] 25)
  have kc := Six.new w2 b2 c2 p2 r2 s2 u2 25
  replace hB0 := below2 (below2 hB0 hB1) (below_new w2 (.cells #[.int .i64 b2, .int .i64 c2, .int .i64 p2, .int .i64 r2, .int .i64 s2, .int .i64 u2] 25))
  clear hB1
  have fka0 := ka.c0
  have fka1 := ka.c1
  have fka2 := ka.c2
  have fka3 := ka.c3
  have fka4 := ka.c4
  have fka5 := ka.c5
  go_wp2_with fail
  refine (h3 _).mono ?_
  rintro e w3 ⟨rfl, hB1⟩
  clear fka0 fka1 fka2 fka3 fka4 fka5
  replace ks := (ks.below hB1).alloc (.cells #[.int .i64 b3, .int .i64 c3, .int .i64 p3, .int .i64 r3, .int .i64 s3, .int .i64 u3] 25)
  replace ka := (ka.below hB1).alloc (.cells #[.int .i64 b3, .int .i64 c3, .int .i64 p3, .int .i64 r3, .int .i64 s3, .int .i64 u3] 25)
  replace kb := (kb.below hB1).alloc (.cells #[.int .i64 b3, .int .i64 c3, .int .i64 p3, .int .i64 r3, .int .i64 s3, .int .i64 u3] 25)
  replace kc := (kc.below hB1).alloc (.cells #[.int .i64 b3, .int .i64 c3, .int .i64 p3, .int .i64 r3, .int .i64 s3, .int .i64 u3] 25)
  have kd := Six.new w3 b3 c3 p3 r3 s3 u3 25
  replace hB0 := below2 (below2 hB0 hB1) (below_new w3 (.cells #[.int .i64 b3, .int .i64 c3, .int .i64 p3, .int .i64 r3, .int .i64 s3, .int .i64 u3] 25))
  clear hB1
  clear h2 h3
  go_wp2_with fail
  refine (rung_any _).mono ?_
  rintro e w4 ⟨rfl, hB1⟩
  replace ks := ks.below hB1
  replace ka := ka.below hB1
  replace kb := kb.below hB1
  replace kc := kc.below hB1
  replace kd := kd.below hB1
  replace hB0 := below2 hB0 hB1
  clear hB1
  have HB := Lib.hid hB0
  clear ks ka kb kc kd hB0
  go_wp2
  go_ret
  exact ⟨rfl, HB.out⟩

theorem alarmRight_walk (sb sc b c ph pr si un prio deed t long : Int) (w : World) :
    Calls Try.prog 5 #[.agg #[.int .i64 sb, .int .i64 sc], .agg #[.int .i64 b, .int .i64 c, .int .i64 ph, .int .i64 pr, .int .i64 si, .int .i64 un], .int .i64 prio, .int .i64 deed, .int .i64 t, .int .i64 long] w fun e w' => e = .returned (.bool true) ∧ Below w.heap.size w w' := by
  by_cases hE1 : Am.openE sb sc prio t = 0 <;> by_cases hE2 : Am.raiseE ⟨b, c, ph, pr, si, un⟩ prio t = 0 <;> by_cases hE3 : Am.doE ⟨b, c, ph, pr, si, un⟩ deed t long = 0
  · exact alarmRight_yyy sb sc b c ph pr si un prio deed t long w hE1 hE2 hE3
  · exact alarmRight_yyn sb sc b c ph pr si un prio deed t long w hE1 hE2 hE3
  · exact alarmRight_yny sb sc b c ph pr si un prio deed t long w hE1 hE2 hE3
  · exact alarmRight_ynn sb sc b c ph pr si un prio deed t long w hE1 hE2 hE3
  · exact alarmRight_nyy sb sc b c ph pr si un prio deed t long w hE1 hE2 hE3
  · exact alarmRight_nyn sb sc b c ph pr si un prio deed t long w hE1 hE2 hE3
  · exact alarmRight_nny sb sc b c ph pr si un prio deed t long w hE1 hE2 hE3
  · exact alarmRight_nnn sb sc b c ph pr si un prio deed t long w hE1 hE2 hE3
end Go.Proofs.Ytepcjlnjhbaioaa
