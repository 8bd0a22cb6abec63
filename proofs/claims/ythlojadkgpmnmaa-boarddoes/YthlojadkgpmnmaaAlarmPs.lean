/-
  Layer 6 (alarm): the walk of Pass.
-/
import Derived.Test.YthlojadkgpmnmaaAlarmWake
namespace Go.Proofs.Ythlojadkgpmnmaa
open Go.RowKit

/-- Three steps of time. -/
def Am.run (a : Alm) (t : Int) : Alm := Am.step (Am.step (Am.step a t) t) t
theorem Am.still_of {a : Alm} {t : Int} (h : Am.step a t = a) : Am.run a t = a := by unfold Am.run; rw [h, h, h]
theorem Am.run_four {b c r s u t : Int} (hu : u ≤ t) : Am.run ⟨b, c, 4, r, s, u⟩ t = Am.run ⟨b, c, 1, r, s, u + Am.wait r⟩ t := by
  have e1 : Am.step ⟨b, c, 4, r, s, u⟩ t = ⟨b, c, 1, r, s, u + Am.wait r⟩ := Am.step_four rfl hu
  unfold Am.run
  rw [e1]
  by_cases hv : u + Am.wait r ≤ t
  · have e2 : Am.step ⟨b, c, 1, r, s, u + Am.wait r⟩ t = ⟨b, c, 2, r, s, u + Am.wait r⟩ := Am.step_one rfl hv
    have e3 : Am.step ⟨b, c, 2, r, s, u + Am.wait r⟩ t = ⟨b, c, 2, r, s, u + Am.wait r⟩ := Am.step_still (by simp)
    rw [e2, e3, e3]
  · have e2 : Am.step ⟨b, c, 1, r, s, u + Am.wait r⟩ t = ⟨b, c, 1, r, s, u + Am.wait r⟩ := Am.step_still (by simp; omega)
    rw [e2, e2, e2]
theorem Am.run_one {b c r s u t : Int} (hu : u ≤ t) : Am.run ⟨b, c, 1, r, s, u⟩ t = Am.run ⟨b, c, 2, r, s, u⟩ t := by
  have e1 : Am.step ⟨b, c, 1, r, s, u⟩ t = ⟨b, c, 2, r, s, u⟩ := Am.step_one rfl hu
  have e2 : Am.step ⟨b, c, 2, r, s, u⟩ t = ⟨b, c, 2, r, s, u⟩ := Am.step_still (by simp)
  unfold Am.run
  rw [e1, e2, e2, e2]
theorem Am.run_late {b c p r s u t : Int} (hu : ¬ u ≤ t) : Am.run ⟨b, c, p, r, s, u⟩ t = ⟨b, c, p, r, s, u⟩ := Am.still_of (Am.step_still (fun h => hu h.2))
theorem Am.run_else {b c p r s u t : Int} (h4 : p ≠ 4) (h1 : p ≠ 1) : Am.run ⟨b, c, p, r, s, u⟩ t = ⟨b, c, p, r, s, u⟩ := Am.still_of (Am.step_still (fun h => by rcases h.1 with h | h; exact h4 h; exact h1 h))
theorem Am.in_two (b c r s u : Int) : Am.inA ⟨b, c, 1, r, s, u⟩ 2 u u = ⟨b, c, 2, r, s, u⟩ := by
  unfold Am.inA; simp only; rw [if_pos (by decide), if_neg (by omega), Am.nx_two]
theorem Am.in_six (b c r s u v : Int) : Am.inA ⟨b, c, 4, r, s, u⟩ 6 u v = ⟨b, c, 1, r, s, v⟩ := by
  unfold Am.inA; simp only; rw [if_pos (by decide), if_neg (by omega), Am.nx_six]

/-- How many rounds are left. -/
def roundsOf : Option Value → Nat
  | some (.int .i64 n) => if n = 4 then 2 else if n = 1 then 1 else 0
  | _ => 0
theorem rounds_four : roundsOf (some (.int .i64 4)) = 2 := rfl
theorem rounds_one : roundsOf (some (.int .i64 1)) = 1 := rfl
theorem rounds_two : roundsOf (some (.int .i64 2)) = 0 := rfl

/-- What holds ahead of each round of Pass. -/
def PassR (w : World) (a0 : Alm) (t : Int) (wr : World) : Prop :=
  ∃ a : Alm, Six wr w.heap.size a ∧ Six wr (w.heap.size + 1) ⟨0, 0, 0, 0, 0, 0⟩ ∧ Below w.heap.size w wr ∧ Am.run a t = Am.run a0 t ∧ (a.ph = 4 → 0 ≤ a.un ∧ a.un ≤ 1000002000)

set_option maxRecDepth 10000 in
set_option maxHeartbeats 4000000 in
theorem pass_w (b c ph pr si un t : Int) (w : World) (hr : Am.right ⟨b, c, ph, pr, si, un⟩ = false) :
    Calls Try.prog 29 #[.agg #[.int .i64 b, .int .i64 c, .int .i64 ph, .int .i64 pr, .int .i64 si, .int .i64 un], .int .i64 t] w fun e w' => e = .returned (.agg (sixV ⟨b, c, ph, pr, si, un⟩)) ∧ Below w.heap.size w w' := by
  have g1 := fun W => AIs_any b c ph pr si un W
  rw [hr] at g1
  clear hr
  go_enter Try.func29, Try.ntmps29
  go_wp2_with fail
  refine (g1 _).mono ?_
  rintro e w1 ⟨rfl, hB⟩
  have Ka := Lib.hid (((Six.new w b c ph pr si un 28).alloc (.cells #[.int .i64 0, .int .i64 0, .int .i64 0, .int .i64 0, .int .i64 0, .int .i64 0] 28)).below hB)
  have Kz := Lib.hid ((Six.new1 w (.cells #[.int .i64 b, .int .i64 c, .int .i64 ph, .int .i64 pr, .int .i64 si, .int .i64 un] 28) 0 0 0 0 0 0 28).below hB)
  have HB := Lib.hid (below2 (below_new2 w _ _) hB)
  clear g1 hB
  go_wp2_with (first
    | (refine wpList_load_six rfl 28 _ rfl w.heap.size _ rfl Ka.out _ Try.underlying28 rfl (by rfl) ?_)
    | (refine wpList_store_six rfl 28 _ _ rfl (w.heap.size + 1) _ ⟨b, c, ph, pr, si, un⟩ rfl rfl Kz.out (by rfl) ?_; intro w6 hw6; have K6 := Lib.hid (Kz.out.put6 hw6); have HB6 := Lib.hid (below_put6 HB.out (by omega) hw6); clear hw6))
  (try simp only [Exit.inBlock, Exit.then]); refine bodyPost_ret (ret_alarm1 (a := ⟨b, c, ph, pr, si, un⟩) rfl rfl K6.out) rfl ?_
  exact ⟨rfl, HB6.out⟩

set_option maxRecDepth 10000 in
set_option maxHeartbeats 4000000 in
theorem pass_r (b c ph pr si un t : Int) (w : World) (hr : Am.right ⟨b, c, ph, pr, si, un⟩ = true) :
    Calls Try.prog 29 #[.agg #[.int .i64 b, .int .i64 c, .int .i64 ph, .int .i64 pr, .int .i64 si, .int .i64 un], .int .i64 t] w fun e w' => e = .returned (.agg (sixV (Am.run ⟨b, c, ph, pr, si, un⟩ t))) ∧ Below w.heap.size w w' := by
  have g1 := fun W => AIs_any b c ph pr si un W
  have hr' := Am.right_iff.1 hr
  simp only at hr'
  have Hu : Hid (0 ≤ un ∧ un ≤ 1000002000) := Lib.hid (by omega)
  rw [hr] at g1
  clear hr hr'
  obtain ⟨z, hz⟩ : ∃ z, z = Am.run ⟨b, c, ph, pr, si, un⟩ t := ⟨_, rfl⟩
  have Hz := Lib.hid hz
  rw [← hz]
  clear hz
  go_enter Try.func29, Try.ntmps29
  go_wp2_with fail
  refine (g1 _).mono ?_
  rintro e w1 ⟨rfl, hB⟩
  have Ka := Lib.hid (((Six.new w b c ph pr si un 28).alloc (.cells #[.int .i64 0, .int .i64 0, .int .i64 0, .int .i64 0, .int .i64 0, .int .i64 0] 28)).below hB)
  have Kz := Lib.hid ((Six.new1 w (.cells #[.int .i64 b, .int .i64 c, .int .i64 ph, .int .i64 pr, .int .i64 si, .int .i64 un] 28) 0 0 0 0 0 0 28).below hB)
  have HB := Lib.hid (below2 (below_new2 w _ _) hB)
  clear g1 hB
  have HR : Hid (PassR w ⟨b, c, ph, pr, si, un⟩ t w1) := Lib.hid ⟨_, Ka.out, Kz.out, HB.out, rfl, fun _ => Hu.out⟩
  clear Ka Kz HB Hu
  go_wp2_with fail
  go_loopw [5] (fun _ wr => PassR w ⟨b, c, ph, pr, si, un⟩ t wr) (fun _ wr => roundsOf (wr.cell? ⟨w.heap.size, 2, none⟩))
  case atStart => exact HR.out
  case round =>
    clear HR
    obtain ⟨⟨b', c', p', r', s', u'⟩, k1, k2, hB, hrun, h4⟩ := hrel
    rw [← Hz.out] at hrun
    have Hrun := Lib.hid hrun
    have K1 := Lib.hid k1
    have K2 := Lib.hid k2
    have HB := Lib.hid hB
    have Hle : Hid (w.heap.size + 1 < wr.heap.size) := Lib.hid k2.lt
    simp only at h4
    by_cases hu : u' ≤ t
    · have Hu := Lib.hid hu
      by_cases p1 : p' = 1
      · skip
        subst p1
        have g5 := fun W => escalate_any b' c' 1 r' s' u' u' 0 W
        rw [Am.in_two] at g5
        obtain ⟨Y, hY⟩ : ∃ Y, Y = Am.inE ⟨b', c', 1, r', s', u'⟩ 2 u' := ⟨_, rfl⟩
        rw [← hY] at g5
        clear hY
        have Hc2 := Lib.hid k1.c2
        have c0 := k1.c0
        have c1 := k1.c1
        have c2 := k1.c2
        have c3 := k1.c3
        have c4 := k1.c4
        have c5 := k1.c5
        simp only at c0 c1 c2 c3 c4 c5
        clear k1 k2 hB hrun h4
        go_wp2_with (first
          | (refine wpList_load_six rfl 70 _ rfl wr.heap.size _ rfl HQ.out _ Try.underlying70 rfl (by rfl) ?_)
          | (refine wpList_store_six rfl 72 _ _ rfl wr.heap.size _ ⟨b', c', 1, r', s', u'⟩ rfl rfl (Six.new wr 0 0 0 0 0 0 _) (by rfl) ?_
             intro w2 hw2
             have Q2 := (Six.new wr 0 0 0 0 0 0 72).put6 hw2
             have A2 := Lib.hid ((K1.out.alloc (.cells #[.int .i64 0, .int .i64 0, .int .i64 0, .int .i64 0, .int .i64 0, .int .i64 0] 72)).put6O (by have := Hle.out; omega) hw2)
             have Z2 := Lib.hid ((K2.out.alloc (.cells #[.int .i64 0, .int .i64 0, .int .i64 0, .int .i64 0, .int .i64 0, .int .i64 0] 72)).put6O (by have := Hle.out; omega) hw2)
             have HB2 := Lib.hid (below_put6 (HB.out.alloc (by have := Hle.out; omega) _) (by have := Hle.out; omega) hw2)
             have d2 := Q2.c2
             have d5 := Q2.c5
             have HQ := Lib.hid Q2
             clear hw2 Q2 c0 c1 c2 c3 c4 c5))
        refine (g5 _).mono ?_
        rintro e w3 ⟨rfl, hB3⟩
        have A3 := Lib.hid (A2.out.below hB3)
        have Z3 := Lib.hid (Z2.out.below hB3)
        have HB3 := Lib.hid (below2 HB2.out hB3)
        clear g5 hB3 A2 Z2 HB2 HQ d2 d5
        go_wp2_with (refine wpList_store_six rfl 28 _ _ rfl w.heap.size _ ⟨b', c', 2, r', s', u'⟩ rfl rfl A3.out (by rfl) ?_; intro w4 hw4; have A4 := Lib.hid (A3.out.put6 hw4); have Z4 := Lib.hid (Z3.out.put6O (by omega) hw4); have HB4 := Lib.hid (below_put6 HB3.out (Nat.le_refl _) hw4); clear hw4)
        refine ⟨?_, ?measure⟩
        · (repeat apply Exists.intro)
          refine ⟨?_, rfl⟩
          exact ⟨_, A4.out, Z4.out, HB4.out, by rw [← Hz.out, ← Hrun.out]; exact (Am.run_one Hu.out).symm, fun h => absurd h (by simp)⟩
        case measure => rw [A4.out.c2, Hc2.out]; show roundsOf (some (.int .i64 _)) < roundsOf (some (.int .i64 _)); first | (rw [rounds_two, rounds_one]; decide) | (rw [rounds_one, rounds_four]; decide)
      · by_cases p4 : p' = 4
        · skip
          subst p4
          have hw := Am.wait_bounds r'
          have hb := h4 rfl
          have g5 := fun W => wake_any b' c' 4 r' s' u' u' 0 W (Lib.hid (by rw [IntKind.wrap_i64]; omega))
          clear hw hb
          rw [Am.in_six] at g5
          obtain ⟨Y, hY⟩ : ∃ Y, Y = Am.inE ⟨b', c', 4, r', s', u'⟩ 6 u' := ⟨_, rfl⟩
          rw [← hY] at g5
          clear hY
          have Hc2 := Lib.hid k1.c2
          have c0 := k1.c0
          have c1 := k1.c1
          have c2 := k1.c2
          have c3 := k1.c3
          have c4 := k1.c4
          have c5 := k1.c5
          simp only at c0 c1 c2 c3 c4 c5
          clear k1 k2 hB hrun h4
          go_wp2_with (first
            | (refine wpList_load_six rfl 70 _ rfl wr.heap.size _ rfl HQ.out _ Try.underlying70 rfl (by rfl) ?_)
            | (refine wpList_store_six rfl 72 _ _ rfl wr.heap.size _ ⟨b', c', 4, r', s', u'⟩ rfl rfl (Six.new wr 0 0 0 0 0 0 _) (by rfl) ?_
               intro w2 hw2
               have Q2 := (Six.new wr 0 0 0 0 0 0 72).put6 hw2
               have A2 := Lib.hid ((K1.out.alloc (.cells #[.int .i64 0, .int .i64 0, .int .i64 0, .int .i64 0, .int .i64 0, .int .i64 0] 72)).put6O (by have := Hle.out; omega) hw2)
               have Z2 := Lib.hid ((K2.out.alloc (.cells #[.int .i64 0, .int .i64 0, .int .i64 0, .int .i64 0, .int .i64 0, .int .i64 0] 72)).put6O (by have := Hle.out; omega) hw2)
               have HB2 := Lib.hid (below_put6 (HB.out.alloc (by have := Hle.out; omega) _) (by have := Hle.out; omega) hw2)
               have d2 := Q2.c2
               have d5 := Q2.c5
               have HQ := Lib.hid Q2
               clear hw2 Q2 c0 c1 c2 c3 c4 c5))
          refine (g5 _).mono ?_
          rintro e w3 ⟨rfl, hB3⟩
          have A3 := Lib.hid (A2.out.below hB3)
          have Z3 := Lib.hid (Z2.out.below hB3)
          have HB3 := Lib.hid (below2 HB2.out hB3)
          clear g5 hB3 A2 Z2 HB2 HQ d2 d5
          go_wp2_with (refine wpList_store_six rfl 28 _ _ rfl w.heap.size _ ⟨b', c', 1, r', s', u' + Am.wait r'⟩ rfl rfl A3.out (by rfl) ?_; intro w4 hw4; have A4 := Lib.hid (A3.out.put6 hw4); have Z4 := Lib.hid (Z3.out.put6O (by omega) hw4); have HB4 := Lib.hid (below_put6 HB3.out (Nat.le_refl _) hw4); clear hw4)
          refine ⟨?_, ?measure⟩
          · (repeat apply Exists.intro)
            refine ⟨?_, rfl⟩
            exact ⟨_, A4.out, Z4.out, HB4.out, by rw [← Hz.out, ← Hrun.out]; exact (Am.run_four Hu.out).symm, fun h => absurd h (by simp)⟩
          case measure => rw [A4.out.c2, Hc2.out]; show roundsOf (some (.int .i64 _)) < roundsOf (some (.int .i64 _)); first | (rw [rounds_two, rounds_one]; decide) | (rw [rounds_one, rounds_four]; decide)
        · have e4 : (p' == 4) = false := by rw [beq_eq_false_iff_ne]; exact p4
          have e1 : (p' == 1) = false := by rw [beq_eq_false_iff_ne]; exact p1
          have He : Hid (z = ⟨b', c', p', r', s', u'⟩) := Lib.hid (by rw [← Hrun.out]; exact Am.run_else p4 p1)
          have c0 := k1.c0
          have c1 := k1.c1
          have c2 := k1.c2
          have c3 := k1.c3
          have c4 := k1.c4
          have c5 := k1.c5
          simp only at c0 c1 c2 c3 c4 c5
          clear k1 k2 hB hrun h4 p1 p4
          go_wp2_with (first
            | (refine wpList_load_six rfl 28 _ rfl w.heap.size _ rfl A2.out _ Try.underlying28 rfl (by rfl) ?_)
            | (refine wpList_store_six rfl 28 _ _ rfl (w.heap.size + 1) _ ⟨b', c', p', r', s', u'⟩ rfl rfl Z2.out (by rfl) ?_; intro w6 hw6; have K6 := Lib.hid (Z2.out.put6 hw6); have HB6 := Lib.hid (below_put6 HB2.out (by omega) hw6); clear hw6)
            | (refine wpList_store_six rfl 72 _ _ rfl wr.heap.size _ ⟨b', c', p', r', s', u'⟩ rfl rfl (Six.new wr 0 0 0 0 0 0 _) (by rfl) ?_
               intro w2 hw2
               have Q2 := (Six.new wr 0 0 0 0 0 0 72).put6 hw2
               have A2 := Lib.hid ((K1.out.alloc (.cells #[.int .i64 0, .int .i64 0, .int .i64 0, .int .i64 0, .int .i64 0, .int .i64 0] 72)).put6O (by have := Hle.out; omega) hw2)
               have Z2 := Lib.hid ((K2.out.alloc (.cells #[.int .i64 0, .int .i64 0, .int .i64 0, .int .i64 0, .int .i64 0, .int .i64 0] 72)).put6O (by have := Hle.out; omega) hw2)
               have HB2 := Lib.hid (below_put6 (HB.out.alloc (by have := Hle.out; omega) _) (by have := Hle.out; omega) hw2)
               have d2 := Q2.c2
               have d5 := Q2.c5
               have HQ := Lib.hid Q2
               clear hw2 Q2 c0 c1 c2 c3 c4 c5))
          (try simp only [Exit.inBlock, Exit.then]); refine bodyPost_ret (ret_alarm1 (a := ⟨b', c', p', r', s', u'⟩) rfl rfl K6.out) rfl ?_
          exact ⟨by rw [He.out], HB6.out⟩
    · have He : Hid (z = ⟨b', c', p', r', s', u'⟩) := Lib.hid (by rw [← Hrun.out]; exact Am.run_late hu)
      have hu' : decide (u' ≤ t) = false := decide_eq_false hu
      have c5 := k1.c5
      simp only at c5
      clear k1 k2 hB hrun h4 hu
      go_wp2_with (first
        | (refine wpList_load_six rfl 28 _ rfl w.heap.size _ rfl K1.out _ Try.underlying28 rfl (by rfl) ?_)
        | (refine wpList_store_six rfl 28 _ _ rfl (w.heap.size + 1) _ ⟨b', c', p', r', s', u'⟩ rfl rfl K2.out (by rfl) ?_; intro w6 hw6; have K6 := Lib.hid (K2.out.put6 hw6); have HB6 := Lib.hid (below_put6 HB.out (by omega) hw6); clear hw6))
      (try simp only [Exit.inBlock, Exit.then]); refine bodyPost_ret (ret_alarm1 (a := ⟨b', c', p', r', s', u'⟩) rfl rfl K6.out) rfl ?_
      exact ⟨by rw [He.out], HB6.out⟩

theorem APass_any (b c ph pr si un t : Int) (w : World) :
    Calls Try.prog 29 #[.agg #[.int .i64 b, .int .i64 c, .int .i64 ph, .int .i64 pr, .int .i64 si, .int .i64 un], .int .i64 t] w fun e w' => e = .returned (.agg (sixV (Am.pass ⟨b, c, ph, pr, si, un⟩ t))) ∧ Below w.heap.size w w' := by
  cases hr : Am.right ⟨b, c, ph, pr, si, un⟩
  · rw [Am.pass_wrong t hr]
    exact pass_w b c ph pr si un t w hr
  · have e : Am.pass ⟨b, c, ph, pr, si, un⟩ t = Am.run ⟨b, c, ph, pr, si, un⟩ t := by unfold Am.pass Am.run; rw [if_pos hr]
    rw [e]
    exact pass_r b c ph pr si un t w hr
end Go.Proofs.Ythlojadkgpmnmaa
