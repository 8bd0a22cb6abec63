/-
  Layer 6 (alarm): the reference's Do, whole; the walk of its Pass.
-/
import Derived.Test.YtepcjlnjhbaioaaRefAlarm6
namespace Go.Proofs.Ytepcjlnjhbaioaa
open Go.RowKit

theorem RDo_any (b c ph pr si un deed t long : Int) (w : World) :
    Calls Try.prog 19 #[.agg #[.int .i64 b, .int .i64 c, .int .i64 ph, .int .i64 pr, .int .i64 si, .int .i64 un], .int .i64 deed, .int .i64 t, .int .i64 long] w fun e w' => e = .returned (.tuple #[.agg (sixV (Am.doA ⟨b, c, ph, pr, si, un⟩ deed t long)), .int .i64 (Am.doE ⟨b, c, ph, pr, si, un⟩ deed t long)]) ∧ Below w.heap.size w w' := by
  unfold Am.doA
  unfold Am.doE
  simp only
  cases hr : Am.right ⟨b, c, ph, pr, si, un⟩
  · simp only [Bool.not_false, Bool.true_or, if_true]
    rw [if_neg (by decide)]
    exact RDo_e1 b c ph pr si un deed t long w hr
  · cases ht : Am.isT t
    · simp only [Bool.not_true, Bool.not_false, Bool.false_or, Bool.true_or, if_true]
      rw [if_neg (by decide)]
      exact RDo_e2 b c ph pr si un deed t long w hr ht
    · cases hc : Am.canDo deed long
      · simp only [Bool.not_true, Bool.not_false, Bool.false_or, if_true]
        rw [if_neg (by decide)]
        have hn : ¬ ((deed = 2 ∨ deed = 3 ∨ deed = 4 ∨ deed = 6) ∧ (deed = 4 → 1 ≤ long ∧ long ≤ 1000)) := fun h => by rw [Am.canDo_iff.2 h] at hc; cases hc
        by_cases hd : deed = 2 ∨ deed = 3 ∨ deed = 4 ∨ deed = 6
        · have h4 : deed = 4 := by omega
          subst h4
          rcases (by omega : long < 1 ∨ (1 ≤ long ∧ 1000 < long)) with hl | ⟨hl, hl2⟩
          · exact RDo_e4 b c ph pr si un t long w hr ht hl
          · exact RDo_e5 b c ph pr si un t long w hr ht hl hl2
        · exact RDo_e3 b c ph pr si un deed t long w hr ht (by rw [bne_iff_ne]; omega) (by rw [bne_iff_ne]; omega) (by rw [bne_iff_ne]; omega) (by rw [bne_iff_ne]; omega)
      · obtain ⟨hd, hl⟩ := Am.canDo_iff.1 hc
        have hr' := Am.right_iff.1 hr
        simp only at hr'
        have hT := Am.isT_iff.1 ht
        have hw := Am.wait_bounds pr
        have h6 : wrap64 (t + Am.wait pr) = t + Am.wait pr := by unfold wrap64; omega
        simp only [Bool.not_true, Bool.or_false, Bool.false_eq_true, if_false]
        by_cases hs : t < si
        · rw [if_pos hs, if_neg (by decide)]
          rcases hd with rfl | rfl | rfl | rfl
          · exact RDo_p2 b c ph pr si un t long w hr ht hs
          · exact RDo_p3 b c ph pr si un t long w hr ht hs
          · exact RDo_p4 b c ph pr si un t long w hr ht (hl rfl).1 (hl rfl).2 hs
          · exact RDo_p6 b c ph pr si un t long w hr ht hs
        · rw [if_neg hs]
          have s0 : decide (t < si) = false := decide_eq_false hs
          cases ho : Lf.ok ph deed
          · rw [if_pos rfl, if_neg (by decide)]
            rcases hd with rfl | rfl | rfl | rfl
            · exact RDo_f2 b c ph pr si un t long w hr ht s0 ho
            · exact RDo_f3 b c ph pr si un t long w hr ht s0 ho
            · exact RDo_f4 b c ph pr si un t long w hr ht (hl rfl).1 (hl rfl).2 s0 ho
            · exact RDo_f6 b c ph pr si un t long w hr ht s0 ho
          · rw [if_neg (show ¬ (true = false) by decide)]
            by_cases hu : (deed = 2 ∨ deed = 6) ∧ t < un
            · rw [if_pos hu, if_neg (by decide)]
              rcases hu.1 with rfl | rfl
              · exact RDo_y2 b c ph pr si un t long w hr ht s0 ho hu.2
              · exact RDo_y6 b c ph pr si un t long w hr ht s0 ho hu.2
            · rw [if_neg hu, if_pos (rfl : (0 : Int) = 0)]
              rcases hd with rfl | rfl | rfl | rfl
              · exact RDo_k2 b c ph pr si un t long w hr ht s0 (decide_eq_false (by omega)) ho h6
              · exact RDo_k3 b c ph pr si un t long w hr ht s0 ho h6
              · exact RDo_k4 b c ph pr si un t long w hr ht (hl rfl).1 (hl rfl).2 s0 ho (by have := hl rfl; unfold wrap64; omega) h6
              · exact RDo_k6 b c ph pr si un t long w hr ht s0 (decide_eq_false (by omega)) ho h6

/-- What n steps of time make. -/
def stepN (a : Alm) (t : Int) : Nat → Alm
  | 0 => a
  | n + 1 => Am.step (stepN a t n) t
theorem step_bounds {a : Alm} {t : Int} {m : Int} (h0 : 0 ≤ a.un) (hm : a.un ≤ m) : 0 ≤ (Am.step a t).un ∧ (Am.step a t).un ≤ m + 90 ∧ (Am.step a t).pr = a.pr := by
  have hw := Am.wait_bounds a.pr
  by_cases h4 : a.ph = 4 ∧ a.un ≤ t
  · rw [Am.step_four h4.1 h4.2]; refine ⟨?_, ?_, rfl⟩ <;> simp only <;> omega
  · by_cases h1 : a.ph = 1 ∧ a.un ≤ t
    · rw [Am.step_one h1.1 h1.2]; refine ⟨?_, ?_, rfl⟩ <;> simp only <;> omega
    · rw [Am.step_still (by omega)]; exact ⟨h0, by omega, rfl⟩
theorem stepN_bounds {a : Alm} {t : Int} (h0 : 0 ≤ a.un) (hm : a.un ≤ 1000002000) (n : Nat) : 0 ≤ (stepN a t n).un ∧ (stepN a t n).un ≤ 1000002000 + 90 * n := by
  induction n with
  | zero => exact ⟨h0, by simpa [stepN] using hm⟩
  | succ n ih =>
    have := step_bounds (t := t) ih.1 ih.2
    unfold stepN
    refine ⟨this.1, ?_⟩
    have := this.2.1
    omega

/-- What holds ahead of each round of Pass. -/
def PassRel (w : World) (a : Alm) (t : Int) (i : Value) (wr : World) : Prop :=
  ∃ n : Nat, n ≤ 3 ∧ i = .int .i64 (n : Int) ∧ Six wr w.heap.size (stepN a t n) ∧ Six wr (w.heap.size + 1) ⟨0, 0, 0, 0, 0, 0⟩ ∧ Below w.heap.size w wr

theorem Six.put {w : World} {k : Nat} {a a' : Alm} {t : TypeId} (h : w.heap[k]? = some (.cells (sixV a) t (0, 0))) : Six (w.setRow k (sixV a')) k a' := ⟨t, setRow_heap _ _ _ _ _ _ h⟩
theorem Six.putO {w : World} {k g : Nat} {a : Alm} {cs : Array Value} (h : Six w k a) (hne : k ≠ g) : Six (w.setRow g cs) k a := by
  obtain ⟨t, hb⟩ := h.blk
  exact ⟨t, (setRow_other w g k cs hne).trans hb⟩

set_option maxRecDepth 10000 in
set_option maxHeartbeats 4000000 in
theorem RPass_any (b c ph pr si un t : Int) (w : World) :
    Calls Try.prog 21 #[.agg #[.int .i64 b, .int .i64 c, .int .i64 ph, .int .i64 pr, .int .i64 si, .int .i64 un], .int .i64 t] w fun e w' => e = .returned (.agg (sixV (Am.pass ⟨b, c, ph, pr, si, un⟩ t))) ∧ Below w.heap.size w w' := by
  have g1 := fun W => RAIs_any b c ph pr si un W
  cases hr : Am.right ⟨b, c, ph, pr, si, un⟩
  · rw [Am.pass_wrong t hr]
    rw [hr] at g1
    clear hr
    go_enter Try.func21, Try.ntmps21
    go_wp2_with fail
    refine (g1 _).mono ?_
    rintro e w1 ⟨rfl, hB⟩
    have ka := ((Six.new w b c ph pr si un 25).alloc (.cells #[.int .i64 0, .int .i64 0, .int .i64 0, .int .i64 0, .int .i64 0, .int .i64 0] 25)).below hB
    have kz := (Six.new1 w (.cells #[.int .i64 b, .int .i64 c, .int .i64 ph, .int .i64 pr, .int .i64 si, .int .i64 un] 25) 0 0 0 0 0 0 25).below hB
    have HB := Lib.hid (below2 (below_new2 w _ _) hB)
    obtain ⟨tn, hn⟩ := ka.blk
    obtain ⟨tz, hz⟩ := kz.blk
    have Hn := Lib.hid hn
    have Hz := Lib.hid hz
    clear g1 hB hn hz ka kz
    go_wp2_with (first
      | (refine wpList_load_row rfl 25 _ rfl w.heap.size rfl tn (sixV ⟨b, c, ph, pr, si, un⟩) (0, 0) _ Hn.out Try.underlying25 rfl (by rfl) ?_)
      | (refine wpList_store_row rfl 25 _ _ rfl (w.heap.size + 1) (sixV ⟨b, c, ph, pr, si, un⟩) rfl rfl tz _ Hz.out (by rfl) rfl (six_one _) ?_))
    (try simp only [Exit.inBlock, Exit.then]); refine bodyPost_ret (ret_alarm1 (a := ⟨b, c, ph, pr, si, un⟩) rfl rfl ⟨tz, setRow_heap _ _ _ _ _ _ Hz.out⟩) rfl ?_
    exact ⟨rfl, below_setRow HB.out (by omega) _⟩
  · have hr' := Am.right_iff.1 hr
    simp only at hr'
    have Hbd := fun n => Lib.hid (stepN_bounds (a := ⟨b, c, ph, pr, si, un⟩) (t := t) (by simp only; omega) (by simp only; omega) n)
    have He : Hid (Am.pass ⟨b, c, ph, pr, si, un⟩ t = stepN ⟨b, c, ph, pr, si, un⟩ t 3) := Lib.hid (by unfold Am.pass; rw [if_pos hr]; rfl)
    rw [hr] at g1
    rw [He.out]
    clear hr hr' He
    obtain ⟨a0, ha0⟩ : ∃ a0 : Alm, a0 = ⟨b, c, ph, pr, si, un⟩ := ⟨_, rfl⟩
    rw [← ha0] at Hbd ⊢
    have Ha0 := Lib.hid ha0
    clear ha0
    go_enter Try.func21, Try.ntmps21
    go_wp2_with fail
    refine (g1 _).mono ?_
    rintro e w1 ⟨rfl, hB⟩
    have ka := Lib.hid (((Six.new w b c ph pr si un 25).alloc (.cells #[.int .i64 0, .int .i64 0, .int .i64 0, .int .i64 0, .int .i64 0, .int .i64 0] 25)).below hB)
    have kz := Lib.hid ((Six.new1 w (.cells #[.int .i64 b, .int .i64 c, .int .i64 ph, .int .i64 pr, .int .i64 si, .int .i64 un] 25) 0 0 0 0 0 0 25).below hB)
    have HB := Lib.hid (below2 (below_new2 w _ _) hB)
    rw [← Ha0.out] at ka
    clear g1 hB
    go_wp2_with fail
    go_loopw [5] (fun i wr => PassRel w a0 t i wr) (fun i _ => 3 - (intOf i).toNat)
    case atStart => exact ⟨0, by omega, rfl, ka.out, kz.out, HB.out⟩
    case round =>
      obtain ⟨n, hn, rfl, k1, k2, hB⟩ := hrel
      have HB1 := Lib.hid hB
      clear ka kz HB hB
      by_cases hlt : n < 3
      · have Hn := Lib.hid hlt
        have Hb := Hbd n
        have Hst : Hid (stepN a0 t (n + 1) = Am.step (stepN a0 t n) t) := Lib.hid rfl
        obtain ⟨a, ha⟩ : ∃ a, a = stepN a0 t n := ⟨_, rfl⟩
        rw [← ha] at k1 Hb Hst
        obtain ⟨b', c', p', r', s', u'⟩ := a
        have i3 : (n : Int) < 3 := by omega
        have Iw : Hid (wrap64 ((n : Int) + 1) = (n : Int) + 1) := Lib.hid (by unfold wrap64; omega)
        have q2 := k1.c2
        have q5 := k1.c5
        simp only at q2 q5
        obtain ⟨tn, htn⟩ := k1.blk
        have Htn := Lib.hid htn
        have K1 := Lib.hid k1
        have K2 := Lib.hid k2
        have hw := Am.wait_bounds r'
        have Hw6 : Hid (wrap64 (u' + Am.wait r') = u' + Am.wait r') := Lib.hid (by have h := Hb.out; simp only at h; unfold wrap64; omega)
        clear ha htn k1 k2 hlt hn hw
        by_cases h4 : p' = 4 ∧ u' ≤ t
        · obtain ⟨rfl, hu⟩ := h4
          have He : Hid (stepN a0 t (n + 1) = Am.turn ⟨b', c', 4, r', s', u'⟩ 6 u' 0) := Lib.hid (by rw [Hst.out]; unfold Am.step; rw [if_pos ⟨rfl, hu⟩])
          have g5 := fun W => Rturn_any b' c' 4 r' s' u' 6 u' 0 W (fun h => absurd h (by decide)) Hw6.out
          obtain ⟨a', ha'⟩ : ∃ a', a' = Am.turn ⟨b', c', 4, r', s', u'⟩ 6 u' 0 := ⟨_, rfl⟩
          rw [← ha'] at g5 He
          clear ha' Hst
          go_wp2_with (refine wpList_load_row rfl 25 _ rfl w.heap.size rfl tn (sixV ⟨b', c', 4, r', s', u'⟩) (0, 0) _ Htn.out Try.underlying25 rfl (by rfl) ?_)
          refine (g5 _).mono ?_
          rintro e w5 ⟨rfl, hB5⟩
          obtain ⟨tm, hm⟩ := (K1.out.below hB5).blk
          have Hm := Lib.hid hm
          have K5 := Lib.hid (K2.out.below hB5)
          have HB5 := Lib.hid (below2 HB1.out hB5)
          clear g5 hB5 hm q2 q5
          go_wp2_with (refine wpList_store_row rfl 25 _ _ rfl w.heap.size (sixV a') rfl rfl tm _ Hm.out (by rfl) rfl (six_one _) ?_)
          go_roundw
          case rel => exact ⟨n + 1, Hn.out, by first | rfl | (rw [Iw.out]; rfl), by rw [He.out]; exact Six.put Hm.out, K5.out.putO (by omega), below_setRow HB5.out (Nat.le_refl _) _⟩
          case measure => have := Hn.out; (try rw [Iw.out]); simp [intOf]; omega
        · by_cases h1 : p' = 1 ∧ u' ≤ t
          · obtain ⟨rfl, hu⟩ := h1
            have He : Hid (stepN a0 t (n + 1) = Am.turn ⟨b', c', 1, r', s', u'⟩ 2 u' 0) := Lib.hid (by rw [Hst.out]; unfold Am.step; rw [if_neg (by simp), if_pos ⟨rfl, hu⟩])
            have g5 := fun W => Rturn_any b' c' 1 r' s' u' 2 u' 0 W (fun h => absurd h (by decide)) Hw6.out
            obtain ⟨a', ha'⟩ : ∃ a', a' = Am.turn ⟨b', c', 1, r', s', u'⟩ 2 u' 0 := ⟨_, rfl⟩
            rw [← ha'] at g5 He
            clear ha' Hst
            go_wp2_with (refine wpList_load_row rfl 25 _ rfl w.heap.size rfl tn (sixV ⟨b', c', 1, r', s', u'⟩) (0, 0) _ Htn.out Try.underlying25 rfl (by rfl) ?_)
            refine (g5 _).mono ?_
            rintro e w5 ⟨rfl, hB5⟩
            obtain ⟨tm, hm⟩ := (K1.out.below hB5).blk
            have Hm := Lib.hid hm
            have K5 := Lib.hid (K2.out.below hB5)
            have HB5 := Lib.hid (below2 HB1.out hB5)
            clear g5 hB5 hm q2 q5
            go_wp2_with (refine wpList_store_row rfl 25 _ _ rfl w.heap.size (sixV a') rfl rfl tm _ Hm.out (by rfl) rfl (six_one _) ?_)
            go_roundw
            case rel => exact ⟨n + 1, Hn.out, by first | rfl | (rw [Iw.out]; rfl), by rw [He.out]; exact Six.put Hm.out, K5.out.putO (by omega), below_setRow HB5.out (Nat.le_refl _) _⟩
            case measure => have := Hn.out; (try rw [Iw.out]); simp [intOf]; omega
          · by_cases p4 : p' = 4
            · subst p4
              have hu : decide (u' ≤ t) = false := decide_eq_false (fun h => h4 ⟨rfl, h⟩)
              have He : Hid (stepN a0 t (n + 1) = ⟨b', c', 4, r', s', u'⟩) := Lib.hid (by rw [Hst.out]; exact Am.step_still (fun h => h4 ⟨rfl, h.2⟩))
              clear Hst Hw6
              go_wp2
              go_roundw
              case rel => exact ⟨n + 1, Hn.out, by first | rfl | (rw [Iw.out]; rfl), by rw [He.out]; exact K1.out, K2.out, HB1.out⟩
              case measure => have := Hn.out; (try rw [Iw.out]); simp [intOf]; omega
            · by_cases p1 : p' = 1
              · subst p1
                have hu : decide (u' ≤ t) = false := decide_eq_false (fun h => h1 ⟨rfl, h⟩)
                have He : Hid (stepN a0 t (n + 1) = ⟨b', c', 1, r', s', u'⟩) := Lib.hid (by rw [Hst.out]; exact Am.step_still (fun h => h1 ⟨rfl, h.2⟩))
                clear Hst Hw6
                go_wp2
                go_roundw
                case rel => exact ⟨n + 1, Hn.out, by first | rfl | (rw [Iw.out]; rfl), by rw [He.out]; exact K1.out, K2.out, HB1.out⟩
                case measure => have := Hn.out; (try rw [Iw.out]); simp [intOf]; omega
              · have e4 : (p' == 4) = false := by rw [beq_eq_false_iff_ne]; exact p4
                have e1 : (p' == 1) = false := by rw [beq_eq_false_iff_ne]; exact p1
                have He : Hid (stepN a0 t (n + 1) = ⟨b', c', p', r', s', u'⟩) := Lib.hid (by rw [Hst.out]; exact Am.step_still (fun h => by rcases h.1 with h | h; exact p4 h; exact p1 h))
                clear Hst Hw6
                go_wp2
                go_roundw
                case rel => exact ⟨n + 1, Hn.out, by first | rfl | (rw [Iw.out]; rfl), by rw [He.out]; exact K1.out, K2.out, HB1.out⟩
                case measure => have := Hn.out; (try rw [Iw.out]); simp [intOf]; omega
      · obtain rfl : n = 3 := by omega
        obtain ⟨tn, htn⟩ := k1.blk
        obtain ⟨tz, htz⟩ := k2.blk
        have Htn := Lib.hid htn
        have Htz := Lib.hid htz
        obtain ⟨a, ha⟩ : ∃ a, a = stepN a0 t 3 := ⟨_, rfl⟩
        rw [← ha] at Htn
        have Ha := Lib.hid ha
        clear k1 k2 htn htz ha hn hlt Hbd
        go_wp2_with (first
          | (refine wpList_load_row rfl 25 _ rfl w.heap.size rfl tn (sixV a) (0, 0) _ Htn.out Try.underlying25 rfl (by rfl) ?_)
          | (refine wpList_store_row rfl 25 _ _ rfl (w.heap.size + 1) (sixV a) rfl rfl tz _ Htz.out (by rfl) rfl (six_one _) ?_))
        (try simp only [Exit.inBlock, Exit.then]); refine bodyPost_ret (ret_alarm1 (a := a) rfl rfl ⟨tz, setRow_heap _ _ _ _ _ _ Htz.out⟩) rfl ?_
        exact ⟨by rw [Ha.out], below_setRow HB1.out (by omega) _⟩
end Go.Proofs.Ytepcjlnjhbaioaa
