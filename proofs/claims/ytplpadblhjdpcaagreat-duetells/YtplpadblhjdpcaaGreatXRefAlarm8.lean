/-
  Layer 6 (alarm): the reference's Pass.
-/
import Derived.Test.YtplpadblhjdpcaaGreatXRefAlarm5
import Derived.Lib.Hide
namespace Go.Proofs.YtplpadblhjdpcaaGreat
set_option maxRecDepth 10000
open Go.RowKit

def stepN (a : Alm) (t : Int) : Nat → Alm
  | 0 => a
  | n + 1 => Am.step (stepN a t n) t
theorem step_bounds {a : Alm} {t : Int} {m : Int} (h0 : 0 ≤ a.un) (hm : a.un ≤ m) : 0 ≤ (Am.step a t).un ∧ (Am.step a t).un ≤ m + 90 ∧ (Am.step a t).pr = a.pr := by
  have hw := Am.wait_bounds a.pr
  by_cases h4 : a.ph = 4 ∧ a.un ≤ t
  · rw [Am.step_four h4.1 h4.2]; refine ⟨?_, ?_, rfl⟩ <;> simp only <;> omega
  · by_cases h1 : a.ph = 1 ∧ a.un ≤ t
    · rw [Am.step_one h1.1 h1.2]; refine ⟨?_, ?_, rfl⟩ <;> simp only <;> omega
    · rw [Am.step_still (by omega)]; exact ⟨h0, by omega, rfl⟩
theorem stepN_bounds {a : Alm} {t : Int} (h0 : 0 ≤ a.un) (hm : a.un ≤ 1000002000) (n : Nat) : 0 ≤ (stepN a t n).un ∧ (stepN a t n).un ≤ 1000002000 + 90 * n := by
  induction n with
  | zero => exact ⟨h0, by simpa [stepN] using hm⟩
  | succ n ih =>
    have := step_bounds (t := t) ih.1 ih.2
    unfold stepN
    refine ⟨this.1, ?_⟩
    have := this.2.1
    omega

/-- What holds ahead of each round of Pass. -/
def PassRel (w : World) (a : Alm) (t : Int) (i : Value) (wr : World) : Prop :=
  ∃ n : Nat, n ≤ 3 ∧ i = .int .i64 (n : Int) ∧ Six wr w.heap.size (stepN a t n) ∧ Six wr (w.heap.size + 1) ⟨0, 0, 0, 0, 0, 0⟩ ∧ Below w.heap.size w wr

theorem Six.put {w : World} {k : Nat} {a a' : Alm} {t : TypeId} (h : w.heap[k]? = some (.cells (sixV a) t (0, 0))) : Six (w.setRow k (sixV a')) k a' := ⟨t, setRow_heap _ _ _ _ _ _ h⟩
theorem Six.putO {w : World} {k g : Nat} {a : Alm} {cs : Array Value} (h : Six w k a) (hne : k ≠ g) : Six (w.setRow g cs) k a := by
  obtain ⟨t, hb⟩ := h.blk
  exact ⟨t, (setRow_other w g k cs hne).trans hb⟩

set_option maxRecDepth 10000 in
set_option maxHeartbeats 4000000 in
theorem RPass_any (b c ph pr si un t : Int) (w : World) :
    Calls Tryz.prog 30 #[.agg #[.int .i64 b, .int .i64 c, .int .i64 ph, .int .i64 pr, .int .i64 si, .int .i64 un], .int .i64 t] w fun e w' => e = .returned (.agg (sixV (Am.pass ⟨b, c, ph, pr, si, un⟩ t))) ∧ Below w.heap.size w w' := by
  have g1 := fun W => RAIs_any b c ph pr si un W
  cases hr : Am.right ⟨b, c, ph, pr, si, un⟩
  · rw [Am.pass_wrong t hr]
    rw [hr] at g1
    clear hr
    go_enter Tryz.func30, Tryz.ntmps30
    go_wp2_with fail
    refine (g1 _).mono ?_
    rintro e w1 ⟨rfl, hB⟩
    have ka := ((Six.new w b c ph pr si un 38).alloc (.cells #[.int .i64 0, .int .i64 0, .int .i64 0, .int .i64 0, .int .i64 0, .int .i64 0] 38)).below hB
    have kz := (Six.new1 w (.cells #[.int .i64 b, .int .i64 c, .int .i64 ph, .int .i64 pr, .int .i64 si, .int .i64 un] 38) 0 0 0 0 0 0 38).below hB
    have HB := Lib.hid (below2 (below_new2 w _ _) hB)
    obtain ⟨tn, hn⟩ := ka.blk
    obtain ⟨tz, hz⟩ := kz.blk
    have Hn := Lib.hid hn
    have Hz := Lib.hid hz
    clear g1 hB hn hz ka kz
    go_wp2_with (first
      | (refine wpList_load_row rfl 38 _ rfl w.heap.size rfl tn (sixV ⟨b, c, ph, pr, si, un⟩) (0, 0) _ Hn.out Tryz.underlying38 rfl (by rfl) ?_)
      | (refine wpList_store_row rfl 38 _ _ rfl (w.heap.size + 1) (sixV ⟨b, c, ph, pr, si, un⟩) rfl rfl tz _ Hz.out (by rfl) rfl (six_one _) ?_))
    (try simp only [Exit.inBlock, Exit.then]); refine bodyPost_ret (ret_alarm1 (a := ⟨b, c, ph, pr, si, un⟩) rfl rfl ⟨tz, setRow_heap _ _ _ _ _ _ Hz.out⟩) rfl ?_
    exact ⟨rfl, below_setRow HB.out (by omega) _⟩
  · have hr' := Am.right_iff.1 hr
    simp only at hr'
    have Hbd := fun n => Lib.hid (stepN_bounds (a := ⟨b, c, ph, pr, si, un⟩) (t := t) (by simp only; omega) (by simp only; omega) n)
    have He : Hid (Am.pass ⟨b, c, ph, pr, si, un⟩ t = stepN ⟨b, c, ph, pr, si, un⟩ t 3) := Lib.hid (by unfold Am.pass; rw [if_pos hr]; rfl)
    rw [hr] at g1
    rw [He.out]
    clear hr hr' He
    obtain ⟨a0, ha0⟩ : ∃ a0 : Alm, a0 = ⟨b, c, ph, pr, si, un⟩ := ⟨_, rfl⟩
    rw [← ha0] at Hbd ⊢
    have Ha0 := Lib.hid ha0
    clear ha0
    go_enter Tryz.func30, Tryz.ntmps30
    go_wp2_with fail
    refine (g1 _).mono ?_
    rintro e w1 ⟨rfl, hB⟩
    have ka := Lib.hid (((Six.new w b c ph pr si un 38).alloc (.cells #[.int .i64 0, .int .i64 0, .int .i64 0, .int .i64 0, .int .i64 0, .int .i64 0] 38)).below hB)
    have kz := Lib.hid ((Six.new1 w (.cells #[.int .i64 b, .int .i64 c, .int .i64 ph, .int .i64 pr, .int .i64 si, .int .i64 un] 38) 0 0 0 0 0 0 38).below hB)
    have HB := Lib.hid (below2 (below_new2 w _ _) hB)
    rw [← Ha0.out] at ka
    clear g1 hB
    go_wp2_with fail
    go_loopw [5] (fun i wr => PassRel w a0 t i wr) (fun i _ => 3 - (intOf i).toNat)
    case atStart => exact ⟨0, by omega, rfl, ka.out, kz.out, HB.out⟩
    case round =>
      obtain ⟨n, hn, rfl, k1, k2, hB⟩ := hrel
      have HB1 := Lib.hid hB
      clear ka kz HB hB
      by_cases hlt : n < 3
      · have Hn := Lib.hid hlt
        have Hb := Hbd n
        have Hst : Hid (stepN a0 t (n + 1) = Am.step (stepN a0 t n) t) := Lib.hid rfl
        obtain ⟨a, ha⟩ : ∃ a, a = stepN a0 t n := ⟨_, rfl⟩
        rw [← ha] at k1 Hb Hst
        obtain ⟨b', c', p', r', s', u'⟩ := a
        have i3 : (n : Int) < 3 := by omega
        have Iw : Hid (wrap64 ((n : Int) + 1) = (n : Int) + 1) := Lib.hid (by unfold wrap64; omega)
        have q2 := k1.c2
        have q5 := k1.c5
        simp only at q2 q5
        obtain ⟨tn, htn⟩ := k1.blk
        have Htn := Lib.hid htn
        have K1 := Lib.hid k1
        have K2 := Lib.hid k2
        have hw := Am.wait_bounds r'
        have Hw6 : Hid (wrap64 (u' + Am.wait r') = u' + Am.wait r') := Lib.hid (by have h := Hb.out; simp only at h; unfold wrap64; omega)
        clear ha htn k1 k2 hlt hn hw
        by_cases h4 : p' = 4 ∧ u' ≤ t
        · obtain ⟨rfl, hu⟩ := h4
          have He : Hid (stepN a0 t (n + 1) = Am.turn ⟨b', c', 4, r', s', u'⟩ 6 u' 0) := Lib.hid (by rw [Hst.out]; unfold Am.step; rw [if_pos ⟨rfl, hu⟩])
          have g5 := fun W => Rturn_any b' c' 4 r' s' u' 6 u' 0 W (fun h => absurd h (by decide)) Hw6.out
          obtain ⟨a', ha'⟩ : ∃ a', a' = Am.turn ⟨b', c', 4, r', s', u'⟩ 6 u' 0 := ⟨_, rfl⟩
          rw [← ha'] at g5 He
          clear ha' Hst
          go_wp2_with (refine wpList_load_row rfl 38 _ rfl w.heap.size rfl tn (sixV ⟨b', c', 4, r', s', u'⟩) (0, 0) _ Htn.out Tryz.underlying38 rfl (by rfl) ?_)
          refine (g5 _).mono ?_
          rintro e w5 ⟨rfl, hB5⟩
          obtain ⟨tm, hm⟩ := (K1.out.below hB5).blk
          have Hm := Lib.hid hm
          have K5 := Lib.hid (K2.out.below hB5)
          have HB5 := Lib.hid (below2 HB1.out hB5)
          clear g5 hB5 hm q2 q5
          go_wp2_with (refine wpList_store_row rfl 38 _ _ rfl w.heap.size (sixV a') rfl rfl tm _ Hm.out (by rfl) rfl (six_one _) ?_)
          go_roundw
          case rel => exact ⟨n + 1, Hn.out, by first | rfl | (rw [Iw.out]; rfl), by rw [He.out]; exact Six.put Hm.out, K5.out.putO (by omega), below_setRow HB5.out (Nat.le_refl _) _⟩
          case measure => have := Hn.out; (try rw [Iw.out]); simp [intOf]; omega
        · by_cases h1 : p' = 1 ∧ u' ≤ t
          · obtain ⟨rfl, hu⟩ := h1
            have He : Hid (stepN a0 t (n + 1) = Am.turn ⟨b', c', 1, r', s', u'⟩ 2 u' 0) := Lib.hid (by rw [Hst.out]; unfold Am.step; rw [if_neg (by simp), if_pos ⟨rfl, hu⟩])
            have g5 := fun W => Rturn_any b' c' 1 r' s' u' 2 u' 0 W (fun h => absurd h (by decide)) Hw6.out
            obtain ⟨a', ha'⟩ : ∃ a', a' = Am.turn ⟨b', c', 1, r', s', u'⟩ 2 u' 0 := ⟨_, rfl⟩
            rw [← ha'] at g5 He
            clear ha' Hst
            go_wp2_with (refine wpList_load_row rfl 38 _ rfl w.heap.size rfl tn (sixV ⟨b', c', 1, r', s', u'⟩) (0, 0) _ Htn.out Tryz.underlying38 rfl (by rfl) ?_)
            refine (g5 _).mono ?_
            rintro e w5 ⟨rfl, hB5⟩
            obtain ⟨tm, hm⟩ := (K1.out.below hB5).blk
            have Hm := Lib.hid hm
            have K5 := Lib.hid (K2.out.below hB5)
            have HB5 := Lib.hid (below2 HB1.out hB5)
            clear g5 hB5 hm q2 q5
            go_wp2_with (refine wpList_store_row rfl 38 _ _ rfl w.heap.size (sixV a') rfl rfl tm _ Hm.out (by rfl) rfl (six_one _) ?_)
            go_roundw
            case rel => exact ⟨n + 1, Hn.out, by first | rfl | (rw [Iw.out]; rfl), by rw [He.out]; exact Six.put Hm.out, K5.out.putO (by omega), below_setRow HB5.out (Nat.le_refl _) _⟩
            case measure => have := Hn.out; (try rw [Iw.out]); simp [intOf]; omega
          · by_cases p4 : p' = 4
            · subst p4
              have hu : decide (u' ≤ t) = false := decide_eq_false (fun h => h4 ⟨rfl, h⟩)
              have He : Hid (stepN a0 t (n + 1) = ⟨b', c', 4, r', s', u'⟩) := Lib.hid (by rw [Hst.out]; exact Am.step_still (fun h => h4 ⟨rfl, h.2⟩))
              clear Hst Hw6
              go_wp2
              go_roundw
              case rel => exact ⟨n + 1, Hn.out, by first | rfl | (rw [Iw.out]; rfl), by rw [He.out]; exact K1.out, K2.out, HB1.out⟩
              case measure => have := Hn.out; (try rw [Iw.out]); simp [intOf]; omega
            · by_cases p1 : p' = 1
              · subst p1
                have hu : decide (u' ≤ t) = false := decide_eq_false (fun h => h1 ⟨rfl, h⟩)
                have He : Hid (stepN a0 t (n + 1) = ⟨b', c', 1, r', s', u'⟩) := Lib.hid (by rw [Hst.out]; exact Am.step_still (fun h => h1 ⟨rfl, h.2⟩))
                clear Hst Hw6
                go_wp2
                go_roundw
                case rel => exact ⟨n + 1, Hn.out, by first | rfl | (rw [Iw.out]; rfl), by rw [He.out]; exact K1.out, K2.out, HB1.out⟩
                case measure => have := Hn.out; (try rw [Iw.out]); simp [intOf]; omega
              · have e4 : (p' == 4) = false := by rw [beq_eq_false_iff_ne]; exact p4
                have e1 : (p' == 1) = false := by rw [beq_eq_false_iff_ne]; exact p1
                have He : Hid (stepN a0 t (n + 1) = ⟨b', c', p', r', s', u'⟩) := Lib.hid (by rw [Hst.out]; exact Am.step_still (fun h => by rcases h.1 with h | h; exact p4 h; exact p1 h))
                clear Hst Hw6
                go_wp2
                go_roundw
                case rel => exact ⟨n + 1, Hn.out, by first | rfl | (rw [Iw.out]; rfl), by rw [He.out]; exact K1.out, K2.out, HB1.out⟩
                case measure => have := Hn.out; (try rw [Iw.out]); simp [intOf]; omega
      · obtain rfl : n = 3 := by omega
        obtain ⟨tn, htn⟩ := k1.blk
        obtain ⟨tz, htz⟩ := k2.blk
        have Htn := Lib.hid htn
        have Htz := Lib.hid htz
        obtain ⟨a, ha⟩ : ∃ a, a = stepN a0 t 3 := ⟨_, rfl⟩
        rw [← ha] at Htn
        have Ha := Lib.hid ha
        clear k1 k2 htn htz ha hn hlt Hbd
        go_wp2_with (first
          | (refine wpList_load_row rfl 38 _ rfl w.heap.size rfl tn (sixV a) (0, 0) _ Htn.out Tryz.underlying38 rfl (by rfl) ?_)
          | (refine wpList_store_row rfl 38 _ _ rfl (w.heap.size + 1) (sixV a) rfl rfl tz _ Htz.out (by rfl) rfl (six_one _) ?_))
        (try simp only [Exit.inBlock, Exit.then]); refine bodyPost_ret (ret_alarm1 (a := a) rfl rfl ⟨tz, setRow_heap _ _ _ _ _ _ Htz.out⟩) rfl ?_
        exact ⟨by rw [Ha.out], below_setRow HB1.out (by omega) _⟩
end Go.Proofs.YtplpadblhjdpcaaGreat
