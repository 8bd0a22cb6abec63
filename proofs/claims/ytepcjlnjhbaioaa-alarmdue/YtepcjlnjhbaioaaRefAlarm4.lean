/-
  Layer 6 (alarm): the reference's Raise, whole.
-/
import Derived.Test.YtepcjlnjhbaioaaRefAlarm3
import Derived.Test.YtepcjlnjhbaioaaRefAlarm3t
import Derived.Test.YtepcjlnjhbaioaaRefAlarm3u
namespace Go.Proofs.Ytepcjlnjhbaioaa
open Go.RowKit

theorem RRaise_any (b c ph pr si un prio t : Int) (w : World) :
    Calls Try.prog 12 #[.agg #[.int .i64 b, .int .i64 c, .int .i64 ph, .int .i64 pr, .int .i64 si, .int .i64 un], .int .i64 prio, .int .i64 t] w fun e w' => e = .returned (.tuple #[.agg (sixV (Am.raise ⟨b, c, ph, pr, si, un⟩ prio t)), .int .i64 (Am.raiseE ⟨b, c, ph, pr, si, un⟩ prio t)]) ∧ Below w.heap.size w w' := by
  by_cases h0 : Am.raiseE ⟨b, c, ph, pr, si, un⟩ prio t = 0
  · obtain ⟨hr, hp, ht, hs⟩ := Am.raiseE_iff.1 h0
    have hr' := Am.right_iff.1 hr
    simp only at hr' hs
    have hT := Am.isT_iff.2 ht
    have hw := Am.wait_pos hp.1 hp.2
    have x0 : (Am.wait prio == 0) = false := by rw [beq_eq_false_iff_ne]; omega
    have s0 : decide (t < si) = false := decide_eq_false (by omega)
    have e1 : Am.raise ⟨b, c, ph, pr, si, un⟩ prio t = Am.raiseOk ⟨b, c, ph, pr, si, un⟩ prio t := by unfold Am.raise; rw [if_pos h0]
    rw [h0, e1]
    unfold Am.raiseOk
    simp only
    have hwp := Am.wait_pos hr'.2.2.2.1 hr'.2.2.2.2.1
    rcases (by omega : pr ≤ prio ∨ prio < pr) with hm | hm
    · have em : min pr prio = pr := by omega
      rw [em]
      by_cases h3 : ph = 3
      · subst h3
        rw [if_pos rfl]
        exact RRaise_ta b c pr si un prio t w hr x0 hT s0 hm (Am.wait pr) rfl (by unfold wrap64; omega)
      · rw [if_neg h3, if_neg (fun h => h.2 rfl)]
        by_cases h1 : ph = 1
        · subst h1
          exact RRaise_s b c pr si un prio t w hr x0 hT s0 hm
        · exact RRaise_ka b c ph pr si un prio t w hr x0 hT s0 hm (by rw [beq_eq_false_iff_ne]; exact h3) (by rw [beq_eq_false_iff_ne]; exact h1)
    · have em : min pr prio = prio := by omega
      rw [em]
      by_cases h3 : ph = 3
      · subst h3
        rw [if_pos rfl]
        exact RRaise_tb b c pr si un prio t w hr x0 hT s0 hm (Am.wait prio) rfl (by unfold wrap64; omega)
      · rw [if_neg h3]
        by_cases h1 : ph = 1
        · subst h1
          rw [if_pos ⟨rfl, by omega⟩]
          rcases (by omega : un ≤ t + Am.wait prio ∨ t + Am.wait prio < un) with hu | hu
          · rw [show max si (min un (t + Am.wait prio)) = un by omega]
            exact RRaise_u b c pr si un prio t w hr x0 hT s0 hm (Lib.hid (by rw [IntKind.wrap_i64]; omega)) hu (by omega)
          · rw [show max si (min un (t + Am.wait prio)) = t + Am.wait prio by omega]
            exact RRaise_v b c pr si un prio t w hr x0 hT s0 hm (Lib.hid (by rw [IntKind.wrap_i64]; omega)) hu (by omega)
        · rw [if_neg (fun h => h1 h.1)]
          exact RRaise_kb b c ph pr si un prio t w hr x0 hT s0 hm (by rw [beq_eq_false_iff_ne]; exact h3) (by rw [beq_eq_false_iff_ne]; exact h1)
  · have e1 : Am.raise ⟨b, c, ph, pr, si, un⟩ prio t = Am.zero := by unfold Am.raise; rw [if_neg h0]
    rw [e1]
    clear e1
    unfold Am.raiseE at h0 ⊢
    cases hr : Am.right ⟨b, c, ph, pr, si, un⟩
    · exact RRaise_e1 b c ph pr si un prio t w hr
    · rw [hr] at h0
      by_cases hw : Am.wait prio = 0
      · rw [decide_eq_true hw]
        exact RRaise_e2 b c ph pr si un prio t w hr hw
      · have x0 : (Am.wait prio == 0) = false := by rw [beq_eq_false_iff_ne]; exact hw
        rw [decide_eq_false hw] at h0 ⊢
        cases ht : Am.isT t
        · exact RRaise_e3 b c ph pr si un prio t w hr x0 ht
        · rw [ht] at h0
          by_cases hs : t < si
          · simp only [Bool.not_true, Bool.or_false, Bool.false_eq_true, if_false]
            rw [if_pos hs]
            exact RRaise_e4 b c ph pr si un prio t w hr x0 ht hs
          · exfalso
            apply h0
            simp only [Bool.not_true, Bool.or_false, Bool.false_eq_true, if_false]
            rw [if_neg hs]
end Go.Proofs.Ytepcjlnjhbaioaa
