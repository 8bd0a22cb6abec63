/-
  Layer 9 (due), the reference: waits, ahead.
-/
import Derived.Test.YtplpadblhjdpcaaGreatXJa
import Derived.Test.YtplpadblhjdpcaaGreatXJc
import Derived.Test.YtplpadblhjdpcaaGreatXRefLess
namespace Go.Proofs.YtplpadblhjdpcaaGreat
set_option maxRecDepth 10000
open Go.RowKit

set_option maxHeartbeats 400000 in
theorem rtWaits (b c ph pr si un : Int) (w : World) :
    Calls Tryz.prog 32 #[.agg #[.int .i64 b, .int .i64 c, .int .i64 ph, .int .i64 pr, .int .i64 si, .int .i64 un]] w fun e w' => e = .returned (.bool (Du.waits ⟨b, c, ph, pr, si, un⟩)) ∧ Below w.heap.size w w' := by
  obtain ⟨r, hr⟩ : ∃ r, r = Du.waits ⟨b, c, ph, pr, si, un⟩ := ⟨_, rfl⟩
  rw [← hr]
  unfold Du.waits at hr
  cases h1 : ph == 1 <;> cases h4 : ph == 4 <;> simp only [h1, h4, Bool.or_true, Bool.or_false] at hr <;> subst hr <;>
  · go_enter Tryz.func32, Tryz.ntmps32
    go_wp2
    go_ret
    exact ⟨rfl, below_new _ _⟩

set_option maxHeartbeats 1000000 in
theorem rtAhead (t b c p t' b' c' p' : Int) (w : World) :
    Calls Tryz.prog 40 #[.agg #[.int .i64 t, .int .i64 b, .int .i64 c, .int .i64 p], .agg #[.int .i64 t', .int .i64 b', .int .i64 c', .int .i64 p']] w fun e w' => e = .returned (.bool (Du.ahead ⟨t, b, c, p⟩ ⟨t', b', c', p'⟩)) ∧ Below w.heap.size w w' := by
  by_cases ht : t = t'
  · subst ht
    by_cases hs : b = b' ∧ c = c'
    · obtain ⟨rfl, rfl⟩ := hs
      have e0 : Du.ahead ⟨t, b, c, p⟩ ⟨t, b, c, p'⟩ = decide (p < p') := by unfold Du.ahead; simp
      rw [e0]
      clear e0
      have n0 := fun W => run_neq_sp b c b c false (by simp) W
      go_enter Tryz.func40, Tryz.ntmps40
      go_wp2
      go_ret
      exact ⟨rfl, below_new2 _ _ _⟩
    · have e0 : Du.ahead ⟨t, b, c, p⟩ ⟨t, b', c', p'⟩ = Sp.less b c b' c' := by unfold Du.ahead; simp [hs]
      rw [e0]
      have n0 := fun W => run_neq_sp b c b' c' true (by simp [hs]) W
      have HB := Lib.hid (below_new2 w (.cells #[.int .i64 t, .int .i64 b, .int .i64 c, .int .i64 p] 55) (.cells #[.int .i64 t, .int .i64 b', .int .i64 c', .int .i64 p'] 55))
      clear e0 hs
      go_enter Tryz.func40, Tryz.ntmps40
      go_wp2_with fail
      refine (RLess_any b c b' c' _).mono ?_
      rintro e w1 ⟨rfl, hB⟩
      replace HB := Lib.hid (below2 HB.out hB)
      clear hB
      go_wp2
      go_ret
      exact ⟨rfl, HB.out⟩
  · have e0 : Du.ahead ⟨t, b, c, p⟩ ⟨t', b', c', p'⟩ = decide (t < t') := by unfold Du.ahead; simp [ht]
    rw [e0]
    have h1 : (t == t') = false := by rw [beq_eq_false_iff_ne]; exact ht
    clear e0 ht
    go_enter Tryz.func40, Tryz.ntmps40
    go_wp2
    go_ret
    exact ⟨rfl, below_new2 _ _ _⟩
end Go.Proofs.YtplpadblhjdpcaaGreat
