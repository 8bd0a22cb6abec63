/-
  Layer 12 (file): the references' Is, Read, New, Big.
-/
import Derived.Test.YtfapfnbehhekhaaChecked
import Derived.Test.YtfapfnbehhekhaaFileTwo
namespace Go.Proofs.Ytfapfnbehhekhaa
set_option maxRecDepth 10000
open Go.RowKit

set_option maxHeartbeats 400000 in
theorem FRIs_any (m : Int) (k l : ByteArray) (hs : k.size ≤ 9000 ∧ l.size ≤ 9000) (w : World) :
    Calls Try.prog 39 #[.agg #[.int .i64 m, .string k, .string l]] w fun e w' => e = .returned (.bool (Fi.is ⟨m, k, l⟩)) ∧ Below w.heap.size w w' := by
  obtain ⟨hk, hl⟩ := hs
  have hw : wrap64 ((k.size : Int) + (l.size : Int)) = (k.size : Int) + l.size := by unfold wrap64; omega
  go_enter Try.func39, Try.ntmps39
  go_wp2
  all_goals go_ret
  all_goals refine ⟨?_, below_new _ _⟩
  all_goals congr 2
  all_goals (unfold Fi.is; simp [*] <;> omega)

set_option maxHeartbeats 400000 in
theorem FRRead_any (m : Int) (k l : ByteArray) (hs : k.size ≤ 9000 ∧ l.size ≤ 9000) (w : World) :
    Calls Try.prog 41 #[.agg #[.int .i64 m, .string k, .string l]] w fun e w' => e = .returned (.string (Fi.read ⟨m, k, l⟩)) ∧ Below w.heap.size w w' := by
  obtain ⟨hk, hl⟩ := hs
  have hw : ¬ 9223372036854775807 < k.size + l.size := by omega
  go_enter Try.func41, Try.ntmps41
  go_wp2
  all_goals go_ret
  all_goals exact ⟨rfl, below_new _ _⟩

set_option maxHeartbeats 400000 in
theorem FRBig_any (m : Int) (k l : ByteArray) (w : World) :
    Calls Try.prog 27 #[.agg #[.int .i64 m, .string k, .string l]] w fun e w' => e = .returned (.bool (decide (2000 < k.size ∨ 2000 < l.size))) ∧ Below w.heap.size w w' := by
  go_enter Try.func27, Try.ntmps27
  go_wp2
  all_goals go_ret
  all_goals refine ⟨?_, below_new _ _⟩
  all_goals congr 2
  all_goals (show Value.bool _ = Value.bool _; congr 1; rw [Bool.eq_iff_iff]; simp; try omega)

end Go.Proofs.Ytfapfnbehhekhaa
