/-
  Layer 12 (file): the references' Is, Read, New, Big.
-/
import Derived.Test.YtlnchfnmpamliaaGreatChecked
import Derived.Test.YtlnchfnmpamliaaGreatXFileTwo
namespace Go.Proofs.YtlnchfnmpamliaaGreat
set_option maxRecDepth 10000
open Go.RowKit

set_option maxHeartbeats 400000 in
theorem FRIs_any (m : Int) (k l : ByteArray) (hs : k.size ≤ 9000 ∧ l.size ≤ 9000) (w : World) :
    Calls Tryz.prog 48 #[.agg #[.int .i64 m, .string k, .string l]] w fun e w' => e = .returned (.bool (Fi.is ⟨m, k, l⟩)) ∧ Below w.heap.size w w' := by
  obtain ⟨hk, hl⟩ := hs
  have hw : wrap64 ((k.size : Int) + (l.size : Int)) = (k.size : Int) + l.size := by unfold wrap64; omega
  go_enter Tryz.func48, Tryz.ntmps48
  go_wp2
  all_goals go_ret
  all_goals refine ⟨?_, below_new _ _⟩
  all_goals congr 2
  all_goals (unfold Fi.is; simp [*] <;> omega)

set_option maxHeartbeats 400000 in
theorem FRRead_any (m : Int) (k l : ByteArray) (hs : k.size ≤ 9000 ∧ l.size ≤ 9000) (w : World) :
    Calls Tryz.prog 43 #[.agg #[.int .i64 m, .string k, .string l]] w fun e w' => e = .returned (.string (Fi.read ⟨m, k, l⟩)) ∧ Below w.heap.size w w' := by
  obtain ⟨hk, hl⟩ := hs
  have hw : ¬ 9223372036854775807 < k.size + l.size := by omega
  go_enter Tryz.func43, Tryz.ntmps43
  go_wp2
  all_goals go_ret
  all_goals exact ⟨rfl, below_new _ _⟩

end Go.Proofs.YtlnchfnmpamliaaGreat
