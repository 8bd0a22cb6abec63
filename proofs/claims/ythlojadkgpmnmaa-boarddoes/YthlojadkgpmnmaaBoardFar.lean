/-
  Layer 8 (board): far.
-/
import Derived.Test.YthlojadkgpmnmaaBoardRung
namespace Go.Proofs.Ythlojadkgpmnmaa
open Go.RowKit

theorem far_any (m n : Int) (A : Option Addr) (l c : Nat) (w : World) :
    Calls Try.prog 8 #[.agg #[.int .i64 m, .int .i64 n, .slice A l c]] w fun e w' => e = .returned (.bool (decide ((60 : Int) < (l : Int)))) ∧ Below w.heap.size w w' := by
  have hB := below_new w (.cells #[.int .i64 m, .int .i64 n, .slice A l c] 24)
  go_enter Try.func8, Try.ntmps8
  go_wp2
  go_ret
  exact ⟨rfl, hB⟩
end Go.Proofs.Ythlojadkgpmnmaa
