/-
  Layer 8 (board): the law BoardPuts, over the contracts (printed by tools/gen-boardputs.py).
-/
import Derived.Test.YthlojadkgpmnmaaBoardPuts0
import Derived.Test.YthlojadkgpmnmaaBoardPutsUt
import Derived.Test.YthlojadkgpmnmaaBoardPutsUf
import Derived.Test.YthlojadkgpmnmaaBoardPutsEt
import Derived.Test.YthlojadkgpmnmaaBoardPutsEf
namespace Go.Proofs.Ythlojadkgpmnmaa
open Go.RowKit

theorem boardPuts_walk (HK : Hid BoardK) (HE : Hid SameK) (m n : Int) (A : Option Addr) (c : Nat) (ls : List Alm) (a0 a1 a2 a3 a4 a5 sb sc : Int) (w : World) (hA : AlmsAt w w.heap.size A ls) (h0 : A = none → c = 0) :
    Calls Try.prog 4 #[.agg #[.int .i64 m, .int .i64 n, .slice A ls.length c], .agg #[.int .i64 a0, .int .i64 a1, .int .i64 a2, .int .i64 a3, .int .i64 a4, .int .i64 a5], .agg #[.int .i64 sb, .int .i64 sc]] w fun e w' => e = .returned (.bool true) ∧ Below w.heap.size w w' := by
  by_cases hf : 60 < ls.length
  · exact boardPuts_far m n A ls.length c ls a0 a1 a2 a3 a4 a5 sb sc w hA hf
  · by_cases hE : Bd.putE m n ls ⟨a0, a1, a2, a3, a4, a5⟩ = 0
    · cases hs : decide (sb = a0 ∧ sc = a1)
      · cases hh : Bd.has a0 a1 ls
        · exact boardPuts_unf HK HE m n A ls.length c ls a0 a1 a2 a3 a4 a5 sb sc w rfl hA h0 (by omega) hE (by rw [hs]; rfl) hh
        · exact boardPuts_unt HK HE m n A ls.length c ls a0 a1 a2 a3 a4 a5 sb sc w rfl hA h0 (by omega) hE (by rw [hs]; rfl) hh
      · cases hh : Bd.has a0 a1 ls
        · exact boardPuts_eqf HK HE m n A ls.length c ls a0 a1 a2 a3 a4 a5 sb sc w rfl hA h0 (by omega) hE (by rw [hs]; rfl) hh
        · exact boardPuts_eqt HK HE m n A ls.length c ls a0 a1 a2 a3 a4 a5 sb sc w rfl hA h0 (by omega) hE (by rw [hs]; rfl) hh
    · exact boardPuts_e HK HE m n A ls.length c ls a0 a1 a2 a3 a4 a5 sb sc w rfl hA h0 (by omega) hE
end Go.Proofs.Ythlojadkgpmnmaa
