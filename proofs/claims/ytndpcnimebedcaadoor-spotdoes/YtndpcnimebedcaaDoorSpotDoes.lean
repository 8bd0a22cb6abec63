/-
  Layer 4 (spot): the walk of the law SpotDoes: its three ways.
-/
import Derived.Test.YtndpcnimebedcaaDoorSpotDoes1
namespace Go.Proofs.YtndpcnimebedcaaDoor
open Go.RowKit

set_option maxRecDepth 10000 in
theorem spotDoes_walk (b c b' c' n : Int) (text : ByteArray) (A : Option Addr) (cap : Nat) (ls : List (Int × Int)) (w : World) (hE : Errs w) (_x0 : (Lit.int .i64 b).wf = true) (_x1 : (Lit.int .i64 c).wf = true) (_x2 : (Lit.int .i64 b').wf = true) (_x3 : (Lit.int .i64 c').wf = true) (_x4 : (Lit.int .i64 n).wf = true) (_x5 : text.size ≤ maxLen) (hA : SpotsAt w w.heap.size A ls) (hN : A = none → cap = 0) :
    Calls Tryd.prog 3 #[.agg #[.int .i64 b, .int .i64 c], .agg #[.int .i64 b', .int .i64 c'], .int .i64 n, .string text, .slice A ls.length cap] w fun e w' => e = .returned (.bool true) ∧ Below w.heap.size w w' := by
  by_cases h1 : 200 < text.size
  · have d1 : decide ((200 : Int) < (text.size : Int)) = true := decide_eq_true (by omega)
    clear _x0 _x1 _x2 _x3 _x4 _x5 hA hN h1 hE
    go_enter Tryd.func3, Tryd.ntmps3
    go_wp2
    go_ret
    exact ⟨rfl, below_new2 _ _ _⟩
  have d1 : decide ((200 : Int) < (text.size : Int)) = false := decide_eq_false (by omega)
  by_cases h2 : 100 < ls.length
  · have d2 : decide ((100 : Int) < (ls.length : Int)) = true := decide_eq_true (by omega)
    clear _x0 _x1 _x2 _x3 _x4 _x5 hA hN h1 h2 hE
    go_enter Tryd.func3, Tryd.ntmps3
    go_wp2
    go_ret
    exact ⟨rfl, below_new2 _ _ _⟩
  have d2 : decide ((100 : Int) < (ls.length : Int)) = false := decide_eq_false (by omega)
  exact does_go b c b' c' n text A cap ls w (Lib.hid hE) (Lib.hid hA) (Lib.hid hN) (Lib.hid (by omega)) (Lib.hid (by omega)) d1 d2

end Go.Proofs.YtndpcnimebedcaaDoor
