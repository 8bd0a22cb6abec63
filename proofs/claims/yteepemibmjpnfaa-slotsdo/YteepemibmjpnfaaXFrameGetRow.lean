/-
  Layer 3 (frame): what GetRow hands back.
-/
import Derived.Test.YteepemibmjpnfaaXFrameTexts
namespace Go.Proofs.Yteepemibmjpnfaa
set_option maxRecDepth 10000
open Go.RowKit

/-- Four results, the second a slice of one's own that holds the texts. -/
def GotRow (w : World) (t : Int × List (List UInt8) × List UInt8 × Int) (e : Ending) (w' : World) : Prop :=
  ∃ v, e = .returned (.tuple #[.int .i64 t.1, v, .string (strOf t.2.2.1), .int .i64 t.2.2.2]) ∧ w'.ownsRow w.heap.size 9 1 v t.2.1.length (t.2.1.map strV) ∧ Below w.heap.size w w'

end Go.Proofs.Yteepemibmjpnfaa
