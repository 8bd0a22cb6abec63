/-
  Layer 9 (due): board.Pass's contract over the landed code.
-/
import Derived.Test.YtplpadblhjdpcaaXJa
import Derived.Test.YtplpadblhjdpcaaXBoardC3
namespace Go.Proofs.Ytplpadblhjdpcaa
set_option maxRecDepth 10000
open Go.RowKit

theorem passK9 : PassK9 := kk_pass
end Go.Proofs.Ytplpadblhjdpcaa
