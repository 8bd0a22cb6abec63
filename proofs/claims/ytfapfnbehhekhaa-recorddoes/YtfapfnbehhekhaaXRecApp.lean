/-
  Layer 13 (record): a row of texts of one's own, beside loads under a guard.
-/
import Derived.Test.YtfapfnbehhekhaaXStrApp
import Derived.Test.YtfapfnbehhekhaaXJd
namespace Go.Proofs.Ytfapfnbehhekhaa
set_option maxRecDepth 10000
open Go.RowKit
end Go.Proofs.Ytfapfnbehhekhaa
