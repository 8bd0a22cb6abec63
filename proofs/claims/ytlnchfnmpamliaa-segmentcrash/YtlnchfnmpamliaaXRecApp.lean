/-
  Layer 13 (record): a row of texts of one's own, beside loads under a guard.
-/
import Derived.Test.YtlnchfnmpamliaaXJd
import Derived.Test.YtlnchfnmpamliaaXRecLoad
namespace Go.Proofs.Ytlnchfnmpamliaa
set_option maxRecDepth 10000
open Go.RowKit
end Go.Proofs.Ytlnchfnmpamliaa
