/-
  Layer 12 (file): the references' Is, Read, New, Big.
-/
import Derived.Test.YtlnchfnmpamliaaChecked
import Derived.Test.YtlnchfnmpamliaaXFileTwo
namespace Go.Proofs.Ytlnchfnmpamliaa
set_option maxRecDepth 10000
open Go.RowKit

end Go.Proofs.Ytlnchfnmpamliaa
