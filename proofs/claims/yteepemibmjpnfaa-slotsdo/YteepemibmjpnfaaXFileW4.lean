/-
  Layer 12 (file): the landed code: Cut (printed by tools/gen-filew4.py).
-/
import Derived.Test.YteepemibmjpnfaaXFileW3
namespace Go.Proofs.Yteepemibmjpnfaa
set_option maxRecDepth 10000
open Go.RowKit

end Go.Proofs.Yteepemibmjpnfaa
