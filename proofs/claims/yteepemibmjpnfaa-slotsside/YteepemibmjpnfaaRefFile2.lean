/-
  Layer 12 (file): the references' Sync.
-/
import Derived.Test.YteepemibmjpnfaaRefFile1
import Derived.Deep.RegionHeld3
namespace Go.Proofs.Yteepemibmjpnfaa
set_option maxRecDepth 10000
open Go.RowKit

end Go.Proofs.Yteepemibmjpnfaa
