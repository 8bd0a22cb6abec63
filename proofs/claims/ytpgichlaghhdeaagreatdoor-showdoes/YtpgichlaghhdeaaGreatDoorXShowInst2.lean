/-
  Layer 11 (show): a board's copy.
-/
import Derived.Test.YtpgichlaghhdeaaGreatDoorXShowInst
import Derived.Test.YtpgichlaghhdeaaGreatDoorXShowCount
import Derived.Test.YtpgichlaghhdeaaGreatDoorXRefBoard3
namespace Go.Proofs.YtpgichlaghhdeaaGreatDoor
set_option maxRecDepth 10000
open Go.RowKit
theorem bownK : BOwnK := fun m n A l c ls w h => rbOwn m n A l c ls w h
end Go.Proofs.YtpgichlaghhdeaaGreatDoor
