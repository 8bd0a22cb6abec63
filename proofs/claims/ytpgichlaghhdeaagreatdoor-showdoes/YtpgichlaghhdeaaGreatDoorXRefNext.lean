/-
  Layer 5 (life): the walk of the reference's Next.
-/
import Derived.Test.YtpgichlaghhdeaaGreatDoorChecked
import Derived.Test.YtpgichlaghhdeaaGreatDoorXJa
namespace Go.Proofs.YtpgichlaghhdeaaGreatDoor
set_option maxRecDepth 10000
open Go.RowKit

end Go.Proofs.YtpgichlaghhdeaaGreatDoor
