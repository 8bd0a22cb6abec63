/-
  Layer 11 (show): windows added.
-/
import Derived.Test.YtpgichlaghhdeaaGreatDoorXShowInst
import Derived.Test.YtpgichlaghhdeaaGreatDoorXShowMore
import Derived.Test.YtpgichlaghhdeaaGreatDoorXMuteIA
import Derived.Test.YtpgichlaghhdeaaGreatDoorXMuteS
namespace Go.Proofs.YtpgichlaghhdeaaGreatDoor
set_option maxRecDepth 10000
open Go.RowKit
theorem addK : AddK := fun A l c ls B k d ms q w h h2 hq => mAdd_any (Lib.hid msort_any) A l c ls B k d ms q w h h2 hq
end Go.Proofs.YtpgichlaghhdeaaGreatDoor
