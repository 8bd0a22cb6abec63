/-
  Layer 11 (show): two alarms compared, a time of a bed asked: over the program.
-/
import Derived.Test.YtpgichlaghhdeaaGreatDoorXShowInst
import Derived.Test.YtpgichlaghhdeaaGreatDoorXShowHeard
import Derived.Test.YtpgichlaghhdeaaGreatDoorXJd
import Derived.Test.YtpgichlaghhdeaaGreatDoorXRankC1
namespace Go.Proofs.YtpgichlaghhdeaaGreatDoor
set_option maxRecDepth 10000
open Go.RowKit
theorem cmpRK : CmpRK := fun b c ph pr si un b' c' ph' pr' si' un' w => kk_compare b c ph pr si un b' c' ph' pr' si' un' w
theorem hasK : HasK := fun B k0 d ws b t w h => mHas_any B k0 d ws b t w h
end Go.Proofs.YtpgichlaghhdeaaGreatDoor
