/-
  Layer 11 (show): what the document's own answers ask, over the program.
-/
import Derived.Test.YtpgichlaghhdeaaGreatDoorXShowInst2
import Derived.Test.YtpgichlaghhdeaaGreatDoorXShowDoes
import Derived.Test.YtpgichlaghhdeaaGreatDoorXRefSpot2
import Derived.Test.YtpgichlaghhdeaaGreatDoorXRefAlarm
import Derived.Test.YtpgichlaghhdeaaGreatDoorXRefName
import Derived.Test.YtpgichlaghhdeaaGreatDoorXRefMute3
import Derived.Test.YtpgichlaghhdeaaGreatDoorXJl
import Derived.Test.YtpgichlaghhdeaaGreatDoorXRefBoard1
import Derived.Test.YtpgichlaghhdeaaGreatDoorXRefSame
namespace Go.Proofs.YtpgichlaghhdeaaGreatDoor
set_option maxRecDepth 10000
open Go.RowKit
theorem refLK : RefLK := ⟨fun x0 x1 x2 x3 x4 x5 w => RAIs_any x0 x1 x2 x3 x4 x5 w, fun b c w => RPrint_any b c w, fun p w => RName_any p w⟩
theorem refPK : RefPK := ⟨refLK, fun s w => RParse_any s w⟩
theorem refHK : RefHK := by
  refine ⟨fun m n A l c ls w h => rbIs m n A l c ls w h, fun A l c ls w hl hA hf => RMIs_any A l c ls w hl hA hf, fun A l c ls b t w hl hA hf => RHas_any A l c ls b t w hl hA hf, fun A l cap ls w hl hA hf => ?_⟩
  subst hl
  exact RASort_any A cap ls w hA hf
theorem asameK : ASameK := by
  intro A B l c c2 ls w h h1 h2 h3
  subst h
  refine (RASame_any A B c c2 ls w h1 h2 h3).mono ?_
  rintro e w' ⟨rfl, n, rfl⟩
  exact ⟨rfl, below_drewN w n⟩
theorem isameK : ISameK := by
  intro A B l c c2 zs w h h1 h2 h3
  subst h
  refine (Same_any A B c c2 zs zs w h1 h2 (by omega) (by omega)).mono ?_
  rintro e w' ⟨rfl, n, rfl⟩
  exact ⟨by rw [decide_eq_true rfl], below_drewN w n⟩
end Go.Proofs.YtpgichlaghhdeaaGreatDoor
