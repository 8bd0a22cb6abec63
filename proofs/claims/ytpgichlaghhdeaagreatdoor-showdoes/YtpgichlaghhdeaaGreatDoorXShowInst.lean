/-
  Layer 11 (show): the document's rows are met; the board's copy, the order of two alarms, a window added, texts compared: over the program.
-/
import Derived.Test.YtpgichlaghhdeaaGreatDoorXShowW11
import Derived.Test.YtpgichlaghhdeaaGreatDoorXShowRung
import Derived.Test.YtpgichlaghhdeaaGreatDoorXRefTexts
namespace Go.Proofs.YtpgichlaghhdeaaGreatDoor
set_option maxRecDepth 10000
open Go.RowKit

theorem below_drewN (w : World) (n : Nat) : Below w.heap.size w (w.drewN n) := below_drew (Below.refl _ _) n
theorem xsameK : XSameK := by
  intro A B l c c2 xs w h h1 h2 h3
  subst h
  refine (Texts_any A B c c2 xs xs w h1 h2 (by unfold maxLen; omega)).mono ?_
  rintro e w' ⟨rfl, n, rfl⟩
  exact ⟨by rw [decide_eq_true rfl], below_drewN w n⟩
theorem shownK : ShownK Libs := shown_any (Lib.hid showK) (Lib.hid xsameK)
end Go.Proofs.YtpgichlaghhdeaaGreatDoor
