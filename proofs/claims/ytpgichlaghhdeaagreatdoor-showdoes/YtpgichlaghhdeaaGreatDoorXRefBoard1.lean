/-
  Layer 8 (board), the reference: Same, New, Get.
-/
import Derived.Test.YtpgichlaghhdeaaGreatDoorXJb
import Derived.Test.YtpgichlaghhdeaaGreatDoorXRefSameK
import Derived.Laws.ResultCell
import Derived.BigQuiet
import Derived.Deep.QuietTactic
namespace Go.Proofs.YtpgichlaghhdeaaGreatDoor
set_option maxRecDepth 10000
open Go.RowKit

theorem rbSame : SameK := by
  intro m n A B l c c2 ls w h h1 h2 h3
  subst h
  have hb := below_new2 w (.cells #[.int .i64 m, .int .i64 n, .slice A ls.length c] 28) (.cells #[.int .i64 m, .int .i64 n, .slice B ls.length c2] 28)
  have g := RASame_any A B c c2 ls _ (h1.on hb) (h2.on hb) h3
  have e0 : (m == m) = true := by rw [beq_iff_eq]
  have e1 : (n == n) = true := by rw [beq_iff_eq]
  obtain ⟨l, hl⟩ : ∃ l, l = ls.length := ⟨_, rfl⟩
  rw [← hl] at g hb ⊢
  have HB := Lib.hid hb
  clear h1 h2 h3 hl hb
  go_enter Tryz.func23, Tryz.ntmps23
  go_wp2_with fail
  refine g.mono ?_
  rintro e w1 ⟨rfl, q, rfl⟩
  go_wp2
  go_ret
  exact ⟨rfl, below_drew HB.out q⟩

end Go.Proofs.YtpgichlaghhdeaaGreatDoor
