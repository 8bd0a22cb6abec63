/-
  Layer 6 (alarm): the contracts of alarm's functions, together (AIs_any, AOpen_any, ARaise_any, ADo_any, APass_any come with the imports).
-/
import Derived.Test.YtepcjlnjhbaioaaRefAlarm4
import Derived.Test.YtepcjlnjhbaioaaRefAlarm7
import Derived.Test.YtepcjlnjhbaioaaAlarmRaise
import Derived.Test.YtepcjlnjhbaioaaAlarmDo
import Derived.Test.YtepcjlnjhbaioaaAlarmPs
namespace Go.Proofs.Ytepcjlnjhbaioaa
open Go.RowKit

theorem AWait_any (p : Int) (w : World) :
    Calls Try.prog 16 #[.int .i64 p] w fun e w' => e = .returned (.int .i64 (Am.wait p)) ∧ Below w.heap.size w w' :=
  (AWait_any0 p w).mono fun _ _ h => ⟨h.1, by rw [h.2]; exact Below.refl _ _⟩
end Go.Proofs.Ytepcjlnjhbaioaa
