/-
  The references' helper Own: a row of numbers in memory of its own.
-/
import Derived.Test.YtfapfnbehhekhaaChecked
import Derived.Test.YtfapfnbehhekhaaXJa
import Derived.Laws.AppendOwnNone
namespace Go.Proofs.Ytfapfnbehhekhaa
set_option maxRecDepth 10000
open Go.RowKit

theorem Try.infoI : (Try.prog.info? 3).map (fun i => (i.zero, i.size, i.bytes)) = some (some (.int .i64 0), 1, 8) := by kernel_rfl

end Go.Proofs.Ytfapfnbehhekhaa
