/-
  Layer 8 (board): all contracts of the program.
-/
import Derived.Test.YthlojadkgpmnmaaBoardC1
import Derived.Test.YthlojadkgpmnmaaBoardC3
import Derived.Test.YthlojadkgpmnmaaAlarmOp
namespace Go.Proofs.Ythlojadkgpmnmaa
open Go.RowKit

theorem boardK : BoardK where
  new := kk_new
  is := kk_is
  get := kk_get
  put := kk_put
  drop := kk_drop
  pass := kk_pass
  gather := kk_of
  opn := AOpen_any
end Go.Proofs.Ythlojadkgpmnmaa
