/-
  Layer 10 (mute), the reference: what the law asks of it.
-/
import Derived.Test.YthbkfjnpdcfepaaRefMute7
import Derived.Test.YthbkfjnpdcfepaaRefMute1
namespace Go.Proofs.Ythbkfjnpdcfepaa
set_option maxRecDepth 10000
open Go.RowKit

theorem muteRK : MuteRK where
  own := RWOwn_any
  add := RAdd_any
  cut := RCut_any
  till := RTill_any
  is := RIs_any
  has := RHas_any
  total := RTotal_any
end Go.Proofs.Ythbkfjnpdcfepaa
