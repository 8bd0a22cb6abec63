/-
  Layer 13 (record): the landed code: all five contracts.
-/
import Derived.Test.YtfapfnbehhekhaaXRecW6
import Derived.Test.YtfapfnbehhekhaaXJd
namespace Go.Proofs.Ytfapfnbehhekhaa
set_option maxRecDepth 10000
open Go.RowKit

theorem recK : RecK (fun _ => True) :=
  ⟨fun _ _ _ _ => trivial,
   fun n s w _ hs => rput_any n s w (Nat.le_trans hs (by decide)),
   fun s n w _ hs => (rscan_any s n hs w).mono fun _ _ ⟨A, c, h1, h2, h3, h4, _⟩ => ⟨A, c, h1, h2, h3, h4⟩,
   fun f n A l c ss w _ hs hA hl hl2 _ hz => radd_any f.most f.kept f.loose n A l c ss hs w hA hl hl2 hz,
   fun f n w _ hs => rread_any f.most f.kept f.loose n hs w,
   fun f n w _ hs => rmend_any f.most f.kept f.loose n hs w⟩
end Go.Proofs.Ytfapfnbehhekhaa
