/-
  Layer 13 (record): what the laws ask of file's functions: the landed code's.
-/
import Derived.Test.YtfapfnbehhekhaaXJd
import Derived.Test.YtfapfnbehhekhaaXFileW3
namespace Go.Proofs.Ytfapfnbehhekhaa
set_option maxRecDepth 10000
open Go.RowKit

theorem filR : FilR (fun _ => True) :=
  ⟨fun n w _ => fnew_any n w, fun f w _ hs => fis_any f.most f.kept f.loose hs w, fun f w _ hs => fread_any f.most f.kept f.loose hs w,
   fun f w _ hs => fsync_any f.most f.kept f.loose hs w, fun f n w _ hs => fcrash_any f.most f.kept f.loose n hs w⟩
end Go.Proofs.Ytfapfnbehhekhaa
