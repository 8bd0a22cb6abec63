/-
  Layer 7 (rank): the contracts of rank's functions, together.
-/
import Derived.Test.YtlkopnbkmpgafaaRankK
import Derived.Test.YtlkopnbkmpgafaaRankC2
import Derived.Test.YtlkopnbkmpgafaaRankC3
namespace Go.Proofs.Ytlkopnbkmpgafaa
theorem rankK : RankK := ⟨kk_compare, kk_sort, kk_top, kk_place, kk_merge⟩
end Go.Proofs.Ytlkopnbkmpgafaa
