/-
  Layer 9 (due): the document's answers, all that the law DueTells asks of them.
-/
import Derived.Test.YtplpadblhjdpcaaGreatXDueTellsK
import Derived.Test.YtplpadblhjdpcaaGreatXRefDue1
import Derived.Test.YtplpadblhjdpcaaGreatXRefDue6
import Derived.Test.YtplpadblhjdpcaaGreatXRefDue8
import Derived.Test.YtplpadblhjdpcaaGreatXRefBoard3
namespace Go.Proofs.YtplpadblhjdpcaaGreat
set_option maxRecDepth 10000
open Go.RowKit

theorem refK9 : RefK9 where
  ownB := fun m n A l c ls w h => rbOwn m n A l c ls w h
  ownT := fun A l c ts w hl hA h0 hf => RTOwn_any A l c ts w hl hA h0 hf
  turns := fun m n A l c ls t q w h hq => by
    by_cases hE : Du.turnsE m n ls t = 0
    · have e : Du.turns m n ls t = Du.order (Du.turnsL t ls) := by unfold Du.turns; rw [if_pos hE]
      rw [e] at hq ⊢
      rw [hE]
      exact rtTurns_ok m n A l c ls t q w h hE (by rw [hq, Du.order_len])
    · have e : Du.turns m n ls t = [] := by unfold Du.turns; rw [if_neg hE]
      rw [e] at hq ⊢
      obtain rfl : q = 0 := hq
      exact rtTurns_bad m n A l c ls t w h hE
  next := rtNext
  at' := rtAt
  first := RTFirst_any
  order := fun A l c ts w hl hA _ hf => by
    subst hl
    exact RTOrder_any A c ts w hA hf
end Go.Proofs.YtplpadblhjdpcaaGreat
