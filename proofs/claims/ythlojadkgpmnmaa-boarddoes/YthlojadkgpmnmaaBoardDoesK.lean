/-
  Layer 8 (board): the reference does what the law asks of it.
-/
import Derived.Test.YthlojadkgpmnmaaBoardDoes0
import Derived.Test.YthlojadkgpmnmaaRefBoard2
import Derived.Test.YthlojadkgpmnmaaRefBoard4
import Derived.Test.YthlojadkgpmnmaaRefBoard5
import Derived.Test.YthlojadkgpmnmaaRefBoard6
import Derived.Test.YthlojadkgpmnmaaRefOwn
namespace Go.Proofs.Ythlojadkgpmnmaa
open Go.RowKit

theorem rbInts (B : Option Addr) (k cb : Nat) (zs : List Int) (w : World) (hk : k = zs.length) (hB : IntsAt w w.heap.size B zs) (h0 : B = none → cb = 0) (hk2 : k ≤ 1000) : Calls Try.prog 24 #[.slice B k cb] w (OwnI0 w k zs) := by
  subst hk
  refine (Own_any B cb zs w hB h0 (by omega)).mono ?_
  rintro e w' ⟨A', c', rfl, ho, hB'⟩
  refine ⟨A', c', rfl, ?_, hB'⟩
  intro i hi
  rcases ho.2 with ⟨_, h1⟩ | ⟨g, cap, cur, hv, _, hg, _, _, _, _⟩
  · omega
  · have hA : A' = some ⟨g, 0, none⟩ := by cases hv; rfl
    have hc := ho.cells (g := g) (by rw [hv]; rfl) i (.int .i64 zs[i]) (by simp [List.getElem?_eq_getElem hi])
    rw [Go.WideShapes.add_plain] at hc
    exact ⟨g, 0, hA, (Array.getElem?_eq_some_iff.1 hg).1, hc⟩

theorem refK : RefK where
  own := rbOwn
  is := rbIs
  get := rbGet
  put := rbPut
  drop := rbDrop
  pass := rbPass
  new := rbNew
  gather := rbOf
  ints := rbInts
end Go.Proofs.Ythlojadkgpmnmaa
