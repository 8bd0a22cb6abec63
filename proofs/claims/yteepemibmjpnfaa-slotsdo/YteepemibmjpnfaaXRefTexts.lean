/-
  The document's helpers: Texts (are two rows the same?) and OwnTexts (a row in memory of its own).
-/
import Derived.Test.YteepemibmjpnfaaChecked
import Derived.Test.YteepemibmjpnfaaXJa
import Derived.Test.YteepemibmjpnfaaXAidStrs
import Derived.BigQuiet
import Derived.Deep.QuietTactic
import Derived.Laws.AppendOwnNone
namespace Go.Proofs.Yteepemibmjpnfaa
set_option maxRecDepth 10000
open Go.RowKit

theorem StrsAt.of_own {w : World} {base : Nat} {e : TypeId} {A : Option Addr} {cap : Nat} {ss : List ByteArray} (h : w.ownsRow base e 1 (.slice A ss.length cap) ss.length (ss.map Value.string)) : StrsAt w w.heap.size A ss := fun i hi => by
  rcases h.2 with ⟨_, h0⟩ | ⟨g, cap', cur, hv, _, hg, _⟩
  · omega
  · have hA : A = some ⟨g, 0, none⟩ := by injection hv
    subst hA
    have hc := h.cells (g := g) rfl i (.string ss[i]) (by simp [List.getElem?_eq_getElem hi])
    have hadd : (⟨g, 0, none⟩ : Addr).add i = ⟨g, 0 + i, none⟩ := by unfold Addr.add; split <;> simp_all
    rw [hadd] at hc
    exact ⟨g, 0, rfl, (Array.getElem?_eq_some_iff.1 hg).1, hc⟩

theorem retb_texts {a b : Bool} (h : a = b) : Ending.returned (.bool a) = .returned (.bool b) := by rw [h]
theorem toList_bl (s : ByteArray) : s.toList = bl s := ByteArray.toList_eq s

theorem Try.infoT : (Try.prog.info? 9).map (fun i => (i.zero, i.size, i.bytes)) = some (some (.string ⟨#[]⟩), 1, 16) := by kernel_rfl

end Go.Proofs.Yteepemibmjpnfaa
