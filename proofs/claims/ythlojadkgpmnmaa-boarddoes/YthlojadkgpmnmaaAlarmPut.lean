/-
  Layer 6 (alarm): a whole alarm is laid into a block, and read out of one.
-/
import Derived.Test.YthlojadkgpmnmaaAlarmTwo
import Derived.Laws.Tables
import Derived.Deep.WholeRow
namespace Go.Proofs.Ythlojadkgpmnmaa
open Go.RowKit

/-- A whole alarm is laid into a block: the world behind it by what it is. -/
theorem wpList_store_six {P : Program} {ops : Array Oper} {rest : List Oper} {o : Oper} {a : Act} {w : World} {Q : Exit → Act → World → Prop} (hgd : o.guard = none) (ty : TypeId) (x y : Operand) (ho : o.op = .store ty x y)
    (g : Nat) (al al' : Alm) (hx : a.eval x = .pointer (some ⟨g, 0, none⟩)) (hy : a.eval y = .agg (sixV al')) (h6 : Six w g al) (hi : (P.info? ty).map (·.size) = some 6)
    (h : ∀ w', w' = w.setRow g (sixV al') → wpList P ops Q rest (a.put o.dst undef) w') : wpList P ops Q (o :: rest) a w := by
  obtain ⟨t, hb⟩ := h6.blk
  exact wpList_store_row hgd ty x y ho g (sixV al') hx hy t _ hb hi rfl (six_one _) (h _ rfl)
theorem wpList_load_six {P : Program} {ops : Array Oper} {rest : List Oper} {o : Oper} {a : Act} {w : World} {Q : Exit → Act → World → Prop} (hgd : o.guard = none) (ty : TypeId) (x : Operand) (ho : o.op = .load ty x)
    (g : Nat) (al : Alm) (hx : a.eval x = .pointer (some ⟨g, 0, none⟩)) (h6 : Six w g al) (d : TypeDesc)
    (hu : P.underlying ty = some d) (hd : (match d with | .struct _ | .array _ _ => true | _ => false) = true) (hi : (P.info? ty).map (·.size) = some 6)
    (h : wpList P ops Q rest (a.put o.dst (.agg (sixV al))) w) : wpList P ops Q (o :: rest) a w := by
  obtain ⟨t, hb⟩ := h6.blk
  exact wpList_load_row hgd ty x ho g hx t (sixV al) (0, 0) d hb hu hd hi h
theorem Six.put6 {w w' : World} {k : Nat} {a a' : Alm} (h : Six w k a) (hw : w' = w.setRow k (sixV a')) : Six w' k a' := by
  obtain ⟨t, hb⟩ := h.blk
  rw [hw]
  exact ⟨t, setRow_heap _ _ _ _ _ _ hb⟩
theorem Six.put6O {w w' : World} {k g : Nat} {a : Alm} {cs : Array Value} (h : Six w k a) (hne : k ≠ g) (hw : w' = w.setRow g cs) : Six w' k a := by
  obtain ⟨t, hb⟩ := h.blk
  rw [hw]
  exact ⟨t, (setRow_other w g k cs hne).trans hb⟩
theorem below_put6 {B g : Nat} {w0 w w' : World} {cs : Array Value} (h : Below B w0 w) (hg : B ≤ g) (hw : w' = w.setRow g cs) : Below B w0 w' := by
  rw [hw]; exact below_setRow h hg _
end Go.Proofs.Ythlojadkgpmnmaa
