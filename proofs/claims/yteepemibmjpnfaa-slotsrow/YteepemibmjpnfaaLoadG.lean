/-
  A load of a whole block along a walk, under a guard.
-/
import Derived.Test.YteepemibmjpnfaaChecked
import Derived.Test.YteepemibmjpnfaaState
import Derived.BigQuiet
import Derived.Deep.QuietTactic
namespace Go.Proofs.Yteepemibmjpnfaa
set_option maxRecDepth 10000
open Go.RowKit

theorem wpList_loadg_st {P : Program} {ops : Array Oper} {rest : List Oper} {o : Oper} {a : Act} {w : World} {Q : Exit → Act → World → Prop} (hw : Region.wanted o (yielded ops a.tmps) = true) (ty : TypeId) (x : Operand) (ho : o.op = .load ty x)
    {w0 : World} {L : List (Nat × Array Value)} {M : List Fact} (hS : St w0 w L M) (i k : Nat) (cs : Array Value) (hi : L[i]? = some (k, cs)) (hx : a.eval x = .pointer (some ⟨k, 0, none⟩)) (d : TypeDesc)
    (hu : P.underlying ty = some d) (hd : (match d with | .struct _ | .array _ _ => true | _ => false) = true) (hz : (P.info? ty).map (·.size) = some cs.size)
    (h : wpList P ops Q rest (a.put o.dst (.agg cs)) w) : wpList P ops Q (o :: rest) a w := by
  obtain ⟨t, ht⟩ := hS.live (k, cs) (List.mem_of_getElem? hi)
  exact wpList_step fun K hK => by rw [if_pos hw]; exact wp_load_row ty x ho k hx t cs (0, 0) d ht hu hd hz (hK _ _ h)
end Go.Proofs.Yteepemibmjpnfaa
