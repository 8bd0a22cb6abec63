/-
  More words on what is known of the memory along a walk.
-/
import Derived.Test.YthlojadkgpmnmaaBoardK
import Derived.Test.YthlojadkgpmnmaaRefBoard1
namespace Go.Proofs.Ythlojadkgpmnmaa
open Go.RowKit

theorem exec_load_st8 {o : Oper} {a : Act} {w : World} (ty : TypeId) (x : Operand) (ho : o.op = .load ty x) {w0 : World} {L : List (Nat × Array Value)} {M : List Fact} (hS : St w0 w L M) (i k : Nat) (cs : Array Value) (hi : L[i]? = some (k, cs)) (hx : a.eval x = .pointer (some ⟨k, 0, none⟩)) (d : TypeDesc)
    (hu : Try.prog.underlying ty = some d) (hd : (match d with | .struct _ | .array _ _ => true | _ => false) = true) (hz : (Try.prog.info? ty).map (·.size) = some cs.size) :
    (execOp a.eval o).run Try.prog w = .ok (.value (.agg cs)) w := by
  obtain ⟨t, ht⟩ := hS.live (k, cs) (List.mem_of_getElem? hi)
  have hl := run_loadVar_row (P := Try.prog) w k t ty cs (0, 0) d ht hu (by cases d <;> first | rfl | exact hd) hz
  unfold execOp
  simp only [ho, hx, Instr.loadAt, Instr.sureAddr, Sem.run_bind, Sem.run_pure, Result.andThen_ok, hl]
theorem St.pick8 {w0 w : World} {L : List (Nat × Array Value)} {M : List Fact} (h : St w0 w L M) (L' : List (Nat × Array Value)) (hL : ∀ x ∈ L', x ∈ L) : St w0 w L' [] := ⟨fun x hx => h.live x (hL x hx), (fun _ h => nomatch h), h.below⟩
theorem St.set8 {w0 w : World} {L : List (Nat × Array Value)} {M : List Fact} (h : St w0 w L M) (cs : Array Value) {k i : Nat} {old : Array Value} (hi : L[i]? = some (k, old)) (hk : w0.heap.size ≤ k) : St w0 (w.setRow k cs) [(k, cs)] [] := by
  obtain ⟨t, ht⟩ := h.live (k, old) (List.mem_of_getElem? hi)
  refine ⟨fun y hy => ?_, (fun _ h => nomatch h), below_setRow h.below hk cs⟩
  obtain rfl : y = (k, cs) := by simpa using hy
  exact ⟨t, setRow_heap _ _ _ _ _ _ ht⟩
theorem St.after8 {w0 w : World} {L : List (Nat × Array Value)} {M : List Fact} (h : St w0 w L M) (cs : Array Value) (L' : List (Nat × Array Value)) (hL : ∀ x ∈ L', x ∈ L) {k : Nat} (hne : ∀ x ∈ L', x.1 ≠ k) (hk : w0.heap.size ≤ k) : St w0 (w.setRow k cs) L' [] :=
  ⟨fun x hx => by
    obtain ⟨t, ht⟩ := h.live x (hL x hx)
    exact ⟨t, (setRow_other w k x.1 cs (hne x hx)).trans ht⟩, (fun _ h => nomatch h), below_setRow h.below hk cs⟩
theorem OwnA.after {w : World} {base : Nat} {v : Value} {ls : List Alm} (h : OwnA w base v ls) {k : Nat} (cs : Array Value) (hk : k < base) : OwnA (w.setRow k cs) base v ls :=
  World.ownsRow.kept (row := some k) h (grown_setRow w k cs) (Or.inr (fun e => by
    have := (World.ownsRow.lt h k e).1
    omega))
theorem ret_board9 {fn : Func} {p : Tmp} {k : Nat} {cs : Array Value} {tmps : Array Value} {w w0 : World} {L : List (Nat × Array Value)} {M : List Fact} (h : fn.results = #[.cell p 24]) (hp : tmps.getD p undef = .pointer (some ⟨k, 0, none⟩)) (hS : St w0 w L M) (i : Nat) (hi : L[i]? = some (k, cs)) (hz : some cs.size = some 3) :
    (results fn tmps).run Try.prog w = .ok (.agg cs) w := by
  obtain ⟨t, hb⟩ := hS.live (k, cs) (List.mem_of_getElem? hi)
  exact results_cell_row h tmps w k t cs (0, 0) _ hp hb Try.underlying24 rfl (by rw [hz]; rfl)
theorem Al6.drew {w : World} {b o : Nat} {a : Alm} (h : Al6 w b o a) : Al6 w.drew b o a := ⟨h.c0, h.c1, h.c2, h.c3, h.c4, h.c5⟩
theorem Al6.row {w : World} {b o k : Nat} {a : Alm} (h : Al6 w b o a) (cs : Array Value) (hne : b ≠ k) : Al6 (w.setRow k cs) b o a := by
  have f : ∀ j, (w.setRow k cs).cell? ⟨b, j, none⟩ = w.cell? ⟨b, j, none⟩ := fun j => World.cell?_of_block (setRow_other w k b cs hne)
  exact ⟨(f _).trans h.c0, (f _).trans h.c1, (f _).trans h.c2, (f _).trans h.c3, (f _).trans h.c4, (f _).trans h.c5⟩
theorem run_neq_same (x0 x1 x2 x3 x4 x5 : Int) (w : World) :
    (binOp .neq 28 (.agg #[.int .i64 x0, .int .i64 x1, .int .i64 x2, .int .i64 x3, .int .i64 x4, .int .i64 x5]) (.agg #[.int .i64 x0, .int .i64 x1, .int .i64 x2, .int .i64 x3, .int .i64 x4, .int .i64 x5])).run Try.prog w = .ok (.bool false) w := by
  go_simp
end Go.Proofs.Ythlojadkgpmnmaa
