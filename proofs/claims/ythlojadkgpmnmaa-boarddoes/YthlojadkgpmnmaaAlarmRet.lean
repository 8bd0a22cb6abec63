/-
  An alarm is handed back, or read.
-/
import Derived.Test.YthlojadkgpmnmaaChecked
import Derived.Test.YthlojadkgpmnmaaAlarmTwo
import Derived.StillTailTactics
import Derived.Laws.ResultCell
namespace Go.Proofs.Ythlojadkgpmnmaa
open Go.RowKit


/-- How a function ends that hands back an alarm from a cell, and an error. -/
theorem ret_alarm {fn : Func} {p u : Tmp} {k : Nat} {a : Alm} {tmps : Array Value} {w : World} (h : fn.results = #[.cell p 28, .tmp u]) (hp : tmps.getD p undef = .pointer (some ⟨k, 0, none⟩)) (h2 : Six w k a) :
    (results fn tmps).run Try.prog w = .ok (.tuple #[.agg (sixV a), tmps.getD u undef]) w := by
  rw [results_cell_tmp h, hp]
  obtain ⟨t, hb⟩ := h2.blk
  have hl := run_loadVar_row (P := Try.prog) w k t 28 (sixV a) (0, 0) _ hb Try.underlying28 rfl (by rfl)
  simp [asAddr, Result.andThen, hl]
theorem ret_alarm1 {fn : Func} {p : Tmp} {k : Nat} {a : Alm} {tmps : Array Value} {w : World} (h : fn.results = #[.cell p 28]) (hp : tmps.getD p undef = .pointer (some ⟨k, 0, none⟩)) (h2 : Six w k a) :
    (results fn tmps).run Try.prog w = .ok (.agg (sixV a)) w := by
  obtain ⟨t, hb⟩ := h2.blk
  exact results_cell_row h tmps w k t (sixV a) (0, 0) _ hp hb Try.underlying28 rfl (by rfl)

theorem exec_load_six {o : Oper} {a : Act} {w : World} (x : Operand) (ho : o.op = .load 28 x) {k : Nat} {b c ph pr si un : Int} (hx : a.eval x = .pointer (some ⟨k, 0, none⟩)) (h : Six w k ⟨b, c, ph, pr, si, un⟩) :
    (execOp a.eval o).run Try.prog w = .ok (.value (.agg #[.int .i64 b, .int .i64 c, .int .i64 ph, .int .i64 pr, .int .i64 si, .int .i64 un])) w := by
  obtain ⟨t, hb⟩ := h.blk
  have hl := run_loadVar_row (P := Try.prog) w k t 28 (sixV ⟨b, c, ph, pr, si, un⟩) (0, 0) _ hb Try.underlying28 rfl (by rfl)
  unfold execOp
  simp only [ho, hx, Instr.loadAt, Instr.sureAddr, Sem.run_bind, Sem.run_pure, Result.andThen_ok, hl]
  rfl

end Go.Proofs.Ythlojadkgpmnmaa
