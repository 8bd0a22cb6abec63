/-
  Rows of turns in memory: a beginning, and what is behind it, as slices.
-/
import Derived.Test.YtplpadblhjdpcaaGreatXJa
namespace Go.Proofs.YtplpadblhjdpcaaGreat
set_option maxRecDepth 10000
open Go.RowKit

theorem run_slice_to4 (A : Option Addr) (n cap j : Nat) (hj : j ≤ cap) (w : World) :
    (Instr.sliceAt 27 (.slice A n cap) none (some (.int .i64 (j : Int))) none).run Tryz.prog w = .ok (sliced A 0 j cap 4) w := by
  have hs : (sizeOf 55).run Tryz.prog w = .ok 4 w := by kernel_rfl
  have hb : (Instr.sliceBound (.int .i64 (j : Int)) cap .sliceAcap).run Tryz.prog w = .ok j w := by simp [Instr.sliceBound, asIntOf, hj]
  simp [Instr.sliceAt, Instr.slice, Instr.sliceBounds, run_underlying Tryz.underlying27, hs, hb, Result.andThen, sliced]
theorem run_slice_from4 (A : Option Addr) (n cap j : Nat) (hj : j ≤ n) (w : World) :
    (Instr.sliceAt 27 (.slice A n cap) (some (.int .i64 (j : Int))) none none).run Tryz.prog w = .ok (sliced A j n cap 4) w := by
  have hs : (sizeOf 55).run Tryz.prog w = .ok 4 w := by kernel_rfl
  have hb : (Instr.sliceBound (.int .i64 (j : Int)) n .sliceB).run Tryz.prog w = .ok j w := by simp [Instr.sliceBound, asIntOf, hj]
  simp [Instr.sliceAt, Instr.slice, Instr.sliceBounds, run_underlying Tryz.underlying27, hs, hb, Result.andThen, sliced]

theorem wpList_slice_to4 {ops : Array Oper} {rest : List Oper} {o : Oper} {a : Act} {w : World} {Q : Exit → Act → World → Prop} (hgd : o.guard = none) (x y : Operand) (ho : o.op = .slice 27 x none (some y) none)
    (A : Option Addr) (n cap j B : Nat) (ls : List Trn) (hx : a.eval x = .slice A n cap) (hy : a.eval y = .int .i64 (j : Int)) (hA : TrnsAt w B A ls) (hnil : A = none → cap = 0) (hnc : n ≤ cap) (hn : n = ls.length) (hj : j ≤ n)
    (h : ∀ A2, TrnsAt w B A2 (ls.take j) → (A2 = none → cap = 0) → wpList Tryz.prog ops Q rest (a.put o.dst (.slice A2 j cap)) w) : wpList Tryz.prog ops Q (o :: rest) a w := by
  refine wpList_plain hgd fun K hK => ?_
  have hrun := run_slice_to4 A n cap j (by omega) w
  unfold Oper.wp
  simp only [execOp, ho, hx, hy, Option.map_none, Option.map_some, Sem.run_bind, hrun, Result.andThen_ok, Sem.run_pure]
  refine hK _ _ ?_
  have hh := h (if cap = 0 then A else A.map (·.add (0 * 4)))
  have e : (if cap = 0 then A else A.map (·.add (0 * 4))) = A := by
    split
    · rfl
    · cases A with
      | none => rfl
      | some ad => rw [Option.map_some]; congr 1
  rw [e] at hh
  unfold sliced
  rw [e, Nat.sub_zero, Nat.sub_zero]
  exact hh (hA.take j) hnil
theorem wpList_slice_from4 {ops : Array Oper} {rest : List Oper} {o : Oper} {a : Act} {w : World} {Q : Exit → Act → World → Prop} (hgd : o.guard = none) (x y : Operand) (ho : o.op = .slice 27 x (some y) none none)
    (A : Option Addr) (n cap j B : Nat) (ls : List Trn) (hx : a.eval x = .slice A n cap) (hy : a.eval y = .int .i64 (j : Int)) (hA : TrnsAt w B A ls) (hnil : A = none → cap = 0) (hnc : n ≤ cap) (hn : n = ls.length) (hj : j ≤ n)
    (h : ∀ A2, TrnsAt w B A2 (ls.drop j) → (A2 = none → cap - j = 0) → wpList Tryz.prog ops Q rest (a.put o.dst (.slice A2 (n - j) (cap - j))) w) : wpList Tryz.prog ops Q (o :: rest) a w := by
  refine wpList_plain hgd fun K hK => ?_
  have hrun := run_slice_from4 A n cap j hj w
  unfold Oper.wp
  simp only [execOp, ho, hx, hy, Option.map_none, Option.map_some, Sem.run_bind, hrun, Result.andThen_ok, Sem.run_pure]
  refine hK _ _ ?_
  unfold sliced
  by_cases hc : cap = j
  · rw [if_pos hc]
    have hz : ls.drop j = [] := List.drop_eq_nil_of_le (by omega)
    exact h A (by rw [hz]; exact TrnsAt.nil _ _ _) (fun _ => by omega)
  · rw [if_neg hc]
    cases A with
    | none => exact absurd (hnil rfl) (by omega)
    | some ad =>
      rw [Option.map_some]
      by_cases hz : ls.drop j = []
      · exact h _ (by rw [hz]; exact TrnsAt.nil _ _ _) (fun e => by cases e)
      · have hlt : j < ls.length := by
          rcases Nat.lt_or_ge j ls.length with h1 | h1
          · exact h1
          · exact absurd (List.drop_eq_nil_of_le h1) hz
        obtain ⟨b, off, e, _⟩ := hA j hlt
        cases e
        rw [Go.WideShapes.add_plain]
        exact h _ (hA.drop j) (fun e => by cases e)
end Go.Proofs.YtplpadblhjdpcaaGreat
