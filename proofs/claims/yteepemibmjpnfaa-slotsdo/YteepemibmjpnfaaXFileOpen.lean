/-
  Layer 12 (file): how a file that came in by value is read.
-/
import Derived.Test.YteepemibmjpnfaaChecked
import Derived.Test.YteepemibmjpnfaaXJa
import Derived.Lib.SmallJoins
import Derived.WideShapes
import Derived.ChangeArms
import Derived.Deep.Strs
namespace Go.Proofs.Yteepemibmjpnfaa
set_option maxRecDepth 10000
open Go.ChangeShapes Go.WideShapes Go.ChangeAt Go.RowKit Go.Joins Go.Deep

section
variable {H : Type} {enc : TypeId × Value → H} {w : World} {base : Nat}

theorem arrayTri12 {α : Type} {cs : Array α} (h : cs.size = 3) : ∃ c0 c1 c2, cs = #[c0, c1, c2] := by
  obtain ⟨l⟩ := cs
  match l, h with
  | [c0, c1, c2], _ => exact ⟨c0, c1, c2, rfl⟩

set_option maxRecDepth 100000 in
theorem filev_open {r : Reach} {b0 : Nat} {spare : Nat → Bool} {held : Bool} {v : Value} {d : DataW H} {p : List MemPlace} (hv : Value.okWide Try.prog w r b0 23 v) (h : DataW.Trod enc Try.prog w base spare held 23 v d p) :
    ∃ m k l, v = .agg #[.int .i64 m, .string k, .string l] ∧ (Lit.int .i64 m).wf = true ∧ k.size ≤ maxLen ∧ l.size ≤ maxLen := by
  have hI : Try.prog.cellsOf 3 = 1 := by kernel_rfl
  have hT : Try.prog.cellsOf 9 = 1 := by kernel_rfl
  have hC : Try.prog.cellsOf 23 = 3 := by kernel_rfl
  obtain ⟨cs, rfl, hsz⟩ := okWide_struct Try.underlying23 hv
  obtain ⟨c0, c1, c2, rfl⟩ := arrayTri12 (hsz.trans hC)
  obtain ⟨fuel, hf⟩ := h
  obtain ⟨y0, y1, y2, n, _, _, t0, t1, t2⟩ := trod_struct3 Try.underlying23 hf
  simp only [Value.cells, hI, hT, List.drop_zero, List.drop_succ_cons, List.take_succ_cons, List.take_zero] at t0 t1 t2
  obtain ⟨m, e0, _, w0⟩ := DataW.trod_int Try.underlying3 t0
  obtain ⟨k, e1, _, w1⟩ := DataW.trod_string Try.underlying9 t1
  obtain ⟨l, e2, _, w2⟩ := DataW.trod_string Try.underlying9 t2
  cases e0
  cases e1
  cases e2
  exact ⟨m, k, l, rfl, w0, w1, w2⟩
end
end Go.Proofs.Yteepemibmjpnfaa
