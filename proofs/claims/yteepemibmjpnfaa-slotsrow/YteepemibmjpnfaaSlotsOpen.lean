/-
  Layer 15 (slots): how slots that came in by value are read.
-/
import Derived.Test.YteepemibmjpnfaaFileOpen
import Derived.Test.YteepemibmjpnfaaSloM
namespace Go.Proofs.Yteepemibmjpnfaa
set_option maxRecDepth 10000
open Go.ChangeShapes Go.WideShapes Go.ChangeAt Go.RowKit Go.Joins Go.Deep

section
variable {H : Type} {enc : TypeId × Value → H} {w : World} {base : Nat}

theorem arraySix15 {α : Type} {cs : Array α} (h : cs.size = 6) : ∃ c0 c1 c2 c3 c4 c5, cs = #[c0, c1, c2, c3, c4, c5] := by
  obtain ⟨l⟩ := cs
  match l, h with
  | [c0, c1, c2, c3, c4, c5], _ => exact ⟨c0, c1, c2, c3, c4, c5, rfl⟩

set_option maxRecDepth 100000 in
theorem slotsv_open {r : Reach} {b0 : Nat} {spare : Nat → Bool} {held : Bool} {v : Value} {d : DataW H} {p : List MemPlace} (hv : Value.okWide Try.prog w r b0 25 v) (h : DataW.Trod enc Try.prog w base spare held 25 v d p) :
    ∃ s : Slo, v = .agg (Sl.v s) ∧ (Lit.int .i64 s.a.most).wf = true ∧ (Lit.int .i64 s.b.most).wf = true ∧ s.a.kept.size ≤ maxLen ∧ s.a.loose.size ≤ maxLen ∧ s.b.kept.size ≤ maxLen ∧ s.b.loose.size ≤ maxLen := by
  have hI : Try.prog.cellsOf 3 = 1 := by kernel_rfl
  have hT : Try.prog.cellsOf 9 = 1 := by kernel_rfl
  have hC : Try.prog.cellsOf 23 = 3 := by kernel_rfl
  have hS : Try.prog.cellsOf 25 = 6 := by kernel_rfl
  obtain ⟨cs, rfl, hsz⟩ := okWide_struct Try.underlying25 hv
  obtain ⟨c0, c1, c2, c3, c4, c5, rfl⟩ := arraySix15 (hsz.trans hS)
  obtain ⟨fuel, hf⟩ := h
  obtain ⟨u0, u1, n0, _, _, g0, g1⟩ := trod_struct2 Try.underlying25 hf
  simp only [Value.cells, hC, List.drop_zero, List.drop_succ_cons, List.take_succ_cons, List.take_zero] at g0 g1
  obtain ⟨y0, y1, y2, n, _, _, t0, t1, t2⟩ := trod_struct3 Try.underlying23 g0
  obtain ⟨z0, z1, z2, n', _, _, s0, s1, s2⟩ := trod_struct3 Try.underlying23 g1
  simp only [hI, hT, List.drop_zero, List.drop_succ_cons, List.take_succ_cons, List.take_zero] at t0 t1 t2 s0 s1 s2
  obtain ⟨m, e0, _, w0⟩ := DataW.trod_int Try.underlying3 t0
  obtain ⟨k, e1, _, w1⟩ := DataW.trod_string Try.underlying9 t1
  obtain ⟨l, e2, _, w2⟩ := DataW.trod_string Try.underlying9 t2
  obtain ⟨m', e3, _, w3⟩ := DataW.trod_int Try.underlying3 s0
  obtain ⟨k', e4, _, w4⟩ := DataW.trod_string Try.underlying9 s1
  obtain ⟨l', e5, _, w5⟩ := DataW.trod_string Try.underlying9 s2
  cases e0
  cases e1
  cases e2
  cases e3
  cases e4
  cases e5
  exact ⟨⟨⟨m, k, l⟩, ⟨m', k', l'⟩⟩, rfl, w0, w3, w1, w2, w4, w5⟩
end
end Go.Proofs.Yteepemibmjpnfaa
