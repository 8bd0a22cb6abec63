/-
  Layer 6 (alarm): how a spot and an alarm that came in by value are read.
-/
import Derived.Test.YtplpadblhjdpcaaGreatChecked
import Derived.Test.YtplpadblhjdpcaaGreatXJa
import Derived.Lib.SmallJoins
import Derived.WideShapes
import Derived.ChangeArms
namespace Go.Proofs.YtplpadblhjdpcaaGreat
set_option maxRecDepth 10000
open Go.ChangeShapes Go.WideShapes Go.ChangeAt Go.RowKit Go.Joins Go.Deep

section
variable {H : Type} {enc : TypeId × Value → H} {w : World} {base : Nat}

set_option maxRecDepth 100000 in
theorem spotv_open {r : Reach} {b0 : Nat} {spare : Nat → Bool} {held : Bool} {v : Value} {d : DataW H} {p : List MemPlace} (hv : Value.okWide Tryz.prog w r b0 26 v) (h : DataW.Trod enc Tryz.prog w base spare held 26 v d p) :
    ∃ b c, v = .agg #[.int .i64 b, .int .i64 c] ∧ (Lit.int .i64 b).wf = true ∧ (Lit.int .i64 c).wf = true := by
  obtain ⟨v0, v1, y0, y1, n, rfl, _, _, t0, t1⟩ := open_agg2 Tryz.underlying26 (by kernel_rfl) (by kernel_rfl) hv h
  obtain ⟨b, e0, _, w0⟩ := DataW.trod_int Tryz.underlying3 t0
  obtain ⟨c, e1, _, w1⟩ := DataW.trod_int Tryz.underlying3 t1
  cases e0
  cases e1
  exact ⟨b, c, rfl, w0, w1⟩

theorem arraySix {α : Type} {cs : Array α} (h : cs.size = 6) : ∃ c0 c1 c2 c3 c4 c5, cs = #[c0, c1, c2, c3, c4, c5] := by
  obtain ⟨l⟩ := cs
  match l, h with
  | [c0, c1, c2, c3, c4, c5], _ => exact ⟨c0, c1, c2, c3, c4, c5, rfl⟩

set_option maxRecDepth 100000 in
theorem alarmv_open {r : Reach} {b0 : Nat} {spare : Nat → Bool} {held : Bool} {v : Value} {d : DataW H} {p : List MemPlace} (hv : Value.okWide Tryz.prog w r b0 38 v) (h : DataW.Trod enc Tryz.prog w base spare held 38 v d p) :
    ∃ b c ph pr si un, v = .agg #[.int .i64 b, .int .i64 c, .int .i64 ph, .int .i64 pr, .int .i64 si, .int .i64 un] ∧ ((Lit.int .i64 b).wf = true ∧ (Lit.int .i64 c).wf = true) ∧ (Lit.int .i64 ph).wf = true ∧ (Lit.int .i64 pr).wf = true ∧ (Lit.int .i64 si).wf = true ∧ (Lit.int .i64 un).wf = true := by
  have hI : Tryz.prog.cellsOf 3 = 1 := by kernel_rfl
  have hC : Tryz.prog.cellsOf 38 = 6 := by kernel_rfl
  obtain ⟨cs, rfl, hsz⟩ := okWide_struct Tryz.underlying38 hv
  obtain ⟨c0, c1, c2, c3, c4, c5, rfl⟩ := arraySix (hsz.trans hC)
  obtain ⟨fuel, hf⟩ := h
  obtain ⟨xs, n, _, _, _, hlen, hx⟩ := DataW.trod_struct Tryz.underlying38 hf
  match xs, hlen with
  | [y0, y1, y2, y3, y4], _ =>
    have t0 := hx 0 _ rfl
    have t1 := hx 1 _ rfl
    have t2 := hx 2 _ rfl
    have t3 := hx 3 _ rfl
    have t4 := hx 4 _ rfl
    simp only [Value.cells, List.getElem?_cons_zero, List.getElem?_cons_succ] at t0 t1 t2 t3 t4
    obtain ⟨z0, z1, m, _, _, s0, s1⟩ := trod_struct2 Tryz.underlying26 t0
    simp only [hI, List.drop_zero] at s0 s1
    obtain ⟨b, e0, _, w0⟩ := DataW.trod_int Tryz.underlying3 s0
    obtain ⟨c, e1, _, w1⟩ := DataW.trod_int Tryz.underlying3 s1
    obtain ⟨ph, e2, _, w2⟩ := DataW.trod_int Tryz.underlying3 t1
    obtain ⟨pr, e3, _, w3⟩ := DataW.trod_int Tryz.underlying3 t2
    obtain ⟨si, e4, _, w4⟩ := DataW.trod_int Tryz.underlying3 t3
    obtain ⟨un, e5, _, w5⟩ := DataW.trod_int Tryz.underlying3 t4
    cases e0
    cases e1
    cases e2
    cases e3
    cases e4
    cases e5
    exact ⟨b, c, ph, pr, si, un, rfl, ⟨w0, w1⟩, w2, w3, w4, w5⟩
end
end Go.Proofs.YtplpadblhjdpcaaGreat
