/-
  Layer 8 (board): how a board that came in by value is read.
-/
import Derived.Test.YtplpadblhjdpcaaGreatXRankOpen
namespace Go.Proofs.YtplpadblhjdpcaaGreat
set_option maxRecDepth 10000
open Go.ChangeShapes Go.WideShapes Go.ChangeAt Go.RowKit Go.Joins Go.Deep

section
variable {H : Type} {enc : TypeId × Value → H} {w : World} {base : Nat}

theorem arrayThree {α : Type} {cs : Array α} (h : cs.size = 3) : ∃ c0 c1 c2, cs = #[c0, c1, c2] := by
  obtain ⟨l⟩ := cs
  match l, h with
  | [c0, c1, c2], _ => exact ⟨c0, c1, c2, rfl⟩

set_option maxRecDepth 100000 in
theorem boardv_open {r : Reach} {b0 : Nat} {v : Value} {d : DataW H} {p : List MemPlace} (hv : Value.okWide Tryz.prog w r b0 24 v) (h : DataW.Trod enc Tryz.prog w base (fun _ => true) true 24 v d p) :
    ∃ m n A cap, ∃ ls : List Alm, v = .agg #[.int .i64 m, .int .i64 n, .slice A ls.length cap] ∧ AlmsAt w w.heap.size A ls ∧ (A = none → cap = 0) := by
  have hC : Tryz.prog.cellsOf 24 = 3 := by kernel_rfl
  obtain ⟨cs, rfl, hsz⟩ := okWide_struct Tryz.underlying24 hv
  obtain ⟨c0, c1, c2, rfl⟩ := arrayThree (hsz.trans hC)
  obtain ⟨fuel, hf⟩ := h
  obtain ⟨xs, n, _, _, _, hlen, hx⟩ := DataW.trod_struct Tryz.underlying24 hf
  match xs, hlen with
  | [y0, y1, y2], _ =>
    have t0 := hx 0 _ rfl
    have t1 := hx 1 _ rfl
    have t2 := hx 2 _ rfl
    simp only [Value.cells, List.getElem?_cons_zero, List.getElem?_cons_succ] at t0 t1 t2
    obtain ⟨a0, e0, _, w0⟩ := DataW.trod_int Tryz.underlying3 t0
    obtain ⟨a1, e1, _, w1⟩ := DataW.trod_int Tryz.underlying3 t1
    cases e0
    cases e1
    have hS1 : Tryz.prog.cellsOf 22 = 1 := by kernel_rfl
    have t3 : DataW.trod enc Tryz.prog w base (fun _ => true) true n 22 (List.take (Tryz.prog.cellsOf 22) [c2]) = some y2 := t2
    rw [hS1] at t3
    replace t3 : DataW.trod enc Tryz.prog w base (fun _ => true) true n 22 [c2] = some y2 := t3
    clear t2
    rcases open_slice Tryz.underlying22 t3 with ⟨hcs, _⟩ | ⟨y, l, c, m, n, D, Pl, hcs, _⟩
    · have e : c2 = .slice none 0 0 := by simpa using hcs
      subst e
      obtain ⟨ls, hl, h1, h2⟩ := alms_open (a := none) (len := 0) (cap := 0) t3
      exact ⟨a0, a1, none, 0, ls, by rw [hl], h1, h2⟩
    · have e : c2 = .slice (some y) l c := by simpa using hcs
      subst e
      obtain ⟨ls, hl, h1, h2⟩ := alms_open (a := some y) (len := l) (cap := c) t3
      exact ⟨a0, a1, some y, c, ls, by rw [hl], h1, h2⟩
end
end Go.Proofs.YtplpadblhjdpcaaGreat
