/-
  Layer 9 (due): how a slice of turns that came in is read.
-/
import Derived.Test.YtplpadblhjdpcaaGreatXAlarmOpen
import Derived.Test.YtplpadblhjdpcaaGreatXJa
import Derived.Deep.Strs
namespace Go.Proofs.YtplpadblhjdpcaaGreat
set_option maxRecDepth 10000
open Go.ChangeShapes Go.WideShapes Go.ChangeAt Go.RowKit Go.Joins Go.Deep

section
variable {H : Type} {enc : TypeId × Value → H} {w : World} {base : Nat}

theorem listFour {α : Type} {cs : List α} (h : cs.length = 4) : ∃ c0 c1 c2 c3, cs = [c0, c1, c2, c3] := by
  match cs, h with
  | [c0, c1, c2, c3], _ => exact ⟨c0, c1, c2, c3, rfl⟩

set_option maxRecDepth 100000 in
theorem trns_open {fuel : Nat} {a : Option Addr} {len cap : Nat} {x : DataW H × List MemPlace}
    (h : DataW.trod enc Tryz.prog w base (fun _ => true) true fuel 27 (Value.slice a len cap).cells.toList = some x) :
    ∃ ls : List Trn, ls.length = len ∧ TrnsAt w w.heap.size a ls ∧ (a = none → cap = 0) := by
  have hC : Tryz.prog.cellsOf 55 = 4 := by kernel_rfl
  have hI : Tryz.prog.cellsOf 3 = 1 := by kernel_rfl
  rcases open_slice Tryz.underlying27 h with ⟨hcs, _⟩ | ⟨y, l, c, m, n, D, Pl, hcs, _, hl, hm, hmm, _, hcell⟩
  · simp [Value.cells] at hcs
    obtain ⟨rfl, rfl, rfl⟩ := hcs
    exact ⟨[], rfl, TrnsAt.nil _ _ _, fun _ => rfl⟩
  · simp [Value.cells] at hcs
    obtain ⟨rfl, rfl, rfl⟩ := hcs
    simp only [if_true] at hmm
    have hall : ∀ i : Nat, ∃ p : Trn, i < len → (w.cell? (y.add (i * 4)) = some (.int .i64 p.tm) ∧ w.cell? ((y.add (i * 4)).add 1) = some (.int .i64 p.b) ∧ w.cell? ((y.add (i * 4)).add 2) = some (.int .i64 p.c) ∧ w.cell? ((y.add (i * 4)).add 3) = some (.int .i64 p.ph)) := by
      intro i
      by_cases hi : i < len
      · obtain ⟨cs', hc, ht'⟩ := hcell i (by omega)
        rw [hC] at hc
        obtain ⟨_, hlen', hat⟩ := World.cells?_some hc
        obtain ⟨c0, c1, c2, c3, rfl⟩ := listFour hlen'
        obtain ⟨xs, n', _, _, _, hlen, hx⟩ := DataW.trod_struct Tryz.underlying55 ht'
        match xs, hlen with
        | [y0, y1, y2], _ =>
          have t0 := hx 0 _ rfl
          have t1 := hx 1 _ rfl
          have t2 := hx 2 _ rfl
          simp only [List.getElem?_cons_zero, List.getElem?_cons_succ] at t0 t1 t2
          obtain ⟨z0, z1, m', _, _, s0, s1⟩ := trod_struct2 Tryz.underlying26 t1
          simp only [hI, List.drop_zero] at s0 s1
          obtain ⟨tm, e0, _, w0⟩ := DataW.trod_int Tryz.underlying3 t0
          obtain ⟨b, e1, _, w1⟩ := DataW.trod_int Tryz.underlying3 s0
          obtain ⟨c, e2, _, w2⟩ := DataW.trod_int Tryz.underlying3 s1
          obtain ⟨ph, e3, _, w3⟩ := DataW.trod_int Tryz.underlying3 t2
          cases e0
          cases e1
          cases e2
          cases e3
          refine ⟨⟨tm, b, c, ph⟩, fun _ => ⟨?_, ?_, ?_, ?_⟩⟩
          · have := hat 0 (by omega)
            rw [show (y.add (i * 4)).add 0 = y.add (i * 4) by simp [Addr.add]] at this
            simpa using this
          · simpa using hat 1 (by omega)
          · simpa using hat 2 (by omega)
          · simpa using hat 3 (by omega)
      · exact ⟨⟨0, 0, 0, 0⟩, fun h => absurd h hi⟩
    obtain ⟨F, hF⟩ := Classical.skolem.1 hall
    refine ⟨(List.range len).map F, by simp, fun i hi => ?_, fun h => by cases h⟩
    have hi' : i < len := by simpa using hi
    obtain ⟨b, off, spot⟩ := y
    obtain ⟨h0, h1, h2, h3⟩ := hF i hi'
    have hspot : spot = none := by simpa [Addr.add] using World.cell?_spot (hF 0 (by omega)).1
    subst hspot
    rw [Go.WideShapes.add_plain] at h0 h1 h2 h3
    rw [Go.WideShapes.add_plain] at h1 h2 h3
    refine ⟨b, off, rfl, World.block_lt_of_cell? w _ h0, ⟨?_, ?_, ?_, ?_⟩⟩
    · simpa using h0
    · simpa using h1
    · simpa using h2
    · simpa using h3
end
end Go.Proofs.YtplpadblhjdpcaaGreat
