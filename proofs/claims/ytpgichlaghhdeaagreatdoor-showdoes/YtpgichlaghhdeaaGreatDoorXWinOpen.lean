/-
  Layer 10 (mute): how a window, and a slice of windows, that came in are read.
-/
import Derived.Test.YtpgichlaghhdeaaGreatDoorChecked
import Derived.Test.YtpgichlaghhdeaaGreatDoorXJb
import Derived.Lib.SmallJoins
import Derived.WideShapes
import Derived.ChangeArms
import Derived.Deep.Strs
namespace Go.Proofs.YtpgichlaghhdeaaGreatDoor
set_option maxRecDepth 10000
open Go.ChangeShapes Go.WideShapes Go.ChangeAt Go.RowKit Go.Joins Go.Deep

section
variable {H : Type} {enc : TypeId × Value → H} {w : World} {base : Nat}

theorem arrayThreeW {α : Type} {cs : Array α} (h : cs.size = 3) : ∃ c0 c1 c2, cs = #[c0, c1, c2] := by
  obtain ⟨l⟩ := cs
  match l, h with
  | [c0, c1, c2], _ => exact ⟨c0, c1, c2, rfl⟩
theorem listThreeW {α : Type} {cs : List α} (h : cs.length = 3) : ∃ c0 c1 c2, cs = [c0, c1, c2] := by
  match cs, h with
  | [c0, c1, c2], _ => exact ⟨c0, c1, c2, rfl⟩

set_option maxRecDepth 100000 in
theorem windowv_open {r : Reach} {b0 : Nat} {spare : Nat → Bool} {held : Bool} {v : Value} {d : DataW H} {p : List MemPlace} (hv : Value.okWide Tryz.prog w r b0 56 v) (h : DataW.Trod enc Tryz.prog w base spare held 56 v d p) :
    ∃ b f t, v = .agg #[.int .i64 b, .int .i64 f, .int .i64 t] ∧ (Lit.int .i64 b).wf = true ∧ (Lit.int .i64 f).wf = true ∧ (Lit.int .i64 t).wf = true := by
  have hI : Tryz.prog.cellsOf 3 = 1 := by kernel_rfl
  have hC : Tryz.prog.cellsOf 56 = 3 := by kernel_rfl
  obtain ⟨cs, rfl, hsz⟩ := okWide_struct Tryz.underlying56 hv
  obtain ⟨c0, c1, c2, rfl⟩ := arrayThreeW (hsz.trans hC)
  obtain ⟨fuel, hf⟩ := h
  obtain ⟨xs, n, _, _, _, hlen, hx⟩ := DataW.trod_struct Tryz.underlying56 hf
  match xs, hlen with
  | [y0, y1, y2], _ =>
    have t0 := hx 0 _ rfl
    have t1 := hx 1 _ rfl
    have t2 := hx 2 _ rfl
    simp only [Value.cells, List.getElem?_cons_zero, List.getElem?_cons_succ] at t0 t1 t2
    obtain ⟨b, e0, _, w0⟩ := DataW.trod_int Tryz.underlying3 t0
    obtain ⟨f, e1, _, w1⟩ := DataW.trod_int Tryz.underlying3 t1
    obtain ⟨t, e2, _, w2⟩ := DataW.trod_int Tryz.underlying3 t2
    cases e0
    cases e1
    cases e2
    exact ⟨b, f, t, rfl, w0, w1, w2⟩

set_option maxRecDepth 100000 in
theorem wins_open {fuel : Nat} {a : Option Addr} {len cap : Nat} {x : DataW H × List MemPlace}
    (h : DataW.trod enc Tryz.prog w base (fun _ => true) true fuel 29 (Value.slice a len cap).cells.toList = some x) :
    ∃ ls : List Win, ls.length = len ∧ WinsAt w w.heap.size a ls ∧ (a = none → cap = 0) ∧ len ≤ cap := by
  have hC : Tryz.prog.cellsOf 56 = 3 := by kernel_rfl
  have hI : Tryz.prog.cellsOf 3 = 1 := by kernel_rfl
  rcases open_slice Tryz.underlying29 h with ⟨hcs, _⟩ | ⟨y, l, c, m, n, D, Pl, hcs, _, hl, hm, hmm, _, hcell⟩
  · simp [Value.cells] at hcs
    obtain ⟨rfl, rfl, rfl⟩ := hcs
    exact ⟨[], rfl, WinsAt.nil _ _ _, fun _ => rfl, Nat.le_refl _⟩
  · simp [Value.cells] at hcs
    obtain ⟨rfl, rfl, rfl⟩ := hcs
    simp only [if_true] at hmm
    have hall : ∀ i : Nat, ∃ p : Win, i < len → (w.cell? (y.add (i * 3)) = some (.int .i64 p.bed) ∧ w.cell? ((y.add (i * 3)).add 1) = some (.int .i64 p.fr) ∧ w.cell? ((y.add (i * 3)).add 2) = some (.int .i64 p.to)) := by
      intro i
      by_cases hi : i < len
      · obtain ⟨cs', hc, ht'⟩ := hcell i (by omega)
        rw [hC] at hc
        obtain ⟨_, hlen', hat⟩ := World.cells?_some hc
        obtain ⟨c0, c1, c2, rfl⟩ := listThreeW hlen'
        obtain ⟨xs, n', _, _, _, hlen, hx⟩ := DataW.trod_struct Tryz.underlying56 ht'
        match xs, hlen with
        | [y0, y1, y2], _ =>
          have t0 := hx 0 _ rfl
          have t1 := hx 1 _ rfl
          have t2 := hx 2 _ rfl
          simp only [List.getElem?_cons_zero, List.getElem?_cons_succ] at t0 t1 t2
          obtain ⟨b, e0, _, w0⟩ := DataW.trod_int Tryz.underlying3 t0
          obtain ⟨f, e1, _, w1⟩ := DataW.trod_int Tryz.underlying3 t1
          obtain ⟨t, e2, _, w2⟩ := DataW.trod_int Tryz.underlying3 t2
          cases e0
          cases e1
          cases e2
          refine ⟨⟨b, f, t⟩, fun _ => ⟨?_, ?_, ?_⟩⟩
          · have := hat 0 (by omega)
            rw [show (y.add (i * 3)).add 0 = y.add (i * 3) by simp [Addr.add]] at this
            simpa using this
          · simpa using hat 1 (by omega)
          · simpa using hat 2 (by omega)
      · exact ⟨⟨0, 0, 0⟩, fun h => absurd h hi⟩
    obtain ⟨F, hF⟩ := Classical.skolem.1 hall
    refine ⟨(List.range len).map F, by simp, fun i hi => ?_, (fun h => by cases h), by omega⟩
    have hi' : i < len := by simpa using hi
    obtain ⟨b, off, spot⟩ := y
    obtain ⟨h0, h1, h2⟩ := hF i hi'
    have hspot : spot = none := by simpa [Addr.add] using World.cell?_spot (hF 0 (by omega)).1
    subst hspot
    rw [Go.WideShapes.add_plain] at h0 h1 h2
    rw [Go.WideShapes.add_plain] at h1 h2
    refine ⟨b, off, rfl, World.block_lt_of_cell? w _ h0, ⟨?_, ?_, ?_⟩⟩
    · simpa using h0
    · simpa using h1
    · simpa using h2
end
end Go.Proofs.YtpgichlaghhdeaaGreatDoor
