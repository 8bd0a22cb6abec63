/-
  Layer 6 (alarm): how a spot and an alarm that came in by value are read.
  Layer 7 (rank): how a slice of alarms that came in is read.
  Layer 8 (board): how a board that came in by value is read.
-/
import Derived.Test.YtpgichlaghhdeaaGreatDoorChecked
import Derived.Test.YtpgichlaghhdeaaGreatDoorXJb
import Derived.Lib.SmallJoins
import Derived.WideShapes
import Derived.ChangeArms
import Derived.Deep.Strs
namespace Go.Proofs.YtpgichlaghhdeaaGreatDoor
set_option maxRecDepth 10000
open Go.ChangeShapes Go.WideShapes Go.ChangeAt Go.RowKit Go.Joins Go.Deep

section
variable {H : Type} {enc : TypeId × Value → H} {w : World} {base : Nat}

set_option maxRecDepth 100000 in
theorem spotv_open {r : Reach} {b0 : Nat} {spare : Nat → Bool} {held : Bool} {v : Value} {d : DataW H} {p : List MemPlace} (hv : Value.okWide Tryz.prog w r b0 23 v) (h : DataW.Trod enc Tryz.prog w base spare held 23 v d p) :
    ∃ b c, v = .agg #[.int .i64 b, .int .i64 c] ∧ (Lit.int .i64 b).wf = true ∧ (Lit.int .i64 c).wf = true := by
  obtain ⟨v0, v1, y0, y1, n, rfl, _, _, t0, t1⟩ := open_agg2 Tryz.underlying23 (by kernel_rfl) (by kernel_rfl) hv h
  obtain ⟨b, e0, _, w0⟩ := DataW.trod_int Tryz.underlying3 t0
  obtain ⟨c, e1, _, w1⟩ := DataW.trod_int Tryz.underlying3 t1
  cases e0
  cases e1
  exact ⟨b, c, rfl, w0, w1⟩

theorem arraySix {α : Type} {cs : Array α} (h : cs.size = 6) : ∃ c0 c1 c2 c3 c4 c5, cs = #[c0, c1, c2, c3, c4, c5] := by
  obtain ⟨l⟩ := cs
  match l, h with
  | [c0, c1, c2, c3, c4, c5], _ => exact ⟨c0, c1, c2, c3, c4, c5, rfl⟩

set_option maxRecDepth 100000 in
theorem alarmv_open {r : Reach} {b0 : Nat} {spare : Nat → Bool} {held : Bool} {v : Value} {d : DataW H} {p : List MemPlace} (hv : Value.okWide Tryz.prog w r b0 25 v) (h : DataW.Trod enc Tryz.prog w base spare held 25 v d p) :
    ∃ b c ph pr si un, v = .agg #[.int .i64 b, .int .i64 c, .int .i64 ph, .int .i64 pr, .int .i64 si, .int .i64 un] ∧ ((Lit.int .i64 b).wf = true ∧ (Lit.int .i64 c).wf = true) ∧ (Lit.int .i64 ph).wf = true ∧ (Lit.int .i64 pr).wf = true ∧ (Lit.int .i64 si).wf = true ∧ (Lit.int .i64 un).wf = true := by
  have hI : Tryz.prog.cellsOf 3 = 1 := by kernel_rfl
  have hC : Tryz.prog.cellsOf 25 = 6 := by kernel_rfl
  obtain ⟨cs, rfl, hsz⟩ := okWide_struct Tryz.underlying25 hv
  obtain ⟨c0, c1, c2, c3, c4, c5, rfl⟩ := arraySix (hsz.trans hC)
  obtain ⟨fuel, hf⟩ := h
  obtain ⟨xs, n, _, _, _, hlen, hx⟩ := DataW.trod_struct Tryz.underlying25 hf
  match xs, hlen with
  | [y0, y1, y2, y3, y4], _ =>
    have t0 := hx 0 _ rfl
    have t1 := hx 1 _ rfl
    have t2 := hx 2 _ rfl
    have t3 := hx 3 _ rfl
    have t4 := hx 4 _ rfl
    simp only [Value.cells, List.getElem?_cons_zero, List.getElem?_cons_succ] at t0 t1 t2 t3 t4
    obtain ⟨z0, z1, m, _, _, s0, s1⟩ := trod_struct2 Tryz.underlying23 t0
    simp only [hI, List.drop_zero] at s0 s1
    obtain ⟨b, e0, _, w0⟩ := DataW.trod_int Tryz.underlying3 s0
    obtain ⟨c, e1, _, w1⟩ := DataW.trod_int Tryz.underlying3 s1
    obtain ⟨ph, e2, _, w2⟩ := DataW.trod_int Tryz.underlying3 t1
    obtain ⟨pr, e3, _, w3⟩ := DataW.trod_int Tryz.underlying3 t2
    obtain ⟨si, e4, _, w4⟩ := DataW.trod_int Tryz.underlying3 t3
    obtain ⟨un, e5, _, w5⟩ := DataW.trod_int Tryz.underlying3 t4
    cases e0
    cases e1
    cases e2
    cases e3
    cases e4
    cases e5
    exact ⟨b, c, ph, pr, si, un, rfl, ⟨w0, w1⟩, w2, w3, w4, w5⟩
end
end Go.Proofs.YtpgichlaghhdeaaGreatDoor

namespace Go.Proofs.YtpgichlaghhdeaaGreatDoor
set_option maxRecDepth 10000
open Go.ChangeShapes Go.WideShapes Go.ChangeAt Go.RowKit Go.Joins Go.Deep

section
variable {H : Type} {enc : TypeId × Value → H} {w : World} {base : Nat}

theorem listSix {α : Type} {cs : List α} (h : cs.length = 6) : ∃ c0 c1 c2 c3 c4 c5, cs = [c0, c1, c2, c3, c4, c5] := by
  match cs, h with
  | [c0, c1, c2, c3, c4, c5], _ => exact ⟨c0, c1, c2, c3, c4, c5, rfl⟩

set_option maxRecDepth 100000 in
theorem alms_open {fuel : Nat} {a : Option Addr} {len cap : Nat} {x : DataW H × List MemPlace}
    (h : DataW.trod enc Tryz.prog w base (fun _ => true) true fuel 26 (Value.slice a len cap).cells.toList = some x) :
    ∃ ls : List Alm, ls.length = len ∧ AlmsAt w w.heap.size a ls ∧ (a = none → cap = 0) := by
  have hC : Tryz.prog.cellsOf 25 = 6 := by kernel_rfl
  have hI : Tryz.prog.cellsOf 3 = 1 := by kernel_rfl
  rcases open_slice Tryz.underlying26 h with ⟨hcs, _⟩ | ⟨y, l, c, m, n, D, Pl, hcs, _, hl, hm, hmm, _, hcell⟩
  · simp [Value.cells] at hcs
    obtain ⟨rfl, rfl, rfl⟩ := hcs
    exact ⟨[], rfl, AlmsAt.nil _ _ _, fun _ => rfl⟩
  · simp [Value.cells] at hcs
    obtain ⟨rfl, rfl, rfl⟩ := hcs
    simp only [if_true] at hmm
    have hall : ∀ i : Nat, ∃ p : Alm, i < len → (w.cell? (y.add (i * 6)) = some (.int .i64 p.b) ∧ w.cell? ((y.add (i * 6)).add 1) = some (.int .i64 p.c) ∧ w.cell? ((y.add (i * 6)).add 2) = some (.int .i64 p.ph) ∧ w.cell? ((y.add (i * 6)).add 3) = some (.int .i64 p.pr) ∧ w.cell? ((y.add (i * 6)).add 4) = some (.int .i64 p.si) ∧ w.cell? ((y.add (i * 6)).add 5) = some (.int .i64 p.un)) := by
      intro i
      by_cases hi : i < len
      · obtain ⟨cs', hc, ht'⟩ := hcell i (by omega)
        rw [hC] at hc
        obtain ⟨_, hlen', hat⟩ := World.cells?_some hc
        obtain ⟨c0, c1, c2, c3, c4, c5, rfl⟩ := listSix hlen'
        obtain ⟨xs, n', _, _, _, hlen, hx⟩ := DataW.trod_struct Tryz.underlying25 ht'
        match xs, hlen with
        | [y0, y1, y2, y3, y4], _ =>
          have t0 := hx 0 _ rfl
          have t1 := hx 1 _ rfl
          have t2 := hx 2 _ rfl
          have t3 := hx 3 _ rfl
          have t4 := hx 4 _ rfl
          simp only [List.getElem?_cons_zero, List.getElem?_cons_succ] at t0 t1 t2 t3 t4
          obtain ⟨z0, z1, m', _, _, s0, s1⟩ := trod_struct2 Tryz.underlying23 t0
          simp only [hI, List.drop_zero] at s0 s1
          obtain ⟨b, e0, _, w0⟩ := DataW.trod_int Tryz.underlying3 s0
          obtain ⟨c, e1, _, w1⟩ := DataW.trod_int Tryz.underlying3 s1
          obtain ⟨ph, e2, _, w2⟩ := DataW.trod_int Tryz.underlying3 t1
          obtain ⟨pr, e3, _, w3⟩ := DataW.trod_int Tryz.underlying3 t2
          obtain ⟨si, e4, _, w4⟩ := DataW.trod_int Tryz.underlying3 t3
          obtain ⟨un, e5, _, w5⟩ := DataW.trod_int Tryz.underlying3 t4
          cases e0
          cases e1
          cases e2
          cases e3
          cases e4
          cases e5
          refine ⟨⟨b, c, ph, pr, si, un⟩, fun _ => ⟨?_, ?_, ?_, ?_, ?_, ?_⟩⟩
          · have := hat 0 (by omega)
            rw [show (y.add (i * 6)).add 0 = y.add (i * 6) by simp [Addr.add]] at this
            simpa using this
          · simpa using hat 1 (by omega)
          · simpa using hat 2 (by omega)
          · simpa using hat 3 (by omega)
          · simpa using hat 4 (by omega)
          · simpa using hat 5 (by omega)
      · exact ⟨⟨0, 0, 0, 0, 0, 0⟩, fun h => absurd h hi⟩
    obtain ⟨F, hF⟩ := Classical.skolem.1 hall
    refine ⟨(List.range len).map F, by simp, fun i hi => ?_, fun h => by cases h⟩
    have hi' : i < len := by simpa using hi
    obtain ⟨b, off, spot⟩ := y
    obtain ⟨h0, h1, h2, h3, h4, h5⟩ := hF i hi'
    have hspot : spot = none := by simpa [Addr.add] using World.cell?_spot (hF 0 (by omega)).1
    subst hspot
    rw [Go.WideShapes.add_plain] at h0 h1 h2 h3 h4 h5
    rw [Go.WideShapes.add_plain] at h1 h2 h3 h4 h5
    refine ⟨b, off, rfl, World.block_lt_of_cell? w _ h0, ⟨?_, ?_, ?_, ?_, ?_, ?_⟩⟩
    · simpa using h0
    · simpa using h1
    · simpa using h2
    · simpa using h3
    · simpa using h4
    · simpa using h5
end
end Go.Proofs.YtpgichlaghhdeaaGreatDoor

namespace Go.Proofs.YtpgichlaghhdeaaGreatDoor
set_option maxRecDepth 10000
open Go.ChangeShapes Go.WideShapes Go.ChangeAt Go.RowKit Go.Joins Go.Deep

section
variable {H : Type} {enc : TypeId × Value → H} {w : World} {base : Nat}

theorem arrayThree {α : Type} {cs : Array α} (h : cs.size = 3) : ∃ c0 c1 c2, cs = #[c0, c1, c2] := by
  obtain ⟨l⟩ := cs
  match l, h with
  | [c0, c1, c2], _ => exact ⟨c0, c1, c2, rfl⟩

set_option maxRecDepth 100000 in
theorem boardv_open {r : Reach} {b0 : Nat} {v : Value} {d : DataW H} {p : List MemPlace} (hv : Value.okWide Tryz.prog w r b0 28 v) (h : DataW.Trod enc Tryz.prog w base (fun _ => true) true 28 v d p) :
    ∃ m n A cap, ∃ ls : List Alm, v = .agg #[.int .i64 m, .int .i64 n, .slice A ls.length cap] ∧ AlmsAt w w.heap.size A ls ∧ (A = none → cap = 0) := by
  have hC : Tryz.prog.cellsOf 28 = 3 := by kernel_rfl
  obtain ⟨cs, rfl, hsz⟩ := okWide_struct Tryz.underlying28 hv
  obtain ⟨c0, c1, c2, rfl⟩ := arrayThree (hsz.trans hC)
  obtain ⟨fuel, hf⟩ := h
  obtain ⟨xs, n, _, _, _, hlen, hx⟩ := DataW.trod_struct Tryz.underlying28 hf
  match xs, hlen with
  | [y0, y1, y2], _ =>
    have t0 := hx 0 _ rfl
    have t1 := hx 1 _ rfl
    have t2 := hx 2 _ rfl
    simp only [Value.cells, List.getElem?_cons_zero, List.getElem?_cons_succ] at t0 t1 t2
    obtain ⟨a0, e0, _, w0⟩ := DataW.trod_int Tryz.underlying3 t0
    obtain ⟨a1, e1, _, w1⟩ := DataW.trod_int Tryz.underlying3 t1
    cases e0
    cases e1
    have hS1 : Tryz.prog.cellsOf 26 = 1 := by kernel_rfl
    have t3 : DataW.trod enc Tryz.prog w base (fun _ => true) true n 26 (List.take (Tryz.prog.cellsOf 26) [c2]) = some y2 := t2
    rw [hS1] at t3
    replace t3 : DataW.trod enc Tryz.prog w base (fun _ => true) true n 26 [c2] = some y2 := t3
    clear t2
    rcases open_slice Tryz.underlying26 t3 with ⟨hcs, _⟩ | ⟨y, l, c, m, n, D, Pl, hcs, _⟩
    · have e : c2 = .slice none 0 0 := by simpa using hcs
      subst e
      obtain ⟨ls, hl, h1, h2⟩ := alms_open (a := none) (len := 0) (cap := 0) t3
      exact ⟨a0, a1, none, 0, ls, by rw [hl], h1, h2⟩
    · have e : c2 = .slice (some y) l c := by simpa using hcs
      subst e
      obtain ⟨ls, hl, h1, h2⟩ := alms_open (a := some y) (len := l) (cap := c) t3
      exact ⟨a0, a1, some y, c, ls, by rw [hl], h1, h2⟩
end
end Go.Proofs.YtpgichlaghhdeaaGreatDoor
