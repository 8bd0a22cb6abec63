/-
  Layer 4 (spot): what the listed variables give; how a spot and a slice of spots that came in are read.
-/
import Derived.Test.YtndpcnimebedcaaDoorRows
import Derived.Test.YtndpcnimebedcaaDoorSpotBeds
import Derived.Lib.SmallJoins
import Derived.Deep.Slices
import Derived.Deep.Fields
import Derived.LaidMore
import Derived.LaidHandle
import Derived.MakeChecks
import Derived.Stop.Joined
import Derived.Stop.LaidErr
import Derived.ProofKit
namespace Go.Proofs.YtndpcnimebedcaaDoor
open Go.ChangeShapes Go.WideShapes Go.ChangeAt Go.RowKit Go.Joins Go.Deep

/-- What the rows list. -/
def laidL : List (String × DataW Unit) := Rows.spotRowRow.laid
theorem gS : Tryd.prog.globalNamed "strconv.ErrSyntax" = some 1 := by kernel_rfl
theorem gR : Tryd.prog.globalNamed "strconv.ErrRange" = some 2 := by kernel_rfl
theorem gSType : (Tryd.prog.globals[1]?).map (·.type) = some 60 := by kernel_rfl
theorem gRType : (Tryd.prog.globals[2]?).map (·.type) = some 60 := by kernel_rfl
theorem cellsE : Tryd.prog.cellsOf 119 = 1 := by kernel_rfl
theorem cellsS : Tryd.prog.cellsOf 9 = 1 := by kernel_rfl
theorem starE : "*" ++ "errors.errorString" = "*errors.errorString" := by decide
theorem rowE (u : TypeId) (h : Tryd.prog.typeName? 3 u = some "*errors.errorString") : u = 117 :=
  typeName_ptr_named (nm := "errors.errorString") (by rw [starE]; kernel_rfl) (by kernel_rfl) (by decide) u (by rw [starE]; exact h)

theorem errs_of_laid {W : World} (h : laidMetH Tryd.prog laidL W) : Errs W := by
  rw [MakeChecks.laidMetH_plain _ _ _ (by kernel_rfl)] at h
  have h3 := h.tail.tail.tail
  obtain ⟨a, s, hv, -, -, -⟩ := laid_sentinel h3 gR gRType Tryd.underlying60 rowE Tryd.underlying117 Tryd.underlying119 rfl rfl Tryd.underlying9 cellsE cellsS
  obtain ⟨a', s', hv', -, -, -⟩ := laid_sentinel h3.tail gS gSType Tryd.underlying60 rowE Tryd.underlying117 Tryd.underlying119 rfl rfl Tryd.underlying9 cellsE cellsS
  exact ⟨⟨_, by have h0 := World.var?_cell gS hv' 0; simpa using h0, .inr ⟨_, _, rfl⟩⟩, ⟨_, by have h0 := World.var?_cell gR hv 0; simpa using h0, .inr ⟨_, _, rfl⟩⟩⟩

/-- The door's own heap meets the condition. -/
theorem door_met (os : Os) (args : Array Value) : laidMetH Tryd.prog laidL ((World.doorLaid Tryd.prog 62 os).forCall (fun _ _ => 0) ⟨#[], args, []⟩).memory :=
  laidMetH_of_parts3 (fuel := 8) (laidMet_of_run' 8 (by kernel_rfl) (by kernel_rfl)) (by kernel_rfl) (by kernel_rfl)

section
variable {H : Type} {enc : TypeId × Value → H} {w : World} {base : Nat}

set_option maxRecDepth 100000 in
theorem spot_open {r : Reach} {b0 : Nat} {spare : Nat → Bool} {held : Bool} {v : Value} {d : DataW H} {p : List MemPlace} (hv : Value.okWide Tryd.prog w r b0 23 v) (h : DataW.Trod enc Tryd.prog w base spare held 23 v d p) :
    ∃ b c, v = .agg #[.int .i64 b, .int .i64 c] ∧ (Lit.int .i64 b).wf = true ∧ (Lit.int .i64 c).wf = true := by
  obtain ⟨v0, v1, y0, y1, n, rfl, _, _, t0, t1⟩ := open_agg2 Tryd.underlying23 (by kernel_rfl) (by kernel_rfl) hv h
  obtain ⟨b, e0, _, w0⟩ := DataW.trod_int Tryd.underlying3 t0
  obtain ⟨c, e1, _, w1⟩ := DataW.trod_int Tryd.underlying3 t1
  cases e0
  cases e1
  exact ⟨b, c, rfl, w0, w1⟩

set_option maxRecDepth 100000 in
theorem spots_open {fuel : Nat} {a : Option Addr} {len cap : Nat} {x : DataW H × List MemPlace}
    (h : DataW.trod enc Tryd.prog w base (fun _ => true) true fuel 24 (Value.slice a len cap).cells.toList = some x) :
    ∃ ls : List (Int × Int), ls.length = len ∧ SpotsAt w w.heap.size a ls ∧ (a = none → cap = 0) := by
  have hC : Tryd.prog.cellsOf 23 = 2 := by kernel_rfl
  have hI : Tryd.prog.cellsOf 3 = 1 := by kernel_rfl
  rcases open_slice Tryd.underlying24 h with ⟨hcs, _⟩ | ⟨y, l, c, m, n, D, Pl, hcs, _, hl, hm, hmm, _, hcell⟩
  · simp [Value.cells] at hcs
    obtain ⟨rfl, rfl, rfl⟩ := hcs
    exact ⟨[], rfl, fun i hi => absurd hi (Nat.not_lt_zero _), fun _ => rfl⟩
  · simp [Value.cells] at hcs
    obtain ⟨rfl, rfl, rfl⟩ := hcs
    simp only [if_true] at hmm
    have hall : ∀ i : Nat, ∃ p : Int × Int, i < len → w.cell? (y.add (i * 2)) = some (.int .i64 p.1) ∧ w.cell? ((y.add (i * 2)).add 1) = some (.int .i64 p.2) := by
      intro i
      by_cases hi : i < len
      · obtain ⟨cs', hc, ht'⟩ := hcell i (by omega)
        obtain ⟨y0, y1, n', _, hlen, t0, t1⟩ := trod_struct2 Tryd.underlying23 ht'
        rw [hC] at hc hlen
        obtain ⟨_, _, hat⟩ := World.cells?_some hc
        match cs', hlen with
        | [c0, c1], _ =>
          simp only [hI, List.drop_zero, List.take_succ_cons, List.take_zero, List.drop_succ_cons] at t0 t1
          obtain ⟨b, e0, _, _⟩ := DataW.trod_int Tryd.underlying3 t0
          obtain ⟨c, e1, _, _⟩ := DataW.trod_int Tryd.underlying3 t1
          obtain rfl : c0 = .int .i64 b := by injection e0
          obtain rfl : c1 = .int .i64 c := by injection e1
          refine ⟨(b, c), fun _ => ⟨?_, ?_⟩⟩
          · have := hat 0 (by omega)
            rw [show (y.add (i * 2)).add 0 = y.add (i * 2) by simp [Addr.add]] at this
            simpa using this
          · have := hat 1 (by omega)
            simpa using this
      · exact ⟨(0, 0), fun h => absurd h hi⟩
    obtain ⟨F, hF⟩ := Classical.skolem.1 hall
    refine ⟨(List.range len).map F, by simp, fun i hi => ?_, fun h => by cases h⟩
    have hi' : i < len := by simpa using hi
    obtain ⟨b, off, spot⟩ := y
    have h0 := (hF i hi').1
    have h1 := (hF i hi').2
    have hspot : spot = none := by simpa [Addr.add] using World.cell?_spot (hF 0 (by omega)).1
    subst hspot
    rw [Go.WideShapes.add_plain] at h0 h1
    rw [Go.WideShapes.add_plain] at h1
    refine ⟨b, off, rfl, World.block_lt_of_cell? w _ h0, by simpa using h0, by simpa using h1⟩

end
end Go.Proofs.YtndpcnimebedcaaDoor
