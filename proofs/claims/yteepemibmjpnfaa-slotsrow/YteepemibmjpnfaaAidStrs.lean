/-
  Small words for memory, of no program: a slice of texts that came in.
-/
import Derived.Test.YteepemibmjpnfaaAid
import Derived.Deep.Strs
namespace Go.Proofs.Yteepemibmjpnfaa
set_option maxRecDepth 10000
open Go.RowKit

/-- What a law is told of a slice of texts that came in: nil, or len texts, ss. -/
def IsStrs (w : World) (a : Option Addr) (len cap : Nat) (ss : List ByteArray) : Prop :=
  (a = none ∧ len = 0 ∧ cap = 0 ∧ ss = []) ∨
  ∃ x, a = some x ∧ len ≤ cap ∧ cap ≤ maxLen ∧ ss.length = len ∧ (∀ i (h : i < ss.length), w.cell? (x.add i) = some (.string ss[i])) ∧ ∀ s ∈ ss, s.size ≤ maxLen

theorem IsStrs.strs {w : World} {a : Option Addr} {len cap : Nat} {ss : List ByteArray} (h : IsStrs w a len cap ss) : len = ss.length ∧ len ≤ maxLen ∧ StrsAt w w.heap.size a ss ∧ ∀ s ∈ ss, s.size ≤ maxLen := by
  rcases h with ⟨rfl, rfl, rfl, rfl⟩ | ⟨x, rfl, hl, hm, hz, hc, hw⟩
  · exact ⟨rfl, Nat.zero_le _, StrsAt.nil _ _ _, by simp⟩
  · refine ⟨hz.symm, by omega, fun i hi => ?_, hw⟩
    obtain ⟨b, off, spot⟩ := x
    have hspot : spot = none := by simpa [Addr.add] using World.cell?_spot (hc 0 (by omega))
    subst hspot
    have h1 := hc i hi
    rw [Go.WideShapes.add_plain] at h1
    exact ⟨b, off, rfl, World.block_lt_of_cell? w _ h1, h1⟩

theorem IsStrs.of_trod {H : Type} {enc : TypeId × Value → H} {P : Program} {w : World} {base : Nat} {t e : TypeId} {fuel : Nat} {a : Option Addr} {len cap : Nat} {x : DataW H × List MemPlace} (ht : P.underlying t = some (.slice e)) (he : P.underlying e = some .string) (hc : P.cellsOf e = 1)
    (h : DataW.trod enc P w base (fun _ => true) true fuel t (Value.slice a len cap).cells.toList = some x) : ∃ ss, IsStrs w a len cap ss := by
  rcases Go.Deep.open_strs ht he hc h with ⟨hcs, _⟩ | ⟨y, l, c, m, Sx, hcs, _, hl, hm, hmm, _, hcell⟩
  · simp [Value.cells] at hcs
    obtain ⟨rfl, rfl, rfl⟩ := hcs
    exact ⟨[], .inl ⟨rfl, rfl, rfl, rfl⟩⟩
  · simp [Value.cells] at hcs
    obtain ⟨rfl, rfl, rfl⟩ := hcs
    simp only [if_true] at hmm
    refine ⟨(List.range len).map Sx, .inr ⟨_, rfl, hl, hm, by simp, fun i hi => ?_, fun s hs => ?_⟩⟩
    · have : i < len := by simpa using hi
      rw [(hcell i (by omega)).1]; simp
    · obtain ⟨i, hi, rfl⟩ := List.mem_map.1 hs
      exact (hcell i (by have := List.mem_range.1 hi; omega)).2

/-- What a function with four results hands back. -/
theorem results_tmp4 {fn : Func} {t u v x : Tmp} (h : fn.results = #[.tmp t, .tmp u, .tmp v, .tmp x]) (tmps : Array Value) (P : Program) (w : World) :
    (results fn tmps).run P w = .ok (.tuple #[tmps.getD t undef, tmps.getD u undef, tmps.getD v undef, tmps.getD x undef]) w := by
  simp [results, h]

end Go.Proofs.Yteepemibmjpnfaa
