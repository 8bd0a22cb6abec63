/-
  Layer 15 (slots): rows of steps in memory, and how such a row that came in is read.
-/
import Derived.Test.YteepemibmjpnfaaChecked
import Derived.Test.YteepemibmjpnfaaAid
import Derived.Lib.SmallJoins
import Derived.WideShapes
import Derived.ChangeArms
import Derived.Deep.Strs
namespace Go.Proofs.Yteepemibmjpnfaa
set_option maxRecDepth 10000
open Go.ChangeShapes Go.WideShapes Go.ChangeAt Go.RowKit Go.Joins Go.Deep

/-- A step of a script: a text, how many deeds, what a crash leaves. -/
structure Stp where
  t : ByteArray
  d : Int
  n : Int
/-- A step lies at a place of a block. -/
structure St3 (w : World) (b o : Nat) (a : Stp) : Prop where
  c0 : w.cell? ⟨b, o, none⟩ = some (.string a.t)
  c1 : w.cell? ⟨b, o + 1, none⟩ = some (.int .i64 a.d)
  c2 : w.cell? ⟨b, o + 2, none⟩ = some (.int .i64 a.n)
/-- The slice at A holds the steps ls, in blocks below B. -/
def StpsAt (w : World) (B : Nat) (A : Option Addr) (ls : List Stp) : Prop :=
  ∀ i (h : i < ls.length), ∃ b off, A = some ⟨b, off, none⟩ ∧ b < B ∧ St3 w b (off + i * 3) ls[i]
theorem St3.below {w w' : World} {B b o : Nat} {a : Stp} (h : St3 w b o a) (hb : Below B w w') (hB : b < B) : St3 w' b o a := by
  have f : ∀ j, w'.cell? ⟨b, j, none⟩ = w.cell? ⟨b, j, none⟩ := fun j => hb.cell (p := ⟨b, j, none⟩) hB
  exact ⟨(f _).trans h.c0, (f _).trans h.c1, (f _).trans h.c2⟩
theorem StpsAt.below {w w' : World} {B B' : Nat} {A : Option Addr} {ls : List Stp} (h : StpsAt w B A ls) (hb : Below B' w w') (hB : B ≤ B') : StpsAt w' B A ls := fun i hi => by
  obtain ⟨b, off, e, hlt, h6⟩ := h i hi
  exact ⟨b, off, e, hlt, h6.below hb (by omega)⟩
theorem StpsAt.nil (w : World) (B : Nat) (A : Option Addr) : StpsAt w B A [] := fun _ hi => absurd hi (Nat.not_lt_zero _)

section
variable {H : Type} {enc : TypeId × Value → H} {w : World} {base : Nat}
theorem listThree15 {α : Type} {cs : List α} (h : cs.length = 3) : ∃ c0 c1 c2, cs = [c0, c1, c2] := by
  match cs, h with
  | [c0, c1, c2], _ => exact ⟨c0, c1, c2, rfl⟩
set_option maxRecDepth 100000 in
theorem stps_open {fuel : Nat} {a : Option Addr} {len cap : Nat} {x : DataW H × List MemPlace}
    (h : DataW.trod enc Try.prog w base (fun _ => true) true fuel 40 (Value.slice a len cap).cells.toList = some x) :
    ∃ ls : List Stp, ls.length = len ∧ StpsAt w w.heap.size a ls ∧ (a = none → cap = 0) ∧ len ≤ cap ∧ len ≤ maxLen ∧ ∀ f ∈ ls, f.t.size ≤ maxLen := by
  have hC : Try.prog.cellsOf 42 = 3 := by kernel_rfl
  have hI : Try.prog.cellsOf 3 = 1 := by kernel_rfl
  rcases open_slice Try.underlying40 h with ⟨hcs, _⟩ | ⟨y, l, c, m, n, D, Pl, hcs, _, hl, hm, hmm, _, hcell⟩
  · simp [Value.cells] at hcs
    obtain ⟨rfl, rfl, rfl⟩ := hcs
    exact ⟨[], rfl, StpsAt.nil _ _ _, fun _ => rfl, Nat.le_refl _, Nat.zero_le _, fun _ h => nomatch h⟩
  · simp [Value.cells] at hcs
    obtain ⟨rfl, rfl, rfl⟩ := hcs
    simp only [if_true] at hmm
    have hall : ∀ i : Nat, ∃ p : Stp, i < len → ((w.cell? (y.add (i * 3)) = some (.string p.t) ∧ w.cell? ((y.add (i * 3)).add 1) = some (.int .i64 p.d) ∧ w.cell? ((y.add (i * 3)).add 2) = some (.int .i64 p.n)) ∧ p.t.size ≤ maxLen) := by
      intro i
      by_cases hi : i < len
      · obtain ⟨cs', hc, ht'⟩ := hcell i (by omega)
        rw [hC] at hc
        obtain ⟨_, hlen', hat⟩ := World.cells?_some hc
        obtain ⟨c0, c1, c2, rfl⟩ := listThree15 hlen'
        obtain ⟨xs, n', _, _, _, hlen, hx⟩ := DataW.trod_struct Try.underlying42 ht'
        match xs, hlen with
        | [y0, y1, y2], _ =>
          have t0 := hx 0 _ rfl
          have t1 := hx 1 _ rfl
          have t2 := hx 2 _ rfl
          simp only [List.getElem?_cons_zero, List.getElem?_cons_succ] at t0 t1 t2
          obtain ⟨b, e0, _, w0⟩ := DataW.trod_string Try.underlying9 t0
          obtain ⟨f, e1, _, w1⟩ := DataW.trod_int Try.underlying3 t1
          obtain ⟨t, e2, _, w2⟩ := DataW.trod_int Try.underlying3 t2
          cases e0
          cases e1
          cases e2
          refine ⟨⟨b, f, t⟩, fun _ => ⟨⟨?_, ?_, ?_⟩, w0⟩⟩
          · have := hat 0 (by omega)
            rw [show (y.add (i * 3)).add 0 = y.add (i * 3) by simp [Addr.add]] at this
            simpa using this
          · simpa using hat 1 (by omega)
          · simpa using hat 2 (by omega)
      · exact ⟨⟨⟨#[]⟩, 0, 0⟩, fun h => absurd h hi⟩
    obtain ⟨F, hF⟩ := Classical.skolem.1 hall
    refine ⟨(List.range len).map F, by simp, fun i hi => ?_, (fun h => by cases h), by omega, by omega, fun f hf => ?_⟩
    rotate_left
    · obtain ⟨i, hi, rfl⟩ := List.mem_map.1 hf
      exact (hF i (by simpa using hi)).2
    have hi' : i < len := by simpa using hi
    obtain ⟨b, off, spot⟩ := y
    obtain ⟨⟨h0, h1, h2⟩, _⟩ := hF i hi'
    have hspot : spot = none := by simpa [Addr.add] using World.cell?_spot (hF 0 (by omega)).1.1
    subst hspot
    rw [Go.WideShapes.add_plain] at h0 h1 h2
    rw [Go.WideShapes.add_plain] at h1 h2
    refine ⟨b, off, rfl, World.block_lt_of_cell? w _ h0, ⟨?_, ?_, ?_⟩⟩
    · simpa using h0
    · simpa using h1
    · simpa using h2

end
end Go.Proofs.Yteepemibmjpnfaa
