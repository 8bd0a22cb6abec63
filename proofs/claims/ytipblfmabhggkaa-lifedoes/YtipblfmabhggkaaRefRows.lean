/-
  Rows of rows of numbers in memory: a slice of slices that a call builds, row by row.
-/
import Derived.Test.YtipblfmabhggkaaRefLife
import Derived.Test.YtipblfmabhggkaaLifeApp
import Derived.Maps.AppendAt
namespace Go.Proofs.Ytipblfmabhggkaa
open Go.RowKit

/-- A slice that holds the numbers l, in neither of the two blocks a and b. -/
def SlOut (w : World) (a b : Option Nat) (u : Value) (l : List Int) : Prop :=
  ∃ A c, u = .slice A l.length c ∧ (A = none → c = 0) ∧ IntsAt w w.heap.size A l ∧ ∀ k, u.ownBlock = some k → a ≠ some k ∧ b ≠ some k ∧ k < w.heap.size

theorem IntsAt.grown {w w' : World} {A : Option Addr} {l : List Int} {row : Option Nat} (h : IntsAt w w.heap.size A l) (hg : w.grownBy w' row) (hr : ∀ k n c, (Value.slice A n c).ownBlock = some k → row ≠ some k) : IntsAt w' w'.heap.size A l := fun i hi => by
  obtain ⟨b, off, rfl, hlt, hc⟩ := h i hi
  refine ⟨b, off, rfl, Nat.lt_of_lt_of_le hlt hg.size, ?_⟩
  exact hg.cell hc (Ne.symm (hr b 0 0 rfl))

theorem SlOut.below {w w' : World} {a b : Option Nat} {u : Value} {l : List Int} (h : SlOut w a b u l) (hB : Below w.heap.size w w') : SlOut w' a b u l := by
  obtain ⟨A, c, h1, h2, h3, h4⟩ := h
  exact ⟨A, c, h1, h2, h3.on hB, fun k hk => ⟨(h4 k hk).1, (h4 k hk).2.1, Nat.lt_of_lt_of_le (h4 k hk).2.2 hB.size⟩⟩
theorem SlOut.appA {w w' : World} {a a' b : Option Nat} {u : Value} {l : List Int} (h : SlOut w a b u l) (hg : w.grownBy w' a) (ha : a' = a ∨ a' = some w.heap.size) : SlOut w' a' b u l := by
  obtain ⟨A, c, rfl, h2, h3, h4⟩ := h
  refine ⟨A, c, rfl, h2, h3.grown hg (fun k n c' hk => (h4 k (by cases A <;> simp_all [Value.ownBlock])).1), fun k hk => ⟨?_, (h4 k hk).2.1, Nat.lt_of_lt_of_le (h4 k hk).2.2 hg.size⟩⟩
  rcases ha with rfl | rfl
  · exact (h4 k hk).1
  · intro e; injection e with e; have := (h4 k hk).2.2; omega
theorem SlOut.appB {w w' : World} {a b b' : Option Nat} {u : Value} {l : List Int} (h : SlOut w a b u l) (hg : w.grownBy w' b) (hb : b' = b ∨ b' = some w.heap.size) : SlOut w' a b' u l := by
  obtain ⟨A, c, rfl, h2, h3, h4⟩ := h
  refine ⟨A, c, rfl, h2, h3.grown hg (fun k n c' hk => (h4 k (by cases A <;> simp_all [Value.ownBlock])).2.1), fun k hk => ⟨(h4 k hk).1, ?_, Nat.lt_of_lt_of_le (h4 k hk).2.2 hg.size⟩⟩
  rcases hb with rfl | rfl
  · exact (h4 k hk).2.1
  · intro e; injection e with e; have := (h4 k hk).2.2; omega

/-- Rows of unlike elements lie apart. -/
theorem rows_apart {w : World} {b1 b2 n m s1 s2 : Nat} {e1 e2 : TypeId} {v u : Value} {xs ys : List Value} (hne : e1 ≠ e2) (h : w.ownsRow b1 e1 s1 v n xs) (h' : w.ownsRow b2 e2 s2 u m ys) : v.ownBlock = none ∨ v.ownBlock ≠ u.ownBlock := by
  rcases h.2 with ⟨rfl, _⟩ | ⟨g, cap, cur, rfl, _, hg, _⟩
  · exact Or.inl rfl
  · refine Or.inr fun e => ?_
    rcases h'.2 with ⟨rfl, _⟩ | ⟨g', cap', cur', rfl, _, hg', _⟩
    · cases e
    · have e2 : g = g' := by simpa [Value.ownBlock] using e
      subst e2
      rw [hg] at hg'
      simp at hg'
      exact hne hg'.2

/-- What a call has built: rows in a slice of its own, and a number to each. -/
structure WF (w1 wr : World) (vO vM : Value) (xs : List Value) (rs : List Lf.Row) : Prop where
  out : wr.ownsRow w1.heap.size 22 1 vO rs.length xs
  rows : ∀ (i : Nat) (u : Value) (l : List Int), xs[i]? = some u → (rs.map (·.1))[i]? = some l → SlOut wr vO.ownBlock vM.ownBlock u l
  made : wr.ownsRow w1.heap.size 3 1 vM rs.length (rs.map fun r => Value.int .i64 r.2)
  bel : Below w1.heap.size w1 wr
/-- The same, with one row more than numbers. -/
structure WM (w1 wr : World) (vO vM : Value) (xs : List Value) (rs : List Lf.Row) (l : List Int) : Prop where
  out : wr.ownsRow w1.heap.size 22 1 vO (rs.length + 1) xs
  rows : ∀ (i : Nat) (u : Value) (l' : List Int), xs[i]? = some u → (rs.map (·.1) ++ [l])[i]? = some l' → SlOut wr vO.ownBlock vM.ownBlock u l'
  made : wr.ownsRow w1.heap.size 3 1 vM rs.length (rs.map fun r => Value.int .i64 r.2)
  bel : Below w1.heap.size w1 wr

theorem WF.len {w1 wr : World} {vO vM : Value} {xs : List Value} {rs : List Lf.Row} (h : WF w1 wr vO vM xs rs) : xs.length = rs.length := by simpa using h.out.1
theorem WF.nil (w1 : World) : WF w1 w1 (.slice none 0 0) (.slice none 0 0) [] [] :=
  ⟨World.ownsRow_nil _ _ _ _, fun i u l h => by simp at h, World.ownsRow_nil _ _ _ _, Below.refl _ _⟩
theorem WF.below {w1 wr w' : World} {vO vM : Value} {xs : List Value} {rs : List Lf.Row} (h : WF w1 wr vO vM xs rs) (hB : Below wr.heap.size wr w') : WF w1 w' vO vM xs rs :=
  ⟨owns_below h.out hB, fun i u l h1 h2 => (h.rows i u l h1 h2).below hB, owns_below h.made hB, h.bel.trans (hB.mono h.bel.size)⟩
theorem WM.below {w1 wr w' : World} {vO vM : Value} {xs : List Value} {rs : List Lf.Row} {l : List Int} (h : WM w1 wr vO vM xs rs l) (hB : Below wr.heap.size wr w') : WM w1 w' vO vM xs rs l :=
  ⟨owns_below h.out hB, fun i u l h1 h2 => (h.rows i u l h1 h2).below hB, owns_below h.made hB, h.bel.trans (hB.mono h.bel.size)⟩

/-- A row of the call's own, made behind the world wr, is apart from what was built there. -/
theorem WF.fresh {w1 wr w2 : World} {vO vM : Value} {xs : List Value} {rs : List Lf.Row} (h : WF w1 wr vO vM xs rs) {v : Value} {l : List Int} (ho : w2.ownsRow wr.heap.size 3 1 v l.length (l.map (Value.int .i64))) : SlOut w2 vO.ownBlock vM.ownBlock v l := by
  obtain ⟨A, c, rfl⟩ := ownsRow_slice ho
  refine ⟨A, c, rfl, fun hA => ?_, IntsAt.of_own ho, fun k hk => ?_⟩
  · subst hA
    rcases ho.2 with ⟨h0, _⟩ | ⟨g, cap, cur, h0, _⟩
    · injection h0
    · cases h0
  · have hk2 := ho.lt k hk
    refine ⟨fun e => ?_, fun e => ?_, hk2.2⟩
    · have := h.out.lt k e; omega
    · have := h.made.lt k e; omega

theorem WF.addRow {w1 w3 w4 : World} {vO vO' vM v : Value} {xs : List Value} {rs : List Lf.Row} {l : List Int} (h : WF w1 w3 vO vM xs rs) (hs : SlOut w3 vO.ownBlock vM.ownBlock v l)
    (ho : w4.ownsRow w1.heap.size 22 1 vO' (rs.length + 1) (xs ++ [v])) (hg : w3.grownBy w4 vO.ownBlock) (hat : vO'.ownBlock = vO.ownBlock ∨ vO'.ownBlock = some w3.heap.size) : WM w1 w4 vO' vM (xs ++ [v]) rs l := by
  refine ⟨ho, fun i u l' h1 h2 => ?_, ?_, ?_⟩
  · have hl := h.len
    by_cases hi : i < xs.length
    · rw [List.getElem?_append_left hi] at h1
      rw [List.getElem?_append_left (by simpa using (by omega : i < rs.length))] at h2
      exact (h.rows i u l' h1 h2).appA hg hat
    · have hi2 : i = xs.length := by
        have := (List.getElem?_eq_some_iff.1 h1).1
        simp at this; omega
      subst hi2
      rw [List.getElem?_append_right (Nat.le_refl _)] at h1
      rw [List.getElem?_append_right (by simp; omega)] at h2
      simp at h1 h2
      rw [hl] at h2
      simp at h2
      obtain rfl := h1
      obtain rfl := h2
      exact hs.appA hg hat
  · exact h.made.kept hg (rows_apart (by decide) h.made h.out)
  · exact h.bel.grown hg h.bel.size (fun k hk => (h.out.lt k hk).1)

theorem WM.addNum {w1 w5 w6 : World} {vO vM vM' : Value} {xs : List Value} {rs : List Lf.Row} {l : List Int} {p : Int} (h : WM w1 w5 vO vM xs rs l)
    (ho : w6.ownsRow w1.heap.size 3 1 vM' (rs.length + 1) ((rs.map fun r => Value.int .i64 r.2) ++ [.int .i64 p])) (hg : w5.grownBy w6 vM.ownBlock) (hat : vM'.ownBlock = vM.ownBlock ∨ vM'.ownBlock = some w5.heap.size) : WF w1 w6 vO vM' xs (rs ++ [(l, p)]) := by
  refine ⟨?_, fun i u l' h1 h2 => ?_, ?_, ?_⟩
  · have := h.out.kept hg (rows_apart (by decide) h.out h.made)
    simpa using this
  · rw [List.map_append] at h2
    exact (h.rows i u l' h1 (by simpa using h2)).appB hg hat
  · simpa using ho
  · exact h.bel.grown hg h.bel.size (fun k hk => (h.made.lt k hk).1)

/-- The slice at A holds the rows ls. -/
def RowsAt (w : World) (A : Option Addr) (ls : List (List Int)) : Prop :=
  ∀ i (h : i < ls.length), ∃ b off, A = some ⟨b, off, none⟩ ∧ b < w.heap.size ∧ ∃ C c, w.cell? ⟨b, off + i, none⟩ = some (.slice C ls[i].length c) ∧ (C = none → c = 0) ∧ IntsAt w w.heap.size C ls[i]
theorem RowsAt.on {w w' : World} {A : Option Addr} {ls : List (List Int)} (h : RowsAt w A ls) (hB : Below w.heap.size w w') : RowsAt w' A ls := fun i hi => by
  obtain ⟨b, off, h1, h2, C, c, h3, h4, h5⟩ := h i hi
  exact ⟨b, off, h1, Nat.lt_of_lt_of_le h2 hB.size, C, c, (hB.cell (p := ⟨b, off + i, none⟩) h2).trans h3, h4, h5.on hB⟩
theorem WF.rowsAt {w1 wr : World} {A : Option Addr} {n c : Nat} {vM : Value} {xs : List Value} {rs : List Lf.Row} (h : WF w1 wr (.slice A n c) vM xs rs) : RowsAt wr A (rs.map (·.1)) := fun i hi => by
  have hi' : i < rs.length := by simpa using hi
  have hx : i < xs.length := by rw [h.len]; exact hi'
  rcases h.out.2 with ⟨_, h0⟩ | ⟨g, cap, cur, hv, _, hg, _⟩
  · omega
  · have hA : A = some ⟨g, 0, none⟩ := by injection hv
    subst hA
    have hc := h.out.cells (g := g) rfl i xs[i] (List.getElem?_eq_getElem hx)
    have hadd : (⟨g, 0, none⟩ : Addr).add i = ⟨g, 0 + i, none⟩ := by unfold Addr.add; split <;> simp_all
    rw [hadd] at hc
    obtain ⟨C, c', h1, h2, h3, _⟩ := h.rows i xs[i] _ (List.getElem?_eq_getElem hx) (List.getElem?_eq_getElem hi)
    rw [h1] at hc
    exact ⟨g, 0, rfl, (Array.getElem?_eq_some_iff.1 hg).1, C, c', hc, h2, h3⟩
theorem WF.numsAt {w1 wr : World} {A : Option Addr} {n c : Nat} {vO : Value} {xs : List Value} {rs : List Lf.Row} (h : WF w1 wr vO (.slice A n c) xs rs) : IntsAt wr wr.heap.size A (rs.map (·.2)) := by
  have ho := h.made
  have hn : n = rs.length := by
    rcases ho.2 with ⟨h0, h1⟩ | ⟨g, cap, cur, hv, _⟩
    · injection h0 with _ h2; omega
    · injection hv
  subst hn
  have : wr.ownsRow w1.heap.size 3 1 (.slice A (rs.map (·.2)).length c) (rs.map (·.2)).length ((rs.map (·.2)).map (Value.int .i64)) := by
    simpa [List.map_map, Function.comp_def] using ho
  exact IntsAt.of_own this
end Go.Proofs.Ytipblfmabhggkaa
