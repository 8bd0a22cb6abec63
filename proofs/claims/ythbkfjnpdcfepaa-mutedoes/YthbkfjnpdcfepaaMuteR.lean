/-
  Layer 10 (mute): rows of windows of one's own: beside other blocks, the last one, and its end turned.
-/
import Derived.Test.YthbkfjnpdcfepaaMuteW3
import Derived.Test.YthbkfjnpdcfepaaMuteJ
namespace Go.Proofs.Ythbkfjnpdcfepaa
set_option maxRecDepth 10000
open Go.RowKit

theorem OwnW.aside {w w' : World} {base g : Nat} {v : Value} {ls : List Win} (h : OwnW w base v ls) (hg : w.grownBy w' (some g)) (hb : g < base) : OwnW w' base v ls := by
  obtain ⟨h0, h1⟩ := h
  refine ⟨h0, ?_⟩
  rcases h1 with h1 | ⟨g', cap, cur, e, hb', hgg, h2⟩
  · exact Or.inl h1
  · exact Or.inr ⟨g', cap, cur, e, hb', (hg.block g' (Array.getElem?_eq_some_iff.1 hgg).1 (fun e => by cases e; omega)).trans hgg, h2⟩
/-- The last one of a row of one's own. -/
theorem OwnW.last {w : World} {base n cap : Nat} {A : Option Addr} {pre : List Win} {y : Win} (h : OwnW w base (.slice A n cap) (pre ++ [y])) :
    ∃ g, A = some ⟨g, 0, none⟩ ∧ n = pre.length + 1 ∧ base ≤ g ∧ g < w.heap.size ∧ Wi3 w g (pre.length * 3) y ∧ w.frozen? ⟨g, pre.length * 3 + 2, none⟩ = false := by
  have hr := h.rows.1 pre.length (by simp)
  obtain ⟨b, off, hA, hb, h3⟩ := hr
  obtain ⟨h0, h1⟩ := h
  rcases h1 with ⟨e, _⟩ | ⟨g, cap', cur, e, hb', hg, h2⟩
  · cases e; cases hA
  · injection e with e1 e2 e3
    subst e1
    injection hA with hA
    injection hA with hA1 hA2
    subst hA1 hA2
    have ey : (pre ++ [y])[pre.length]'(by simp) = y := by simp
    rw [ey, Nat.zero_add] at h3
    exact ⟨g, rfl, by rw [e2]; simp, hb', (Array.getElem?_eq_some_iff.1 hg).1, h3, frozen_of_row w g _ _ _ hg⟩
theorem set_third (X : List Value) (a b c d : Value) : (X ++ [a, b, c]).set (X.length + 2) d = X ++ [a, b, d] := by
  rw [List.set_append_right _ _ (by omega)]
  have e : X.length + 2 - X.length = 2 := by omega
  rw [e]; rfl
theorem OwnW.setTo {w : World} {base g n cap : Nat} {pre : List Win} {y : Win} (t : Int) (h : OwnW w base (.slice (some ⟨g, 0, none⟩) n cap) (pre ++ [y])) :
    OwnW (w.setCell ⟨g, pre.length * 3 + 2, none⟩ (.int .i64 t)) base (.slice (some ⟨g, 0, none⟩) n cap) (pre ++ [⟨y.bed, y.fr, t⟩]) := by
  obtain ⟨h0, h1⟩ := h
  rcases h1 with ⟨e, _⟩ | ⟨g', cap', cur, e, hb, hg, hcap, hmax, hsz, ht⟩
  · cases e
  · injection e with e1 e2 e3
    injection e1 with e1
    injection e1 with e1
    subst e1 e3
    have hA : (flat3 pre).length = pre.length * 3 := flat3_len pre
    refine ⟨by rw [flat3_len], Or.inr ⟨g, cap, _, ?_, hb, heap_setCell_same _ _ _ _ _ _ hg, ?_, hmax, ?_, ?_⟩⟩
    · rw [e2]; simp
    · simpa using hcap
    · simpa using hsz
    · have el : (pre ++ [(⟨y.bed, y.fr, t⟩ : Win)]).length = (pre ++ [y]).length := by simp
      rw [el]
      rw [flat3_app] at ht ⊢
      simp only [Array.toList_setIfInBounds, List.take_set, ht]
      rw [← hA]
      exact set_third _ _ _ _ _
theorem grown_one {w w' : World} {g : Nat} (h : w.grownBy w' (some g)) (j : Nat) (v : Value) : w.grownBy (w'.setCell ⟨g, j, none⟩ v) (some g) := grown_setCell h j v
theorem Wi3.drew {w : World} {b o : Nat} {a : Win} (h : Wi3 w b o a) : Wi3 w.drew b o a := ⟨h.c0, h.c1, h.c2⟩
theorem Walk.wi {w : World} {g : Nat} {x : Win} {ls : List Win} (h : Walk w g x ls) : Wi3 w g 0 x := ⟨h.c0, h.c1, h.c2⟩
/-- A walk that begins in a world behind another one. -/
theorem Going.begin {w w1 : World} {A : Option Addr} {c : Nat} {ls : List Win} (hB : Below w.heap.size w w1) (h1 : WinsAt w1 w1.heap.size A ls) (h2 : Roomy A ls c) :
    Going w w1.heap.size ls ⟨0, 0, 0⟩ (w1.alloc (.cells #[.int .i64 0, .int .i64 0, .int .i64 0, .slice A ls.length c] 50)) :=
  ⟨Walk.start h1 h2 _, below2 hB (below_new _ _)⟩
/-- What is done in blocks behind the walk's own. -/
theorem Going.off {w wr w' : World} {g : Nat} {rest : List Win} {x : Win} (h : Going w g rest x wr) (hg : w.heap.size ≤ g) (hb : Below (g + 1) wr w') : Going w g rest x w' :=
  ⟨h.walk.kept hb, h.below.trans (hb.mono (by omega))⟩
theorem below_setCell9 {B g j : Nat} {v : Value} (w : World) (hb : B ≤ g) : Below B w (w.setCell ⟨g, j, none⟩ v) :=
  ⟨rfl, rfl, rfl, by simp [World.setCell], fun i hi => heap_setCell_other w ⟨g, j, none⟩ i v (fun e => by simp only at e; omega)⟩
/-- Sorted, and with the same windows. -/
def Mu.Sorted (ls ss : List Win) : Prop := ss.Perm ls ∧ ss.Pairwise Mu.le2
/-- What the library's sort by compare does. -/
def MSortK : Prop := ∀ (v : Value) (base : Nat) (ls : List Win) (w : World) (_hO : OwnW w base v ls) (_hl : ls.length ≤ 10000),
    Calls Try.prog 34 #[v, .func (.func 35) #[] #[]] w fun e w' =>
      e = .returned (.tuple #[]) ∧ ∃ ss, Mu.Sorted ls ss ∧ OwnW w' base v ss ∧ ∀ w0, Below w0.heap.size w0 w → w0.heap.size ≤ base → Below w0.heap.size w0 w'
end Go.Proofs.Ythbkfjnpdcfepaa
