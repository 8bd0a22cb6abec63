/-
  Layer 3 (frame): what lay, Row, texts and GetRow hand back.
-/
import Derived.Test.YteepemibmjpnfaaXFrameAll
namespace Go.Proofs.Yteepemibmjpnfaa
set_option maxRecDepth 10000
open Go.RowKit

theorem textsL_short {ls : List (List UInt8)} (h : ∀ t ∈ ls, t.length ≤ 3000) : (Fm.textsL ls).length ≤ 3006 * ls.length := by
  induction ls with
  | nil => simp [Fm.textsL]
  | cons t ls ih =>
    have h1 := textL_short (h t (List.mem_cons_self ..))
    have h2 := h t (List.mem_cons_self ..)
    have h3 := ih fun x hx => h x (List.mem_cons_of_mem _ hx)
    rw [Fm.textsL_cons, List.length_append, List.length_cons]; omega

theorem rowL_short {ls : List (List UInt8)} (h : Fm.layOk ls = true) : (Fm.rowL ls).length ≤ 400000 := by
  obtain ⟨h1, h2⟩ := Fm.layOk_iff.1 h
  have h3 := textsL_short h2
  have h4 := lay_short (ls.length : Int) (Wm.fits_iff.2 (by omega))
  rw [Fm.rowL, List.length_append]; omega

/-- What holds ahead of each round of lay. -/
def LayRel (w : World) (ss : List ByteArray) (out i : Value) (wr : World) : Prop :=
  ∃ k : Nat, k ≤ ss.length ∧ i = .int .i64 (k : Int) ∧ (∀ t ∈ (ss.map bl).take k, t.length ≤ 3000) ∧ out = .string (strOf (Wm.lay (ss.length : Int) ++ Fm.textsL ((ss.map bl).take k))) ∧ Below w.heap.size w wr

theorem map_take_succ {ss : List ByteArray} {k : Nat} (h : k < ss.length) : (ss.map bl).take (k + 1) = (ss.map bl).take k ++ [bl ss[k]] := by
  rw [List.take_succ_eq_append_getElem (by rw [List.length_map]; exact h), List.getElem_map]

end Go.Proofs.Yteepemibmjpnfaa
