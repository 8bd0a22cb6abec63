/-
  Layer 12 (file): the references' Add.
-/
import Derived.Test.YteepemibmjpnfaaRefFile2
namespace Go.Proofs.Yteepemibmjpnfaa
set_option maxRecDepth 10000
open Go.RowKit

theorem ba_cons (l : ByteArray) (ss : List ByteArray) (j : Nat) (h : j < ss.length) : (l ++ Fi.all (ss.take j)) ++ ss[j] = l ++ Fi.all (ss.take (j + 1)) := by
  rw [List.take_succ_eq_append_getElem h, Fi.all_snoc, ba_assoc]

theorem add_no (f : Fil) (ss : List ByteArray) (h : Fi.addE f ss ≠ 0) : Fi.add f ss = Fi.no := by unfold Fi.add; rw [if_neg h]
theorem add_fits (m : Int) (k l : ByteArray) (ss : List ByteArray) (h : Fi.is ⟨m, k, l⟩ = true) (hg : (k.size : Int) + l.size + (Fi.all ss).size ≤ m) : Fi.addE ⟨m, k, l⟩ ss = 0 := by
  unfold Fi.addE; rw [if_pos h, if_pos hg]
theorem add_full (m : Int) (k l : ByteArray) (ss : List ByteArray) (j : Nat) (_hj : j < ss.length) (h : Fi.is ⟨m, k, l⟩ = true) (hg : m < (k.size : Int) + (l ++ Fi.all (ss.take (j + 1))).size) : Fi.addE ⟨m, k, l⟩ ss = 81 := by
  have h1 := Fi.all_take_le ss (j + 1)
  rw [ByteArray.size_append] at hg
  unfold Fi.addE; rw [if_pos h, if_neg (by simp only; omega)]
theorem FilAt.apart {w : World} {g : Nat} {m : Int} {x y : ByteArray} (h : FilAt w g m x y) {k : Nat} (hk : k ≠ g) (j : Nat) (v : Value) : FilAt (w.setCell ⟨k, j, none⟩ v) g m x y := by
  obtain ⟨hlt, t, hb⟩ := h
  exact ⟨by simp [World.setCell]; exact hlt, t, (heap_setCell_other w ⟨k, j, none⟩ g v (fun e => hk (by have : g = k := e; omega))).trans hb⟩
/-- What holds ahead of each part. -/
def AddRel (w : World) (m : Int) (k l : ByteArray) (ss : List ByteArray) (i : Value) (wr : World) : Prop :=
  ∃ j : Nat, j ≤ ss.length ∧ i = .int .i64 (j : Int) ∧ FilAt wr w.heap.size m k (l ++ Fi.all (ss.take j)) ∧ FilAt wr (w.heap.size + 1) 0 ⟨#[]⟩ ⟨#[]⟩ ∧ Below w.heap.size w wr ∧ Hid ((k.size : Int) + (l ++ Fi.all (ss.take j)).size ≤ m)

end Go.Proofs.Yteepemibmjpnfaa
