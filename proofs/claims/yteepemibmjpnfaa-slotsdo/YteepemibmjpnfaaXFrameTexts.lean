/-
  Layer 3 (frame): what texts and GetRow hand back.
-/
import Derived.Test.YteepemibmjpnfaaXFrameRow
import Derived.Deep.Onto
namespace Go.Proofs.Yteepemibmjpnfaa
set_option maxRecDepth 10000
open Go.RowKit

/-- What texts hands back. -/
def GotTexts (w : World) (o : Option (List (List UInt8))) (e : Ending) (w' : World) : Prop :=
  ∃ v, e = .returned (.tuple #[v, .bool o.isSome]) ∧ w'.ownsRow w.heap.size 9 1 v (o.getD []).length ((o.getD []).map strV) ∧ Below w.heap.size w w'

/-- What holds ahead of each round of texts: ts was read, cur is left, and an error, if there is one. -/
def TextsRel (w : World) (s : ByteArray) (a : List UInt8) (e1 : Int) (M : Nat) (v i : Value) (wr : World) : Prop :=
  ∃ (k : Nat) (ts : List (List UInt8)) (cur : ByteArray) (e : Int), k ≤ M ∧ i = .int .i64 (k : Int) ∧ ts.length = k ∧ cur.size ≤ maxLen ∧ RdAt wr w.heap.size (w.heap.size + 1) cur e ∧
    (e = 0 → e1 = 0 ∧ Fm.getTs M a = Fm.glueT ts (Fm.getTs (M - k) (bl cur))) ∧ (e ≠ 0 → Fm.rowOf (bl s) = none) ∧
    wr.ownsRow (w.heap.size + 2) 9 1 v k (ts.map strV) ∧ Below w.heap.size w wr ∧ w.heap.size + 2 ≤ wr.heap.size

theorem rd_lt {w : World} {bs be : Nat} {s : ByteArray} {e : Int} (h : RdAt w bs be s e) : bs < w.heap.size ∧ be < w.heap.size := ⟨World.block_lt_of_cell? w _ h.cs, World.block_lt_of_cell? w _ h.ce⟩

theorem rd_append {W w1 : World} {bs be b : Nat} {s : ByteArray} {e : Int} {T : TypeId} {v : Value} {k : Nat} {xs : List Value} {tmp : Obj} (h : RdAt W bs be s e) (h1 : bs < b) (h2 : be < b) (hown : W.ownsRow b T 1 v k xs) (hg : (W.alloc tmp).grownBy w1 v.ownBlock) : RdAt w1 bs be s e := by
  obtain ⟨l1, l2⟩ := rd_lt h
  have ha := (Below.refl W.heap.size W).alloc (Nat.le_refl _) tmp
  have hz : W.heap.size ≤ (W.alloc tmp).heap.size := ha.size
  refine h.kept ?_ ?_
  · exact (hg.block bs (by omega) (fun e => by have := (hown.lt bs e.symm).1; omega)).trans (ha.block bs l1)
  · exact (hg.block be (by omega) (fun e => by have := (hown.lt be e.symm).1; omega)).trans (ha.block be l2)

end Go.Proofs.Yteepemibmjpnfaa
