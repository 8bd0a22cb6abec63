/-
  Layer 3 (frame): what All hands back.
-/
import Derived.Test.YteepemibmjpnfaaXJc
namespace Go.Proofs.Yteepemibmjpnfaa
set_option maxRecDepth 10000
open Go.RowKit

/-- A text, as a cell holds it. -/
def strV (l : List UInt8) : Value := .string (strOf l)
theorem Try.infoS : (Try.prog.info? 9).map (fun i => (i.zero, i.size, i.bytes)) = some (some (.string ⟨#[]⟩), 1, 16) := by kernel_rfl

/-- Three results, the first a slice of one's own that holds the texts. -/
def GotAll (w : World) (t : List (List UInt8) × Nat × Int) (e : Ending) (w' : World) : Prop :=
  ∃ v, e = .returned (.tuple #[v, .int .i64 (t.2.1 : Int), .int .i64 t.2.2]) ∧ w'.ownsRow w.heap.size 9 1 v t.1.length (t.1.map strV) ∧ Below w.heap.size w w'

/-- What holds ahead of each round of All: ts was told, of n bytes. -/
def AllRel (w : World) (s : ByteArray) (v i : Value) (wr : World) : Prop :=
  ∃ (n : Nat) (ts : List (List UInt8)), n ≤ s.size ∧ i = .int .i64 (n : Int) ∧ ts.length ≤ n ∧ Fm.all (bl s) = Fm.allGlue ts n (Fm.all ((bl s).drop n)) ∧
    wr.ownsRow w.heap.size 9 1 v ts.length (ts.map strV) ∧ Below w.heap.size w wr

theorem wrap_big {m : Nat} (h : m ≤ big) : wrap64 (m : Int) = (m : Int) := by unfold big at h; unfold wrap64; omega

theorem all_next {l t r : List UInt8} {n : Nat} {k : Int} (hn : n ≤ l.length) (h : Fm.get (l.drop n) = (k, t, r, 0)) :
    n < l.length - r.length ∧ r.length ≤ l.length ∧ l.drop (l.length - r.length) = r ∧ n + ((l.drop n).length - r.length) = l.length - r.length := by
  have h1 := Fm.get_less h
  have h2 := (Fm.get_ok h).2.2
  rw [List.length_drop] at h1
  refine ⟨by omega, by omega, ?_, by rw [List.length_drop]; omega⟩
  have h3 : l.length - r.length = n + (Fm.frame k t).length := by
    have := congrArg List.length h2
    rw [List.length_drop, List.length_append] at this
    omega
  rw [h3, ← List.drop_drop, h2, List.drop_left]

end Go.Proofs.Yteepemibmjpnfaa
