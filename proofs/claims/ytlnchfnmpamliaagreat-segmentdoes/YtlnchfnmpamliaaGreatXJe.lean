/-
  Layer 3 (frame): what All hands back.
  Layer 3 (frame): what lay, Row, texts and GetRow hand back.
  Layer 3 (frame): what texts and GetRow hand back.
  Layer 3 (frame): what GetRow hands back.
  Layer 3 (frame): the document's rows that each law asks first.
-/
import Derived.Test.YtlnchfnmpamliaaGreatXJc
import Derived.Deep.Onto
import Derived.Test.YtlnchfnmpamliaaGreatXJb
namespace Go.Proofs.YtlnchfnmpamliaaGreat
set_option maxRecDepth 10000
open Go.RowKit

/-- A text, as a cell holds it. -/
def strV (l : List UInt8) : Value := .string (strOf l)
theorem Tryz.infoS : (Tryz.prog.info? 9).map (fun i => (i.zero, i.size, i.bytes)) = some (some (.string ⟨#[]⟩), 1, 16) := by kernel_rfl

/-- Three results, the first a slice of one's own that holds the texts. -/
def GotAll (w : World) (t : List (List UInt8) × Nat × Int) (e : Ending) (w' : World) : Prop :=
  ∃ v, e = .returned (.tuple #[v, .int .i64 (t.2.1 : Int), .int .i64 t.2.2]) ∧ w'.ownsRow w.heap.size 9 1 v t.1.length (t.1.map strV) ∧ Below w.heap.size w w'

/-- What holds ahead of each round of All: ts was told, of n bytes. -/
def AllRel (w : World) (s : ByteArray) (v i : Value) (wr : World) : Prop :=
  ∃ (n : Nat) (ts : List (List UInt8)), n ≤ s.size ∧ i = .int .i64 (n : Int) ∧ ts.length ≤ n ∧ Fm.all (bl s) = Fm.allGlue ts n (Fm.all ((bl s).drop n)) ∧
    wr.ownsRow w.heap.size 9 1 v ts.length (ts.map strV) ∧ Below w.heap.size w wr

theorem wrap_big {m : Nat} (h : m ≤ big) : wrap64 (m : Int) = (m : Int) := by unfold big at h; unfold wrap64; omega

theorem all_next {l t r : List UInt8} {n : Nat} {k : Int} (hn : n ≤ l.length) (h : Fm.get (l.drop n) = (k, t, r, 0)) :
    n < l.length - r.length ∧ r.length ≤ l.length ∧ l.drop (l.length - r.length) = r ∧ n + ((l.drop n).length - r.length) = l.length - r.length := by
  have h1 := Fm.get_less h
  have h2 := (Fm.get_ok h).2.2
  rw [List.length_drop] at h1
  refine ⟨by omega, by omega, ?_, by rw [List.length_drop]; omega⟩
  have h3 : l.length - r.length = n + (Fm.frame k t).length := by
    have := congrArg List.length h2
    rw [List.length_drop, List.length_append] at this
    omega
  rw [h3, ← List.drop_drop, h2, List.drop_left]

end Go.Proofs.YtlnchfnmpamliaaGreat

namespace Go.Proofs.YtlnchfnmpamliaaGreat
set_option maxRecDepth 10000
open Go.RowKit

theorem textsL_short {ls : List (List UInt8)} (h : ∀ t ∈ ls, t.length ≤ 3000) : (Fm.textsL ls).length ≤ 3006 * ls.length := by
  induction ls with
  | nil => simp [Fm.textsL]
  | cons t ls ih =>
    have h1 := textL_short (h t (List.mem_cons_self ..))
    have h2 := h t (List.mem_cons_self ..)
    have h3 := ih fun x hx => h x (List.mem_cons_of_mem _ hx)
    rw [Fm.textsL_cons, List.length_append, List.length_cons]; omega

theorem rowL_short {ls : List (List UInt8)} (h : Fm.layOk ls = true) : (Fm.rowL ls).length ≤ 400000 := by
  obtain ⟨h1, h2⟩ := Fm.layOk_iff.1 h
  have h3 := textsL_short h2
  have h4 := lay_short (ls.length : Int) (Wm.fits_iff.2 (by omega))
  rw [Fm.rowL, List.length_append]; omega

/-- What holds ahead of each round of lay. -/
def LayRel (w : World) (ss : List ByteArray) (out i : Value) (wr : World) : Prop :=
  ∃ k : Nat, k ≤ ss.length ∧ i = .int .i64 (k : Int) ∧ (∀ t ∈ (ss.map bl).take k, t.length ≤ 3000) ∧ out = .string (strOf (Wm.lay (ss.length : Int) ++ Fm.textsL ((ss.map bl).take k))) ∧ Below w.heap.size w wr

theorem map_take_succ {ss : List ByteArray} {k : Nat} (h : k < ss.length) : (ss.map bl).take (k + 1) = (ss.map bl).take k ++ [bl ss[k]] := by
  rw [List.take_succ_eq_append_getElem (by rw [List.length_map]; exact h), List.getElem_map]

end Go.Proofs.YtlnchfnmpamliaaGreat

namespace Go.Proofs.YtlnchfnmpamliaaGreat
set_option maxRecDepth 10000
open Go.RowKit

/-- What texts hands back. -/
def GotTexts (w : World) (o : Option (List (List UInt8))) (e : Ending) (w' : World) : Prop :=
  ∃ v, e = .returned (.tuple #[v, .bool o.isSome]) ∧ w'.ownsRow w.heap.size 9 1 v (o.getD []).length ((o.getD []).map strV) ∧ Below w.heap.size w w'

/-- What holds ahead of each round of texts: ts was read, cur is left, and an error, if there is one. -/
def TextsRel (w : World) (s : ByteArray) (a : List UInt8) (e1 : Int) (M : Nat) (v i : Value) (wr : World) : Prop :=
  ∃ (k : Nat) (ts : List (List UInt8)) (cur : ByteArray) (e : Int), k ≤ M ∧ i = .int .i64 (k : Int) ∧ ts.length = k ∧ cur.size ≤ maxLen ∧ RdAt wr w.heap.size (w.heap.size + 1) cur e ∧
    (e = 0 → e1 = 0 ∧ Fm.getTs M a = Fm.glueT ts (Fm.getTs (M - k) (bl cur))) ∧ (e ≠ 0 → Fm.rowOf (bl s) = none) ∧
    wr.ownsRow (w.heap.size + 2) 9 1 v k (ts.map strV) ∧ Below w.heap.size w wr ∧ w.heap.size + 2 ≤ wr.heap.size

theorem rd_lt {w : World} {bs be : Nat} {s : ByteArray} {e : Int} (h : RdAt w bs be s e) : bs < w.heap.size ∧ be < w.heap.size := ⟨World.block_lt_of_cell? w _ h.cs, World.block_lt_of_cell? w _ h.ce⟩

theorem rd_append {W w1 : World} {bs be b : Nat} {s : ByteArray} {e : Int} {T : TypeId} {v : Value} {k : Nat} {xs : List Value} {tmp : Obj} (h : RdAt W bs be s e) (h1 : bs < b) (h2 : be < b) (hown : W.ownsRow b T 1 v k xs) (hg : (W.alloc tmp).grownBy w1 v.ownBlock) : RdAt w1 bs be s e := by
  obtain ⟨l1, l2⟩ := rd_lt h
  have ha := (Below.refl W.heap.size W).alloc (Nat.le_refl _) tmp
  have hz : W.heap.size ≤ (W.alloc tmp).heap.size := ha.size
  refine h.kept ?_ ?_
  · exact (hg.block bs (by omega) (fun e => by have := (hown.lt bs e.symm).1; omega)).trans (ha.block bs l1)
  · exact (hg.block be (by omega) (fun e => by have := (hown.lt be e.symm).1; omega)).trans (ha.block be l2)

end Go.Proofs.YtlnchfnmpamliaaGreat

namespace Go.Proofs.YtlnchfnmpamliaaGreat
set_option maxRecDepth 10000
open Go.RowKit

/-- Four results, the second a slice of one's own that holds the texts. -/
def GotRow (w : World) (t : Int × List (List UInt8) × List UInt8 × Int) (e : Ending) (w' : World) : Prop :=
  ∃ v, e = .returned (.tuple #[.int .i64 t.1, v, .string (strOf t.2.2.1), .int .i64 t.2.2.2]) ∧ w'.ownsRow w.heap.size 9 1 v t.2.1.length (t.2.1.map strV) ∧ Below w.heap.size w w'

end Go.Proofs.YtlnchfnmpamliaaGreat

namespace Go.Proofs.YtlnchfnmpamliaaGreat
set_option maxRecDepth 10000
open Go.RowKit

theorem flay_0 : Wm.lay 0 = [255] := by simp [Wm.lay, Wm.endB, Wm.digs_zero]
theorem fdigs_small {n : Nat} (h0 : 0 < n) (h : n < 250) : Wm.digs n = [UInt8.ofNat n] := by
  rw [Wm.digs_pos h0, show n % 250 = n by omega, show n / 250 = 0 by omega, Wm.digs_zero]
theorem flay_7 : Wm.lay 7 = [7, 255] := by
  unfold Wm.lay; rw [show (7 : Int).natAbs = 7 from rfl, fdigs_small (by decide) (by decide)]; rfl
theorem flay_21507 : Wm.lay 21507 = [7, 86, 255] := by
  unfold Wm.lay; rw [show (21507 : Int).natAbs = 21507 from rfl, Wm.digs_pos (by decide), show 21507 / 250 = 86 from rfl, fdigs_small (by decide) (by decide)]; rfl
theorem framed_sum : Sm.ofL [7, 255, 255] = 21507 := by decide +kernel
theorem framed_put : Fm.frame 7 [] = [7, 255, 255, 7, 86, 255] := by
  have h : Fm.ahead 7 [] = [7, 255, 255] := by simp [Fm.ahead, Fm.textL, flay_7, flay_0]
  rw [Fm.frame, h, framed_sum, show ((21507 : Nat) : Int) = 21507 from rfl, flay_21507]; rfl
theorem framed_put1 : Fm.putS 7 [] = [7, 255, 255, 7, 86, 255] ∧ Fm.putE 7 [] = 0 := by
  have := Fm.put_yes (k := 7) (t := []) (by decide) (by decide)
  rw [framed_put] at this; exact this
theorem framed_get : Fm.get [7, 255, 255, 7, 86, 255, 120] = (7, [], [120], 0) := by
  have := Fm.get_frame (k := 7) (t := []) (by decide) (by decide) [120]
  rw [framed_put] at this; exact this
theorem framed_put2 : Fm.putS 100 [] = [] ∧ Fm.putE 100 [] = 1 := Fm.put_kind (by decide)
theorem framed_rowE : Fm.rowE 3 [[97], []] = 0 := by
  have h1 : Fm.layOk [[97], []] = true := by decide
  have h2 := textsL_short (Fm.layOk_iff.1 h1).2
  have h3 := lay_short (2 : Int) (by decide)
  have h4 : (Fm.rowL [[97], []]).length ≤ 7000 := by
    rw [Fm.rowL, List.length_append]; simp only [List.length_cons, List.length_nil] at h2 ⊢; exact Nat.le_trans (Nat.add_le_add h3 h2) (by decide)
  have h5 : (Fm.rowL [[97], []]).length ≤ 3000 := by
    have a1 := lay_short (1 : Int) (by decide)
    have a0 := lay_short (0 : Int) (by decide)
    rw [Fm.rowL, Fm.textsL_cons, Fm.textsL_cons, Fm.textL, Fm.textL]
    simp only [List.length_append, List.length_cons, List.length_nil, Fm.textsL, List.flatMap_nil]
    have b1 : (Wm.lay ((0 + 1 : Nat) : Int)).length ≤ 6 := a1
    have b0 : (Wm.lay ((0 : Nat) : Int)).length ≤ 6 := a0
    have b2 : (Wm.lay ((0 + 1 + 1 : Nat) : Int)).length ≤ 6 := h3
    omega
  have := (Fm.put_yes (k := 3) (by decide) h5).2
  simp only [Fm.rowE, h1, if_true]
  rw [if_pos (by decide)]; exact this

end Go.Proofs.YtlnchfnmpamliaaGreat
