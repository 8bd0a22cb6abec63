/-
  A row of texts of one's own, appended to by whatever slice of texts.
-/
import Derived.Test.YtfapfnbehhekhaaXRefTexts
import Derived.Test.YtfapfnbehhekhaaXJa
import Derived.Laws.AppendOwnNone
namespace Go.Proofs.Ytfapfnbehhekhaa
set_option maxRecDepth 10000
open Go.RowKit

theorem Try.infoS13 : (Try.prog.info? 9).map (fun i => (i.zero, i.size, i.bytes)) = some (some (.string ByteArray.empty), 1, 16) := by kernel_rfl
/-- A row of texts of one's own since u. -/
def OwnTs (u w : World) (v : Value) (ss : List ByteArray) : Prop := w.ownsRow u.heap.size 9 1 v ss.length (ss.map Value.string) ∧ Below u.heap.size u w
theorem OwnTs.nil (u : World) : OwnTs u u (.slice none 0 0) [] := ⟨World.ownsRow_nil u u.heap.size 9 1, Below.refl _ _⟩
theorem OwnTs.slice {u w : World} {v : Value} {ss : List ByteArray} (h : OwnTs u w v ss) {L : Nat} (hL : L = ss.length) : ∃ A c, v = .slice A L c ∧ L ≤ c ∧ StrsAt w w.heap.size A ss ∧ Below u.heap.size u w := by
  subst hL
  obtain ⟨ho, hB⟩ := h
  obtain ⟨A, c, rfl⟩ := ownsRow_slice ho
  refine ⟨A, c, rfl, ?_, StrsAt.of_own ho, hB⟩
  rcases ho.2 with ⟨e, h0⟩ | ⟨g, cap, cur, e, _, _, h1, _⟩
  · omega
  · cases e; exact h1

theorem OwnTs.none13 {u w : World} {v : Value} {ss : List ByteArray} (h : OwnTs u w v ss) {L : Nat} (_hL : L = ss.length) (c : Nat) (hv : v = .slice none L c) : L = 0 ∧ c = 0 := by
  subst hv
  rcases h.1.2 with ⟨e, h0⟩ | ⟨g, cap, cur, e, _⟩
  · injection e with e1 e2 e3; exact ⟨e2, e3⟩
  · injection e with e1 _ _; cases e1
theorem StrsAt.take13 {w : World} {B : Nat} {A : Option Addr} {ss : List ByteArray} (h : StrsAt w B A ss) (j : Nat) : StrsAt w B A (ss.take j) := fun i hi => by
  rw [List.length_take] at hi
  obtain ⟨b, off, e, hb, hc⟩ := h i (by omega)
  refine ⟨b, off, e, hb, ?_⟩
  rw [List.getElem_take]; exact hc
/-- A beginning of a slice of texts. -/
theorem run_slice_strs (w : World) (A : Option Addr) (n c j : Nat) (hj : j ≤ c) (hn : A = none → c = 0) : (Instr.slice 24 (.slice A n c) none (some (.int .i64 (j : Int))) none).run Try.prog w = .ok (.slice A j c) w := by
  have h1 : (0 : Int) ≤ (j : Int) := by omega
  have h2 : ¬ (c < j) := by omega
  cases A with
  | none =>
    obtain rfl := hn rfl
    obtain rfl : j = 0 := by omega
    go_simp
  | some a =>
    go_simp
theorem IsStrs.cap13 {w : World} {A : Option Addr} {N cap : Nat} {ss : List ByteArray} (h : IsStrs w A N cap ss) : ss.length ≤ cap ∧ (A = none → cap = 0) := by
  rcases h with ⟨_, e1, e2, e3⟩ | ⟨x, e0, e1, _, e2, _⟩
  · exact ⟨by rw [e3]; exact Nat.zero_le _, fun _ => e2⟩
  · exact ⟨by omega, fun h => by rw [h] at e0; cases e0⟩

theorem wpList_append_strs {ops : Array Oper} {rest : List Oper} {o : Oper} {a : Act} {w : World} {Q : Exit → Act → World → Prop} (hgd : o.guard = none) (s x : Operand)
    (ho : o.op = .call { callee := .builtin .append, args := #[s, x], argTypes := #[24, 24] })
    (u : World) (v : Value) (zs ms rs : List ByteArray) (hr : zs ++ ms = rs) (hs : a.eval s = v) (hO : OwnTs u w v zs)
    (A : Option Addr) (N cap : Nat) (hN : N = ms.length) (hx : a.eval x = .slice A N cap) (hA : StrsAt w w.heap.size A ms) (hnil : A = none → cap = 0) (hl : zs.length + ms.length ≤ 100000)
    (h : ∀ v' w', OwnTs u w' v' rs → wpList Try.prog ops Q rest (a.put o.dst v') w') : wpList Try.prog ops Q (o :: rest) a w := by
  subst hN hr
  obtain ⟨hown, hB⟩ := hO
  obtain ⟨i0, hi, hz0, hz1, hz2⟩ := info_parts Try.infoS13
  cases A with
  | none =>
    obtain rfl : cap = 0 := hnil rfl
    obtain rfl : ms = [] := by
      cases ms with
      | nil => rfl
      | cons z zs => obtain ⟨b, off, h, _⟩ := hA 0 (by simp); cases h
    refine wpList_append_own_none hgd s x 24 ho u.heap.size 9 i0 1 Try.underlying24 hi v _ _ hs hown hx ?_
    exact h v w ⟨by simpa using hown, hB⟩
  | some ad =>
    have hcells : ∀ j y, (ms.map Value.string)[j]? = some y → w.cell? (ad.add j) = some y := by
      intro j y hy
      have hj : j < ms.length := by
        have := (List.getElem?_eq_some_iff.1 hy).1
        simpa using this
      obtain ⟨b, off, ha, _, hc⟩ := hA j hj
      cases ha
      rw [Go.WideShapes.add_plain, hc]
      simpa [List.getElem?_eq_getElem hj] using hy
    refine wpList_append_own _ hgd s x 24 ho u.heap.size 9 i0 (.string ByteArray.empty) 1 16 Try.underlying24 hi hz0 hz1 hz2 rfl (by decide) v _ _ hs hown ad ms.length cap (ms.map Value.string) hx (by simp) hcells (by simp [Value.oneCell']) (by unfold maxLen; omega) (by omega) hB.size ?_
    intro v' w' ho' hg _
    exact h v' w' ⟨by simpa using ho', hB.grown hg hB.size (fun k e => (hown.lt k e).1)⟩
end Go.Proofs.Ytfapfnbehhekhaa
