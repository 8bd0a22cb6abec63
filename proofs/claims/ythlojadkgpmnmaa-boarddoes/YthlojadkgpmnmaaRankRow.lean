/-
  Rows of alarms in memory.
-/
import Derived.Test.YthlojadkgpmnmaaChecked
import Derived.Test.YthlojadkgpmnmaaAid
import Derived.Test.YthlojadkgpmnmaaAlarmTwo
import Derived.Laws.AppendOwnNone
import Derived.Lib.OwnBridge
import Derived.Lib.Hide
namespace Go.Proofs.Ythlojadkgpmnmaa
open Go.RowKit

theorem Try.infoAl : (Try.prog.info? 28).map (fun i => (i.zero, i.size, i.bytes)) = some (some (.agg #[.int .i64 0, .int .i64 0, .int .i64 0, .int .i64 0, .int .i64 0, .int .i64 0]), 6, 48) := by kernel_rfl

/-- An alarm lies at a place of a block. -/
structure Al6 (w : World) (b o : Nat) (a : Alm) : Prop where
  c0 : w.cell? ⟨b, o, none⟩ = some (.int .i64 a.b)
  c1 : w.cell? ⟨b, o + 1, none⟩ = some (.int .i64 a.c)
  c2 : w.cell? ⟨b, o + 2, none⟩ = some (.int .i64 a.ph)
  c3 : w.cell? ⟨b, o + 3, none⟩ = some (.int .i64 a.pr)
  c4 : w.cell? ⟨b, o + 4, none⟩ = some (.int .i64 a.si)
  c5 : w.cell? ⟨b, o + 5, none⟩ = some (.int .i64 a.un)
/-- The slice at A holds the alarms ls, in blocks below B. -/
def AlmsAt (w : World) (B : Nat) (A : Option Addr) (ls : List Alm) : Prop :=
  ∀ i (h : i < ls.length), ∃ b off, A = some ⟨b, off, none⟩ ∧ b < B ∧ Al6 w b (off + i * 6) ls[i]
theorem Al6.below {w w' : World} {B b o : Nat} {a : Alm} (h : Al6 w b o a) (hb : Below B w w') (hB : b < B) : Al6 w' b o a := by
  have f : ∀ j, w'.cell? ⟨b, j, none⟩ = w.cell? ⟨b, j, none⟩ := fun j => hb.cell (p := ⟨b, j, none⟩) hB
  exact ⟨(f _).trans h.c0, (f _).trans h.c1, (f _).trans h.c2, (f _).trans h.c3, (f _).trans h.c4, (f _).trans h.c5⟩
theorem AlmsAt.below {w w' : World} {B B' : Nat} {A : Option Addr} {ls : List Alm} (h : AlmsAt w B A ls) (hb : Below B' w w') (hB : B ≤ B') : AlmsAt w' B A ls := fun i hi => by
  obtain ⟨b, off, e, hlt, h6⟩ := h i hi
  exact ⟨b, off, e, hlt, h6.below hb (by omega)⟩
theorem AlmsAt.more {w : World} {B B' : Nat} {A : Option Addr} {ls : List Alm} (h : AlmsAt w B A ls) (hB : B ≤ B') : AlmsAt w B' A ls := fun i hi => by
  obtain ⟨b, off, e, hlt, h6⟩ := h i hi
  exact ⟨b, off, e, by omega, h6⟩
theorem AlmsAt.on {w w' : World} {A : Option Addr} {ls : List Alm} (h : AlmsAt w w.heap.size A ls) (hb : Below w.heap.size w w') : AlmsAt w' w'.heap.size A ls := (h.below hb (Nat.le_refl _)).more hb.size
theorem AlmsAt.nil (w : World) (B : Nat) (A : Option Addr) : AlmsAt w B A [] := fun _ hi => absurd hi (Nat.not_lt_zero _)
theorem AlmsAt.none_nil {w : World} {B : Nat} {ls : List Alm} (h : AlmsAt w B none ls) : ls = [] := by
  cases ls with
  | nil => rfl
  | cons z zs => obtain ⟨b, off, h, _⟩ := h 0 (by simp); cases h
/-- A beginning of a row, and what is behind it. -/
theorem AlmsAt.take {w : World} {B : Nat} {A : Option Addr} {ls : List Alm} (h : AlmsAt w B A ls) (k : Nat) : AlmsAt w B A (ls.take k) := fun i hi => by
  have hi' : i < ls.length := by rw [List.length_take] at hi; omega
  obtain ⟨b, off, e, hlt, h6⟩ := h i hi'
  exact ⟨b, off, e, hlt, by rw [List.getElem_take]; exact h6⟩
theorem AlmsAt.drop {w : World} {B b off : Nat} {ls : List Alm} (h : AlmsAt w B (some ⟨b, off, none⟩) ls) (k : Nat) : AlmsAt w B (some ⟨b, off + k * 6, none⟩) (ls.drop k) := fun i hi => by
  have hi' : k + i < ls.length := by rw [List.length_drop] at hi; omega
  obtain ⟨b', off', e, hlt, h6⟩ := h (k + i) hi'
  cases e
  refine ⟨b, off + k * 6, rfl, hlt, ?_⟩
  rw [List.getElem_drop]
  have e : off + (k + i) * 6 = off + k * 6 + i * 6 := by omega
  rw [← e]
  exact h6

/-- Alarms, cell by cell. -/
def flat6 (ls : List Alm) : List Value := ls.flatMap (fun a => [.int .i64 a.b, .int .i64 a.c, .int .i64 a.ph, .int .i64 a.pr, .int .i64 a.si, .int .i64 a.un])
theorem flat6_cons (a : Alm) (ls : List Alm) : flat6 (a :: ls) = .int .i64 a.b :: .int .i64 a.c :: .int .i64 a.ph :: .int .i64 a.pr :: .int .i64 a.si :: .int .i64 a.un :: flat6 ls := rfl
theorem flat6_app (ls ms : List Alm) : flat6 (ls ++ ms) = flat6 ls ++ flat6 ms := by unfold flat6; exact List.flatMap_append
theorem flat6_len : ∀ ls : List Alm, (flat6 ls).length = ls.length * 6
  | [] => rfl
  | a :: ls => by have := flat6_len ls; rw [flat6_cons]; simp only [List.length_cons, this]; omega
theorem flat6_one (ls : List Alm) : ∀ u ∈ flat6 ls, u.oneCell' = true := by
  intro u hu
  simp only [flat6, List.mem_flatMap, List.mem_cons, List.not_mem_nil, or_false] at hu
  obtain ⟨p, _, rfl | rfl | rfl | rfl | rfl | rfl⟩ := hu <;> rfl
theorem flat6_get : ∀ (ls : List Alm) (i : Nat) (h : i < ls.length), (flat6 ls)[i * 6]? = some (.int .i64 ls[i].b) ∧ (flat6 ls)[i * 6 + 1]? = some (.int .i64 ls[i].c) ∧ (flat6 ls)[i * 6 + 2]? = some (.int .i64 ls[i].ph) ∧ (flat6 ls)[i * 6 + 3]? = some (.int .i64 ls[i].pr) ∧ (flat6 ls)[i * 6 + 4]? = some (.int .i64 ls[i].si) ∧ (flat6 ls)[i * 6 + 5]? = some (.int .i64 ls[i].un)
  | a :: ls, 0, _ => ⟨rfl, rfl, rfl, rfl, rfl, rfl⟩
  | a :: ls, i + 1, h => by
    have g := flat6_get ls i (by simpa using h)
    rw [flat6_cons]
    have e1 : (i + 1) * 6 = i * 6 + 1 + 1 + 1 + 1 + 1 + 1 := by omega
    rw [e1]
    refine ⟨?_, ?_, ?_, ?_, ?_, ?_⟩ <;> simp only [List.getElem_cons_succ]
    · simpa using g.1
    · have := g.2.1; simpa [Nat.add_right_comm] using this
    · have := g.2.2.1; simpa [Nat.add_right_comm] using this
    · have := g.2.2.2.1; simpa [Nat.add_right_comm] using this
    · have := g.2.2.2.2.1; simpa [Nat.add_right_comm] using this
    · have := g.2.2.2.2.2; simpa [Nat.add_right_comm] using this
theorem AlmsAt.flat_cells {w : World} {B : Nat} {a : Addr} {ls : List Alm} (h : AlmsAt w B (some a) ls) : ∀ j u, (flat6 ls)[j]? = some u → w.cell? (a.add j) = some u := by
  intro j u hu
  have hj := (List.getElem?_eq_some_iff.1 hu).1
  rw [flat6_len] at hj
  obtain ⟨b, off, ha, _, h6⟩ := h (j / 6) (by omega)
  cases ha
  have g := flat6_get ls (j / 6) (by omega)
  rw [Go.WideShapes.add_plain]
  have hm : j % 6 = 0 ∨ j % 6 = 1 ∨ j % 6 = 2 ∨ j % 6 = 3 ∨ j % 6 = 4 ∨ j % 6 = 5 := by omega
  have fin : ∀ (r : Nat) (v : Value), j / 6 * 6 + r = j → (flat6 ls)[j / 6 * 6 + r]? = some v → w.cell? ⟨b, off + j / 6 * 6 + r, none⟩ = some v → w.cell? ⟨b, off + j, none⟩ = some u := by
    intro r v e h1 h2
    have e2 : off + j / 6 * 6 + r = off + j := by omega
    rw [e2] at h2
    rw [e] at h1
    rw [h2]
    exact h1.symm.trans hu
  rcases hm with hm | hm | hm | hm | hm | hm
  · exact fin 0 _ (by omega) g.1 h6.c0
  · exact fin 1 _ (by omega) g.2.1 h6.c1
  · exact fin 2 _ (by omega) g.2.2.1 h6.c2
  · exact fin 3 _ (by omega) g.2.2.2.1 h6.c3
  · exact fin 4 _ (by omega) g.2.2.2.2.1 h6.c4
  · exact fin 5 _ (by omega) g.2.2.2.2.2 h6.c5

/-- A row of alarms of one's own. -/
def OwnA (w : World) (base : Nat) (v : Value) (ls : List Alm) : Prop := w.ownsRow base 28 6 v ls.length (flat6 ls)
theorem OwnA.slice {w : World} {base : Nat} {v : Value} {ls : List Alm} (h : OwnA w base v ls) : ∃ A cap, v = .slice A ls.length cap ∧ AlmsAt w w.heap.size A ls ∧ (A = none → cap = 0) ∧ ls.length ≤ cap := by
  have h' := h
  unfold OwnA at h
  rcases h.2 with ⟨hv, h0⟩ | ⟨g, cap, cur, hv, _, hg, hcap, _⟩
  · refine ⟨none, 0, by rw [hv, h0], ?_, fun _ => rfl, by omega⟩
    rw [List.length_eq_zero_iff] at h0
    rw [h0]
    exact AlmsAt.nil _ _ _
  · refine ⟨some ⟨g, 0, none⟩, cap, hv, ?_, fun e => (by cases e), hcap⟩
    intro i hi
    have g6 := flat6_get ls i hi
    have hc := fun j u (hu : (flat6 ls)[j]? = some u) => (by have := h.cells (g := g) (by rw [hv]; rfl) _ _ hu; rw [Go.WideShapes.add_plain] at this; exact this : w.cell? ⟨g, 0 + j, none⟩ = some u)
    exact ⟨g, 0, rfl, (Array.getElem?_eq_some_iff.1 hg).1, ⟨hc _ _ g6.1, hc _ _ g6.2.1, hc _ _ g6.2.2.1, hc _ _ g6.2.2.2.1, hc _ _ g6.2.2.2.2.1, hc _ _ g6.2.2.2.2.2⟩⟩
theorem OwnA.below {w W : World} {base : Nat} {v : Value} {ls : List Alm} (h : OwnA w base v ls) (hb : Below w.heap.size w W) : OwnA W base v ls := owns_below h hb
theorem OwnA.lower {w : World} {base base' : Nat} {v : Value} {ls : List Alm} (h : OwnA w base v ls) (hb : base' ≤ base) : OwnA w base' v ls := owns_lower h hb
theorem OwnA.nil (w : World) (base : Nat) : OwnA w base (.slice none 0 0) [] := World.ownsRow_nil w base 28 6

/-- What a call ends with that hands back alarms in memory of their own. -/
def OwnedA (w : World) (ls : List Alm) (e : Ending) (w' : World) : Prop := ∃ v, e = .returned v ∧ OwnA w' w.heap.size v ls ∧ Below w.heap.size w w'

/-- Alarms of one's own, with those of whatever slice behind them. -/
theorem wpList_append_alms {ops : Array Oper} {rest : List Oper} {o : Oper} {a : Act} {w : World} {Q : Exit → Act → World → Prop} (hgd : o.guard = none) (s x : Operand)
    (ho : o.op = .call { callee := .builtin .append, args := #[s, x], argTypes := #[22, 22] })
    (base : Nat) (v : Value) (zs ms : List Alm) (hs : a.eval s = v) (hown : OwnA w base v zs)
    (A : Option Addr) (n cap : Nat) (hx : a.eval x = .slice A n cap) (hn : n = ms.length) (hA : AlmsAt w w.heap.size A ms) (hnil : A = none → cap = 0) (hb : base ≤ w.heap.size) (hl : zs.length + ms.length ≤ 100000)
    (h : ∀ v' w', OwnA w' base v' (zs ++ ms) → w.grownBy w' v.ownBlock → wpList Try.prog ops Q rest (a.put o.dst v') w') : wpList Try.prog ops Q (o :: rest) a w := by
  obtain ⟨i0, hi, hz0, hz1, hz2⟩ := info_parts Try.infoAl
  subst hn
  cases A with
  | none =>
    obtain rfl : cap = 0 := hnil rfl
    obtain rfl : ms = [] := hA.none_nil
    refine wpList_append_own_none hgd s x 22 ho base 28 i0 6 Try.underlying22 hi v _ _ hs hown hx ?_
    exact h v w (by rw [List.append_nil]; exact hown) (grown_refl _ _)
  | some ad =>
    refine wpList_append_own _ hgd s x 22 ho base 28 i0 _ 6 48 Try.underlying22 hi hz0 hz1 hz2 rfl (by decide) v _ _ hs hown ad ms.length cap (flat6 ms) hx (flat6_len ms) hA.flat_cells (flat6_one ms) (by unfold maxLen; omega) (by omega) hb ?_
    intro v' w' ho' hg _
    exact h v' w' (by unfold OwnA; rw [List.length_append, flat6_app]; exact ho') hg
end Go.Proofs.Ythlojadkgpmnmaa
