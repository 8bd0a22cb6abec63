/-
  Rows of windows in memory.
-/
import Derived.Test.YthbkfjnpdcfepaaChecked
import Derived.Test.YthbkfjnpdcfepaaAid
import Derived.Test.YthbkfjnpdcfepaaMuteM2
import Derived.Test.YthbkfjnpdcfepaaState
import Derived.Laws.AppendOwnNone
import Derived.Lib.OwnBridge
import Derived.Lib.Hide
namespace Go.Proofs.Ythbkfjnpdcfepaa
set_option maxRecDepth 10000
open Go.RowKit

theorem Try.infoWi : (Try.prog.info? 32).map (fun i => (i.zero, i.size, i.bytes)) = some (some (.agg #[.int .i64 0, .int .i64 0, .int .i64 0]), 3, 24) := by kernel_rfl

/-- A window lies at a place of a block. -/
structure Wi3 (w : World) (b o : Nat) (a : Win) : Prop where
  c0 : w.cell? ⟨b, o, none⟩ = some (.int .i64 a.bed)
  c1 : w.cell? ⟨b, o + 1, none⟩ = some (.int .i64 a.fr)
  c2 : w.cell? ⟨b, o + 2, none⟩ = some (.int .i64 a.to)
/-- The slice at A holds the windows ls, in blocks below B. -/
def WinsAt (w : World) (B : Nat) (A : Option Addr) (ls : List Win) : Prop :=
  ∀ i (h : i < ls.length), ∃ b off, A = some ⟨b, off, none⟩ ∧ b < B ∧ Wi3 w b (off + i * 3) ls[i]
theorem Wi3.below {w w' : World} {B b o : Nat} {a : Win} (h : Wi3 w b o a) (hb : Below B w w') (hB : b < B) : Wi3 w' b o a := by
  have f : ∀ j, w'.cell? ⟨b, j, none⟩ = w.cell? ⟨b, j, none⟩ := fun j => hb.cell (p := ⟨b, j, none⟩) hB
  exact ⟨(f _).trans h.c0, (f _).trans h.c1, (f _).trans h.c2⟩
theorem WinsAt.below {w w' : World} {B B' : Nat} {A : Option Addr} {ls : List Win} (h : WinsAt w B A ls) (hb : Below B' w w') (hB : B ≤ B') : WinsAt w' B A ls := fun i hi => by
  obtain ⟨b, off, e, hlt, h6⟩ := h i hi
  exact ⟨b, off, e, hlt, h6.below hb (by omega)⟩
theorem WinsAt.more {w : World} {B B' : Nat} {A : Option Addr} {ls : List Win} (h : WinsAt w B A ls) (hB : B ≤ B') : WinsAt w B' A ls := fun i hi => by
  obtain ⟨b, off, e, hlt, h6⟩ := h i hi
  exact ⟨b, off, e, by omega, h6⟩
theorem WinsAt.on {w w' : World} {A : Option Addr} {ls : List Win} (h : WinsAt w w.heap.size A ls) (hb : Below w.heap.size w w') : WinsAt w' w'.heap.size A ls := (h.below hb (Nat.le_refl _)).more hb.size
theorem WinsAt.nil (w : World) (B : Nat) (A : Option Addr) : WinsAt w B A [] := fun _ hi => absurd hi (Nat.not_lt_zero _)
theorem WinsAt.none_nil {w : World} {B : Nat} {ls : List Win} (h : WinsAt w B none ls) : ls = [] := by
  cases ls with
  | nil => rfl
  | cons z zs => obtain ⟨b, off, h, _⟩ := h 0 (by simp); cases h
theorem WinsAt.take {w : World} {B : Nat} {A : Option Addr} {ls : List Win} (h : WinsAt w B A ls) (k : Nat) : WinsAt w B A (ls.take k) := fun i hi => by
  have hi' : i < ls.length := by rw [List.length_take] at hi; omega
  obtain ⟨b, off, e, hlt, h6⟩ := h i hi'
  exact ⟨b, off, e, hlt, by rw [List.getElem_take]; exact h6⟩
theorem WinsAt.drop {w : World} {B b off : Nat} {ls : List Win} (h : WinsAt w B (some ⟨b, off, none⟩) ls) (k : Nat) : WinsAt w B (some ⟨b, off + k * 3, none⟩) (ls.drop k) := fun i hi => by
  have hi' : k + i < ls.length := by rw [List.length_drop] at hi; omega
  obtain ⟨b', off', e, hlt, h6⟩ := h (k + i) hi'
  cases e
  refine ⟨b, off + k * 3, rfl, hlt, ?_⟩
  rw [List.getElem_drop]
  have e : off + (k + i) * 3 = off + k * 3 + i * 3 := by omega
  rw [← e]
  exact h6

/-- Windows, cell by cell. -/
def flat3 (ls : List Win) : List Value := ls.flatMap (fun a => [.int .i64 a.bed, .int .i64 a.fr, .int .i64 a.to])
theorem flat3_cons (a : Win) (ls : List Win) : flat3 (a :: ls) = .int .i64 a.bed :: .int .i64 a.fr :: .int .i64 a.to :: flat3 ls := rfl
theorem flat3_app (ls ms : List Win) : flat3 (ls ++ ms) = flat3 ls ++ flat3 ms := by unfold flat3; exact List.flatMap_append
theorem flat3_len : ∀ ls : List Win, (flat3 ls).length = ls.length * 3
  | [] => rfl
  | a :: ls => by have := flat3_len ls; rw [flat3_cons]; simp only [List.length_cons, this]; omega
theorem flat3_one (ls : List Win) : ∀ u ∈ flat3 ls, u.oneCell' = true := by
  intro u hu
  simp only [flat3, List.mem_flatMap, List.mem_cons, List.not_mem_nil, or_false] at hu
  obtain ⟨p, _, rfl | rfl | rfl⟩ := hu <;> rfl
theorem flat3_get : ∀ (ls : List Win) (i : Nat) (h : i < ls.length), (flat3 ls)[i * 3]? = some (.int .i64 ls[i].bed) ∧ (flat3 ls)[i * 3 + 1]? = some (.int .i64 ls[i].fr) ∧ (flat3 ls)[i * 3 + 2]? = some (.int .i64 ls[i].to)
  | a :: ls, 0, _ => ⟨rfl, rfl, rfl⟩
  | a :: ls, i + 1, h => by
    have g := flat3_get ls i (by simpa using h)
    rw [flat3_cons]
    have e1 : (i + 1) * 3 = i * 3 + 1 + 1 + 1 := by omega
    rw [e1]
    refine ⟨?_, ?_, ?_⟩ <;> simp only [List.getElem_cons_succ]
    · simpa using g.1
    · have := g.2.1; simpa [Nat.add_right_comm] using this
    · have := g.2.2; simpa [Nat.add_right_comm] using this
theorem WinsAt.flat_cells {w : World} {B : Nat} {a : Addr} {ls : List Win} (h : WinsAt w B (some a) ls) : ∀ j u, (flat3 ls)[j]? = some u → w.cell? (a.add j) = some u := by
  intro j u hu
  have hj := (List.getElem?_eq_some_iff.1 hu).1
  rw [flat3_len] at hj
  obtain ⟨b, off, ha, _, h6⟩ := h (j / 3) (by omega)
  cases ha
  have g := flat3_get ls (j / 3) (by omega)
  rw [Go.WideShapes.add_plain]
  have hm : j % 3 = 0 ∨ j % 3 = 1 ∨ j % 3 = 2 := by omega
  have fin : ∀ (r : Nat) (v : Value), j / 3 * 3 + r = j → (flat3 ls)[j / 3 * 3 + r]? = some v → w.cell? ⟨b, off + j / 3 * 3 + r, none⟩ = some v → w.cell? ⟨b, off + j, none⟩ = some u := by
    intro r v e h1 h2
    have e2 : off + j / 3 * 3 + r = off + j := by omega
    rw [e2] at h2
    rw [e] at h1
    rw [h2]
    exact h1.symm.trans hu
  rcases hm with hm | hm | hm
  · exact fin 0 _ (by omega) g.1 h6.c0
  · exact fin 1 _ (by omega) g.2.1 h6.c1
  · exact fin 2 _ (by omega) g.2.2 h6.c2

/-- A slice of windows that is none has no room; it has room for its windows. -/
def Roomy (A : Option Addr) (ls : List Win) (c : Nat) : Prop := (A = none → c = 0) ∧ ls.length ≤ c
theorem Roomy.some (a : Addr) (ls : List Win) (c : Nat) (h : ls.length ≤ c) : Roomy (some a) ls c := ⟨(fun e => nomatch e), h⟩
/-- A row of windows of one's own. -/
def OwnW (w : World) (base : Nat) (v : Value) (ls : List Win) : Prop := w.ownsRow base 32 3 v ls.length (flat3 ls)
theorem OwnW.slice {w : World} {base : Nat} {v : Value} {ls : List Win} (h : OwnW w base v ls) : ∃ A cap, v = .slice A ls.length cap ∧ WinsAt w w.heap.size A ls ∧ (A = none → cap = 0) ∧ ls.length ≤ cap := by
  unfold OwnW at h
  rcases h.2 with ⟨hv, h0⟩ | ⟨g, cap, cur, hv, _, hg, hcap, _⟩
  · refine ⟨none, 0, by rw [hv, h0], ?_, fun _ => rfl, by omega⟩
    rw [List.length_eq_zero_iff] at h0
    rw [h0]
    exact WinsAt.nil _ _ _
  · refine ⟨some ⟨g, 0, none⟩, cap, hv, ?_, fun e => (by cases e), hcap⟩
    intro i hi
    have g6 := flat3_get ls i hi
    have hc := fun j u (hu : (flat3 ls)[j]? = some u) => (by have := h.cells (g := g) (by rw [hv]; rfl) _ _ hu; rw [Go.WideShapes.add_plain] at this; exact this : w.cell? ⟨g, 0 + j, none⟩ = some u)
    exact ⟨g, 0, rfl, (Array.getElem?_eq_some_iff.1 hg).1, ⟨hc _ _ g6.1, hc _ _ g6.2.1, hc _ _ g6.2.2⟩⟩
theorem OwnW.below {w W : World} {base : Nat} {v : Value} {ls : List Win} (h : OwnW w base v ls) (hb : Below w.heap.size w W) : OwnW W base v ls := owns_below h hb
theorem OwnW.lower {w : World} {base base' : Nat} {v : Value} {ls : List Win} (h : OwnW w base v ls) (hb : base' ≤ base) : OwnW w base' v ls := owns_lower h hb
theorem OwnW.nil (w : World) (base : Nat) : OwnW w base (.slice none 0 0) [] := World.ownsRow_nil w base 32 3
theorem OwnW.ge {w : World} {base : Nat} {v : Value} {ls : List Win} (h : OwnW w base v ls) : ∀ k, v.ownBlock = some k → base ≤ k := fun k hk => (World.ownsRow.lt h k hk).1
theorem OwnW.rows {w : World} {base : Nat} {A : Option Addr} {l c : Nat} {ls : List Win} (h : OwnW w base (.slice A l c) ls) : WinsAt w w.heap.size A ls ∧ Roomy A ls c := by
  obtain ⟨A', c', e, h1, h2, h3⟩ := h.slice
  cases e
  exact ⟨h1, h2, h3⟩

/-- What a call ends with that hands back windows in memory of their own. -/
def OwnedW (w : World) (n : Nat) (ls : List Win) (e : Ending) (w' : World) : Prop := ∃ A c, e = .returned (.slice A n c) ∧ OwnW w' w.heap.size (.slice A n c) ls ∧ Below w.heap.size w w'
/-- .. and an error. -/
def GivesW (w : World) (n : Nat) (ls : List Win) (er : Int) (e : Ending) (w' : World) : Prop := ∃ A c, e = .returned (.tuple #[.slice A n c, .int .i64 er]) ∧ OwnW w' w.heap.size (.slice A n c) ls ∧ Below w.heap.size w w'
/-- Turns that lie there. -/
def winF (A : Option Addr) (ls : List Win) : Fact := ⟨fun w => WinsAt w w.heap.size A ls, fun _ _ h hb => h.on hb⟩
/-- Turns of one's own. -/
def ownWF (base : Nat) (v : Value) (ls : List Win) : Fact := ⟨fun w => OwnW w base v ls, fun _ _ h hb => h.below hb⟩

/-- Turns of one's own, with those of whatever slice behind them. -/
theorem wpList_append_wins {ops : Array Oper} {rest : List Oper} {o : Oper} {a : Act} {w : World} {Q : Exit → Act → World → Prop} (hgd : o.guard = none) (s x : Operand) (t1 : TypeId)
    (ho : o.op = .call { callee := .builtin .append, args := #[s, x], argTypes := #[t1, t1] }) (hu : Try.prog.underlying t1 = some (.slice 32))
    (base : Nat) (v : Value) (zs ms : List Win) (hs : a.eval s = v) (hown : OwnW w base v zs)
    (A : Option Addr) (n cap : Nat) (hx : a.eval x = .slice A n cap) (hn : n = ms.length) (hA : WinsAt w w.heap.size A ms) (hnil : A = none → cap = 0) (hb : base ≤ w.heap.size) (hl : zs.length + ms.length ≤ 1000000)
    (h : ∀ v' w', OwnW w' base v' (zs ++ ms) → w.grownBy w' v.ownBlock → wpList Try.prog ops Q rest (a.put o.dst v') w') : wpList Try.prog ops Q (o :: rest) a w := by
  obtain ⟨i0, hi, hz0, hz1, hz2⟩ := info_parts Try.infoWi
  subst hn
  cases A with
  | none =>
    obtain rfl : cap = 0 := hnil rfl
    obtain rfl : ms = [] := hA.none_nil
    refine wpList_append_own_none hgd s x t1 ho base 32 i0 3 hu hi v _ _ hs hown hx ?_
    exact h v w (by rw [List.append_nil]; exact hown) (grown_refl _ _)
  | some ad =>
    refine wpList_append_own _ hgd s x t1 ho base 32 i0 _ 3 24 hu hi hz0 hz1 hz2 rfl (by decide) v _ _ hs hown ad ms.length cap (flat3 ms) hx (flat3_len ms) hA.flat_cells (flat3_one ms) (by unfold maxLen; omega) (by omega) hb ?_
    intro v' w' ho' hg _
    exact h v' w' (by unfold OwnW; rw [List.length_append, flat3_app]; exact ho') hg
end Go.Proofs.Ythbkfjnpdcfepaa
