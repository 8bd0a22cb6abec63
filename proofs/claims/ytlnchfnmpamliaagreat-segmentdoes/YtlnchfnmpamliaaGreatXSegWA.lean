/-
  Layer 14 (segment): what the landed code's walks say of files in rows of one's own, of logs that are handed back.
-/
import Derived.Test.YtlnchfnmpamliaaGreatXSegRow
import Derived.Test.YtlnchfnmpamliaaGreatXFileTwo
namespace Go.Proofs.YtlnchfnmpamliaaGreat
set_option maxRecDepth 10000
open Go.RowKit

theorem seg_set3w {w : World} {k : Nat} {x0 x1 x2 : Value} {t : TypeId} (h : w.heap[k]? = some (.cells #[x0, x1, x2] t (0, 0))) (a b c : Value) :
    (((w.setCell ⟨k, 0, none⟩ a).setCell ⟨k, 1, none⟩ b).setCell ⟨k, 2, none⟩ c).heap[k]? = some (.cells #[a, b, c] t (0, 0)) :=
  heap_setCell_same _ k 2 _ _ c (heap_setCell_same _ k 1 _ _ b (heap_setCell_same w k 0 _ _ a h))
theorem own_set3w {w : World} {base : Nat} {v : Value} {fs : List Fil} (h : OwnF w base v fs) {k : Nat} (hk : k < base) (a b c : Value) : OwnF (((w.setCell ⟨k, 0, none⟩ a).setCell ⟨k, 1, none⟩ b).setCell ⟨k, 2, none⟩ c) base v fs :=
  World.ownsRow.kept (row := some k) h (grown_two14 (grown_two14 (grown_cell14 _ _ _ _) (grown_cell14 _ _ _ _)) (grown_cell14 _ _ _ _)) (Or.inr (fun e => by have := (World.ownsRow.lt h k e).1; omega))
theorem ret_segs2bw {fn : Func} {p u : Tmp} {k : Nat} {x0 x1 x2 : Value} {a b : Int} {v : Value} {t : TypeId} {tmps : Array Value} {w : World} (h : fn.results = #[.cell p 24, .tmp u]) (hp : tmps.getD p undef = .pointer (some ⟨k, 0, none⟩)) (hb : w.heap[k]? = some (.cells #[x0, x1, x2] t (0, 0))) :
    (results fn tmps).run Tryz.prog (((w.setCell ⟨k, 0, none⟩ (.int .i64 a)).setCell ⟨k, 1, none⟩ (.int .i64 b)).setCell ⟨k, 2, none⟩ v) = .ok (.tuple #[.agg #[.int .i64 a, .int .i64 b, v], tmps.getD u undef]) (((w.setCell ⟨k, 0, none⟩ (.int .i64 a)).setCell ⟨k, 1, none⟩ (.int .i64 b)).setCell ⟨k, 2, none⟩ v) := by
  rw [results_cell_tmp h, hp]
  have hl := run_loadVar_row (P := Tryz.prog) _ k t 24 #[.int .i64 a, .int .i64 b, v] (0, 0) _ (seg_set3w hb (.int .i64 a) (.int .i64 b) v) Tryz.underlying24 rfl (by rfl)
  simp [asAddr, Result.andThen, hl]

theorem OwnF.lastw {w : World} {base n cap : Nat} {A : Option Addr} {pre : List Fil} {y : Fil} (h : OwnF w base (.slice A n cap) (pre ++ [y])) : ∃ g, A = some ⟨g, 0, none⟩ ∧ n = pre.length + 1 ∧ Fi3 w g (pre.length * 3) y ∧ pre.length + 1 ≤ cap := by
  have hr := h.rows
  obtain ⟨b, off, hA, hb, h3⟩ := hr.1 pre.length (by simp)
  have hcap := hr.2.2
  obtain ⟨h0, h1⟩ := h
  rcases h1 with ⟨e, _⟩ | ⟨g, cap', cur, e, hb', hg, h2⟩
  · cases e; cases hA
  · injection e with e1 e2 e3
    subst e1
    injection hA with hA
    injection hA with hA1 hA2
    subst hA1 hA2
    have ey : (pre ++ [y])[pre.length]'(by simp) = y := by simp
    rw [ey, Nat.zero_add] at h3
    exact ⟨g, rfl, by rw [e2]; simp, h3, by simpa using hcap⟩
theorem givesS_now {w w' : World} {er : Int} (hB : Below w.heap.size w w') : GivesS w Sg.no er (.returned (.tuple #[.agg #[.int .i64 0, .int .i64 0, .slice none 0 0], .int .i64 er])) w' :=
  ⟨none, 0, rfl, ⟨FilsAt.nil _ _ _, ⟨fun _ => rfl, Nat.le_refl _⟩, fun _ e => nomatch e⟩, hB⟩

theorem OwnS.lowerw {w : World} {base base' : Nat} {A : Option Addr} {fs : List Fil} {c : Nat} (h : OwnS w base A fs c) (hb : base' ≤ base) : OwnS w base' A fs c :=
  ⟨h.fils, h.room, fun a e => ⟨Nat.le_trans hb (h.own a e).1, (h.own a e).2⟩⟩
theorem OwnF.some14w {w : World} {base n cap : Nat} {A : Option Addr} {fs : List Fil} (h : OwnF w base (.slice A n cap) fs) (h0 : 0 < fs.length) : ∃ g, A = some ⟨g, 0, none⟩ := by
  rcases h.2 with ⟨_, e⟩ | ⟨g, cap', cur, e, _⟩
  · omega
  · injection e with e1; exact ⟨g, e1⟩
theorem OwnF.at14w {w : World} {base n cap g : Nat} {fs : List Fil} (h : OwnF w base (.slice (some ⟨g, 0, none⟩) n cap) fs) {j : Nat} (hj : j < fs.length) : Fi3 w g (j * 3) fs[j] := by
  obtain ⟨b, off, e, _, h3⟩ := h.rows.1 j hj
  cases e
  rw [Nat.zero_add] at h3; exact h3
theorem fs_at14w {fs : List Fil} {j : Nat} (h : j < fs.length) : fs = fs.take j ++ fs[j] :: fs.drop (j + 1) := by
  rw [← List.drop_eq_getElem_cons h, List.take_append_drop]
theorem OwnS.droppedw {w : World} {base g n cp : Nat} {fs : List Fil} (h : OwnF w base (.slice (some ⟨g, 0, none⟩) n cp) fs) (d : Nat) : OwnS w base (some ⟨g, d * 3, none⟩) (fs.drop d) (cp - d) := by
  have h1 := OwnS.of h
  refine ⟨?_, RoomyF.some _ _ _ (by rw [List.length_drop]; have := h1.room.2; omega), fun a e => ?_⟩
  · have h2 := h1.fils.drop d
    rw [Nat.zero_add] at h2; exact h2
  · cases e
    exact h1.own ⟨g, 0, none⟩ rfl
theorem heap_set3w {w : World} {k j : Nat} (h : j ≠ k) (a b c : Value) : (((w.setCell ⟨k, 0, none⟩ a).setCell ⟨k, 1, none⟩ b).setCell ⟨k, 2, none⟩ c).heap[j]? = w.heap[j]? := by
  rw [heap_setCell_other _ ⟨k, 2, none⟩ j _ h, heap_setCell_other _ ⟨k, 1, none⟩ j _ h, heap_setCell_other _ ⟨k, 0, none⟩ j _ h]
/-- Files one's own stay, where another block's cells are written. -/
theorem OwnS.set3w {w : World} {base k c : Nat} {A : Option Addr} {fs : List Fil} (h : OwnS w base A fs c) (hk : k < base) (x y z : Value) : OwnS (((w.setCell ⟨k, 0, none⟩ x).setCell ⟨k, 1, none⟩ y).setCell ⟨k, 2, none⟩ z) base A fs c := by
  have hh : ∀ a, A = some a → (((w.setCell ⟨k, 0, none⟩ x).setCell ⟨k, 1, none⟩ y).setCell ⟨k, 2, none⟩ z).heap[a.block]? = w.heap[a.block]? := fun a e => heap_set3w (by have := (h.own a e).1; omega) _ _ _
  refine ⟨fun i hi => ?_, h.room, fun a e => ?_⟩
  · obtain ⟨b, off, e, hb, h3⟩ := h.fils i hi
    have h4 : ∀ j, (((w.setCell ⟨k, 0, none⟩ x).setCell ⟨k, 1, none⟩ y).setCell ⟨k, 2, none⟩ z).cell? ⟨b, j, none⟩ = w.cell? ⟨b, j, none⟩ := fun j => by simp only [World.cell?]; rw [hh _ e]
    exact ⟨b, off, e, by simp [World.setCell]; exact hb, ⟨(h4 _).trans h3.c0, (h4 _).trans h3.c1, (h4 _).trans h3.c2⟩⟩
  · obtain ⟨h1, cur, t, h2⟩ := h.own a e
    exact ⟨h1, cur, t, (hh a e).trans h2⟩
/-- A log that was cloned: its row is laid into the log's own block. -/
theorem XAt.cloned {w w1 w2 : World} {sz fi : Int} {old : Value} {A' : Option Addr} {n c' : Nat} {fs : List Fil} {L : List (Nat × Array Value)} {M : List Fact} (S : St w w1 L M) (hp : (w.heap.size + 1, #[.int .i64 0, .int .i64 0, .slice none 0 0]) ∈ L) (hq : (w.heap.size, #[.int .i64 sz, .int .i64 fi, old]) ∈ L) (hB : Below w1.heap.size w1 w2) (hO : OwnF w2 w1.heap.size (.slice A' n c') fs) :
    XAt none w (w2.setCell ⟨w.heap.size, 2, none⟩ (.slice A' n c')) (w.heap.size + 1) w.heap.size w1.heap.size sz fi (.slice A' n c') fs := by
  have hlp := lt14 (S.live _ hp)
  have hlq := lt14 (S.live _ hq)
  simp only at hlp hlq
  have hr := kept14 (S.live _ hp) (below_grown14 hB none) (fun e => nomatch e)
  have hc := kept14 (S.live _ hq) (below_grown14 hB none) (fun e => nomatch e)
  have hg : ∀ g, (Value.slice A' n c').ownBlock = some g → w1.heap.size ≤ g := fun g e => (World.ownsRow.lt hO g e).1
  refine ⟨kept14 hr (grown_cell14 w2 w.heap.size 2 _) (fun e => by injection e with e; omega), set14 hc 2 _, Nat.succ_ne_self _, own_setcell14 hO (fun e => by have := hg _ e.symm; omega) 2 _, fun g e => ?_, Nat.le_succ _, Nat.le_refl _, ?_⟩
  · have := hg g e
    exact ⟨Or.inl (by omega), by omega, by omega⟩
  · exact below_grown14 (below_setCell (S.below.trans (hB.mono S.below.size)) (Nat.le_refl _) 2 _) none
end Go.Proofs.YtlnchfnmpamliaaGreat
