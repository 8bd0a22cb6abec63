/-
  Layer 5 (life): a trail in memory.
-/
import Derived.Test.YtipblfmabhggkaaLifeRun
import Derived.StillTailTactics
namespace Go.Proofs.Ytipblfmabhggkaa
open Go.RowKit

/-- A trail, as cells hold it: whence, what is reached (a slice), and the last steps. -/
def trV (f : Int) (v : Value) (ss : List (Int × Int)) : Array Value := (.int .i64 f :: v :: ss.flatMap fun s => [.int .i64 s.1, .int .i64 s.2]).toArray
def TrAt (w : World) (B : Nat) (f : Int) (v : Value) (ss : List (Int × Int)) : Prop := w.heap[B]? = some (.cells (trV f v ss) 50 (0, 0))

theorem five {ss : List (Int × Int)} (h : ss.length = 5) : ∃ a b c d e, ss = [a, b, c, d, e] := by
  match ss, h with
  | [a, b, c, d, e], _ => exact ⟨a, b, c, d, e, rfl⟩

theorem TrAt.lt {w : World} {B : Nat} {f : Int} {v : Value} {ss : List (Int × Int)} (h : TrAt w B f v ss) : B < w.heap.size := (Array.getElem?_eq_some_iff.1 h).1
theorem TrAt.upto {w w' : World} {B k : Nat} {f : Int} {v : Value} {ss : List (Int × Int)} (h : TrAt w B f v ss) (hk : B < k) (hB : Below k w w') : TrAt w' B f v ss := (hB.block B hk).trans h
theorem TrAt.below {w w' : World} {B : Nat} {f : Int} {v : Value} {ss : List (Int × Int)} (h : TrAt w B f v ss) (hB : Below w.heap.size w w') : TrAt w' B f v ss := h.upto h.lt hB
theorem TrAt.fro {w : World} {B : Nat} {f : Int} {v : Value} {ss : List (Int × Int)} (h : TrAt w B f v ss) (j : Nat) : w.frozen? ⟨B, j, none⟩ = false := frozen_of_row w B j _ _ h
theorem TrAt.c0 {w : World} {B : Nat} {f : Int} {v : Value} {ss : List (Int × Int)} (h : TrAt w B f v ss) : w.cell? ⟨B, 0, none⟩ = some (.int .i64 f) := by
  rw [cell_of_row w B _ _ _ _ h]; simp [trV]
theorem TrAt.c1 {w : World} {B : Nat} {f : Int} {v : Value} {ss : List (Int × Int)} (h : TrAt w B f v ss) : w.cell? ⟨B, 1, none⟩ = some v := by
  rw [cell_of_row w B _ _ _ _ h]; simp [trV]
theorem TrAt.ca {w : World} {B : Nat} {f : Int} {v : Value} {ss : List (Int × Int)} (h : TrAt w B f v ss) (hl : ss.length = 5) {i : Nat} (hi : i < 5) : w.cell? ⟨B, 2 + i * 2, none⟩ = some (.int .i64 (ss.getD i (0, 0)).1) := by
  rw [cell_of_row w B _ _ _ _ h]
  obtain ⟨a, b, c, d, e, rfl⟩ := five hl
  rcases (by omega : i = 0 ∨ i = 1 ∨ i = 2 ∨ i = 3 ∨ i = 4) with rfl | rfl | rfl | rfl | rfl <;> rfl
theorem TrAt.cb {w : World} {B : Nat} {f : Int} {v : Value} {ss : List (Int × Int)} (h : TrAt w B f v ss) (hl : ss.length = 5) {i : Nat} (hi : i < 5) : w.cell? ⟨B, 2 + i * 2 + 1, none⟩ = some (.int .i64 (ss.getD i (0, 0)).2) := by
  rw [cell_of_row w B _ _ _ _ h]
  obtain ⟨a, b, c, d, e, rfl⟩ := five hl
  rcases (by omega : i = 0 ∨ i = 1 ∨ i = 2 ∨ i = 3 ∨ i = 4) with rfl | rfl | rfl | rfl | rfl <;> rfl
theorem TrAt.set1 {w : World} {B : Nat} {f : Int} {v : Value} {ss : List (Int × Int)} (h : TrAt w B f v ss) (v' : Value) : TrAt (w.setCell ⟨B, 1, none⟩ v') B f v' ss := by
  have := heap_setCell_same w B 1 _ _ v' h
  unfold TrAt; rw [this]; rfl
theorem TrAt.setS {w : World} {B : Nat} {f : Int} {v : Value} {ss : List (Int × Int)} (h : TrAt w B f v ss) (hl : ss.length = 5) {i : Nat} (hi : i < 5) (a b : Int) :
    TrAt ((w.setCell ⟨B, 2 + i * 2, none⟩ (.int .i64 a)).setCell ⟨B, 2 + i * 2 + 1, none⟩ (.int .i64 b)) B f v (ss.set i (a, b)) := by
  have h1 := heap_setCell_same w B (2 + i * 2) _ _ (.int .i64 a) h
  have h2 := heap_setCell_same _ B (2 + i * 2 + 1) _ _ (.int .i64 b) h1
  unfold TrAt; rw [h2]
  obtain ⟨p, q, r, s, t, rfl⟩ := five hl
  rcases (by omega : i = 0 ∨ i = 1 ∨ i = 2 ∨ i = 3 ∨ i = 4) with rfl | rfl | rfl | rfl | rfl <;> rfl

theorem trV_size {f : Int} {v : Value} {ss : List (Int × Int)} (h : ss.length = 5) : (trV f v ss).size = 12 := by
  obtain ⟨a, b, c, d, e, rfl⟩ := five h
  rfl
theorem trV_one {f : Int} {A : Option Addr} {n cap : Nat} {ss : List (Int × Int)} (h : ss.length = 5) : (trV f (.slice A n cap) ss).all (·.oneCell') = true := by
  obtain ⟨a, b, c, d, e, rfl⟩ := five h
  simp [trV, Value.oneCell']
theorem below_setRow {B : Nat} {w w' : World} (h : Below B w w') {g : Nat} (hg : B ≤ g) (cs : Array Value) : Below B w (w'.setRow g cs) :=
  ⟨h.os, h.tape, h.output, by simp; exact h.size, fun i hi => (setRow_other w' g i cs (by omega)).trans (h.block i hi)⟩
theorem grown_setRow (w : World) (g : Nat) (cs : Array Value) : w.grownBy (w.setRow g cs) (some g) :=
  ⟨rfl, rfl, rfl, by simp, fun k _ hne => setRow_other w g k cs (fun e => hne (by rw [e]))⟩
/-- A write into one block leaves the others. -/
theorem grown_setCell (w : World) (B j : Nat) (v : Value) : w.grownBy (w.setCell ⟨B, j, none⟩ v) (some B) :=
  ⟨rfl, rfl, rfl, by simp, fun k _ hne => heap_setCell_other w ⟨B, j, none⟩ k v (fun e => hne (by rw [e]))⟩
/-- A row of numbers is no trail. -/
theorem row_no_trail {w : World} {B base n : Nat} {f : Int} {v u : Value} {ss : List (Int × Int)} {xs : List Value} (h : TrAt w B f v ss) (ho : w.ownsRow base 3 1 u n xs) : u.ownBlock = none ∨ u.ownBlock ≠ some B := by
  rcases ho.2 with ⟨rfl, _⟩ | ⟨g, cap, cur, rfl, _, hg, _⟩
  · exact Or.inl rfl
  · refine Or.inr fun e => ?_
    have e2 : g = B := by simpa [Value.ownBlock] using e
    subst e2
    rw [h] at hg
    simp at hg
theorem row_no_tab {w : World} {B base n : Nat} {u : Value} {xs : List Value} (h : TabAt w B) (ho : w.ownsRow base 3 1 u n xs) : u.ownBlock ≠ some B := by
  rcases ho.2 with ⟨rfl, _⟩ | ⟨g, cap, cur, rfl, _, hg, _⟩
  · simp [Value.ownBlock]
  · intro e
    have e2 : g = B := by simpa [Value.ownBlock] using e
    subst e2
    rw [h] at hg
    simp at hg
theorem row_no_trail' {w : World} {B base n : Nat} {f : Int} {v u : Value} {ss : List (Int × Int)} {xs : List Value} (h : TrAt w B f v ss) (ho : w.ownsRow base 3 1 u n xs) : u.ownBlock ≠ some B := by
  rcases row_no_trail h ho with h | h
  · rw [h]; simp
  · exact h
theorem TrAt.grown {w w' : World} {B base n : Nat} {f : Int} {v u : Value} {ss : List (Int × Int)} {xs : List Value} (h : TrAt w B f v ss) (ho : w.ownsRow base 3 1 u n xs) (hg : w.grownBy w' u.ownBlock) : TrAt w' B f v ss :=
  (hg.block B h.lt (Ne.symm (row_no_trail' h ho))).trans h
theorem TabAt.grown {w w' : World} {B base n : Nat} {u : Value} {xs : List Value} (h : TabAt w B) (ho : w.ownsRow base 3 1 u n xs) (hg : w.grownBy w' u.ownBlock) : TabAt w' B :=
  (hg.block B h.lt (Ne.symm (row_no_tab h ho))).trans h
theorem TabAt.set {w : World} {B k j : Nat} {u : Value} (h : TabAt w B) (hne : B ≠ k) : TabAt (w.setCell ⟨k, j, none⟩ u) B := (heap_setCell_other w ⟨k, j, none⟩ B u hne).trans h
theorem TrAt.set {w : World} {B k j : Nat} {f : Int} {v u : Value} {ss : List (Int × Int)} (h : TrAt w B f v ss) (hne : B ≠ k) : TrAt (w.setCell ⟨k, j, none⟩ u) B f v ss := (heap_setCell_other w ⟨k, j, none⟩ B u hne).trans h

/-- The trail in the block B, the table in T, the room for the answer in R; what is reached is a row of explore's own. -/
structure ExF (w : World) (f : Int) (R B T : Nat) (u : Value) (zs : List Int) (ss : List (Int × Int)) (wr : World) : Prop where
  tr : TrAt wr B f u ss
  tr0 : TrAt wr R 0 (.slice none 0 0) Lf.z5
  tab : TabAt wr T
  own : wr.ownsRow w.heap.size 3 1 u zs.length (zs.map (Value.int .i64))
  bel : Below w.heap.size w wr
theorem ExF.below {w : World} {f : Int} {R B T : Nat} {u : Value} {zs : List Int} {ss : List (Int × Int)} {wr w' : World} (h : ExF w f R B T u zs ss wr) (hB : Below wr.heap.size wr w') : ExF w f R B T u zs ss w' :=
  ⟨h.tr.below hB, h.tr0.below hB, h.tab.below hB, owns_below h.own hB, h.bel.trans (hB.mono h.bel.size)⟩
theorem ExF.drew {w : World} {f : Int} {R B T : Nat} {u : Value} {zs : List Int} {ss : List (Int × Int)} {wr : World} (h : ExF w f R B T u zs ss wr) : ExF w f R B T u zs ss wr.drew :=
  ⟨h.tr, h.tr0, h.tab, h.own, ⟨h.bel.os, h.bel.tape, h.bel.output, h.bel.size, h.bel.block⟩⟩
theorem ExF.cells {w : World} {f : Int} {R B T g cap : Nat} {zs : List Int} {ss : List (Int × Int)} {wr : World} (h : ExF w f R B T (.slice (some ⟨g, 0, none⟩) zs.length cap) zs ss wr) : ∀ j, j < zs.length → wr.cell? ⟨g, 0 + j, none⟩ = some (.int .i64 (zs.getD j 0)) := fun j hj => by
  obtain ⟨b, off, e, _, hc⟩ := IntsAt.of_own h.own j hj
  cases e
  rw [hc]; simp [List.getD, List.getElem?_eq_getElem hj]
theorem ExF.cq {w : World} {f : Int} {R B T g cap : Nat} {zs : List Int} {ss : List (Int × Int)} {wr : World} (h : ExF w f R B T (.slice (some ⟨g, 0, none⟩) zs.length cap) zs ss wr) {k : Nat} {q : Int} (hk : k < zs.length) (hq : q = zs.getD k 0) : wr.cell? ⟨g, k, none⟩ = some (.int .i64 q) := by
  have := h.cells k hk
  rw [Nat.zero_add, ← hq] at this; exact this
theorem ExF.cq' {w : World} {f : Int} {R B T g cap n : Nat} {zs : List Int} {ss : List (Int × Int)} {wr : World} (h : ExF w f R B T (.slice (some ⟨g, 0, none⟩) n cap) zs ss wr) (hn : n = zs.length) {k : Nat} {q : Int} (hk : k < zs.length) (hq : q = zs.getD k 0) : wr.cell? ⟨g, k, none⟩ = some (.int .i64 q) := by
  subst hn
  exact h.cq hk hq
theorem TabAt.ld {w : World} {T : Nat} (h : TabAt w T) : (loadCellsFrom ⟨T, 0, none⟩ 0 30 #[]).run Try.prog w = .ok tabV w := by
  have := run_loadCells_list (P := Try.prog) w ⟨T, 0, none⟩ tabV.toList (fun j v hv => by
    have hadd : (⟨T, 0, none⟩ : Addr).add j = ⟨T, j, none⟩ := by unfold Addr.add; split <;> simp_all
    rw [hadd, cell_of_row w T j tabV _ _ h]
    simpa using hv)
  simpa [loadCells, tabV_size] using this
theorem below_undrew {a b : World} (h : Below a.drew.heap.size a.drew b) : Below a.heap.size a b := ⟨h.os, h.tape, h.output, h.size, h.block⟩

/-- What is reached grows by one, and the trail's slice is that. -/
theorem ex_app {w : World} {f : Int} {R B T : Nat} {u v : Value} {zs : List Int} {ss : List (Int × Int)} {wr w5 : World} {x : Int} (h : ExF w f R B T u zs ss wr) (hR : w.heap.size ≤ B) (hBR : R ≠ B) (hBT : T ≠ B)
    (ho : w5.ownsRow w.heap.size 3 1 v (zs.length + 1) (zs.map (Value.int .i64) ++ [.int .i64 x])) (hg : wr.grownBy w5 u.ownBlock) :
    TrAt w5 B f u ss ∧ ExF w f R B T v (zs ++ [x]) ss (w5.setCell ⟨B, 1, none⟩ v) := by
  have h1 := h.tr.grown h.own hg
  refine ⟨h1, h1.set1 v, (h.tr0.grown h.own hg).set hBR, (h.tab.grown h.own hg).set hBT, ?_, ?_⟩
  · have := ho.kept (grown_setCell w5 B 1 v) (row_no_trail h1 ho)
    simpa using this
  · exact (h.bel.grown hg h.bel.size (fun k hk => (h.own.lt k hk).1)).setCell hR _
/-- A step is noted. -/
theorem ex_step {w : World} {f : Int} {R B T : Nat} {u : Value} {zs : List Int} {ss : List (Int × Int)} {wr : World} {m : Nat} {a b : Int} (h : ExF w f R B T u zs ss wr) (hR : w.heap.size ≤ B) (hBR : R ≠ B) (hBT : T ≠ B) (hl : ss.length = 5) (hm : m < 5) :
    ExF w f R B T u zs (ss.set m (a, b)) ((wr.setCell ⟨B, 2 + m * 2, none⟩ (.int .i64 a)).setCell ⟨B, 2 + m * 2 + 1, none⟩ (.int .i64 b)) := by
  have h1 := h.tr.setS hl hm a b
  have g1 := h.own.kept (grown_setCell wr B (2 + m * 2) (.int .i64 a)) (row_no_trail h.tr h.own)
  have g2 : ((wr.setCell ⟨B, 2 + m * 2, none⟩ (.int .i64 a)).setCell ⟨B, 2 + m * 2 + 1, none⟩ (.int .i64 b)).ownsRow w.heap.size 3 1 u zs.length (zs.map (Value.int .i64)) := by
    refine g1.kept (grown_setCell _ B (2 + m * 2 + 1) (.int .i64 b)) ?_
    rcases row_no_trail h.tr h.own with h | h
    · exact Or.inl h
    · exact Or.inr h
  exact ⟨h1, (h.tr0.set hBR).set hBR, (h.tab.set hBT).set hBT, g2, (h.bel.setCell hR _).setCell hR _⟩

/-- What holds ahead of the n-th round. -/
def ExRel (w : World) (f : Int) (R B T n : Nat) (wr : World) : Prop := ∃ u, ExF w f R B T u (Lf.know f n).1 (Lf.know f n).2 wr

/-- The world behind the first statement of explore. -/
def ex0 (w : World) (f : Int) : World := ((w.alloc (.cells (trV 0 (.slice none 0 0) Lf.z5) 50)).alloc (.cells #[.int .i64 f] 3)).alloc (.cells (trV f (.slice (some ⟨w.heap.size + 1, 0, none⟩) 1 1) Lf.z5) 50)
theorem ex0_size (w : World) (f : Int) : (ex0 w f).heap.size = w.heap.size + 3 := by simp [ex0]
theorem ex0_rel (w : World) (f : Int) : ExRel w f w.heap.size (w.heap.size + 2) ((ex0 w f).heap.size + 1) 0 (((ex0 w f).alloc (.cells tabV 43)).alloc (.cells tabV 43)) := by
  have hB : Below (ex0 w f).heap.size (ex0 w f) (((ex0 w f).alloc (.cells tabV 43)).alloc (.cells tabV 43)) := below_new2 _ _ _
  have hs := ex0_size w f
  have s1 : (w.alloc (.cells (trV 0 (.slice none 0 0) Lf.z5) 50)).heap.size = w.heap.size + 1 := by simp
  have s2 : ((w.alloc (.cells (trV 0 (.slice none 0 0) Lf.z5) 50)).alloc (.cells #[.int .i64 f] 3)).heap.size = w.heap.size + 2 := by simp
  have h0 : TrAt (ex0 w f) w.heap.size 0 (.slice none 0 0) Lf.z5 := by
    unfold TrAt ex0
    rw [heap_alloc_old _ _ (by rw [s2]; omega), heap_alloc_old _ _ (by rw [s1]; omega)]
    exact heap_alloc_new _ _
  have h1 : (ex0 w f).heap[w.heap.size + 1]? = some (.cells #[.int .i64 f] 3) := by
    unfold ex0
    rw [heap_alloc_old _ _ (by rw [s2]; omega)]
    exact heap_alloc2_new _ _ _
  have h2 : TrAt (ex0 w f) (w.heap.size + 2) f (.slice (some ⟨w.heap.size + 1, 0, none⟩) 1 1) Lf.z5 := by
    unfold TrAt ex0
    rw [← s2]; exact heap_alloc_new _ _
  have ho : (ex0 w f).ownsRow w.heap.size 3 1 (.slice (some ⟨w.heap.size + 1, 0, none⟩) 1 1) 1 [.int .i64 f] :=
    ⟨rfl, Or.inr ⟨w.heap.size + 1, 1, #[.int .i64 f], rfl, by omega, h1, by omega, by decide, rfl, rfl⟩⟩
  have hB0 : Below w.heap.size w (ex0 w f) := by
    unfold ex0
    exact ((below_new w _).alloc (by simp) _).alloc (by simp; omega) _
  exact ⟨_, h2.below hB, h0.below hB, heap_alloc2_new _ _ _, owns_below ho hB, hB0.trans (hB.mono hB0.size)⟩
end Go.Proofs.Ytipblfmabhggkaa
