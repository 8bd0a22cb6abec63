/-
  Layer 14 (segment): the law's smudge: files that are one's own are turned.
-/
import Derived.Test.YtlnchfnmpamliaaGreatXSegRow
namespace Go.Proofs.YtlnchfnmpamliaaGreat
set_option maxRecDepth 10000
open Go.RowKit

/-- Nothing but the block of A was turned. -/
def SmS (w : World) (A : Option Addr) (w' : World) : Prop := ∃ r, w.grownBy w' r ∧ ∀ g, r = some g → ∃ a, A = some a ∧ a.block = g
/-- What holds between two rounds: the files' block is turned, its cells are there. -/
def SmI (w : World) (A : Option Addr) (n : Nat) (wr : World) : Prop :=
  (n = 0 ∧ Below w.heap.size w wr) ∨ ∃ b off cur t, A = some ⟨b, off, none⟩ ∧ b < w.heap.size ∧ w.grownBy wr (some b) ∧ wr.heap[b]? = some (.cells cur t (0, 0)) ∧ off + n * 3 ≤ cur.size
theorem SmI.start {w : World} {base n c : Nat} {A : Option Addr} {fs : List Fil} (h : OwnS w base A fs c) (hn : n = fs.length) {w1 : World} (hB : Below w.heap.size w w1) : SmI w A n w1 := by
  by_cases h0 : n = 0
  · exact Or.inl ⟨h0, hB⟩
  · obtain ⟨b, off, hA, hb, h3⟩ := h.fils (n - 1) (by omega)
    obtain ⟨_, cur, t, hg⟩ := h.own _ hA
    refine Or.inr ⟨b, off, cur, t, hA, hb, below_grown14 hB _, (hB.block b hb).trans hg, ?_⟩
    have h2 := h3.c2
    simp only [World.cell?, hg] at h2
    have h4 : cur[off + (n - 1) * 3 + 2]? = some (.string (fs[n - 1]'(by omega)).loose) := h2
    have := (Array.getElem?_eq_some_iff.1 h4).1
    omega
theorem SmI.at {w wr : World} {A : Option Addr} {n i : Nat} (h : SmI w A n wr) (hi : i < n) :
    ∃ b off, A = some ⟨b, off, none⟩ ∧ b < w.heap.size ∧ ∃ x, wr.cell? ⟨b, off + i * 3, none⟩ = some x ∧ wr.frozen? ⟨b, off + i * 3, none⟩ = false ∧ ∀ v, SmI w A n (wr.setCell ⟨b, off + i * 3, none⟩ v) := by
  rcases h with ⟨h0, _⟩ | ⟨b, off, cur, t, rfl, hbl, hg, hb, hs⟩
  · omega
  · refine ⟨b, off, rfl, hbl, cur[off + i * 3]'(by omega), ?_, frozen_of_row wr b _ _ _ hb, fun v => Or.inr ⟨b, off, _, t, rfl, hbl, grown_two14 hg (grown_cell14 wr b _ v), heap_setCell_same wr b (off + i * 3) _ _ _ hb, by simpa using hs⟩⟩
    simp only [World.cell?, hb]
    exact Array.getElem?_eq_getElem (by omega)
theorem SmI.end {w wr : World} {A : Option Addr} {n : Nat} (h : SmI w A n wr) : SmS w A wr := by
  rcases h with ⟨_, hB⟩ | ⟨b, off, cur, t, rfl, _, hg, _, _⟩
  · exact ⟨none, below_grown14 hB none, fun g e => nomatch e⟩
  · exact ⟨some b, hg, fun g e => by cases e; exact ⟨_, rfl, rfl⟩⟩

set_option maxHeartbeats 1000000 in
theorem smudge14_any (sz fi : Int) (A : Option Addr) (n c base : Nat) (fs : List Fil) (w : World) (h : OwnS w base A fs c) (hn : n = fs.length) (hl : n ≤ 1000) :
    Calls Tryz.prog 23 #[.agg #[.int .i64 sz, .int .i64 fi, .slice A n c]] w fun e w' => e = .returned (.tuple #[]) ∧ SmS w A w' := by
  have H0 := Lib.hid (SmI.start h hn (below_new w (.cells #[.int .i64 sz, .int .i64 fi, .slice A n c] 24)))
  have hb := World.alloc_heap_new w (.cells #[.int .i64 sz, .int .i64 fi, .slice A n c] 24)
  have Hb0 : Hid (∃ t, (w.alloc (.cells #[.int .i64 sz, .int .i64 fi, .slice A n c] 24)).heap[w.heap.size]? = some (.cells #[.int .i64 sz, .int .i64 fi, .slice A n c] t (0, 0))) := Lib.hid ⟨_, hb⟩
  have Hl := Lib.hid hl
  clear h hn hl hb
  go_enter Tryz.func23, Tryz.ntmps23
  go_wp2_with fail
  go_loopw [2] (fun i wr => ∃ j : Nat, j ≤ n ∧ i = .int .i64 (j : Int) ∧ Hid (SmI w A n wr) ∧ Hid (∃ t, wr.heap[w.heap.size]? = some (.cells #[.int .i64 sz, .int .i64 fi, .slice A n c] t (0, 0)))) (fun i _ => n - (intOf i).toNat)
  case atStart => exact ⟨0, Nat.zero_le _, rfl, H0, Hb0⟩
  case round =>
    clear H0 Hb0
    obtain ⟨j, hj, rfl, HS, HB⟩ := hrel
    have c2 : wr.cell? ⟨w.heap.size, 2, none⟩ = some (.slice A n c) := by
      obtain ⟨t, ht⟩ := HB.out; simp only [World.cell?, ht]; rfl
    by_cases hlt : j < n
    · obtain ⟨b, off, rfl, hbl, x, hx, hfz, hset⟩ := HS.out.at hlt
      have Hi := Lib.hid hlt
      have i1 : (j : Int) < (n : Int) := by omega
      have i0 : (0 : Int) ≤ (j : Int) := by omega
      have hn1 : j ≤ 1000 := by have := Hl.out; omega
      have Iw : Hid (wrap64 ((j : Int) + 1) = (j : Int) + 1) := Lib.hid (by unfold wrap64; omega)
      have HS2 := Lib.hid (hset (.int .i64 77))
      have HB2 : Hid (∃ t, (wr.setCell ⟨b, off + j * 3, none⟩ (.int .i64 77)).heap[w.heap.size]? = some (.cells #[.int .i64 sz, .int .i64 fi, .slice (some ⟨b, off, none⟩) n c] t (0, 0))) := Lib.hid (by
        obtain ⟨t, ht⟩ := HB.out
        exact ⟨t, (heap_setCell_other wr ⟨b, off + j * 3, none⟩ w.heap.size _ (fun e => by have : w.heap.size = b := e; omega)).trans ht⟩)
      clear hset hlt hj hn1 HS HB hbl
      go_wp2
      go_roundw
      case rel => exact ⟨j + 1, Hi.out, by first | rfl | (rw [Iw.out]; rfl), HS2, HB2⟩
      case measure => have := Hi.out; (try rw [Iw.out]); simp [intOf]; omega
    · have i1 : ((j : Int) < (n : Int)) = False := eq_false (by omega)
      go_wp2
      go_end0
      exact ⟨rfl, HS.out.end⟩

/-- A log in a block, its files one's own. -/
structure BlkS (w : World) (q : Nat) (sz fi : Int) (A : Option Addr) (n c : Nat) (fs : List Fil) (base : Nat) : Prop where
  blk : ∃ t, w.heap[q]? = some (.cells #[.int .i64 sz, .int .i64 fi, .slice A n c] t (0, 0))
  own : OwnS w base A fs c
/-- Where an older block is turned it stays. -/
theorem BlkS.aside {w w' : World} {q : Nat} {sz fi : Int} {A A0 : Option Addr} {n c base : Nat} {fs : List Fil} (h : BlkS w q sz fi A n c fs base) (hS : SmS w A0 w') (hg : ∀ a, A0 = some a → a.block < base) (hq : base ≤ q) : BlkS w' q sz fi A n c fs base := by
  obtain ⟨r, hr, hA⟩ := hS
  have hlt : ∀ g, r = some g → g < base := fun g e => by obtain ⟨a, e1, e2⟩ := hA g e; have := hg a e1; omega
  refine ⟨kept14 h.blk hr (fun e => by have := hlt q e.symm; omega), ⟨fun i hi => ?_, h.own.room, fun a e => ?_⟩⟩
  · obtain ⟨b, off, e, hb, h3⟩ := h.own.fils i hi
    have hbb := (h.own.own _ e).1
    have hblk : w'.heap[b]? = w.heap[b]? := hr.block b hb (fun e => by have := hlt b e.symm; simp only at hbb; omega)
    have f : ∀ j, w'.cell? ⟨b, j, none⟩ = w.cell? ⟨b, j, none⟩ := fun j => World.cell?_of_block hblk
    exact ⟨b, off, e, Nat.lt_of_lt_of_le hb hr.size, ⟨(f _).trans h3.c0, (f _).trans h3.c1, (f _).trans h3.c2⟩⟩
  · obtain ⟨hb, cur, t, hc⟩ := h.own.own a e
    exact ⟨hb, cur, t, (hr.block _ (Array.getElem?_eq_some_iff.1 hc).1 (fun e => by have := hlt _ e.symm; omega)).trans hc⟩
/-- And all that is older than the block that was turned. -/
theorem SmS.below {w w' : World} {A : Option Addr} {B : Nat} (hS : SmS w A w') (hg : ∀ a, A = some a → B ≤ a.block) (hB : B ≤ w.heap.size) : Below B w w' := by
  obtain ⟨r, hr, hA⟩ := hS
  exact ⟨hr.os, hr.tape, hr.output, hr.size, fun k hk => hr.block k (by omega) (fun e => by obtain ⟨a, e1, e2⟩ := hA k e.symm; have := hg a e1; omega)⟩
/-- Files of one's own, as a fact; how much memory there is. -/
def ownSF (base : Nat) (A : Option Addr) (fs : List Fil) (c : Nat) : Fact := ⟨fun W => OwnS W base A fs c, fun _ _ h hB => h.on hB⟩
def szF (B : Nat) : Fact := ⟨fun W => B ≤ W.heap.size, fun _ _ h hB => Nat.le_trans h hB.size⟩
theorem OwnS.lt {w : World} {base c : Nat} {A : Option Addr} {fs : List Fil} (h : OwnS w base A fs c) : ∀ a, A = some a → a.block < w.heap.size := fun a e => by
  obtain ⟨_, cur, t, hc⟩ := h.own a e
  exact (Array.getElem?_eq_some_iff.1 hc).1
end Go.Proofs.YtlnchfnmpamliaaGreat
