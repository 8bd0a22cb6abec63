/-
  Small words for memory and texts, of no program: a text's bytes, slices of numbers and of texts that are read, what lies below.
  What is known of the memory along a walk, in one word: blocks of one's own and what they hold, facts that last while nothing that is there is turned, and what was there at the start.
  Layer 4 (spot): which spots may be.
  Layer 5 (life), in plain numbers: the table, what deeds make, what is reached, and by which way.
  Layer 6 (alarm), plain mathematics: alarms, what is done to them, and what time makes of them.
  Layer 8 (board), plain mathematics: which boards are right; what is got, put, dropped, passed and gathered.
  Layer 6 (alarm): an alarm in a block of memory.
  Rows of alarms in memory.
  Layer 8 (board): boards in memory.
  Layer 9 (due), plain mathematics: turns, their order, which are to come, the first alarm that waits.
  Rows of turns in memory.
  Layer 9 (due): what the laws ask of due's, board's and alarm's functions.
  Layer 9 (due): far.
-/
import Derived.WalkKit
import Derived.WalkSpells
import Derived.WalkLawsBesides
import Derived.RangeFuncBox
import Derived.OpenShut
import Derived.Lib.Hide
import Derived.Deep.Draws
import Derived.Laws.Rows
import Derived.Laws.Tables
import Derived.Deep.WholeRow
import Derived.Laws.IdiomCopy
import Derived.Test.YtplpadblhjdpcaaGreatChecked
import Derived.Laws.AppendOwnNone
import Derived.Lib.OwnBridge
namespace Go.Proofs.YtplpadblhjdpcaaGreat
set_option maxRecDepth 10000
set_option maxRecDepth 10000
open Go.RowKit

/-- A byte, as a cell holds it. -/
def byteV (x : UInt8) : Value := .int .u8 (x.toNat : Int)

theorem ownsRow_slice {w : World} {base : Nat} {e : TypeId} {size : Nat} {v : Value} {n : Nat} {xs : List Value} (h : w.ownsRow base e size v n xs) : ∃ A c, v = .slice A n c := by
  rcases h.2 with ⟨rfl, rfl⟩ | ⟨g, cap, _, rfl, _⟩
  · exact ⟨_, _, rfl⟩
  · exact ⟨_, _, rfl⟩

/-- A text of these bytes. -/
def strOf (l : List UInt8) : ByteArray := ⟨l.toArray⟩
/-- The bytes of a text. -/
def bl (s : ByteArray) : List UInt8 := s.data.toList
theorem bl_strOf (l : List UInt8) : bl (strOf l) = l := rfl
theorem strOf_bl (s : ByteArray) : strOf (bl s) = s := rfl
theorem strOf_size (l : List UInt8) : (strOf l).size = l.length := rfl
theorem bl_length (s : ByteArray) : (bl s).length = s.size := rfl
theorem bl_append (s t : ByteArray) : bl (s ++ t) = bl s ++ bl t := by unfold bl; rw [ByteArray.data_append]; simp
theorem strOf_append (l : List UInt8) (s : ByteArray) : strOf l ++ s = strOf (l ++ bl s) := by
  rw [← strOf_bl (strOf l ++ s), bl_append, bl_strOf]
theorem bl_inj {s t : ByteArray} (h : bl s = bl t) : s = t := by rw [← strOf_bl s, ← strOf_bl t, h]

/-- The slice at A holds the numbers zs, in blocks below B. -/
def IntsAt (w : World) (B : Nat) (A : Option Addr) (zs : List Int) : Prop :=
  ∀ i (h : i < zs.length), ∃ b off, A = some ⟨b, off, none⟩ ∧ b < B ∧ w.cell? ⟨b, off + i, none⟩ = some (.int .i64 zs[i])

theorem IntsAt.below {w w' : World} {B B' : Nat} {A : Option Addr} {zs : List Int} (h : IntsAt w B A zs) (hb : Below B' w w') (hB : B ≤ B') : IntsAt w' B A zs := fun i hi => by
  obtain ⟨b, off, e, hlt, hc⟩ := h i hi
  exact ⟨b, off, e, hlt, (hb.cell (p := ⟨b, off + i, none⟩) (by show b < B'; omega)).trans hc⟩

theorem IntsAt.more {w : World} {B B' : Nat} {A : Option Addr} {zs : List Int} (h : IntsAt w B A zs) (hB : B ≤ B') : IntsAt w B' A zs := fun i hi => by
  obtain ⟨b, off, e, hlt, hc⟩ := h i hi
  exact ⟨b, off, e, by omega, hc⟩

theorem IntsAt.nil (w : World) (B : Nat) (A : Option Addr) : IntsAt w B A [] := fun _ hi => absurd hi (Nat.not_lt_zero _)

/-- One number, as a slice of one's own holds it. -/
theorem IntsAt.one (w : World) (x : Int) (t : TypeId) : IntsAt (w.alloc (.cells #[.int .i64 x] t)) (w.alloc (.cells #[.int .i64 x] t)).heap.size (some ⟨w.heap.size, 0, none⟩) [x] := fun i hi => by
  obtain rfl : i = 0 := by simpa using hi
  exact ⟨w.heap.size, 0, rfl, by simp, (Boxed.new w t (.int .i64 x)).cell⟩

theorem below_drew {B : Nat} {a w : World} (h : Below B a w) (n : Nat) : Below B a (w.drewN n) := ⟨h.os, h.tape, h.output, h.size, h.block⟩

theorem bl_get (s : ByteArray) (k : Nat) (h : k < s.size) : (bl s)[k]'h = s[k] := rfl
theorem bl_extract_to (s : ByteArray) (k : Nat) (_h : k ≤ s.size) : bl (s.extract 0 k) = (bl s).take k := by
  unfold bl; simp [ByteArray.data_extract]
theorem bl_extract_from (s : ByteArray) (k : Nat) : bl (s.extract k s.size) = (bl s).drop k := by
  unfold bl
  rw [ByteArray.data_extract, Array.toList_extract, List.extract_eq_take_drop]
  rw [List.take_of_length_le (by simp)]

theorem strOf_toList (l : List UInt8) : (strOf l).toList = l := by
  rw [ByteArray.toList_eq]; rfl

/-- Four numbers, as a slice of one's own holds them. -/
theorem IntsAt.four (w : World) (a b c d : Int) (t : TypeId) : IntsAt (w.alloc (.cells #[.int .i64 a, .int .i64 b, .int .i64 c, .int .i64 d] t)) (w.heap.size + 1) (some ⟨w.heap.size, 0, none⟩) [a, b, c, d] := fun i hi => by
  have hb := World.alloc_heap_new w (.cells #[.int .i64 a, .int .i64 b, .int .i64 c, .int .i64 d] t)
  refine ⟨w.heap.size, 0, rfl, by omega, ?_⟩
  simp only [World.cell?, hb]
  match i, hi with
  | 0, _ => rfl
  | 1, _ => rfl
  | 2, _ => rfl
  | 3, _ => rfl

theorem IntsAt.of_own {w : World} {base : Nat} {e : TypeId} {A : Option Addr} {cap : Nat} {zs : List Int} (h : w.ownsRow base e 1 (.slice A zs.length cap) zs.length (zs.map (Value.int .i64))) : IntsAt w w.heap.size A zs := fun i hi => by
  rcases h.2 with ⟨_, h0⟩ | ⟨g, cap', cur, hv, _, hg, _⟩
  · omega
  · have hA : A = some ⟨g, 0, none⟩ := by injection hv
    subst hA
    have hc := h.cells (g := g) rfl i (.int .i64 zs[i]) (by simp [List.getElem?_eq_getElem hi])
    have hadd : (⟨g, 0, none⟩ : Addr).add i = ⟨g, 0 + i, none⟩ := by unfold Addr.add; split <;> simp_all
    rw [hadd] at hc
    exact ⟨g, 0, rfl, (Array.getElem?_eq_some_iff.1 hg).1, hc⟩

theorem strs_append (a b : List UInt8) : strOf a ++ strOf b = strOf (a ++ b) := strOf_append a (strOf b)

theorem below2 {a b c : World} (h : Below a.heap.size a b) (k : Below b.heap.size b c) : Below a.heap.size a c := h.trans (k.mono h.size)

/-- What a law is told of a slice of integers that came in: nil, or a row of cap cells, zs; its elements are the first len. -/
def IsRow (k : IntKind) (w : World) (a : Option Addr) (len cap : Nat) (zs : List Int) : Prop :=
  (a = none ∧ len = 0 ∧ cap = 0 ∧ zs = []) ∨
  ∃ x, a = some x ∧ len ≤ cap ∧ cap ≤ maxLen ∧ zs.length = cap ∧ (∀ i, i < zs.length → w.cell? (x.add i) = some (.int k (zs.getD i 0))) ∧ ∀ n ∈ zs, (Lit.int k n).wf = true

theorem IsRow.ints {w : World} {a : Option Addr} {len cap : Nat} {zs : List Int} (h : IsRow .i64 w a len cap zs) : len = (zs.take len).length ∧ len ≤ maxLen ∧ IntsAt w w.heap.size a (zs.take len) ∧ ∀ n ∈ zs.take len, (Lit.int .i64 n).wf = true := by
  rcases h with ⟨rfl, rfl, rfl, rfl⟩ | ⟨x, rfl, hl, hm, hz, hc, hw⟩
  · exact ⟨rfl, Nat.zero_le _, IntsAt.nil _ _ _, by simp⟩
  · have e : len = (zs.take len).length := by rw [List.length_take]; omega
    refine ⟨e, by omega, fun i hi => ?_, fun n hn => hw n (List.mem_of_mem_take hn)⟩
    have hi2 : i < zs.length := by omega
    obtain ⟨b, off, rfl, hcc⟩ := ints_at hc (by omega)
    have h1 := hcc i hi2
    refine ⟨b, off, rfl, World.block_lt_of_cell? w _ h1, h1.trans ?_⟩
    simp [List.getD, List.getElem?_eq_getElem hi2]

/-- The slice at A holds the texts ss, in blocks below B. -/
def StrsAt (w : World) (B : Nat) (A : Option Addr) (ss : List ByteArray) : Prop :=
  ∀ i (h : i < ss.length), ∃ b off, A = some ⟨b, off, none⟩ ∧ b < B ∧ w.cell? ⟨b, off + i, none⟩ = some (.string ss[i])

theorem StrsAt.below {w w' : World} {B B' : Nat} {A : Option Addr} {ss : List ByteArray} (h : StrsAt w B A ss) (hb : Below B' w w') (hB : B ≤ B') : StrsAt w' B A ss := fun i hi => by
  obtain ⟨b, off, e, hlt, hc⟩ := h i hi
  exact ⟨b, off, e, hlt, (hb.cell (p := ⟨b, off + i, none⟩) (by show b < B'; omega)).trans hc⟩

theorem StrsAt.more {w : World} {B B' : Nat} {A : Option Addr} {ss : List ByteArray} (h : StrsAt w B A ss) (hB : B ≤ B') : StrsAt w B' A ss := fun i hi => by
  obtain ⟨b, off, e, hlt, hc⟩ := h i hi
  exact ⟨b, off, e, by omega, hc⟩

theorem StrsAt.nil (w : World) (B : Nat) (A : Option Addr) : StrsAt w B A [] := fun _ hi => absurd hi (Nat.not_lt_zero _)

theorem StrsAt.new (w : World) (ss : List ByteArray) (t : TypeId) : StrsAt (w.alloc (.cells (ss.map Value.string).toArray t)) (w.heap.size + 1) (some ⟨w.heap.size, 0, none⟩) ss := fun i hi => by
  have hb := World.alloc_heap_new w (.cells (ss.map Value.string).toArray t)
  refine ⟨w.heap.size, 0, rfl, by omega, ?_⟩
  simp only [World.cell?, hb]
  simp [hi]

theorem gets_below {w W w1 : World} {e : TypeId} {v : Value} {k : Nat} {xs : List Value} {tmp : Obj} (hB : Below w.heap.size w W) (hown : W.ownsRow w.heap.size e 1 v k xs) (hg : (W.alloc tmp).grownBy w1 v.ownBlock) : Below w.heap.size w w1 :=
  (hB.alloc hB.size tmp).grown hg (by have := hB.size; simp; omega) (fun j ej => (hown.lt j ej).1)

theorem owns_below {w W : World} {base : Nat} {e : TypeId} {size : Nat} {v : Value} {k : Nat} {xs : List Value} (h : w.ownsRow base e size v k xs) (hb : Below w.heap.size w W) : W.ownsRow base e size v k xs :=
  h.kept (row := none) ⟨hb.os, hb.tape, hb.output, hb.size, fun i hi _ => hb.block i hi⟩ (by cases v.ownBlock <;> simp)

theorem retb {a b : Bool} (h : a = b) : Ending.returned (.bool a) = .returned (.bool b) := by rw [h]
theorem below_new (w : World) (o : Obj) : Below w.heap.size w (w.alloc o) := (Below.refl _ _).alloc (Nat.le_refl _) _
theorem below_new2 (w : World) (o o' : Obj) : Below w.heap.size w ((w.alloc o).alloc o') := (below_new w o).alloc (by simp) _
theorem below_new3 (w : World) (o o' o2 : Obj) : Below w.heap.size w (((w.alloc o).alloc o').alloc o2) := (below_new2 w o o').alloc (by simp; omega) _
theorem below_undrew {a b : World} (h : Below a.drew.heap.size a.drew b) : Below a.heap.size a b := ⟨h.os, h.tape, h.output, h.size, h.block⟩
theorem IntsAt.two (w : World) (a b : Int) (t : TypeId) : IntsAt (w.alloc (.cells #[.int .i64 a, .int .i64 b] t)) (w.heap.size + 1) (some ⟨w.heap.size, 0, none⟩) [a, b] := fun i hi => by
  have hb := World.alloc_heap_new w (.cells #[.int .i64 a, .int .i64 b] t)
  refine ⟨w.heap.size, 0, rfl, by omega, ?_⟩
  simp only [World.cell?, hb]
  match i, hi with
  | 0, _ => rfl
  | 1, _ => rfl
theorem IntsAt.on {w w' : World} {A : Option Addr} {zs : List Int} (h : IntsAt w w.heap.size A zs) (hb : Below w.heap.size w w') : IntsAt w' w'.heap.size A zs := (h.below hb (Nat.le_refl _)).more hb.size
theorem grown_refl (w : World) (row : Option Nat) : w.grownBy w row := ⟨rfl, rfl, rfl, Nat.le_refl _, fun _ _ _ => rfl⟩
theorem ownsRow_some {w : World} {base n : Nat} {e : TypeId} {size : Nat} {v : Value} {xs : List Value} (h : w.ownsRow base e size v n xs) (hn : 1 ≤ n) : ∃ g cap, v = .slice (some ⟨g, 0, none⟩) n cap := by
  rcases h.2 with ⟨_, h0⟩ | ⟨g, cap, cur, hv, _⟩
  · omega
  · exact ⟨g, cap, hv⟩
theorem owns_lower {w : World} {base base' : Nat} {e : TypeId} {size : Nat} {v : Value} {n : Nat} {xs : List Value} (h : w.ownsRow base e size v n xs) (hb : base' ≤ base) : w.ownsRow base' e size v n xs := by
  refine ⟨h.1, ?_⟩
  rcases h.2 with h0 | ⟨g, cap, cur, h1, h2, h3⟩
  · exact Or.inl h0
  · exact Or.inr ⟨g, cap, cur, h1, Nat.le_trans hb h2, h3⟩

theorem below_setRow {B : Nat} {w w' : World} (h : Below B w w') {g : Nat} (hg : B ≤ g) (cs : Array Value) : Below B w (w'.setRow g cs) :=
  ⟨h.os, h.tape, h.output, by simp; exact h.size, fun i hi => (setRow_other w' g i cs (by omega)).trans (h.block i hi)⟩
theorem grown_setRow (w : World) (g : Nat) (cs : Array Value) : w.grownBy (w.setRow g cs) (some g) :=
  ⟨rfl, rfl, rfl, by simp, fun k _ hne => setRow_other w g k cs (fun e => hne (by rw [e]))⟩

end Go.Proofs.YtplpadblhjdpcaaGreat

namespace Go.Proofs.YtplpadblhjdpcaaGreat
set_option maxRecDepth 10000
open Go.RowKit

/-- A fact that stays true as long as nothing that is there is turned. -/
def Lasts (P : World → Prop) : Prop := ∀ w w', P w → Below w.heap.size w w' → P w'
structure Fact where
  on : World → Prop
  lasts : Lasts on
/-- From w0 we have come to w: the blocks L hold these cells, the facts M hold. -/
structure St (w0 w : World) (L : List (Nat × Array Value)) (M : List Fact) : Prop where
  live : ∀ x ∈ L, ∃ t, w.heap[x.1]? = some (.cells x.2 t (0, 0))
  facts : ∀ P ∈ M, P.on w
  below : Below w0.heap.size w0 w
theorem St.start (w : World) : St w w [] [] := ⟨(fun _ h => nomatch h), (fun _ h => nomatch h), Below.refl _ _⟩
theorem St.on {w0 w w' : World} {L : List (Nat × Array Value)} {M : List Fact} (h : St w0 w L M) (hb : Below w.heap.size w w') : St w0 w' L M :=
  ⟨fun x hx => by
    obtain ⟨t, ht⟩ := h.live x hx
    exact ⟨t, (hb.block x.1 (Array.getElem?_eq_some_iff.1 ht).1).trans ht⟩, fun P hP => P.lasts _ _ (h.facts P hP) hb, below2 h.below hb⟩
theorem St.drew {w0 w : World} {L : List (Nat × Array Value)} {M : List Fact} (h : St w0 w L M) : St w0 w.drew L M := h.on (below_drew (Below.refl _ _) 1)
theorem St.drewN {w0 w : World} {L : List (Nat × Array Value)} {M : List Fact} (h : St w0 w L M) (n : Nat) : St w0 (w.drewN n) L M := h.on (below_drew (Below.refl _ _) n)
theorem St.new {w0 w : World} {L : List (Nat × Array Value)} {M : List Fact} (h : St w0 w L M) (cs : Array Value) (t : TypeId) : St w0 (w.alloc (.cells cs t)) ((w.heap.size, cs) :: L) M := by
  have h' := h.on (below_new w (.cells cs t))
  refine ⟨fun x hx => ?_, h'.facts, h'.below⟩
  rcases List.mem_cons.1 hx with rfl | hx
  · exact ⟨t, heap_alloc_new _ _⟩
  · exact h'.live x hx
theorem St.more {w0 w : World} {L : List (Nat × Array Value)} {M : List Fact} (h : St w0 w L M) (P : Fact) (hP : P.on w) : St w0 w L (P :: M) :=
  ⟨h.live, fun Q hQ => by
    rcases List.mem_cons.1 hQ with rfl | hQ
    · exact hP
    · exact h.facts Q hQ, h.below⟩
theorem St.add {w0 w : World} {L : List (Nat × Array Value)} {M : List Fact} (h : St w0 w L M) {k : Nat} {cs : Array Value} (hk : ∃ t, w.heap[k]? = some (.cells cs t (0, 0))) : St w0 w ((k, cs) :: L) M :=
  ⟨fun x hx => by
    rcases List.mem_cons.1 hx with rfl | hx
    · exact hk
    · exact h.live x hx, h.facts, h.below⟩
theorem below_setCell {B : Nat} {w w' : World} (h : Below B w w') {k : Nat} (hk : B ≤ k) (j : Nat) (v : Value) : Below B w (w'.setCell ⟨k, j, none⟩ v) :=
  ⟨h.os, h.tape, h.output, by simp [World.setCell]; exact h.size, fun i hi => (heap_setCell_other w' ⟨k, j, none⟩ i v (fun e => by have : i = k := e; omega)).trans (h.block i hi)⟩
/-- One cell of the block that came last is another one. -/
theorem St.cellSet {w0 w w' : World} {L : List (Nat × Array Value)} {M : List Fact} (h : St w0 w L M) {k : Nat} {cs : Array Value} (hS : St w0 w' ((k, cs) :: L) M) (hb : Below w.heap.size w w') (hk : w.heap.size ≤ k) (j : Nat) (v : Value) :
    St w0 (w'.setCell ⟨k, j, none⟩ v) ((k, cs.setIfInBounds j v) :: L) M := by
  obtain ⟨t, ht⟩ := hS.live (k, cs) (by simp)
  exact (h.on (below_setCell hb hk j v)).add ⟨t, heap_setCell_same w' k j cs t v ht⟩
/-- The i-th fact. -/
theorem St.fact {w0 w : World} {L : List (Nat × Array Value)} {M : List Fact} (h : St w0 w L M) (i : Nat) {P : Fact} (hi : M[i]? = some P) : P.on w := h.facts P (List.mem_of_getElem? hi)
/-- A cell of the i-th block. -/
theorem St.cell {w0 w : World} {L : List (Nat × Array Value)} {M : List Fact} (h : St w0 w L M) (i : Nat) {k : Nat} {cs : Array Value} (hi : L[i]? = some (k, cs)) (j : Nat) {v : Value} (hj : cs[j]? = some v) : w.cell? ⟨k, j, none⟩ = some v := by
  obtain ⟨t, ht⟩ := h.live (k, cs) (List.mem_of_getElem? hi)
  simp only [World.cell?, ht]
  exact hj
theorem St.free {w0 w : World} {L : List (Nat × Array Value)} {M : List Fact} (h : St w0 w L M) (i : Nat) {k : Nat} {cs : Array Value} (hi : L[i]? = some (k, cs)) (j : Nat) : w.frozen? ⟨k, j, none⟩ = false := by
  obtain ⟨t, ht⟩ := h.live (k, cs) (List.mem_of_getElem? hi)
  exact frozen_of_row w k j _ _ ht
/-- A whole block is read. -/
theorem wpList_load_st {P : Program} {ops : Array Oper} {rest : List Oper} {o : Oper} {a : Act} {w : World} {Q : Exit → Act → World → Prop} (hgd : o.guard = none) (ty : TypeId) (x : Operand) (ho : o.op = .load ty x)
    {w0 : World} {L : List (Nat × Array Value)} {M : List Fact} (hS : St w0 w L M) (i k : Nat) (cs : Array Value) (hi : L[i]? = some (k, cs)) (hx : a.eval x = .pointer (some ⟨k, 0, none⟩)) (d : TypeDesc)
    (hu : P.underlying ty = some d) (hd : (match d with | .struct _ | .array _ _ => true | _ => false) = true) (hz : (P.info? ty).map (·.size) = some cs.size)
    (h : wpList P ops Q rest (a.put o.dst (.agg cs)) w) : wpList P ops Q (o :: rest) a w := by
  obtain ⟨t, ht⟩ := hS.live (k, cs) (List.mem_of_getElem? hi)
  exact wpList_load_row hgd ty x ho k hx t cs (0, 0) d ht hu hd hz h
/-- A whole new block is written. -/
theorem wpList_store_st {P : Program} {ops : Array Oper} {rest : List Oper} {o : Oper} {a : Act} {w : World} {Q : Exit → Act → World → Prop} (hgd : o.guard = none) (ty : TypeId) (x y : Operand) (ho : o.op = .store ty x y)
    {w0 : World} {L : List (Nat × Array Value)} {M : List Fact} (hS : St w0 w L M) (z cs : Array Value) (t : TypeId) (hx : a.eval x = .pointer (some ⟨w.heap.size, 0, none⟩)) (hy : a.eval y = .agg cs)
    (hz : (P.info? ty).map (·.size) = some z.size) (hsz : cs.size = z.size) (h1 : cs.all (·.oneCell') = true)
    (h : ∀ p w', p = w.heap.size → St w0 w' ((p, cs) :: L) M → Below w.heap.size w w' → wpList P ops Q rest (a.put o.dst undef) w') : wpList P ops Q (o :: rest) a (w.alloc (.cells z t)) := by
  refine wpList_store_row hgd ty x y ho w.heap.size cs hx hy t z (heap_alloc_new _ _) (by rw [hz, hsz]) (by rw [hsz]) h1 ?_
  have hb : Below w.heap.size w ((w.alloc (.cells z t)).setRow w.heap.size cs) := below_setRow (below_new w _) (Nat.le_refl _) cs
  refine h w.heap.size _ rfl ?_ hb
  have h' := hS.on hb
  refine ⟨fun u hu => ?_, h'.facts, h'.below⟩
  rcases List.mem_cons.1 hu with rfl | hu
  · exact ⟨t, setRow_heap _ _ _ _ _ _ (heap_alloc_new w (.cells z t))⟩
  · exact h'.live u hu

theorem run_storeVar_cell {P : Program} (w : World) (b j : Nat) (ty : TypeId) (v : Value) (hc : (w.cell? ⟨b, j, none⟩).isSome = true) (hf : w.frozen? ⟨b, j, none⟩ = false) (hi : (P.info? ty).map (·.size) = some 1) (h1 : v.oneCell' = true) :
    (storeVar ty ⟨b, j, none⟩ v).run P w = .ok () (w.setCell ⟨b, j, none⟩ v) := by
  have := run_storeCells_cells (P := P) b j [v] 0 w (fun i hi => by obtain rfl : i = 0 := (by simpa using hi); exact hc) (fun i hi => by obtain rfl : i = 0 := (by simpa using hi); exact hf) (fun x hx => by simp at hx; subst hx; exact h1)
  have hcs : v.cells = #[v] := by cases v <;> first | rfl | cases h1
  cases hq : P.info? ty with
  | none => simp [hq] at hi
  | some i =>
    have hs : i.size = 1 := by simpa [hq] using hi
    simp only [Nat.add_zero] at this
    simp [storeVar, sizeOf, typeInfo, hq, hcs, hs, this, World.setCells]
/-- One cell of the block that came last is written. -/
theorem wpList_storec_st {P : Program} {ops : Array Oper} {rest : List Oper} {o : Oper} {a : Act} {w u : World} {Q : Exit → Act → World → Prop} (hgd : o.guard = none) (ty : TypeId) (x y : Operand) (ho : o.op = .store ty x y)
    {w0 : World} {k : Nat} {cs : Array Value} {L : List (Nat × Array Value)} {M : List Fact} (h0 : St w0 u L M) (hS : St w0 w ((k, cs) :: L) M) (hb : Below u.heap.size u w) (hk : u.heap.size ≤ k) (j : Nat) (v old : Value) (hx : a.eval x = .pointer (some ⟨k, j, none⟩)) (hy : a.eval y = v)
    (hj : cs[j]? = some old) (hi : (P.info? ty).map (·.size) = some 1) (h1 : v.oneCell' = true)
    (h : ∀ w', St w0 w' ((k, cs.setIfInBounds j v) :: L) M → Below u.heap.size u w' → wpList P ops Q rest (a.put o.dst undef) w') : wpList P ops Q (o :: rest) a w := by
  refine wpList_plain hgd fun K hK => ?_
  have hc := hS.cell 0 rfl j hj
  have hf := hS.free 0 rfl j
  unfold Oper.wp execOp
  simp only [ho, hx, hy, Instr.storeAt, Instr.sureAddr, Sem.run_bind, Sem.run_pure, Result.andThen_ok, run_storeVar_cell w k j ty v (by rw [hc]; rfl) hf hi h1]
  exact hK _ _ (h _ (h0.cellSet hS hb hk j v) (below_setCell hb hk j v))
/-- Parameters in blocks of their own. -/
theorem St.box2 {w0 w : World} {L : List (Nat × Array Value)} {M : List Fact} (h : St w0 w L M) (c1 c2 : Array Value) (t1 t2 : TypeId) : St w0 ((w.alloc (.cells c1 t1)).alloc (.cells c2 t2)) ((w.heap.size + 1, c2) :: (w.heap.size, c1) :: L) M := by
  have k := (h.new c1 t1).new c2 t2
  rw [show (w.alloc (.cells c1 t1)).heap.size = w.heap.size + 1 by simp] at k
  exact k
theorem St.box3 {w0 w : World} {L : List (Nat × Array Value)} {M : List Fact} (h : St w0 w L M) (c1 c2 c3 : Array Value) (t1 t2 t3 : TypeId) : St w0 (((w.alloc (.cells c1 t1)).alloc (.cells c2 t2)).alloc (.cells c3 t3)) ((w.heap.size + 1 + 1, c3) :: (w.heap.size + 1, c2) :: (w.heap.size, c1) :: L) M := by
  have k := (h.box2 c1 c2 t1 t2).new c3 t3
  rw [show ((w.alloc (.cells c1 t1)).alloc (.cells c2 t2)).heap.size = w.heap.size + 1 + 1 by simp] at k
  exact k
end Go.Proofs.YtplpadblhjdpcaaGreat

namespace Go.Proofs.YtplpadblhjdpcaaGreat
set_option maxRecDepth 10000

/-- May a bed and a channel be? -/
def Sp.may (b c : Int) : Bool := decide (1 ≤ b) && decide (b ≤ 99) && decide (0 ≤ c) && decide (c < 8)
theorem Sp.may_iff {b c : Int} : Sp.may b c = true ↔ 1 ≤ b ∧ b ≤ 99 ∧ 0 ≤ c ∧ c < 8 := by
  simp [Sp.may]; omega
theorem Sp.may_not {b c : Int} : Sp.may b c = false ↔ ¬ (1 ≤ b ∧ b ≤ 99 ∧ 0 ≤ c ∧ c < 8) := by
  rw [← Sp.may_iff]; simp
/-- Is one less than another? -/
def Sp.less (b c b' c' : Int) : Bool := decide (b < b') || (b == b' && decide (c < c'))
theorem Sp.less_iff {b c b' c' : Int} : Sp.less b c b' c' = true ↔ b < b' ∨ (b = b' ∧ c < c') := by simp [Sp.less]

end Go.Proofs.YtplpadblhjdpcaaGreat

namespace Go.Proofs.YtplpadblhjdpcaaGreat
set_option maxRecDepth 10000
namespace Lf

/-- The chapter's table: the phases' rows one behind the other. -/
def tab : List Int := [1, -1, -1, -1, -1, -1, 1, 2, 3, 4, 0, -1, 2, -1, 3, 4, 0, -1, 1, -1, -1, 4, 0, -1, 4, -1, 3, -1, 0, 1]
def isP (p : Int) : Bool := decide (0 ≤ p) && decide (p < 5)
def isD (d : Int) : Bool := decide (1 ≤ d) && decide (d ≤ 6)
def look (p d : Int) : Int := tab.getD (p.toNat * 6 + (d - 1).toNat) 0
/-- Does the deed make something of the phase? -/
def ok (p d : Int) : Bool := isP p && isD d && !(look p d == -1)
/-- What it makes. -/
def nx (p d : Int) : Int := if ok p d then look p d else 0

/-- A row of deeds. -/
def runP (p : Int) (l : List Int) : Int := l.foldl (fun p d => if ok p d then nx p d else p) p
def runN (p : Int) : List Int → Nat
  | [] => 0
  | d :: l => if ok p d then runN (nx p d) l + 1 else runN p l

theorem isP_iff {p : Int} : isP p = true ↔ 0 ≤ p ∧ p < 5 := by unfold isP; simp
theorem isD_iff {d : Int} : isD d = true ↔ 1 ≤ d ∧ d ≤ 6 := by unfold isD; simp
theorem isP_cases {p : Int} (h : isP p = true) : p = 0 ∨ p = 1 ∨ p = 2 ∨ p = 3 ∨ p = 4 := by
  have := isP_iff.1 h; omega
theorem isD_cases {d : Int} (h : isD d = true) : d = 1 ∨ d = 2 ∨ d = 3 ∨ d = 4 ∨ d = 5 ∨ d = 6 := by
  have := isD_iff.1 h; omega
theorem ok_parts {p d : Int} (h : ok p d = true) : isP p = true ∧ isD d = true ∧ ¬ look p d = -1 := by
  unfold ok at h; simp at h; exact ⟨h.1.1, h.1.2, h.2⟩
theorem nx_isP {p d : Int} (h : ok p d = true) : isP (nx p d) = true := by
  obtain ⟨h1, h2, _⟩ := ok_parts h
  rcases isP_cases h1 with rfl | rfl | rfl | rfl | rfl <;> rcases isD_cases h2 with rfl | rfl | rfl | rfl | rfl | rfl <;> first | rfl | (exfalso; revert h; decide)

theorem runP_nil (p : Int) : runP p [] = p := rfl
theorem runP_append (p : Int) (l m : List Int) : runP p (l ++ m) = runP (runP p l) m := by unfold runP; rw [List.foldl_append]
theorem runP_one (p d : Int) : runP p [d] = if ok p d then nx p d else p := rfl
theorem runN_cons (p d : Int) (l : List Int) : runN p (d :: l) = if ok p d then runN (nx p d) l + 1 else runN p l := rfl
theorem runN_append (p : Int) (l m : List Int) : runN p (l ++ m) = runN p l + runN (runP p l) m := by
  induction l generalizing p with
  | nil => simp [runN, runP]
  | cons d l ih =>
    have e : runP p (d :: l) = runP (if ok p d then nx p d else p) l := rfl
    rw [List.cons_append, runN_cons, runN_cons, e]
    cases h : ok p d
    · simp only [Bool.false_eq_true, if_false]; rw [ih]
    · simp only [if_true]; rw [ih]; omega
theorem runN_one (p d : Int) : runN p [d] = if ok p d then 1 else 0 := by simp [runN]
theorem runN_le (p : Int) (l : List Int) : runN p l ≤ l.length := by
  induction l generalizing p with
  | nil => simp [runN]
  | cons d l ih => unfold runN; have := ih (nx p d); have := ih p; split <;> simp <;> omega
theorem runP_take {p : Int} {l : List Int} {k : Nat} (h : k < l.length) : runP p (l.take (k + 1)) = if ok (runP p (l.take k)) l[k] then nx (runP p (l.take k)) l[k] else runP p (l.take k) := by
  rw [List.take_succ_eq_append_getElem h, runP_append, runP_one]
theorem runN_take {p : Int} {l : List Int} {k : Nat} (h : k < l.length) : runN p (l.take (k + 1)) = runN p (l.take k) + if ok (runP p (l.take k)) l[k] then 1 else 0 := by
  rw [List.take_succ_eq_append_getElem h, runN_append, runN_one]

/-- A phase's name. -/
def nameL (p : Int) : List UInt8 :=
  if p = 0 then [113, 117, 105, 101, 116] else if p = 1 then [114, 97, 105, 115, 101, 100] else if p = 2 then [101, 115, 99, 97, 108, 97, 116, 101, 100] else if p = 3 then [97, 99, 107, 101, 100] else if p = 4 then [115, 105, 108, 101, 110, 99, 101, 100] else []

/-! ### what is reached -/
/-- What is known on the way: what is reached, in order, and the last step to each phase. -/
abbrev St := List Int × List (Int × Int)
/-- One deed tried at the i-th phase reached. -/
def tryD (s : St) (i : Nat) (d : Int) : St :=
  if ok (s.1.getD i 0) d && !s.1.contains (nx (s.1.getD i 0) d) then (s.1 ++ [nx (s.1.getD i 0) d], s.2.set (nx (s.1.getD i 0) d).toNat (s.1.getD i 0, d)) else s
def z5 : List (Int × Int) := [(0, 0), (0, 0), (0, 0), (0, 0), (0, 0)]
/-- All that is known ahead of the n-th round: n = 6 i + (d - 1). -/
def know (f : Int) : Nat → St
  | 0 => ([f], z5)
  | n + 1 => tryD (know f n) (n / 6) ((n % 6 : Nat) + 1)
theorem know_nat : ∀ f : Fin 5, ∀ n : Fin 31, 1 ≤ (know (f.val : Int) n.val).1.length ∧ (know (f.val : Int) n.val).1.length ≤ 5 ∧ (know (f.val : Int) n.val).2.length = 5 ∧ (n.val < 30 → n.val / 6 < (know (f.val : Int) n.val).1.length) ∧ (n.val = 30 → (know (f.val : Int) n.val).1.length = 5) := by decide +kernel
theorem know_facts {f : Int} (hf : isP f = true) {n : Nat} (hn : n ≤ 30) : 1 ≤ (know f n).1.length ∧ (know f n).1.length ≤ 5 ∧ (know f n).2.length = 5 ∧ (n < 30 → n / 6 < (know f n).1.length) ∧ (n = 30 → (know f n).1.length = 5) := by
  have h := isP_iff.1 hf
  have := know_nat ⟨f.toNat, by omega⟩ ⟨n, by omega⟩
  simp only [show ((f.toNat : Nat) : Int) = f by omega] at this
  exact this
theorem know_succ (f : Int) (n : Nat) : know f (n + 1) = tryD (know f n) (n / 6) ((n % 6 : Nat) + 1) := rfl
theorem know_step {f : Int} {i j : Nat} (hj : j < 6) : know f (6 * i + (j + 1)) = tryD (know f (6 * i + j)) i ((j : Int) + 1) := by
  rw [show 6 * i + (j + 1) = 6 * i + j + 1 by omega, know_succ, show (6 * i + j) / 6 = i by omega, show (6 * i + j) % 6 = j by omega]

/-! ### the way back from a phase to where one came from -/
def wk (f to : Int) : Nat → Int × List Int
  | 0 => (to, [])
  | k + 1 => if (wk f to k).1 = f then wk f to k else (((know f 30).2.getD (wk f to k).1.toNat (0, 0)).1, (wk f to k).2 ++ [((know f 30).2.getD (wk f to k).1.toNat (0, 0)).2])
/-- The shortest way, the least first. -/
def way (f to : Int) : List Int := if isP f && isP to then (wk f to 4).2.reverse else []
def reach (f : Int) : List Int := if isP f then [0, 1, 2, 3, 4] else []
theorem wk_nat : ∀ f to : Fin 5, ∀ k : Fin 5, ((wk (f.val : Int) (to.val : Int) k.val).1 ≠ (f.val : Int) → k.val < 4 ∧ isP (wk (f.val : Int) (to.val : Int) k.val).1 = true) ∧ ((wk (f.val : Int) (to.val : Int) k.val).1 = (f.val : Int) → (wk (f.val : Int) (to.val : Int) k.val).2 = (wk (f.val : Int) (to.val : Int) 4).2) := by decide +kernel
theorem wk_facts {f to : Int} (hf : isP f = true) (ht : isP to = true) {k : Nat} (hk : k ≤ 4) : ((wk f to k).1 ≠ f → k < 4 ∧ isP (wk f to k).1 = true) ∧ ((wk f to k).1 = f → (wk f to k).2.reverse = way f to) := by
  have h := isP_iff.1 hf
  have h2 := isP_iff.1 ht
  have := wk_nat ⟨f.toNat, by omega⟩ ⟨to.toNat, by omega⟩ ⟨k, by omega⟩
  simp only [show ((f.toNat : Nat) : Int) = f by omega, show ((to.toNat : Nat) : Int) = to by omega] at this
  refine ⟨this.1, fun h => ?_⟩
  rw [this.2 h]; unfold way; rw [hf, ht]; rfl
theorem wk_succ {f to : Int} {k : Nat} (h : (wk f to k).1 ≠ f) : wk f to (k + 1) = (((know f 30).2.getD (wk f to k).1.toNat (0, 0)).1, (wk f to k).2 ++ [((know f 30).2.getD (wk f to k).1.toNat (0, 0)).2]) := by
  show (if (wk f to k).1 = f then wk f to k else _) = _
  rw [if_neg h]
theorem has_nat : ∀ f to : Fin 5, (know (f.val : Int) 30).1.contains (to.val : Int) = true ∧ (know (f.val : Int) 30).1.isPerm [0, 1, 2, 3, 4] = true := by decide +kernel
theorem has_all {f to : Int} (hf : isP f = true) (ht : isP to = true) : (know f 30).1.contains to = true := by
  have h := isP_iff.1 hf
  have h2 := isP_iff.1 ht
  have := (has_nat ⟨f.toNat, by omega⟩ ⟨to.toNat, by omega⟩).1
  simpa only [show ((f.toNat : Nat) : Int) = f by omega, show ((to.toNat : Nat) : Int) = to by omega] using this
theorem sorted_all {f : Int} (hf : isP f = true) : ((know f 30).1.mergeSort fun x y => decide (x ≤ y)) = reach f := by
  have h := isP_iff.1 hf
  have hp := (has_nat ⟨f.toNat, by omega⟩ 0).2
  simp only [show ((f.toNat : Nat) : Int) = f by omega] at hp
  have hp2 := List.isPerm_iff.1 hp
  unfold reach; rw [hf]
  refine List.Perm.eq_of_pairwise (le := fun a b => a ≤ b) (fun a b _ _ h1 h2 => Int.le_antisymm h1 h2) ?_ (by decide) ((List.mergeSort_perm _ _).trans hp2)
  exact (List.pairwise_mergeSort (le := fun x y : Int => decide (x ≤ y)) (fun a b c h1 h2 => by simp at *; omega) (fun a b => by simp; omega) _).imp (fun h => by simpa using h)
theorem way_facts : ∀ f to : Fin 5, (way (f.val : Int) (to.val : Int)).length ≤ 3 ∧ runP (f.val : Int) (way (f.val : Int) (to.val : Int)) = (to.val : Int) ∧ runN (f.val : Int) (way (f.val : Int) (to.val : Int)) = (way (f.val : Int) (to.val : Int)).length ∧ ((way (f.val : Int) (to.val : Int)).length = 0 ↔ f = to) := by decide +kernel
theorem way_len (f to : Int) : (way f to).length ≤ 3 := by
  by_cases h : isP f = true ∧ isP to = true
  · have h1 := isP_iff.1 h.1
    have h2 := isP_iff.1 h.2
    have := (way_facts ⟨f.toNat, by omega⟩ ⟨to.toNat, by omega⟩).1
    simpa only [show ((f.toNat : Nat) : Int) = f by omega, show ((to.toNat : Nat) : Int) = to by omega] using this
  · unfold way
    rw [if_neg (by simpa using h)]; simp
end Lf
end Go.Proofs.YtplpadblhjdpcaaGreat

namespace Go.Proofs.YtplpadblhjdpcaaGreat
set_option maxRecDepth 10000

/-- An alarm: bed, channel, phase, priority, since, until. -/
structure Alm where
  b : Int
  c : Int
  ph : Int
  pr : Int
  si : Int
  un : Int
deriving DecidableEq

namespace Am
def isT (n : Int) : Bool := decide (0 ≤ n) && decide (n ≤ 1000000000)
def late (n : Int) : Bool := decide (n ≤ 1000002000)
def wait (p : Int) : Int := if p = 1 then 10 else if p = 2 then 30 else if p = 3 then 90 else 0
def right (a : Alm) : Bool := Sp.may a.b a.c && decide (1 ≤ a.ph) && decide (a.ph ≤ 4) && decide (1 ≤ a.pr) && decide (a.pr ≤ 3) && isT a.si && decide (a.si ≤ a.un) && late a.un
def zero : Alm := ⟨0, 0, 0, 0, 0, 0⟩
def openE (b c prio t : Int) : Int := if !Sp.may b c || decide (wait prio = 0) || !isT t then 1 else 0
def opn (b c prio t : Int) : Alm := if openE b c prio t = 0 then ⟨b, c, 1, prio, t, t + wait prio⟩ else zero
def raiseE (a : Alm) (prio t : Int) : Int := if !right a || decide (wait prio = 0) || !isT t then 1 else if t < a.si then 62 else 0
def raiseOk (a : Alm) (prio t : Int) : Alm :=
  if a.ph = 3 then ⟨a.b, a.c, 1, min a.pr prio, t, t + wait (min a.pr prio)⟩
  else if a.ph = 1 ∧ min a.pr prio ≠ a.pr then ⟨a.b, a.c, a.ph, min a.pr prio, a.si, max a.si (min a.un (t + wait (min a.pr prio)))⟩
  else ⟨a.b, a.c, a.ph, min a.pr prio, a.si, a.un⟩
def raise (a : Alm) (prio t : Int) : Alm := if raiseE a prio t = 0 then raiseOk a prio t else zero
def turnU (pr deed t long : Int) : Int := if deed = 6 then t + wait pr else if deed = 4 then t + long else t
def turn (a : Alm) (deed t long : Int) : Alm := ⟨a.b, a.c, Lf.nx a.ph deed, a.pr, a.si, turnU a.pr deed t long⟩
def canDo (deed long : Int) : Bool := (deed == 2 || deed == 3 || deed == 4 || deed == 6) && !(deed == 4 && (decide (long < 1) || decide (1000 < long)))
def doE (a : Alm) (deed t long : Int) : Int :=
  if !right a || !isT t || !canDo deed long then 1 else if t < a.si then 62 else if Lf.ok a.ph deed = false then 60 else if (deed = 2 ∨ deed = 6) ∧ t < a.un then 61 else 0
def doA (a : Alm) (deed t long : Int) : Alm := if doE a deed t long = 0 then turn a deed t long else zero
def step (a : Alm) (t : Int) : Alm := if a.ph = 4 ∧ a.un ≤ t then turn a 6 a.un 0 else if a.ph = 1 ∧ a.un ≤ t then turn a 2 a.un 0 else a
def pass (a : Alm) (t : Int) : Alm := if right a then step (step (step a t) t) t else a

theorem isT_iff {n : Int} : isT n = true ↔ 0 ≤ n ∧ n ≤ 1000000000 := by unfold isT; simp
theorem late_iff {n : Int} : late n = true ↔ n ≤ 1000002000 := by unfold late; simp
theorem right_iff {a : Alm} : right a = true ↔ Sp.may a.b a.c = true ∧ 1 ≤ a.ph ∧ a.ph ≤ 4 ∧ 1 ≤ a.pr ∧ a.pr ≤ 3 ∧ (0 ≤ a.si ∧ a.si ≤ 1000000000) ∧ a.si ≤ a.un ∧ a.un ≤ 1000002000 := by
  unfold right
  simp only [Bool.and_eq_true, decide_eq_true_eq, isT_iff, late_iff]
  constructor
  · rintro ⟨⟨⟨⟨⟨⟨⟨h1, h2⟩, h3⟩, h4⟩, h5⟩, h6⟩, h7⟩, h8⟩
    exact ⟨h1, h2, h3, h4, h5, h6, h7, h8⟩
  · rintro ⟨h1, h2, h3, h4, h5, h6, h7, h8⟩
    exact ⟨⟨⟨⟨⟨⟨⟨h1, h2⟩, h3⟩, h4⟩, h5⟩, h6⟩, h7⟩, h8⟩
theorem wait_pos {p : Int} (h : 1 ≤ p) (h3 : p ≤ 3) : 10 ≤ wait p ∧ wait p ≤ 90 := by
  unfold wait; split
  · omega
  · split
    · omega
    · split <;> omega
theorem wait_zero {p : Int} : wait p = 0 ↔ ¬ (1 ≤ p ∧ p ≤ 3) := by
  unfold wait; constructor
  · intro h; split at h
    · omega
    · split at h
      · omega
      · split at h <;> omega
  · intro h; rw [if_neg (by omega), if_neg (by omega), if_neg (by omega)]
theorem wait_mono {p q : Int} (_h : 1 ≤ p) (hq : q ≤ 3) (hpq : p ≤ q) : wait p ≤ wait q := by
  unfold wait
  repeat' split
  all_goals omega
theorem wait_bounds (p : Int) : 0 ≤ wait p ∧ wait p ≤ 90 := by
  unfold wait; repeat' split
  all_goals omega

/-! ### deeds on phases -/
theorem nx_two : Lf.nx 1 2 = 2 := by decide
theorem nx_six : Lf.nx 4 6 = 1 := by decide
theorem do_phase {ph deed : Int} (h : Lf.ok ph deed = true) (h1 : 1 ≤ ph) (hd : deed = 2 ∨ deed = 3 ∨ deed = 4 ∨ deed = 6) : 1 ≤ Lf.nx ph deed ∧ Lf.nx ph deed ≤ 4 := by
  obtain ⟨hp, _, _⟩ := Lf.ok_parts h
  rcases Lf.isP_cases hp with rfl | rfl | rfl | rfl | rfl <;> rcases hd with rfl | rfl | rfl | rfl <;> first | (exfalso; revert h; decide) | (exfalso; omega) | decide
theorem ok_two {ph : Int} (h : Lf.ok ph 2 = true) : ph = 1 := by
  obtain ⟨hp, _, _⟩ := Lf.ok_parts h
  rcases Lf.isP_cases hp with rfl | rfl | rfl | rfl | rfl <;> first | rfl | (exfalso; revert h; decide)
theorem ok_six {ph : Int} (h : Lf.ok ph 6 = true) : ph = 4 := by
  obtain ⟨hp, _, _⟩ := Lf.ok_parts h
  rcases Lf.isP_cases hp with rfl | rfl | rfl | rfl | rfl <;> first | rfl | (exfalso; revert h; decide)

/-! ### what is opened, raised or done is right -/
theorem openE_iff {b c prio t : Int} : openE b c prio t = 0 ↔ Sp.may b c = true ∧ (1 ≤ prio ∧ prio ≤ 3) ∧ 0 ≤ t ∧ t ≤ 1000000000 := by
  unfold openE
  have h1 := wait_zero (p := prio)
  have h2 := isT_iff (n := t)
  cases Sp.may b c <;> cases hT : isT t <;> by_cases hw : wait prio = 0 <;> simp_all
theorem opn_right {b c prio t : Int} (h : openE b c prio t = 0) : right (opn b c prio t) = true ∧ (opn b c prio t).b = b ∧ (opn b c prio t).c = c ∧ (opn b c prio t).si = t := by
  have hh := openE_iff.1 h
  have hw := wait_pos hh.2.1.1 hh.2.1.2
  unfold opn
  rw [if_pos h]
  refine ⟨right_iff.2 ⟨hh.1, ?_⟩, rfl, rfl, rfl⟩
  simp only
  omega
theorem raiseE_iff {a : Alm} {prio t : Int} : raiseE a prio t = 0 ↔ right a = true ∧ (1 ≤ prio ∧ prio ≤ 3) ∧ (0 ≤ t ∧ t ≤ 1000000000) ∧ a.si ≤ t := by
  unfold raiseE
  have h1 := wait_zero (p := prio)
  have h2 := isT_iff (n := t)
  cases right a <;> cases hT : isT t <;> by_cases hw : wait prio = 0 <;> by_cases ht : t < a.si <;> simp_all <;> omega
theorem raise_right {a : Alm} {prio t : Int} (h : raiseE a prio t = 0) : right (raise a prio t) = true ∧ (raise a prio t).b = a.b ∧ (raise a prio t).c = a.c ∧ (raise a prio t).pr ≤ a.pr ∧ (raise a prio t).pr ≤ prio ∧ a.si ≤ (raise a prio t).si := by
  obtain ⟨hr, hp, ht, hs⟩ := raiseE_iff.1 h
  have hr' := right_iff.1 hr
  have hm1 : 1 ≤ min a.pr prio := by omega
  have hm3 : min a.pr prio ≤ 3 := by omega
  have hw := wait_pos hm1 hm3
  unfold raise raiseOk
  rw [if_pos h]
  split
  · refine ⟨right_iff.2 ⟨hr'.1, ?_⟩, rfl, rfl, ?_, ?_, ?_⟩ <;> (simp only; omega)
  · split
    · refine ⟨right_iff.2 ⟨hr'.1, ?_⟩, rfl, rfl, ?_, ?_, ?_⟩ <;> (simp only; omega)
    · refine ⟨right_iff.2 ⟨hr'.1, ?_⟩, rfl, rfl, ?_, ?_, ?_⟩ <;> (simp only; omega)
theorem canDo_iff {deed long : Int} : canDo deed long = true ↔ (deed = 2 ∨ deed = 3 ∨ deed = 4 ∨ deed = 6) ∧ (deed = 4 → 1 ≤ long ∧ long ≤ 1000) := by
  unfold canDo
  simp only [Bool.and_eq_true, Bool.or_eq_true, beq_iff_eq, Bool.not_eq_true', Bool.and_eq_false_iff, Bool.or_eq_false_iff, decide_eq_false_iff_not, beq_eq_false_iff_ne]
  constructor
  · rintro ⟨h1, h2⟩
    exact ⟨by omega, fun h4 => by rcases h2 with h2 | h2 <;> omega⟩
  · rintro ⟨h1, h2⟩
    refine ⟨by omega, ?_⟩
    by_cases h4 : deed = 4
    · right; have := h2 h4; omega
    · left; exact h4
theorem doE_iff {a : Alm} {deed t long : Int} : doE a deed t long = 0 ↔ right a = true ∧ (0 ≤ t ∧ t ≤ 1000000000) ∧ canDo deed long = true ∧ a.si ≤ t ∧ Lf.ok a.ph deed = true ∧ ¬ ((deed = 2 ∨ deed = 6) ∧ t < a.un) := by
  unfold doE
  have h2 := isT_iff (n := t)
  cases right a <;> cases hT : isT t <;> cases canDo deed long <;> by_cases ht : t < a.si <;> cases Lf.ok a.ph deed <;> by_cases hd : (deed = 2 ∨ deed = 6) ∧ t < a.un <;> simp_all <;> omega
theorem turnU_ge {pr deed t long : Int} (h : deed = 4 → 1 ≤ long) : t ≤ turnU pr deed t long := by
  unfold turnU
  have := wait_bounds pr
  split
  · omega
  · split
    · rename_i h4; have := h h4; omega
    · omega
theorem turnU_le {pr deed t long : Int} (h : deed = 4 → long ≤ 1000) : turnU pr deed t long ≤ t + 1000 := by
  unfold turnU
  have := wait_bounds pr
  split
  · omega
  · split
    · rename_i h4; have := h h4; omega
    · omega
theorem do_right {a : Alm} {deed t long : Int} (h : doE a deed t long = 0) : right (doA a deed t long) = true ∧ (doA a deed t long).b = a.b ∧ (doA a deed t long).c = a.c ∧ (doA a deed t long).pr = a.pr ∧ (doA a deed t long).si = a.si ∧ t ≤ (doA a deed t long).un := by
  obtain ⟨hr, ht, hc, hs, ho, _⟩ := doE_iff.1 h
  have hr' := right_iff.1 hr
  obtain ⟨hd, hl⟩ := canDo_iff.1 hc
  have hp := do_phase ho hr'.2.1 hd
  have hu := turnU_ge (pr := a.pr) (deed := deed) (t := t) (long := long) (fun h => (hl h).1)
  have hv := turnU_le (pr := a.pr) (deed := deed) (t := t) (long := long) (fun h => (hl h).2)
  unfold doA turn
  rw [if_pos h]
  refine ⟨right_iff.2 ⟨hr'.1, ?_⟩, rfl, rfl, rfl, rfl, hu⟩
  simp only
  omega

/-! ### what time makes -/
theorem step_four {a : Alm} {t : Int} (h : a.ph = 4) (hu : a.un ≤ t) : step a t = ⟨a.b, a.c, 1, a.pr, a.si, a.un + wait a.pr⟩ := by
  unfold step; rw [if_pos ⟨h, hu⟩]; unfold turn turnU; rw [h, nx_six]; simp
theorem step_one {a : Alm} {t : Int} (h : a.ph = 1) (hu : a.un ≤ t) : step a t = ⟨a.b, a.c, 2, a.pr, a.si, a.un⟩ := by
  unfold step; rw [if_neg (by omega), if_pos ⟨h, hu⟩]; unfold turn turnU; rw [h, nx_two]; simp
theorem step_still {a : Alm} {t : Int} (h : ¬ ((a.ph = 4 ∨ a.ph = 1) ∧ a.un ≤ t)) : step a t = a := by
  unfold step; rw [if_neg (by omega), if_neg (by omega)]
/-- Is something due at t? -/
def due (a : Alm) (t : Int) : Prop := (a.ph = 4 ∨ a.ph = 1) ∧ a.un ≤ t
theorem pass_cases {a : Alm} (t : Int) (h : right a = true) :
    (a.ph = 4 ∧ a.un ≤ t ∧ a.un + wait a.pr ≤ t ∧ pass a t = ⟨a.b, a.c, 2, a.pr, a.si, a.un + wait a.pr⟩) ∨
    (a.ph = 4 ∧ a.un ≤ t ∧ t < a.un + wait a.pr ∧ pass a t = ⟨a.b, a.c, 1, a.pr, a.si, a.un + wait a.pr⟩) ∨
    (a.ph = 1 ∧ a.un ≤ t ∧ pass a t = ⟨a.b, a.c, 2, a.pr, a.si, a.un⟩) ∨
    (¬ due a t ∧ pass a t = a) := by
  unfold pass due
  rw [if_pos h]
  by_cases h4 : a.ph = 4
  · by_cases hu : a.un ≤ t
    · rw [step_four h4 hu]
      by_cases hv : a.un + wait a.pr ≤ t
      · left
        refine ⟨h4, hu, hv, ?_⟩
        rw [step_one (a := ⟨a.b, a.c, 1, a.pr, a.si, a.un + wait a.pr⟩) (t := t) rfl hv]
        exact step_still (by simp)
      · right; left
        refine ⟨h4, hu, by omega, ?_⟩
        rw [step_still (a := ⟨a.b, a.c, 1, a.pr, a.si, a.un + wait a.pr⟩) (by simp; omega), step_still (by simp; omega)]
    · right; right; right
      have : step a t = a := step_still (by omega)
      exact ⟨by omega, by rw [this, this, this]⟩
  · by_cases h1 : a.ph = 1
    · by_cases hu : a.un ≤ t
      · right; right; left
        refine ⟨h1, hu, ?_⟩
        rw [step_one h1 hu, step_still (a := ⟨a.b, a.c, 2, a.pr, a.si, a.un⟩) (by simp), step_still (by simp)]
      · right; right; right
        have : step a t = a := step_still (by omega)
        exact ⟨by omega, by rw [this, this, this]⟩
    · right; right; right
      have : step a t = a := step_still (by omega)
      exact ⟨by omega, by rw [this, this, this]⟩
theorem pass_wrong {a : Alm} (t : Int) (h : right a = false) : pass a t = a := by unfold pass; rw [h]; rfl
/-- Spot, priority and beginning stay; the end does not fall. -/
theorem pass_keeps (a : Alm) (t : Int) : (pass a t).b = a.b ∧ (pass a t).c = a.c ∧ (pass a t).pr = a.pr ∧ (pass a t).si = a.si ∧ a.un ≤ (pass a t).un := by
  cases h : right a
  · rw [pass_wrong t h]; exact ⟨rfl, rfl, rfl, rfl, Int.le_refl _⟩
  · have hw := wait_bounds a.pr
    rcases pass_cases t h with ⟨_, _, _, e⟩ | ⟨_, _, _, e⟩ | ⟨_, _, e⟩ | ⟨_, e⟩ <;> rw [e] <;> refine ⟨rfl, rfl, rfl, rfl, ?_⟩ <;> first | exact Int.le_refl _ | (simp only; omega)
theorem pass_right {a : Alm} {t : Int} (h : right a = true) (hu : a.un ≤ 1000000000) : right (pass a t) = true := by
  have hr := right_iff.1 h
  have hw := wait_pos hr.2.2.2.1 hr.2.2.2.2.1
  refine right_iff.2 ?_
  rcases pass_cases t h with ⟨_, _, _, e⟩ | ⟨_, _, _, e⟩ | ⟨_, _, e⟩ | ⟨_, e⟩ <;> rw [e] <;> refine ⟨hr.1, ?_⟩ <;> (try simp only) <;> omega
/-- Behind a Pass nothing is due. -/
theorem pass_due {a : Alm} (t : Int) (h : right a = true) : ¬ due (pass a t) t := by
  unfold due
  rcases pass_cases t h with ⟨_, _, _, e⟩ | ⟨_, _, _, e⟩ | ⟨_, _, e⟩ | ⟨hd, e⟩
  · rw [e]; simp
  · rw [e]; simp; omega
  · rw [e]; simp
  · rw [e]; exact hd
theorem pass_still {a : Alm} {t : Int} (h : ¬ due a t) : pass a t = a := by
  cases hr : right a
  · exact pass_wrong t hr
  · unfold due at h
    rcases pass_cases t hr with ⟨h4, hu, _⟩ | ⟨h4, hu, _⟩ | ⟨h1, hu, _⟩ | ⟨_, e⟩
    · exact absurd ⟨Or.inl h4, hu⟩ h
    · exact absurd ⟨Or.inl h4, hu⟩ h
    · exact absurd ⟨Or.inr h1, hu⟩ h
    · exact e
theorem pass_again (a : Alm) (t : Int) : pass (pass a t) t = pass a t := by
  cases hr : right a
  · rw [pass_wrong t hr, pass_wrong t hr]
  · exact pass_still (pass_due t hr)
/-- Time till one time, and then till a later one, is as time till that. -/
theorem pass_twoR {a : Alm} {t t' : Int} (ht : t ≤ t') (hb0 : right a = true → right (pass a t) = true) : pass (pass a t) t' = pass a t' := by
  cases hr : right a
  · rw [pass_wrong t hr]
  · have hb := hb0 hr
    rcases pass_cases t hr with ⟨h4, h1, h2, e⟩ | ⟨h4, h1, h2, e⟩ | ⟨h4, h1, e⟩ | ⟨hd, e⟩
    · rw [pass_still (a := pass a t) (by rw [e]; unfold due; simp), e]
      rcases pass_cases t' hr with ⟨_, _, _, e'⟩ | ⟨_, _, h3, e'⟩ | ⟨h5, _, e'⟩ | ⟨hd', e'⟩
      · rw [e']
      · omega
      · omega
      · unfold due at hd'; omega
    · rw [e] at hb
      rw [e]
      rcases pass_cases t' hb with ⟨h5, _⟩ | ⟨h5, _⟩ | ⟨_, h6, e2⟩ | ⟨hd2, e2⟩
      · simp at h5
      · simp at h5
      · rw [e2]
        simp only at h6 ⊢
        rcases pass_cases t' hr with ⟨_, _, _, e'⟩ | ⟨_, _, h3, e'⟩ | ⟨h5, _, e'⟩ | ⟨hd', e'⟩
        · rw [e']
        · omega
        · omega
        · unfold due at hd'; omega
      · rw [e2]
        unfold due at hd2
        simp at hd2
        rcases pass_cases t' hr with ⟨_, _, h3, e'⟩ | ⟨_, _, h3, e'⟩ | ⟨h5, _, e'⟩ | ⟨hd', e'⟩
        · omega
        · rw [e']
        · omega
        · unfold due at hd'; omega
    · rw [pass_still (a := pass a t) (by rw [e]; unfold due; simp), e]
      rcases pass_cases t' hr with ⟨h5, _, _, e'⟩ | ⟨h5, _, h3, e'⟩ | ⟨h5, _, e'⟩ | ⟨hd', e'⟩
      · omega
      · omega
      · rw [e']
      · unfold due at hd'; omega
    · rw [e]
theorem pass_two {a : Alm} {t t' : Int} (ht : t ≤ t') (hu : a.un ≤ 1000000000) : pass (pass a t) t' = pass a t' := pass_twoR ht (fun hr => pass_right hr hu)
/-- Behind a Pass neither ESCALATE nor WAKE can be done. -/
theorem due_two {a : Alm} {t s : Int} (h : right a = true) (hs : s ≤ t) : doE (pass a t) 2 s 0 ≠ 0 ∧ doE (pass a t) 6 s 0 ≠ 0 := by
  have hd := pass_due t h
  unfold due at hd
  refine ⟨fun e => ?_, fun e => ?_⟩
  · obtain ⟨_, _, _, _, ho, hu⟩ := doE_iff.1 e
    have := ok_two ho
    omega
  · obtain ⟨_, _, _, _, ho, hu⟩ := doE_iff.1 e
    have := ok_six ho
    omega
/-- Raised twice at one time it is as raised once with the more urgent one of both. -/
theorem raise_twice {a : Alm} {p q t : Int} (h : raiseE a p t = 0) (h' : raiseE (raise a p t) q t = 0) : raiseE a (min p q) t = 0 ∧ raise (raise a p t) q t = raise a (min p q) t := by
  obtain ⟨hr, hp, ht, hs⟩ := raiseE_iff.1 h
  obtain ⟨_, hq, _, _⟩ := raiseE_iff.1 h'
  have h3 : raiseE a (min p q) t = 0 := raiseE_iff.2 ⟨hr, by omega, ht, hs⟩
  refine ⟨h3, ?_⟩
  have hr' := right_iff.1 hr
  have e1 : raise a p t = raiseOk a p t := by unfold raise; rw [if_pos h]
  have e2 : raise a (min p q) t = raiseOk a (min p q) t := by unfold raise; rw [if_pos h3]
  have e3 : raise (raise a p t) q t = raiseOk (raise a p t) q t := by show (if raiseE (raise a p t) q t = 0 then raiseOk (raise a p t) q t else zero) = _; rw [if_pos h']
  rw [e3, e2, e1]
  have w1 := wait_bounds (min a.pr p)
  have w2 := wait_bounds (min a.pr (min p q))
  have hm : min (min a.pr p) q = min a.pr (min p q) := by omega
  have mono := wait_mono (p := min a.pr (min p q)) (q := min a.pr p) (by omega) (by omega) (by omega)
  by_cases h3 : a.ph = 3
  · have hA : raiseOk a p t = ⟨a.b, a.c, 1, min a.pr p, t, t + wait (min a.pr p)⟩ := by unfold raiseOk; rw [if_pos h3]
    have hC : raiseOk a (min p q) t = ⟨a.b, a.c, 1, min a.pr (min p q), t, t + wait (min a.pr (min p q))⟩ := by unfold raiseOk; rw [if_pos h3]
    rw [hA, hC]
    unfold raiseOk
    simp only [hm]
    rw [if_neg (by decide)]
    by_cases hne : min a.pr (min p q) = min a.pr p
    · rw [if_neg (by simp [hne])]
      simp [hne]
    · rw [if_pos ⟨by trivial, hne⟩]
      simp only [Alm.mk.injEq, true_and]
      omega
  · by_cases h1 : a.ph = 1
    · have hU : raiseOk a p t = ⟨a.b, a.c, a.ph, min a.pr p, a.si, if min a.pr p ≠ a.pr then max a.si (min a.un (t + wait (min a.pr p))) else a.un⟩ := by
        unfold raiseOk; rw [if_neg h3]
        by_cases hp : min a.pr p ≠ a.pr
        · rw [if_pos ⟨h1, hp⟩, if_pos hp]
        · rw [if_neg (fun h => hp h.2), if_neg hp]
      have hC : raiseOk a (min p q) t = ⟨a.b, a.c, a.ph, min a.pr (min p q), a.si, if min a.pr (min p q) ≠ a.pr then max a.si (min a.un (t + wait (min a.pr (min p q)))) else a.un⟩ := by
        unfold raiseOk; rw [if_neg h3]
        by_cases hp : min a.pr (min p q) ≠ a.pr
        · rw [if_pos ⟨h1, hp⟩, if_pos hp]
        · rw [if_neg (fun h => hp h.2), if_neg hp]
      rw [hU, hC]
      unfold raiseOk
      simp only [hm]
      rw [if_neg h3]
      by_cases hne : min a.pr (min p q) = min a.pr p
      · rw [if_neg (fun h => h.2 hne)]
        simp only [hne]
      · rw [if_pos ⟨h1, hne⟩]
        simp only [Alm.mk.injEq, true_and]
        rw [if_pos (show min a.pr (min p q) ≠ a.pr by omega)]
        split <;> omega
    · have hU : raiseOk a p t = ⟨a.b, a.c, a.ph, min a.pr p, a.si, a.un⟩ := by unfold raiseOk; rw [if_neg h3, if_neg (fun h => h1 h.1)]
      have hC : raiseOk a (min p q) t = ⟨a.b, a.c, a.ph, min a.pr (min p q), a.si, a.un⟩ := by unfold raiseOk; rw [if_neg h3, if_neg (fun h => h1 h.1)]
      rw [hU, hC]
      unfold raiseOk
      simp only [hm]
      rw [if_neg h3, if_neg (fun h => h1 h.1)]
end Am
end Go.Proofs.YtplpadblhjdpcaaGreat

namespace Go.Proofs.YtplpadblhjdpcaaGreat
set_option maxRecDepth 10000

/-- A board. -/
structure Brd where
  most : Int
  now : Int
  als : List Alm

namespace Bd
def lessA (a b : Alm) : Bool := Sp.less a.b a.c b.b b.c
def atS (b c : Int) (a : Alm) : Bool := a.b == b && a.c == c
theorem lessA_iff {a b : Alm} : lessA a b = true ↔ a.b < b.b ∨ (a.b = b.b ∧ a.c < b.c) := Sp.less_iff
theorem atS_iff {b c : Int} {a : Alm} : atS b c a = true ↔ a.b = b ∧ a.c = c := by simp [atS]
theorem less_trans {a b c : Alm} (h1 : lessA a b = true) (h2 : lessA b c = true) : lessA a c = true := by
  rw [lessA_iff] at *; omega
theorem less_not {a b : Alm} (h : lessA a b = true) : lessA b a = false := by
  rw [← Bool.not_eq_true, lessA_iff]; rw [lessA_iff] at h; omega
theorem less_self (a : Alm) : lessA a a = false := by rw [← Bool.not_eq_true, lessA_iff]; omega
/-- Neither less nor at its spot: behind it. -/
theorem less_of {x a : Alm} (h1 : ¬ lessA x a = true) (h2 : ¬ atS a.b a.c x = true) : lessA a x = true := by
  rw [lessA_iff] at *; rw [atS_iff] at h2; omega
theorem less_at {x a y : Alm} (h : atS a.b a.c x = true) (h2 : lessA x y = true) : lessA a y = true := by
  rw [lessA_iff] at *; rw [atS_iff] at h; omega
theorem at_less {x a : Alm} (h : lessA x a = true) : atS a.b a.c x = false := by
  rw [← Bool.not_eq_true, atS_iff]; rw [lessA_iff] at h; omega
theorem at_less' {x a : Alm} (h : lessA a x = true) : atS a.b a.c x = false := by
  rw [← Bool.not_eq_true, atS_iff]; rw [lessA_iff] at h; omega

/-- May an alarm be on a board of this time? -/
def may (n : Int) (a : Alm) : Bool := Am.right a && decide (a.si ≤ n)
def rising : List Alm → Bool
  | a :: b :: l => lessA a b && rising (b :: l)
  | _ => true
def rows (n : Int) (ls : List Alm) : Bool := ls.all (may n) && rising ls
def isB (m n : Int) (ls : List Alm) : Bool := decide (1 ≤ m) && decide (m ≤ 200) && Am.isT n && decide ((ls.length : Int) ≤ m) && rows n ls

theorem rising_iff : ∀ ls : List Alm, rising ls = true ↔ ls.Pairwise (fun a b => lessA a b = true)
  | [] => by simp [rising]
  | [a] => by simp [rising]
  | a :: b :: l => by
    have ih := rising_iff (b :: l)
    unfold rising
    rw [Bool.and_eq_true, ih, List.pairwise_cons (a := a)]
    constructor
    · rintro ⟨h1, h2⟩
      refine ⟨fun x hx => ?_, h2⟩
      rcases List.mem_cons.1 hx with rfl | hx
      · exact h1
      · exact less_trans h1 ((List.pairwise_cons.1 h2).1 x hx)
    · rintro ⟨h1, h2⟩
      exact ⟨h1 b (by simp), h2⟩
theorem rows_iff {n : Int} {ls : List Alm} : rows n ls = true ↔ (∀ a ∈ ls, Am.right a = true ∧ a.si ≤ n) ∧ ls.Pairwise (fun a b => lessA a b = true) := by
  unfold rows
  rw [Bool.and_eq_true, rising_iff, List.all_eq_true]
  simp [may]
theorem isB_iff {m n : Int} {ls : List Alm} : isB m n ls = true ↔ (1 ≤ m ∧ m ≤ 200) ∧ (0 ≤ n ∧ n ≤ 1000000000) ∧ (ls.length : Int) ≤ m ∧ rows n ls = true := by
  unfold isB
  simp only [Bool.and_eq_true, decide_eq_true_eq, Am.isT_iff]
  constructor
  · rintro ⟨⟨⟨⟨h1, h2⟩, h3⟩, h4⟩, h5⟩; exact ⟨⟨h1, h2⟩, h3, h4, h5⟩
  · rintro ⟨⟨h1, h2⟩, h3, h4, h5⟩; exact ⟨⟨⟨⟨h1, h2⟩, h3⟩, h4⟩, h5⟩

/-! ### get, put, drop -/
def getA (b c : Int) : List Alm → Alm × Bool
  | [] => (Am.zero, false)
  | x :: l => if atS b c x then (x, true) else getA b c l
def has (b c : Int) (ls : List Alm) : Bool := (getA b c ls).2
def putL (a : Alm) : List Alm → List Alm
  | [] => [a]
  | x :: l => if lessA x a then x :: putL a l else if atS a.b a.c x then a :: l else a :: x :: l
def putE (m n : Int) (ls : List Alm) (a : Alm) : Int := if !isB m n ls || !Am.right a || decide (n < a.si) then 1 else if !has a.b a.c ls && decide (m ≤ (ls.length : Int)) then 81 else 0
def put (m n : Int) (ls : List Alm) (a : Alm) : Brd := if putE m n ls a = 0 then ⟨m, n, putL a ls⟩ else ⟨0, 0, []⟩
def dropL (b c : Int) (ls : List Alm) : List Alm := ls.filter (fun x => !atS b c x)
def dropE (m n : Int) (ls : List Alm) (b c : Int) : Int := if !isB m n ls then 1 else if has b c ls then 0 else 80
def drop (m n : Int) (ls : List Alm) (b c : Int) : Brd := if dropE m n ls b c = 0 then ⟨m, n, dropL b c ls⟩ else ⟨0, 0, []⟩
def passL (t : Int) (ls : List Alm) : List Alm := ls.map (fun a => Am.pass a t)
def passE (m n : Int) (ls : List Alm) (t : Int) : Int := if !isB m n ls || !Am.isT t then 1 else if t < n then 62 else if isB m t (passL t ls) then 0 else 1
def pass (m n : Int) (ls : List Alm) (t : Int) : Brd := if passE m n ls t = 0 then ⟨m, t, passL t ls⟩ else ⟨0, 0, []⟩
def ofL (beds : List Int) (ls : List Alm) : List Alm := ls.filter (fun x => beds.any (fun k => k == x.b))
def newE (m : Int) : Int := if m < 1 ∨ 200 < m then 1 else 0
def new (m : Int) : Brd := if newE m = 0 then ⟨m, 0, []⟩ else ⟨0, 0, []⟩

theorem mem_drop {b c : Int} {ls : List Alm} {x : Alm} (h : x ∈ dropL b c ls) : x ∈ ls := (List.mem_filter.1 h).1
theorem getA_has {b c : Int} : ∀ {ls : List Alm}, has b c ls = false → getA b c ls = (Am.zero, false) ∧ ∀ x ∈ ls, atS b c x = false
  | [], _ => ⟨rfl, fun _ h => nomatch h⟩
  | x :: l, h => by
    unfold has getA at h
    by_cases hx : atS b c x = true
    · rw [if_pos hx] at h; cases h
    · rw [if_neg hx] at h
      have ih := getA_has (ls := l) h
      refine ⟨by unfold getA; rw [if_neg hx]; exact ih.1, fun y hy => ?_⟩
      rcases List.mem_cons.1 hy with rfl | hy
      · simpa using hx
      · exact ih.2 y hy
theorem getA_put (a : Alm) : ∀ ls : List Alm, getA a.b a.c (putL a ls) = (a, true)
  | [] => by simp [putL, getA, atS]
  | x :: l => by
    unfold putL
    split
    · rename_i h
      unfold getA
      rw [at_less h]
      exact getA_put a l
    · split <;> simp [getA, atS]
theorem getA_other {a : Alm} {b c : Int} (h : ¬ (b = a.b ∧ c = a.c)) : ∀ ls : List Alm, getA b c (putL a ls) = getA b c ls
  | [] => by
    have : atS b c a = false := by rw [← Bool.not_eq_true, atS_iff]; omega
    simp [putL, getA, this]
  | x :: l => by
    have ha : atS b c a = false := by rw [← Bool.not_eq_true, atS_iff]; omega
    unfold putL
    split
    · unfold getA
      rw [getA_other h l]
    · split
      · rename_i hx
        have hx2 : atS b c x = false := by rw [← Bool.not_eq_true, atS_iff]; rw [atS_iff] at hx; omega
        simp [getA, ha, hx2]
      · simp [getA, ha]
theorem drop_put (a : Alm) : ∀ ls : List Alm, dropL a.b a.c (putL a ls) = dropL a.b a.c ls
  | [] => by simp [putL, dropL, atS]
  | x :: l => by
    have ih := drop_put a l
    have ha : atS a.b a.c a = true := by rw [atS_iff]; exact ⟨rfl, rfl⟩
    unfold putL
    split
    · unfold dropL at ih ⊢
      rw [List.filter_cons, List.filter_cons, ih]
    · split
      · rename_i hx
        simp [dropL, ha, hx]
      · simp [dropL, ha]
theorem drop_none {b c : Int} {ls : List Alm} (h : ∀ x ∈ ls, atS b c x = false) : dropL b c ls = ls := by
  unfold dropL
  exact List.filter_eq_self.2 (fun x hx => by simp [h x hx])
/-- Behind what is less, all are behind. -/
theorem none_behind {a x : Alm} {l : List Alm} (h : lessA a x = true) (hp : (x :: l).Pairwise (fun a b => lessA a b = true)) : ∀ y ∈ x :: l, atS a.b a.c y = false := by
  intro y hy
  rcases List.mem_cons.1 hy with rfl | hy
  · exact at_less' h
  · exact at_less' (less_trans h ((List.pairwise_cons.1 hp).1 y hy))
theorem none_after {a x : Alm} {l : List Alm} (h : atS a.b a.c x = true) (hp : (x :: l).Pairwise (fun a b => lessA a b = true)) : ∀ y ∈ l, atS a.b a.c y = false :=
  fun y hy => at_less' (less_at h ((List.pairwise_cons.1 hp).1 y hy))
theorem has_none {b c : Int} {ls : List Alm} (h : ∀ x ∈ ls, atS b c x = false) : has b c ls = false := by
  induction ls with
  | nil => rfl
  | cons x l ih =>
    unfold has getA
    rw [h x (by simp)]
    exact ih (fun y hy => h y (by simp [hy]))
theorem put_perm {a : Alm} : ∀ {ls : List Alm}, ls.Pairwise (fun a b => lessA a b = true) → (putL a ls).Perm (a :: dropL a.b a.c ls)
  | [], _ => List.Perm.refl _
  | x :: l, hp => by
    have ih := put_perm (a := a) (List.pairwise_cons.1 hp).2
    unfold putL
    split
    · rename_i h
      have e : dropL a.b a.c (x :: l) = x :: dropL a.b a.c l := by unfold dropL; rw [List.filter_cons, at_less h]; rfl
      rw [e]
      exact (ih.cons x).trans (List.Perm.swap a x _)
    · split
      · rename_i hx
        have e : dropL a.b a.c (x :: l) = l := by
          have := drop_none (none_after hx hp)
          unfold dropL at this ⊢
          rw [List.filter_cons, hx]
          exact this
        rw [e]
      · rename_i h1 h2
        rw [drop_none (none_behind (less_of h1 h2) hp)]
theorem put_len {a : Alm} : ∀ {ls : List Alm}, ls.Pairwise (fun a b => lessA a b = true) → (putL a ls).length = ls.length + (if has a.b a.c ls then 0 else 1)
  | [], _ => rfl
  | x :: l, hp => by
    have ih := put_len (a := a) (List.pairwise_cons.1 hp).2
    unfold putL
    split
    · rename_i h
      have e : has a.b a.c (x :: l) = has a.b a.c l := by unfold has; rw [getA, at_less h]; rfl
      rw [e, List.length_cons, ih, List.length_cons]
      omega
    · split
      · rename_i hx
        have e : has a.b a.c (x :: l) = true := by unfold has getA; rw [hx]; rfl
        rw [e]; simp
      · rename_i h1 h2
        rw [has_none (none_behind (less_of h1 h2) hp)]; simp
theorem put_rising {a : Alm} : ∀ {ls : List Alm}, ls.Pairwise (fun a b => lessA a b = true) → (putL a ls).Pairwise (fun a b => lessA a b = true)
  | [], _ => List.pairwise_singleton _ _
  | x :: l, hp => by
    have hp' := List.pairwise_cons.1 hp
    have ih := put_rising (a := a) hp'.2
    unfold putL
    split
    · rename_i h
      refine List.pairwise_cons.2 ⟨fun y hy => ?_, ih⟩
      rcases List.mem_cons.1 ((put_perm hp'.2).mem_iff.1 hy) with rfl | hy
      · exact h
      · exact hp'.1 y (mem_drop hy)
    · split
      · rename_i hx
        exact List.pairwise_cons.2 ⟨fun y hy => less_at hx (hp'.1 y hy), hp'.2⟩
      · rename_i h1 h2
        have h := less_of h1 h2
        refine List.pairwise_cons.2 ⟨fun y hy => ?_, hp⟩
        rcases List.mem_cons.1 hy with rfl | hy
        · exact h
        · exact less_trans h (hp'.1 y hy)
theorem drop_rows {n : Int} {ls : List Alm} (b c : Int) (h : rows n ls = true) : rows n (dropL b c ls) = true := by
  rw [rows_iff] at h ⊢
  exact ⟨fun a ha => h.1 a (mem_drop ha), h.2.sublist List.filter_sublist⟩
theorem put_rows {n : Int} {ls : List Alm} {a : Alm} (h : rows n ls = true) (hr : Am.right a = true) (hs : a.si ≤ n) : rows n (putL a ls) = true := by
  rw [rows_iff] at h ⊢
  refine ⟨fun x hx => ?_, put_rising h.2⟩
  rcases List.mem_cons.1 ((put_perm h.2).mem_iff.1 hx) with rfl | hx
  · exact ⟨hr, hs⟩
  · exact h.1 x (mem_drop hx)
theorem putE_iff {m n : Int} {ls : List Alm} {a : Alm} : putE m n ls a = 0 ↔ isB m n ls = true ∧ Am.right a = true ∧ a.si ≤ n ∧ (has a.b a.c ls = true ∨ (ls.length : Int) < m) := by
  unfold putE
  cases isB m n ls <;> cases Am.right a <;> cases has a.b a.c ls <;> by_cases h : n < a.si <;> by_cases h2 : m ≤ (ls.length : Int) <;> simp [h, h2] <;> omega
theorem put_isB {m n : Int} {ls : List Alm} {a : Alm} (h : putE m n ls a = 0) : isB m n (putL a ls) = true := by
  rw [putE_iff] at h
  obtain ⟨hb, hr, hs, hf⟩ := h
  have hb' := isB_iff.1 hb
  refine isB_iff.2 ⟨hb'.1, hb'.2.1, ?_, put_rows hb'.2.2.2 hr hs⟩
  rw [put_len (rows_iff.1 hb'.2.2.2).2]
  rcases hf with hf | hf
  · rw [hf]; simp; exact hb'.2.2.1
  · have := hb'.2.2.1
    split <;> omega
theorem drop_isB {m n : Int} {ls : List Alm} (b c : Int) (h : isB m n ls = true) : isB m n (dropL b c ls) = true := by
  have hb := isB_iff.1 h
  refine isB_iff.2 ⟨hb.1, hb.2.1, ?_, drop_rows b c hb.2.2.2⟩
  have : (dropL b c ls).length ≤ ls.length := List.length_filter_le _ _
  omega
theorem has_other {a : Alm} {b c : Int} (h : ¬ (b = a.b ∧ c = a.c)) (ls : List Alm) : has b c (putL a ls) = has b c ls := by unfold has; rw [getA_other h ls]
/-- Two of unlike spots, in either order. -/
theorem put_comm {x y : Alm} {ls : List Alm} (hp : ls.Pairwise (fun a b => lessA a b = true)) (h : ¬ (x.b = y.b ∧ x.c = y.c)) : putL y (putL x ls) = putL x (putL y ls) := by
  have key : ∀ {x y : Alm}, ¬ (x.b = y.b ∧ x.c = y.c) → (putL y (putL x ls)).Perm (y :: x :: dropL y.b y.c (dropL x.b x.c ls)) := by
    intro x y h
    refine (put_perm (put_rising hp)).trans (List.Perm.cons y ?_)
    have hx : atS y.b y.c x = false := by rw [← Bool.not_eq_true, atS_iff]; omega
    have h2 : (dropL y.b y.c (putL x ls)).Perm (dropL y.b y.c (x :: dropL x.b x.c ls)) := (put_perm hp).filter _
    have e : dropL y.b y.c (x :: dropL x.b x.c ls) = x :: dropL y.b y.c (dropL x.b x.c ls) := by unfold dropL; rw [List.filter_cons, hx]; rfl
    rw [e] at h2
    exact h2
  have ecomm : dropL y.b y.c (dropL x.b x.c ls) = dropL x.b x.c (dropL y.b y.c ls) := by
    unfold dropL
    rw [List.filter_filter, List.filter_filter]
    congr 1
    funext z
    exact Bool.and_comm _ _
  have p1 := key h
  have p2 := key (x := y) (y := x) (by omega)
  refine List.Perm.eq_of_pairwise (fun a b _ _ h1 h2 => ?_) (put_rising (put_rising hp)) (put_rising (put_rising hp)) (p1.trans ?_)
  · have := less_not h1
    rw [this] at h2
    cases h2
  · rw [ecomm]
    exact (List.Perm.swap x y _).trans p2.symm
/-- May both be put, in this order? Then in the other one too. -/
theorem both_iff {m n : Int} {ls : List Alm} {x y : Alm} (h : ¬ (x.b = y.b ∧ x.c = y.c)) : (putE m n ls x = 0 ∧ putE m n (putL x ls) y = 0) ↔ (putE m n ls y = 0 ∧ putE m n (putL y ls) x = 0) := by
  have key : ∀ {x y : Alm}, ¬ (x.b = y.b ∧ x.c = y.c) → (putE m n ls x = 0 ∧ putE m n (putL x ls) y = 0) → (putE m n ls y = 0 ∧ putE m n (putL y ls) x = 0) := by
    rintro x y h ⟨h1, h2⟩
    have hx := putE_iff.1 h1
    have hy := putE_iff.1 h2
    have hp := (rows_iff.1 (isB_iff.1 hx.1).2.2.2).2
    rw [has_other (a := x) (b := y.b) (c := y.c) (by omega), put_len hp] at hy
    have g1 : putE m n ls y = 0 := by
      refine putE_iff.2 ⟨hx.1, hy.2.1, hy.2.2.1, ?_⟩
      rcases hy.2.2.2 with h3 | h3
      · exact Or.inl h3
      · right; omega
    refine ⟨g1, putE_iff.2 ⟨put_isB g1, hx.2.1, hx.2.2.1, ?_⟩⟩
    rw [has_other (a := y) (b := x.b) (c := x.c) h, put_len hp]
    cases e1 : has x.b x.c ls
    · right
      rw [e1] at hy
      have h4 : (ls.length : Int) < m := by
        rcases hx.2.2.2 with h4 | h4
        · rw [e1] at h4; cases h4
        · exact h4
      cases e2 : has y.b y.c ls
      · rcases hy.2.2.2 with h3 | h3
        · rw [e2] at h3; cases h3
        · simpa using h3
      · simpa using h4
    · exact Or.inl rfl
  exact ⟨key h, key (by omega)⟩

/-! ### time -/
theorem pass_len (t : Int) (ls : List Alm) : (passL t ls).length = ls.length := by unfold passL; rw [List.length_map]
theorem passE_iff {m n : Int} {ls : List Alm} {t : Int} : passE m n ls t = 0 ↔ isB m n ls = true ∧ (0 ≤ t ∧ t ≤ 1000000000) ∧ n ≤ t ∧ isB m t (passL t ls) = true := by
  unfold passE
  rw [← Am.isT_iff]
  cases isB m n ls <;> cases Am.isT t <;> cases isB m t (passL t ls) <;> by_cases h : t < n <;> simp [h] <;> omega
theorem passE_vals {m n : Int} {ls : List Alm} {t : Int} : passE m n ls t = 0 ∨ passE m n ls t = 1 ∨ passE m n ls t = 62 := by
  unfold passE
  split
  · exact Or.inr (Or.inl rfl)
  · split
    · exact Or.inr (Or.inr rfl)
    · split
      · exact Or.inl rfl
      · exact Or.inr (Or.inl rfl)
/-- Time till one time, and then till a later one. -/
theorem pass_pass {m n : Int} {ls : List Alm} {t t' : Int} (h : passE m n ls t = 0) (h' : passE m t (passL t ls) t' = 0) : passL t' (passL t ls) = passL t' ls ∧ passE m n ls t' = 0 := by
  have h1 := passE_iff.1 h
  have h2 := passE_iff.1 h'
  have hr := (rows_iff.1 (isB_iff.1 h1.2.2.2).2.2.2).1
  have e : passL t' (passL t ls) = passL t' ls := by
    unfold passL
    rw [List.map_map]
    refine List.map_congr_left fun a ha => ?_
    exact Am.pass_twoR h2.2.2.1 (fun _ => (hr _ (List.mem_map.2 ⟨a, ha, rfl⟩)).1)
  refine ⟨e, passE_iff.2 ⟨h1.1, h2.2.1, by omega, ?_⟩⟩
  rw [← e]
  exact h2.2.2.2
theorem getA_at : ∀ {ls : List Alm}, ls.Pairwise (fun a b => lessA a b = true) → ∀ i (h : i < ls.length), getA ls[i].b ls[i].c ls = (ls[i], true)
  | x :: l, hp, 0, _ => by
    have : atS x.b x.c x = true := by rw [atS_iff]; exact ⟨rfl, rfl⟩
    simp [getA, this]
  | x :: l, hp, i + 1, h => by
    have hp' := List.pairwise_cons.1 hp
    have hi : i < l.length := by simpa using h
    have h1 : atS l[i].b l[i].c x = false := at_less (hp'.1 _ (List.getElem_mem hi))
    simp only [List.getElem_cons_succ]
    unfold getA
    rw [h1]
    exact getA_at hp'.2 i hi
theorem pass_get {m n : Int} {ls : List Alm} {t : Int} (h : passE m n ls t = 0) (i : Nat) (hi : i < ls.length) : getA ls[i].b ls[i].c (passL t ls) = (Am.pass ls[i] t, true) := by
  have h1 := passE_iff.1 h
  have hp := (rows_iff.1 (isB_iff.1 h1.2.2.2).2.2.2).2
  have hi' : i < (passL t ls).length := by rw [pass_len]; exact hi
  have hg := getA_at hp i hi'
  have e : (passL t ls)[i] = Am.pass ls[i] t := by simp [passL]
  rw [e, (Am.pass_keeps ls[i] t).1, (Am.pass_keeps ls[i] t).2.1] at hg
  exact hg
theorem zero_isB : isB 0 0 [] = false := by decide
end Bd
end Go.Proofs.YtplpadblhjdpcaaGreat

namespace Go.Proofs.YtplpadblhjdpcaaGreat
set_option maxRecDepth 10000
open Go.RowKit

/-- An alarm's cells. -/
def sixV (a : Alm) : Array Value := #[.int .i64 a.b, .int .i64 a.c, .int .i64 a.ph, .int .i64 a.pr, .int .i64 a.si, .int .i64 a.un]
theorem six_one (a : Alm) : (sixV a).all (·.oneCell') = true := by simp [sixV, Value.oneCell']
/-- An alarm lies in the block k. -/
structure Six (w : World) (k : Nat) (a : Alm) : Prop where
  blk : ∃ t, w.heap[k]? = some (.cells (sixV a) t (0, 0))
theorem Six.lt {w : World} {k : Nat} {a : Alm} (h : Six w k a) : k < w.heap.size := by obtain ⟨t, h⟩ := h.blk; exact (Array.getElem?_eq_some_iff.1 h).1
theorem Six.c0 {w : World} {k : Nat} {a : Alm} (h : Six w k a) : w.cell? ⟨k, 0, none⟩ = some (.int .i64 a.b) := by obtain ⟨t, hb⟩ := h.blk; simp only [World.cell?, hb]; rfl
theorem Six.c1 {w : World} {k : Nat} {a : Alm} (h : Six w k a) : w.cell? ⟨k, 1, none⟩ = some (.int .i64 a.c) := by obtain ⟨t, hb⟩ := h.blk; simp only [World.cell?, hb]; rfl
theorem Six.c2 {w : World} {k : Nat} {a : Alm} (h : Six w k a) : w.cell? ⟨k, 2, none⟩ = some (.int .i64 a.ph) := by obtain ⟨t, hb⟩ := h.blk; simp only [World.cell?, hb]; rfl
theorem Six.c3 {w : World} {k : Nat} {a : Alm} (h : Six w k a) : w.cell? ⟨k, 3, none⟩ = some (.int .i64 a.pr) := by obtain ⟨t, hb⟩ := h.blk; simp only [World.cell?, hb]; rfl
theorem Six.c4 {w : World} {k : Nat} {a : Alm} (h : Six w k a) : w.cell? ⟨k, 4, none⟩ = some (.int .i64 a.si) := by obtain ⟨t, hb⟩ := h.blk; simp only [World.cell?, hb]; rfl
theorem Six.c5 {w : World} {k : Nat} {a : Alm} (h : Six w k a) : w.cell? ⟨k, 5, none⟩ = some (.int .i64 a.un) := by obtain ⟨t, hb⟩ := h.blk; simp only [World.cell?, hb]; rfl
theorem Six.f {w : World} {k : Nat} {a : Alm} (h : Six w k a) (j : Nat) : w.frozen? ⟨k, j, none⟩ = false := by obtain ⟨t, hb⟩ := h.blk; exact frozen_of_row w k j _ _ hb
theorem Six.new (w : World) (b c ph pr si un : Int) (t : TypeId) : Six (w.alloc (.cells #[.int .i64 b, .int .i64 c, .int .i64 ph, .int .i64 pr, .int .i64 si, .int .i64 un] t)) w.heap.size ⟨b, c, ph, pr, si, un⟩ := ⟨t, heap_alloc_new _ _⟩
theorem Six.new1 (w : World) (o : Obj) (b c ph pr si un : Int) (t : TypeId) : Six ((w.alloc o).alloc (.cells #[.int .i64 b, .int .i64 c, .int .i64 ph, .int .i64 pr, .int .i64 si, .int .i64 un] t)) (w.heap.size + 1) ⟨b, c, ph, pr, si, un⟩ := ⟨t, heap_alloc2_new _ _ _⟩
theorem Six.below {w w' : World} {k : Nat} {a : Alm} (h : Six w k a) (hB : Below w.heap.size w w') : Six w' k a := by
  obtain ⟨t, hb⟩ := h.blk
  exact ⟨t, (hB.block k h.lt).trans hb⟩
theorem Six.alloc {w : World} {k : Nat} {a : Alm} (h : Six w k a) (o : Obj) : Six (w.alloc o) k a := h.below (below_new w o)
theorem Six.other {w : World} {k g j : Nat} {a : Alm} {v : Value} (h : Six w k a) (hne : k ≠ g) : Six (w.setCell ⟨g, j, none⟩ v) k a := by
  obtain ⟨t, hb⟩ := h.blk
  exact ⟨t, (heap_setCell_other w ⟨g, j, none⟩ k v hne).trans hb⟩
theorem Six.sph {w : World} {k : Nat} {a : Alm} (h : Six w k a) (x : Int) : Six (w.setCell ⟨k, 2, none⟩ (.int .i64 x)) k ⟨a.b, a.c, x, a.pr, a.si, a.un⟩ := by obtain ⟨t, hb⟩ := h.blk; exact ⟨t, heap_setCell_same w k 2 _ _ _ hb⟩
theorem Six.spr {w : World} {k : Nat} {a : Alm} (h : Six w k a) (x : Int) : Six (w.setCell ⟨k, 3, none⟩ (.int .i64 x)) k ⟨a.b, a.c, a.ph, x, a.si, a.un⟩ := by obtain ⟨t, hb⟩ := h.blk; exact ⟨t, heap_setCell_same w k 3 _ _ _ hb⟩
theorem Six.ssi {w : World} {k : Nat} {a : Alm} (h : Six w k a) (x : Int) : Six (w.setCell ⟨k, 4, none⟩ (.int .i64 x)) k ⟨a.b, a.c, a.ph, a.pr, x, a.un⟩ := by obtain ⟨t, hb⟩ := h.blk; exact ⟨t, heap_setCell_same w k 4 _ _ _ hb⟩
theorem Six.sun {w : World} {k : Nat} {a : Alm} (h : Six w k a) (x : Int) : Six (w.setCell ⟨k, 5, none⟩ (.int .i64 x)) k ⟨a.b, a.c, a.ph, a.pr, a.si, x⟩ := by obtain ⟨t, hb⟩ := h.blk; exact ⟨t, heap_setCell_same w k 5 _ _ _ hb⟩
end Go.Proofs.YtplpadblhjdpcaaGreat

namespace Go.Proofs.YtplpadblhjdpcaaGreat
set_option maxRecDepth 10000
open Go.RowKit

theorem Tryz.infoAl : (Tryz.prog.info? 38).map (fun i => (i.zero, i.size, i.bytes)) = some (some (.agg #[.int .i64 0, .int .i64 0, .int .i64 0, .int .i64 0, .int .i64 0, .int .i64 0]), 6, 48) := by kernel_rfl

/-- An alarm lies at a place of a block. -/
structure Al6 (w : World) (b o : Nat) (a : Alm) : Prop where
  c0 : w.cell? ⟨b, o, none⟩ = some (.int .i64 a.b)
  c1 : w.cell? ⟨b, o + 1, none⟩ = some (.int .i64 a.c)
  c2 : w.cell? ⟨b, o + 2, none⟩ = some (.int .i64 a.ph)
  c3 : w.cell? ⟨b, o + 3, none⟩ = some (.int .i64 a.pr)
  c4 : w.cell? ⟨b, o + 4, none⟩ = some (.int .i64 a.si)
  c5 : w.cell? ⟨b, o + 5, none⟩ = some (.int .i64 a.un)
/-- The slice at A holds the alarms ls, in blocks below B. -/
def AlmsAt (w : World) (B : Nat) (A : Option Addr) (ls : List Alm) : Prop :=
  ∀ i (h : i < ls.length), ∃ b off, A = some ⟨b, off, none⟩ ∧ b < B ∧ Al6 w b (off + i * 6) ls[i]
theorem Al6.below {w w' : World} {B b o : Nat} {a : Alm} (h : Al6 w b o a) (hb : Below B w w') (hB : b < B) : Al6 w' b o a := by
  have f : ∀ j, w'.cell? ⟨b, j, none⟩ = w.cell? ⟨b, j, none⟩ := fun j => hb.cell (p := ⟨b, j, none⟩) hB
  exact ⟨(f _).trans h.c0, (f _).trans h.c1, (f _).trans h.c2, (f _).trans h.c3, (f _).trans h.c4, (f _).trans h.c5⟩
theorem AlmsAt.below {w w' : World} {B B' : Nat} {A : Option Addr} {ls : List Alm} (h : AlmsAt w B A ls) (hb : Below B' w w') (hB : B ≤ B') : AlmsAt w' B A ls := fun i hi => by
  obtain ⟨b, off, e, hlt, h6⟩ := h i hi
  exact ⟨b, off, e, hlt, h6.below hb (by omega)⟩
theorem AlmsAt.more {w : World} {B B' : Nat} {A : Option Addr} {ls : List Alm} (h : AlmsAt w B A ls) (hB : B ≤ B') : AlmsAt w B' A ls := fun i hi => by
  obtain ⟨b, off, e, hlt, h6⟩ := h i hi
  exact ⟨b, off, e, by omega, h6⟩
theorem AlmsAt.on {w w' : World} {A : Option Addr} {ls : List Alm} (h : AlmsAt w w.heap.size A ls) (hb : Below w.heap.size w w') : AlmsAt w' w'.heap.size A ls := (h.below hb (Nat.le_refl _)).more hb.size
theorem AlmsAt.nil (w : World) (B : Nat) (A : Option Addr) : AlmsAt w B A [] := fun _ hi => absurd hi (Nat.not_lt_zero _)
theorem AlmsAt.none_nil {w : World} {B : Nat} {ls : List Alm} (h : AlmsAt w B none ls) : ls = [] := by
  cases ls with
  | nil => rfl
  | cons z zs => obtain ⟨b, off, h, _⟩ := h 0 (by simp); cases h
/-- A beginning of a row, and what is behind it. -/
theorem AlmsAt.take {w : World} {B : Nat} {A : Option Addr} {ls : List Alm} (h : AlmsAt w B A ls) (k : Nat) : AlmsAt w B A (ls.take k) := fun i hi => by
  have hi' : i < ls.length := by rw [List.length_take] at hi; omega
  obtain ⟨b, off, e, hlt, h6⟩ := h i hi'
  exact ⟨b, off, e, hlt, by rw [List.getElem_take]; exact h6⟩
theorem AlmsAt.drop {w : World} {B b off : Nat} {ls : List Alm} (h : AlmsAt w B (some ⟨b, off, none⟩) ls) (k : Nat) : AlmsAt w B (some ⟨b, off + k * 6, none⟩) (ls.drop k) := fun i hi => by
  have hi' : k + i < ls.length := by rw [List.length_drop] at hi; omega
  obtain ⟨b', off', e, hlt, h6⟩ := h (k + i) hi'
  cases e
  refine ⟨b, off + k * 6, rfl, hlt, ?_⟩
  rw [List.getElem_drop]
  have e : off + (k + i) * 6 = off + k * 6 + i * 6 := by omega
  rw [← e]
  exact h6

/-- Alarms, cell by cell. -/
def flat6 (ls : List Alm) : List Value := ls.flatMap (fun a => [.int .i64 a.b, .int .i64 a.c, .int .i64 a.ph, .int .i64 a.pr, .int .i64 a.si, .int .i64 a.un])
theorem flat6_cons (a : Alm) (ls : List Alm) : flat6 (a :: ls) = .int .i64 a.b :: .int .i64 a.c :: .int .i64 a.ph :: .int .i64 a.pr :: .int .i64 a.si :: .int .i64 a.un :: flat6 ls := rfl
theorem flat6_app (ls ms : List Alm) : flat6 (ls ++ ms) = flat6 ls ++ flat6 ms := by unfold flat6; exact List.flatMap_append
theorem flat6_len : ∀ ls : List Alm, (flat6 ls).length = ls.length * 6
  | [] => rfl
  | a :: ls => by have := flat6_len ls; rw [flat6_cons]; simp only [List.length_cons, this]; omega
theorem flat6_one (ls : List Alm) : ∀ u ∈ flat6 ls, u.oneCell' = true := by
  intro u hu
  simp only [flat6, List.mem_flatMap, List.mem_cons, List.not_mem_nil, or_false] at hu
  obtain ⟨p, _, rfl | rfl | rfl | rfl | rfl | rfl⟩ := hu <;> rfl
theorem flat6_get : ∀ (ls : List Alm) (i : Nat) (h : i < ls.length), (flat6 ls)[i * 6]? = some (.int .i64 ls[i].b) ∧ (flat6 ls)[i * 6 + 1]? = some (.int .i64 ls[i].c) ∧ (flat6 ls)[i * 6 + 2]? = some (.int .i64 ls[i].ph) ∧ (flat6 ls)[i * 6 + 3]? = some (.int .i64 ls[i].pr) ∧ (flat6 ls)[i * 6 + 4]? = some (.int .i64 ls[i].si) ∧ (flat6 ls)[i * 6 + 5]? = some (.int .i64 ls[i].un)
  | a :: ls, 0, _ => ⟨rfl, rfl, rfl, rfl, rfl, rfl⟩
  | a :: ls, i + 1, h => by
    have g := flat6_get ls i (by simpa using h)
    rw [flat6_cons]
    have e1 : (i + 1) * 6 = i * 6 + 1 + 1 + 1 + 1 + 1 + 1 := by omega
    rw [e1]
    refine ⟨?_, ?_, ?_, ?_, ?_, ?_⟩ <;> simp only [List.getElem_cons_succ]
    · simpa using g.1
    · have := g.2.1; simpa [Nat.add_right_comm] using this
    · have := g.2.2.1; simpa [Nat.add_right_comm] using this
    · have := g.2.2.2.1; simpa [Nat.add_right_comm] using this
    · have := g.2.2.2.2.1; simpa [Nat.add_right_comm] using this
    · have := g.2.2.2.2.2; simpa [Nat.add_right_comm] using this
theorem AlmsAt.flat_cells {w : World} {B : Nat} {a : Addr} {ls : List Alm} (h : AlmsAt w B (some a) ls) : ∀ j u, (flat6 ls)[j]? = some u → w.cell? (a.add j) = some u := by
  intro j u hu
  have hj := (List.getElem?_eq_some_iff.1 hu).1
  rw [flat6_len] at hj
  obtain ⟨b, off, ha, _, h6⟩ := h (j / 6) (by omega)
  cases ha
  have g := flat6_get ls (j / 6) (by omega)
  rw [Go.WideShapes.add_plain]
  have hm : j % 6 = 0 ∨ j % 6 = 1 ∨ j % 6 = 2 ∨ j % 6 = 3 ∨ j % 6 = 4 ∨ j % 6 = 5 := by omega
  have fin : ∀ (r : Nat) (v : Value), j / 6 * 6 + r = j → (flat6 ls)[j / 6 * 6 + r]? = some v → w.cell? ⟨b, off + j / 6 * 6 + r, none⟩ = some v → w.cell? ⟨b, off + j, none⟩ = some u := by
    intro r v e h1 h2
    have e2 : off + j / 6 * 6 + r = off + j := by omega
    rw [e2] at h2
    rw [e] at h1
    rw [h2]
    exact h1.symm.trans hu
  rcases hm with hm | hm | hm | hm | hm | hm
  · exact fin 0 _ (by omega) g.1 h6.c0
  · exact fin 1 _ (by omega) g.2.1 h6.c1
  · exact fin 2 _ (by omega) g.2.2.1 h6.c2
  · exact fin 3 _ (by omega) g.2.2.2.1 h6.c3
  · exact fin 4 _ (by omega) g.2.2.2.2.1 h6.c4
  · exact fin 5 _ (by omega) g.2.2.2.2.2 h6.c5

/-- A row of alarms of one's own. -/
def OwnA (w : World) (base : Nat) (v : Value) (ls : List Alm) : Prop := w.ownsRow base 38 6 v ls.length (flat6 ls)
theorem OwnA.slice {w : World} {base : Nat} {v : Value} {ls : List Alm} (h : OwnA w base v ls) : ∃ A cap, v = .slice A ls.length cap ∧ AlmsAt w w.heap.size A ls ∧ (A = none → cap = 0) ∧ ls.length ≤ cap := by
  have h' := h
  unfold OwnA at h
  rcases h.2 with ⟨hv, h0⟩ | ⟨g, cap, cur, hv, _, hg, hcap, _⟩
  · refine ⟨none, 0, by rw [hv, h0], ?_, fun _ => rfl, by omega⟩
    rw [List.length_eq_zero_iff] at h0
    rw [h0]
    exact AlmsAt.nil _ _ _
  · refine ⟨some ⟨g, 0, none⟩, cap, hv, ?_, fun e => (by cases e), hcap⟩
    intro i hi
    have g6 := flat6_get ls i hi
    have hc := fun j u (hu : (flat6 ls)[j]? = some u) => (by have := h.cells (g := g) (by rw [hv]; rfl) _ _ hu; rw [Go.WideShapes.add_plain] at this; exact this : w.cell? ⟨g, 0 + j, none⟩ = some u)
    exact ⟨g, 0, rfl, (Array.getElem?_eq_some_iff.1 hg).1, ⟨hc _ _ g6.1, hc _ _ g6.2.1, hc _ _ g6.2.2.1, hc _ _ g6.2.2.2.1, hc _ _ g6.2.2.2.2.1, hc _ _ g6.2.2.2.2.2⟩⟩
theorem OwnA.below {w W : World} {base : Nat} {v : Value} {ls : List Alm} (h : OwnA w base v ls) (hb : Below w.heap.size w W) : OwnA W base v ls := owns_below h hb
theorem OwnA.lower {w : World} {base base' : Nat} {v : Value} {ls : List Alm} (h : OwnA w base v ls) (hb : base' ≤ base) : OwnA w base' v ls := owns_lower h hb
theorem OwnA.nil (w : World) (base : Nat) : OwnA w base (.slice none 0 0) [] := World.ownsRow_nil w base 38 6

/-- What a call ends with that hands back alarms in memory of their own. -/
def OwnedA (w : World) (ls : List Alm) (e : Ending) (w' : World) : Prop := ∃ v, e = .returned v ∧ OwnA w' w.heap.size v ls ∧ Below w.heap.size w w'

/-- Alarms of one's own, with those of whatever slice behind them. -/
theorem wpList_append_alms {ops : Array Oper} {rest : List Oper} {o : Oper} {a : Act} {w : World} {Q : Exit → Act → World → Prop} (hgd : o.guard = none) (s x : Operand)
    (ho : o.op = .call { callee := .builtin .append, args := #[s, x], argTypes := #[22, 22] })
    (base : Nat) (v : Value) (zs ms : List Alm) (hs : a.eval s = v) (hown : OwnA w base v zs)
    (A : Option Addr) (n cap : Nat) (hx : a.eval x = .slice A n cap) (hn : n = ms.length) (hA : AlmsAt w w.heap.size A ms) (hnil : A = none → cap = 0) (hb : base ≤ w.heap.size) (hl : zs.length + ms.length ≤ 100000)
    (h : ∀ v' w', OwnA w' base v' (zs ++ ms) → w.grownBy w' v.ownBlock → wpList Tryz.prog ops Q rest (a.put o.dst v') w') : wpList Tryz.prog ops Q (o :: rest) a w := by
  obtain ⟨i0, hi, hz0, hz1, hz2⟩ := info_parts Tryz.infoAl
  subst hn
  cases A with
  | none =>
    obtain rfl : cap = 0 := hnil rfl
    obtain rfl : ms = [] := hA.none_nil
    refine wpList_append_own_none hgd s x 22 ho base 38 i0 6 Tryz.underlying22 hi v _ _ hs hown hx ?_
    exact h v w (by rw [List.append_nil]; exact hown) (grown_refl _ _)
  | some ad =>
    refine wpList_append_own _ hgd s x 22 ho base 38 i0 _ 6 48 Tryz.underlying22 hi hz0 hz1 hz2 rfl (by decide) v _ _ hs hown ad ms.length cap (flat6 ms) hx (flat6_len ms) hA.flat_cells (flat6_one ms) (by unfold maxLen; omega) (by omega) hb ?_
    intro v' w' ho' hg _
    exact h v' w' (by unfold OwnA; rw [List.length_append, flat6_app]; exact ho') hg
end Go.Proofs.YtplpadblhjdpcaaGreat

namespace Go.Proofs.YtplpadblhjdpcaaGreat
set_option maxRecDepth 10000
open Go.RowKit


/-- A board's cells. -/
def bdV (m n : Int) (A : Option Addr) (l c : Nat) : Array Value := #[.int .i64 m, .int .i64 n, .slice A l c]
theorem bd_one (m n : Int) (A : Option Addr) (l c : Nat) : (bdV m n A l c).all (·.oneCell') = true := by simp [bdV, Value.oneCell']
/-- Alarms that lie there. -/
def rowF (A : Option Addr) (ls : List Alm) : Fact := ⟨fun w => AlmsAt w w.heap.size A ls, fun _ _ h hb => h.on hb⟩
/-- Alarms of one's own. -/
def ownF (base : Nat) (v : Value) (ls : List Alm) : Fact := ⟨fun w => OwnA w base v ls, fun _ _ h hb => h.below hb⟩
/-- Numbers that lie there. -/
def numF (A : Option Addr) (zs : List Int) : Fact := ⟨fun w => IntsAt w w.heap.size A zs, fun _ _ h hb => h.on hb⟩

/-- What a call ends with that hands back a board of its own, and an error. -/
def GivesB (w : World) (b : Brd) (l : Nat) (er : Int) (e : Ending) (w' : World) : Prop :=
  ∃ A c, e = .returned (.tuple #[.agg #[.int .i64 b.most, .int .i64 b.now, .slice A l c], .int .i64 er]) ∧ OwnA w' w.heap.size (.slice A l c) b.als ∧ Below w.heap.size w w'
theorem OwnA.alms {w : World} {base : Nat} {A : Option Addr} {l c : Nat} {ls : List Alm} (h : OwnA w base (.slice A l c) ls) : AlmsAt w w.heap.size A ls ∧ (A = none → c = 0) := by
  obtain ⟨A', c', e, h1, h2, _⟩ := h.slice
  cases e
  exact ⟨h1, h2⟩
theorem OwnA.len {w : World} {base : Nat} {A : Option Addr} {l c : Nat} {ls : List Alm} (h : OwnA w base (.slice A l c) ls) : l = ls.length := by
  obtain ⟨A', c', e, h1, h2, _⟩ := h.slice
  cases e
  rfl

/-- What is asked of a board that is told. -/
def Told (w : World) (A : Option Addr) (l c : Nat) (ls : List Alm) : Prop := l = ls.length ∧ AlmsAt w w.heap.size A ls ∧ (A = none → c = 0) ∧ l ≤ 1000
end Go.Proofs.YtplpadblhjdpcaaGreat

namespace Go.Proofs.YtplpadblhjdpcaaGreat
set_option maxRecDepth 10000

/-- A turn. -/
structure Trn where
  tm : Int
  b : Int
  c : Int
  ph : Int
deriving DecidableEq

namespace Du
/-! ### order -/
def ahead (x y : Trn) : Bool := if x.tm ≠ y.tm then decide (x.tm < y.tm) else if ¬ (x.b = y.b ∧ x.c = y.c) then Sp.less x.b x.c y.b y.c else decide (x.ph < y.ph)
theorem ahead_iff {x y : Trn} : ahead x y = true ↔ x.tm < y.tm ∨ (x.tm = y.tm ∧ (x.b < y.b ∨ (x.b = y.b ∧ (x.c < y.c ∨ (x.c = y.c ∧ x.ph < y.ph))))) := by
  unfold ahead
  by_cases h1 : x.tm = y.tm
  · rw [if_neg (by simp [h1])]
    by_cases h2 : x.b = y.b ∧ x.c = y.c
    · rw [if_neg (by simp [h2]), decide_eq_true_eq]; omega
    · rw [if_pos h2, Sp.less_iff]; omega
  · rw [if_pos h1, decide_eq_true_eq]; omega
def le (x y : Trn) : Prop := ¬ ahead y x = true
theorem le_iff {x y : Trn} : le x y ↔ x.tm < y.tm ∨ (x.tm = y.tm ∧ (x.b < y.b ∨ (x.b = y.b ∧ (x.c < y.c ∨ (x.c = y.c ∧ x.ph ≤ y.ph))))) := by
  unfold le; rw [ahead_iff]; omega
theorem le_anti {x y : Trn} (h1 : le x y) (h2 : le y x) : x = y := by
  rw [le_iff] at h1 h2
  obtain ⟨a0, a1, a2, a3⟩ := x
  obtain ⟨b0, b1, b2, b3⟩ := y
  simp only at h1 h2
  have e0 : a0 = b0 := by omega
  have e1 : a1 = b1 := by omega
  have e2 : a2 = b2 := by omega
  have e3 : a3 = b3 := by omega
  rw [e0, e1, e2, e3]
theorem le_trans {x y z : Trn} (h1 : le x y) (h2 : le y z) : le x z := by rw [le_iff] at *; omega
theorem le_of_ahead {x y : Trn} (h : ahead x y = true) : le x y := by rw [ahead_iff] at h; rw [le_iff]; omega
theorem le_refl (x : Trn) : le x x := by rw [le_iff]; omega
def ins (x : Trn) : List Trn → List Trn
  | [] => [x]
  | y :: l => if ahead x y then x :: y :: l else y :: ins x l
def order (l : List Trn) : List Trn := l.foldl (fun out x => ins x out) []
def Sorted (l : List Trn) : Prop := l.Pairwise le
theorem ins_perm (x : Trn) : ∀ l, (ins x l).Perm (x :: l)
  | [] => List.Perm.refl _
  | y :: l => by
    unfold ins
    split
    · exact List.Perm.refl _
    · exact ((ins_perm x l).cons y).trans (List.Perm.swap x y l)
theorem ins_sorted (x : Trn) : ∀ l, Sorted l → Sorted (ins x l)
  | [], _ => List.pairwise_singleton _ _
  | y :: l, h => by
    have h' := List.pairwise_cons.1 h
    unfold ins
    split
    · rename_i hx
      refine List.pairwise_cons.2 ⟨fun z hz => ?_, h⟩
      rcases List.mem_cons.1 hz with rfl | hz
      · exact le_of_ahead hx
      · exact le_trans (le_of_ahead hx) (h'.1 z hz)
    · rename_i hx
      refine List.pairwise_cons.2 ⟨fun z hz => ?_, ins_sorted x l h'.2⟩
      rcases List.mem_cons.1 ((ins_perm x l).mem_iff.1 hz) with rfl | hz
      · exact hx
      · exact h'.1 z hz
theorem fold_perm : ∀ (l out : List Trn), (l.foldl (fun out x => ins x out) out).Perm (out ++ l)
  | [], out => by simp
  | x :: l, out => by
    simp only [List.foldl_cons]
    refine (fold_perm l (ins x out)).trans ?_
    refine ((ins_perm x out).append_right l).trans ?_
    exact (List.perm_middle (a := x) (l₁ := out) (l₂ := l)).symm
theorem fold_sorted : ∀ (l out : List Trn), Sorted out → Sorted (l.foldl (fun out x => ins x out) out)
  | [], _, h => h
  | x :: l, out, h => fold_sorted l (ins x out) (ins_sorted x out h)
theorem order_perm (l : List Trn) : (order l).Perm l := by have := fold_perm l []; simpa [order] using this
theorem order_sorted (l : List Trn) : Sorted (order l) := fold_sorted l [] List.Pairwise.nil
theorem sorted_eq {a b : List Trn} (h1 : Sorted a) (h2 : Sorted b) (h : a.Perm b) : a = b := List.Perm.eq_of_pairwise (fun _ _ _ _ => le_anti) h1 h2 h
theorem order_same {a b : List Trn} (h : a.Perm b) : order a = order b := sorted_eq (order_sorted a) (order_sorted b) ((order_perm a).trans (h.trans (order_perm b).symm))
theorem order_again (l : List Trn) : order (order l) = order l := order_same (order_perm l)
theorem order_back (l : List Trn) : order l.reverse = order l := order_same (List.reverse_perm l)
theorem order_len (l : List Trn) : (order l).length = l.length := (order_perm l).length_eq
theorem order_tm {l : List Trn} {i : Nat} (h : i + 1 < (order l).length) : ((order l)[i]'(by omega)).tm ≤ ((order l)[i + 1]'h).tm := by
  have := List.pairwise_iff_getElem.1 (order_sorted l) i (i + 1) (by omega) h (by omega)
  rw [le_iff] at this; omega
theorem ins_at (x : Trn) : ∀ (l : List Trn) (k : Nat), k ≤ l.length → (∀ i (h : i < l.length), i < k → ahead x l[i] = false) → (∀ h : k < l.length, ahead x l[k] = true) → ins x l = l.take k ++ [x] ++ l.drop k
  | [], 0, _, _, _ => rfl
  | y :: l, 0, _, _, h2 => by
    have h := h2 (by simp)
    simp only [List.getElem_cons_zero] at h
    unfold ins
    rw [if_pos h]
    rfl
  | y :: l, k + 1, hk, h1, h2 => by
    have hx := h1 0 (by simp) (by omega)
    simp only [List.getElem_cons_zero] at hx
    unfold ins
    rw [hx, ins_at x l k (by simpa using hk) (fun i h hi => by have := h1 (i + 1) (by simpa using h) (by omega); simpa using this) (fun h => by have := h2 (by simpa using h); simpa using this)]
    rfl
theorem order_take_succ (l : List Trn) (k : Nat) (h : k < l.length) : order (l.take (k + 1)) = ins l[k] (order (l.take k)) := by
  rw [List.take_succ_eq_append_getElem h]; unfold order; rw [List.foldl_append]; rfl

/-! ### the turns that are to come -/
def turnsOf (t : Int) (a : Alm) : List Trn :=
  if a.ph = 4 ∧ a.un ≤ t then ⟨a.un, a.b, a.c, 1⟩ :: (if a.un + Am.wait a.pr ≤ t then [⟨a.un + Am.wait a.pr, a.b, a.c, 2⟩] else [])
  else if a.ph = 1 ∧ a.un ≤ t then [⟨a.un, a.b, a.c, 2⟩] else []
def turnsL (t : Int) (ls : List Alm) : List Trn := ls.flatMap (turnsOf t)
def turnsE (m n : Int) (ls : List Alm) (t : Int) : Int := if !Bd.isB m n ls || !Am.isT t then 1 else if t < n then 62 else 0
def turns (m n : Int) (ls : List Alm) (t : Int) : List Trn := if turnsE m n ls t = 0 then order (turnsL t ls) else []
theorem turnsE_vals {m n : Int} {ls : List Alm} {t : Int} : turnsE m n ls t = 0 ∨ turnsE m n ls t = 1 ∨ turnsE m n ls t = 62 := by
  unfold turnsE
  split
  · exact Or.inr (Or.inl rfl)
  · split
    · exact Or.inr (Or.inr rfl)
    · exact Or.inl rfl
theorem turnsE_iff {m n : Int} {ls : List Alm} {t : Int} : turnsE m n ls t = 0 ↔ Bd.isB m n ls = true ∧ (0 ≤ t ∧ t ≤ 1000000000) ∧ n ≤ t := by
  unfold turnsE
  rw [← Am.isT_iff]
  cases Bd.isB m n ls <;> cases Am.isT t <;> by_cases h : t < n <;> simp [h] <;> omega
theorem turnsOf_len (t : Int) (a : Alm) : (turnsOf t a).length ≤ 2 := by
  unfold turnsOf
  split
  · split <;> simp
  · split <;> simp
theorem turnsL_len (t : Int) : ∀ ls : List Alm, (turnsL t ls).length ≤ 2 * ls.length
  | [] => Nat.le_refl _
  | a :: l => by
    have h1 := turnsL_len t l
    have h2 := turnsOf_len t a
    have e : turnsL t (a :: l) = turnsOf t a ++ turnsL t l := rfl
    rw [e, List.length_append, List.length_cons]; omega
theorem turnsOf_four {t : Int} {a : Alm} (h4 : a.ph = 4) (hu : a.un ≤ t) : turnsOf t a = ⟨a.un, a.b, a.c, 1⟩ :: (if a.un + Am.wait a.pr ≤ t then [⟨a.un + Am.wait a.pr, a.b, a.c, 2⟩] else []) := by
  unfold turnsOf; rw [if_pos ⟨h4, hu⟩]
theorem turnsOf_one {t : Int} {a : Alm} (h1 : a.ph = 1) (hu : a.un ≤ t) : turnsOf t a = [⟨a.un, a.b, a.c, 2⟩] := by
  unfold turnsOf; rw [if_neg (by omega), if_pos ⟨h1, hu⟩]
theorem turnsOf_none {t : Int} {a : Alm} (h : ¬ Am.due a t) : turnsOf t a = [] := by
  unfold Am.due at h; unfold turnsOf; rw [if_neg (by omega), if_neg (by omega)]
/-- An alarm's turns till a later time: those till an earlier one, and those of what it is then. -/
theorem turnsOf_parts {a : Alm} {t t' : Int} (hr : Am.right a = true) (h : t ≤ t') : turnsOf t' a = turnsOf t a ++ turnsOf t' (Am.pass a t) := by
  rcases Am.pass_cases t hr with ⟨h4, hu, hv, e⟩ | ⟨h4, hu, hv, e⟩ | ⟨h1, hu, e⟩ | ⟨hd, e⟩
  · have hv' : a.un + Am.wait a.pr ≤ t' := by omega
    have hn : turnsOf t' (Am.pass a t) = [] := turnsOf_none (by rw [e]; unfold Am.due; simp)
    rw [hn, turnsOf_four h4 (by omega : a.un ≤ t'), turnsOf_four h4 hu, if_pos hv, if_pos hv', List.append_nil]
  · have hv' : ¬ a.un + Am.wait a.pr ≤ t := by omega
    rw [turnsOf_four h4 (by omega : a.un ≤ t'), turnsOf_four h4 hu, if_neg hv', e]
    by_cases hx : a.un + Am.wait a.pr ≤ t'
    · have h1 : turnsOf t' (⟨a.b, a.c, 1, a.pr, a.si, a.un + Am.wait a.pr⟩ : Alm) = [⟨a.un + Am.wait a.pr, a.b, a.c, 2⟩] := turnsOf_one rfl hx
      rw [if_pos hx, h1]; rfl
    · have h1 : turnsOf t' (⟨a.b, a.c, 1, a.pr, a.si, a.un + Am.wait a.pr⟩ : Alm) = [] := turnsOf_none (by unfold Am.due; simp only; omega)
      rw [if_neg hx, h1]; rfl
  · have hn : turnsOf t' (Am.pass a t) = [] := turnsOf_none (by rw [e]; unfold Am.due; simp)
    rw [hn, turnsOf_one h1 (by omega : a.un ≤ t'), turnsOf_one h1 hu, List.append_nil]
  · rw [e, turnsOf_none hd]; rfl
theorem turnsL_parts {ls : List Alm} {t t' : Int} (hr : ∀ a ∈ ls, Am.right a = true) (h : t ≤ t') : (turnsL t' ls).Perm (turnsL t ls ++ turnsL t' (Bd.passL t ls)) := by
  induction ls with
  | nil => exact List.Perm.refl _
  | cons a l ih =>
    have e1 : turnsL t' (a :: l) = turnsOf t' a ++ turnsL t' l := rfl
    have e2 : turnsL t (a :: l) = turnsOf t a ++ turnsL t l := rfl
    have e3 : turnsL t' (Bd.passL t (a :: l)) = turnsOf t' (Am.pass a t) ++ turnsL t' (Bd.passL t l) := rfl
    rw [e1, e2, e3, turnsOf_parts (hr a (by simp)) h]
    have ih' := ih (fun x hx => hr x (by simp [hx]))
    refine (List.Perm.append_left _ ih').trans ?_
    simp only [List.append_assoc]
    refine List.Perm.append_left _ ?_
    rw [← List.append_assoc, ← List.append_assoc]
    exact List.Perm.append_right _ List.perm_append_comm
/-- All together. -/
theorem parts {m n : Int} {ls : List Alm} {t t' : Int} (h : t ≤ t') (h1 : turnsE m n ls t = 0) (h2 : turnsE m n ls t' = 0) (h3 : turnsE m t (Bd.passL t ls) t' = 0) :
    order (turns m n ls t ++ turns m t (Bd.passL t ls) t') = turns m n ls t' ∧ (turns m n ls t ++ turns m t (Bd.passL t ls) t').length = (turns m n ls t').length := by
  have hr := (Bd.rows_iff.1 (Bd.isB_iff.1 (turnsE_iff.1 h1).1).2.2.2).1
  unfold turns
  rw [if_pos h1, if_pos h2, if_pos h3]
  have hp : (order (turnsL t ls) ++ order (turnsL t' (Bd.passL t ls))).Perm (turnsL t' ls) :=
    ((order_perm _).append (order_perm _)).trans (turnsL_parts (fun a ha => (hr a ha).1) h).symm
  exact ⟨order_same hp, (hp.trans (order_perm _).symm).length_eq⟩

/-! ### the first alarm that waits -/
def waits (a : Alm) : Bool := a.ph == 1 || a.ph == 4
def before (x y : Alm) : Bool := decide (x.un < y.un) || (decide (x.un = y.un) && Bd.lessA x y)
def better (o : Option Alm) (x : Alm) : Option Alm := if waits x && (match o with | none => true | some y => before x y) then some x else o
def first (ls : List Alm) : Option Alm := ls.foldl better none
def firstA (ls : List Alm) : Alm := (first ls).getD Am.zero
def firstB (ls : List Alm) : Bool := (first ls).isSome
theorem first_take_succ (ls : List Alm) (k : Nat) (h : k < ls.length) : first (ls.take (k + 1)) = better (first (ls.take k)) ls[k] := by
  rw [List.take_succ_eq_append_getElem h]; unfold first; rw [List.foldl_append]; rfl
theorem before_iff {x y : Alm} : before x y = true ↔ x.un < y.un ∨ (x.un = y.un ∧ (x.b < y.b ∨ (x.b = y.b ∧ x.c < y.c))) := by
  unfold before; rw [Bool.or_eq_true, Bool.and_eq_true, decide_eq_true_eq, decide_eq_true_eq, Bd.lessA_iff]
/-- What the first one is: it waits, it is of the row, and none that waits is ahead of it. -/
def IsFirst (ls : List Alm) : Option Alm → Prop
  | none => ∀ x ∈ ls, waits x = false
  | some y => y ∈ ls ∧ waits y = true ∧ ∀ x ∈ ls, waits x = true → before x y = false
theorem first_is : ∀ (ls pre : List Alm) (o : Option Alm), IsFirst pre o → IsFirst (pre ++ ls) (ls.foldl better o)
  | [], pre, o, h => by rw [List.append_nil]; exact h
  | x :: l, pre, o, h => by
    have key : IsFirst (pre ++ [x]) (better o x) := by
      unfold better
      cases hw : waits x
      · simp only [Bool.false_and, Bool.false_eq_true, if_false]
        cases o with
        | none =>
          intro z hz
          rcases List.mem_append.1 hz with hz | hz
          · exact h z hz
          · obtain rfl : z = x := by simpa using hz
            exact hw
        | some y =>
          refine ⟨List.mem_append_left _ h.1, h.2.1, fun z hz hwz => ?_⟩
          rcases List.mem_append.1 hz with hz | hz
          · exact h.2.2 z hz hwz
          · obtain rfl : z = x := by simpa using hz
            rw [hw] at hwz; cases hwz
      · cases o with
        | none =>
          simp only [Bool.and_self, if_true]
          refine ⟨by simp, hw, fun z hz hwz => ?_⟩
          rcases List.mem_append.1 hz with hz | hz
          · rw [h z hz] at hwz; cases hwz
          · obtain rfl : z = x := by simpa using hz
            rw [← Bool.not_eq_true, before_iff]; omega
        | some y =>
          simp only [Bool.true_and]
          cases hb : before x y
          · simp only [Bool.false_eq_true, if_false]
            refine ⟨List.mem_append_left _ h.1, h.2.1, fun z hz hwz => ?_⟩
            rcases List.mem_append.1 hz with hz | hz
            · exact h.2.2 z hz hwz
            · obtain rfl : z = x := by simpa using hz
              exact hb
          · simp only [if_true]
            refine ⟨by simp, hw, fun z hz hwz => ?_⟩
            rcases List.mem_append.1 hz with hz | hz
            · have h1 := h.2.2 z hz hwz
              rw [← Bool.not_eq_true, before_iff] at h1 ⊢
              rw [before_iff] at hb
              omega
            · obtain rfl : z = x := by simpa using hz
              rw [← Bool.not_eq_true, before_iff]; omega
    have := first_is l (pre ++ [x]) (better o x) key
    rw [List.append_assoc] at this
    exact this
theorem first_spec (ls : List Alm) : IsFirst ls (first ls) := first_is ls [] none (fun _ h => nomatch h)

theorem mem_turnsL {t : Int} {ls : List Alm} {x : Trn} : x ∈ turnsL t ls ↔ ∃ a ∈ ls, x ∈ turnsOf t a := List.mem_flatMap
theorem turnsOf_waits {t : Int} {a : Alm} {x : Trn} (h : x ∈ turnsOf t a) : waits a = true ∧ a.un ≤ t ∧ a.un ≤ x.tm ∧ x.b = a.b ∧ x.c = a.c := by
  have hw := Am.wait_bounds a.pr
  unfold turnsOf at h
  split at h
  · rename_i h4
    refine ⟨by unfold waits; rw [h4.1]; rfl, h4.2, ?_⟩
    rcases List.mem_cons.1 h with rfl | h
    · exact ⟨Int.le_refl _, rfl, rfl⟩
    · split at h
      · obtain rfl : x = _ := by simpa using h
        exact ⟨by simp only; omega, rfl, rfl⟩
      · cases h
  · split at h
    · rename_i h1
      obtain rfl : x = _ := by simpa using h
      exact ⟨by unfold waits; rw [h1.1]; rfl, h1.2, Int.le_refl _, rfl, rfl⟩
    · cases h
theorem turnsOf_first {t : Int} {a : Alm} (hw : waits a = true) (hu : a.un ≤ t) : ∃ p, (⟨a.un, a.b, a.c, p⟩ : Trn) ∈ turnsOf t a := by
  unfold turnsOf
  by_cases h4 : a.ph = 4
  · rw [if_pos ⟨h4, hu⟩]; exact ⟨1, by simp⟩
  · have h1 : a.ph = 1 := by unfold waits at hw; simpa [h4] using hw
    rw [if_neg (by omega), if_pos ⟨h1, hu⟩]; exact ⟨2, by simp⟩
/-- Nothing is to come where none waits. -/
theorem next_none {m n : Int} {ls : List Alm} {t : Int} (h : first ls = none) (hE : turnsE m n ls t = 0) : turns m n ls t = [] := by
  have hr := (Bd.rows_iff.1 (Bd.isB_iff.1 (turnsE_iff.1 hE).1).2.2.2).1
  have hs := first_spec ls
  rw [h] at hs
  unfold turns
  rw [if_pos hE]
  have e : turnsL t ls = [] := by
    apply List.eq_nil_iff_forall_not_mem.2
    intro x hx
    obtain ⟨a, ha, hx⟩ := mem_turnsL.1 hx
    have := (turnsOf_waits hx).1
    rw [hs a ha] at this
    cases this
  rw [e]; rfl
/-- Something is to come just if the first one's time has come; and then it comes first. -/
theorem next_some {m n : Int} {ls : List Alm} {t : Int} {y : Alm} (h : first ls = some y) (hE : turnsE m n ls t = 0) :
    (t < y.un → turns m n ls t = []) ∧ (y.un ≤ t → ∃ z l, turns m n ls t = z :: l ∧ z.tm = y.un ∧ z.b = y.b ∧ z.c = y.c) := by
  have hr := (Bd.rows_iff.1 (Bd.isB_iff.1 (turnsE_iff.1 hE).1).2.2.2).1
  have hs := first_spec ls
  rw [h] at hs
  obtain ⟨hy, hwy, hmin⟩ := hs
  unfold turns
  rw [if_pos hE]
  have hall : ∀ x ∈ turnsL t ls, (y.un < x.tm ∨ (y.un = x.tm ∧ (y.b < x.b ∨ (y.b = x.b ∧ y.c ≤ x.c)))) ∧ y.un ≤ t := by
    intro x hx
    obtain ⟨a, ha, hx⟩ := mem_turnsL.1 hx
    obtain ⟨h1, h2, h3, h4, h5⟩ := turnsOf_waits hx
    have := hmin a ha h1
    rw [← Bool.not_eq_true, before_iff] at this
    omega
  constructor
  · intro ht
    have e : turnsL t ls = [] := by
      apply List.eq_nil_iff_forall_not_mem.2
      intro x hx
      have := (hall x hx).2
      omega
    rw [e]; rfl
  · intro ht
    obtain ⟨p, hp⟩ := turnsOf_first hwy ht
    have hm : (⟨y.un, y.b, y.c, p⟩ : Trn) ∈ order (turnsL t ls) := (order_perm _).mem_iff.2 (mem_turnsL.2 ⟨y, hy, hp⟩)
    cases ho : order (turnsL t ls) with
    | nil => rw [ho] at hm; cases hm
    | cons z l =>
      refine ⟨z, l, rfl, ?_⟩
      have hsd := order_sorted (turnsL t ls)
      rw [ho] at hsd hm
      have hz := hall z ((order_perm _).mem_iff.1 (by rw [ho]; simp))
      have hle : le z ⟨y.un, y.b, y.c, p⟩ := by
        rcases List.mem_cons.1 hm with h | h
        · rw [h]; exact le_refl _
        · exact (List.pairwise_cons.1 hsd).1 _ h
      rw [le_iff] at hle
      simp only at hle
      omega

/-! ### the last turn -/
def isAt (b c : Int) (x : Trn) : Bool := x.b == b && x.c == c
def lastP (b c p : Int) (l : List Trn) : Int := l.foldl (fun p x => if isAt b c x then x.ph else p) p
theorem lastP_take_succ (b c p : Int) (l : List Trn) (k : Nat) (h : k < l.length) : lastP b c p (l.take (k + 1)) = if isAt b c l[k] then l[k].ph else lastP b c p (l.take k) := by
  rw [List.take_succ_eq_append_getElem h]; unfold lastP; rw [List.foldl_append]; rfl
theorem lastP_filter (b c : Int) : ∀ (l : List Trn) (p : Int), lastP b c p l = lastP b c p (l.filter (isAt b c))
  | [], _ => rfl
  | x :: l, p => by
    cases h : isAt b c x
    · rw [List.filter_cons_of_neg (by rw [h]; simp)]
      show lastP b c (if isAt b c x then x.ph else p) l = _
      rw [h]
      exact lastP_filter b c l p
    · rw [List.filter_cons_of_pos h]
      show lastP b c (if isAt b c x then x.ph else p) l = lastP b c (if isAt b c x then x.ph else p) (l.filter (isAt b c))
      exact lastP_filter b c l _
theorem turnsOf_at {t : Int} {a : Alm} {b c : Int} : (turnsOf t a).filter (isAt b c) = if Bd.atS b c a then turnsOf t a else [] := by
  cases h : Bd.atS b c a
  · simp only [Bool.false_eq_true, if_false]
    rw [List.filter_eq_nil_iff]
    intro x hx
    obtain ⟨_, _, _, e1, e2⟩ := turnsOf_waits hx
    unfold isAt; rw [e1, e2]; unfold Bd.atS at h; rw [h]; simp
  · simp only [if_true]
    rw [List.filter_eq_self]
    intro x hx
    obtain ⟨_, _, _, e1, e2⟩ := turnsOf_waits hx
    unfold isAt; rw [e1, e2]; exact h
theorem turnsL_at {t : Int} {b c : Int} : ∀ {ls : List Alm}, (turnsL t ls).filter (isAt b c) = (ls.filter (Bd.atS b c)).flatMap (turnsOf t)
  | [] => rfl
  | a :: l => by
    have e : turnsL t (a :: l) = turnsOf t a ++ turnsL t l := rfl
    rw [e, List.filter_append, turnsOf_at, turnsL_at]
    cases h : Bd.atS b c a
    · rw [List.filter_cons_of_neg (by rw [h]; simp)]; rfl
    · rw [List.filter_cons_of_pos h]; rfl
theorem filter_one {ls : List Alm} (hp : ls.Pairwise (fun a b => Bd.lessA a b = true)) {x : Alm} (hx : x ∈ ls) : ls.filter (Bd.atS x.b x.c) = [x] := by
  induction ls with
  | nil => cases hx
  | cons a l ih =>
    have hp' := List.pairwise_cons.1 hp
    rcases List.mem_cons.1 hx with rfl | hx
    · rw [List.filter_cons_of_pos (by simp [Bd.atS])]
      congr 1
      rw [List.filter_eq_nil_iff]
      intro y hy
      rw [Bd.at_less' (hp'.1 y hy)]; simp
    · rw [List.filter_cons_of_neg (by rw [Bd.at_less (hp'.1 x hx)]; simp)]
      exact ih hp'.2 hx
/-- The last turn of an alarm tells its phase behind Pass. -/
theorem last {m n : Int} {ls : List Alm} {t : Int} (hE : turnsE m n ls t = 0) {x : Alm} (hx : x ∈ ls) : lastP x.b x.c x.ph (turns m n ls t) = (Am.pass x t).ph := by
  have hrows := Bd.rows_iff.1 (Bd.isB_iff.1 (turnsE_iff.1 hE).1).2.2.2
  have hr := hrows.1
  unfold turns
  rw [if_pos hE, lastP_filter]
  have e : (order (turnsL t ls)).filter (isAt x.b x.c) = order (turnsOf t x) := by
    refine sorted_eq ((order_sorted _).sublist (List.filter_sublist ..)) (order_sorted _) ?_
    refine ((order_perm _).filter _).trans ?_
    rw [turnsL_at, filter_one hrows.2 hx]
    simp only [List.flatMap_cons, List.flatMap_nil, List.append_nil]
    exact (order_perm _).symm
  rw [e]
  have hw := Am.wait_bounds x.pr
  have hat : ∀ u p, isAt x.b x.c ⟨u, x.b, x.c, p⟩ = true := fun u p => by simp [isAt]
  rcases Am.pass_cases t (hr x hx).1 with ⟨h4, hu, hv, e⟩ | ⟨h4, hu, hv, e⟩ | ⟨h1, hu, e⟩ | ⟨hd, e⟩
  · have e1 : turnsOf t x = [⟨x.un, x.b, x.c, 1⟩, ⟨x.un + Am.wait x.pr, x.b, x.c, 2⟩] := by unfold turnsOf; rw [if_pos ⟨h4, hu⟩, if_pos hv]
    have ha : ahead ⟨x.un + Am.wait x.pr, x.b, x.c, 2⟩ ⟨x.un, x.b, x.c, 1⟩ = false := by rw [← Bool.not_eq_true, ahead_iff]; simp only; omega
    have e2 : order (turnsOf t x) = [⟨x.un, x.b, x.c, 1⟩, ⟨x.un + Am.wait x.pr, x.b, x.c, 2⟩] := by
      rw [e1]; unfold order; simp only [List.foldl_cons, List.foldl_nil, ins, ha]; rfl
    rw [e2, e]
    simp [lastP, hat]
  · have e1 : turnsOf t x = [⟨x.un, x.b, x.c, 1⟩] := by unfold turnsOf; rw [if_pos ⟨h4, hu⟩, if_neg (by omega)]
    rw [e1, e]
    simp [order, ins, lastP, hat]
  · have e1 : turnsOf t x = [⟨x.un, x.b, x.c, 2⟩] := by unfold turnsOf; rw [if_neg (by omega), if_pos ⟨h1, hu⟩]
    rw [e1, e]
    simp [order, ins, lastP, hat]
  · have e1 : turnsOf t x = [] := by
      unfold turnsOf
      unfold Am.due at hd
      rw [if_neg (by omega), if_neg (by omega)]
    rw [e1, e]
    rfl
/-- The phase at a time. -/
def atP (b c t : Int) (ls : List Alm) : Int := if Bd.has b c ls then (Am.pass (Bd.getA b c ls).1 t).ph else 0
end Du
end Go.Proofs.YtplpadblhjdpcaaGreat

namespace Go.Proofs.YtplpadblhjdpcaaGreat
set_option maxRecDepth 10000
open Go.RowKit

theorem Tryz.infoTu : (Tryz.prog.info? 55).map (fun i => (i.zero, i.size, i.bytes)) = some (some (.agg #[.int .i64 0, .int .i64 0, .int .i64 0, .int .i64 0]), 4, 32) := by kernel_rfl

/-- A turn lies at a place of a block. -/
structure Tu4 (w : World) (b o : Nat) (a : Trn) : Prop where
  c0 : w.cell? ⟨b, o, none⟩ = some (.int .i64 a.tm)
  c1 : w.cell? ⟨b, o + 1, none⟩ = some (.int .i64 a.b)
  c2 : w.cell? ⟨b, o + 2, none⟩ = some (.int .i64 a.c)
  c3 : w.cell? ⟨b, o + 3, none⟩ = some (.int .i64 a.ph)
/-- The slice at A holds the turns ls, in blocks below B. -/
def TrnsAt (w : World) (B : Nat) (A : Option Addr) (ls : List Trn) : Prop :=
  ∀ i (h : i < ls.length), ∃ b off, A = some ⟨b, off, none⟩ ∧ b < B ∧ Tu4 w b (off + i * 4) ls[i]
theorem Tu4.below {w w' : World} {B b o : Nat} {a : Trn} (h : Tu4 w b o a) (hb : Below B w w') (hB : b < B) : Tu4 w' b o a := by
  have f : ∀ j, w'.cell? ⟨b, j, none⟩ = w.cell? ⟨b, j, none⟩ := fun j => hb.cell (p := ⟨b, j, none⟩) hB
  exact ⟨(f _).trans h.c0, (f _).trans h.c1, (f _).trans h.c2, (f _).trans h.c3⟩
theorem TrnsAt.below {w w' : World} {B B' : Nat} {A : Option Addr} {ls : List Trn} (h : TrnsAt w B A ls) (hb : Below B' w w') (hB : B ≤ B') : TrnsAt w' B A ls := fun i hi => by
  obtain ⟨b, off, e, hlt, h6⟩ := h i hi
  exact ⟨b, off, e, hlt, h6.below hb (by omega)⟩
theorem TrnsAt.more {w : World} {B B' : Nat} {A : Option Addr} {ls : List Trn} (h : TrnsAt w B A ls) (hB : B ≤ B') : TrnsAt w B' A ls := fun i hi => by
  obtain ⟨b, off, e, hlt, h6⟩ := h i hi
  exact ⟨b, off, e, by omega, h6⟩
theorem TrnsAt.on {w w' : World} {A : Option Addr} {ls : List Trn} (h : TrnsAt w w.heap.size A ls) (hb : Below w.heap.size w w') : TrnsAt w' w'.heap.size A ls := (h.below hb (Nat.le_refl _)).more hb.size
theorem TrnsAt.nil (w : World) (B : Nat) (A : Option Addr) : TrnsAt w B A [] := fun _ hi => absurd hi (Nat.not_lt_zero _)
theorem TrnsAt.none_nil {w : World} {B : Nat} {ls : List Trn} (h : TrnsAt w B none ls) : ls = [] := by
  cases ls with
  | nil => rfl
  | cons z zs => obtain ⟨b, off, h, _⟩ := h 0 (by simp); cases h
theorem TrnsAt.take {w : World} {B : Nat} {A : Option Addr} {ls : List Trn} (h : TrnsAt w B A ls) (k : Nat) : TrnsAt w B A (ls.take k) := fun i hi => by
  have hi' : i < ls.length := by rw [List.length_take] at hi; omega
  obtain ⟨b, off, e, hlt, h6⟩ := h i hi'
  exact ⟨b, off, e, hlt, by rw [List.getElem_take]; exact h6⟩
theorem TrnsAt.drop {w : World} {B b off : Nat} {ls : List Trn} (h : TrnsAt w B (some ⟨b, off, none⟩) ls) (k : Nat) : TrnsAt w B (some ⟨b, off + k * 4, none⟩) (ls.drop k) := fun i hi => by
  have hi' : k + i < ls.length := by rw [List.length_drop] at hi; omega
  obtain ⟨b', off', e, hlt, h6⟩ := h (k + i) hi'
  cases e
  refine ⟨b, off + k * 4, rfl, hlt, ?_⟩
  rw [List.getElem_drop]
  have e : off + (k + i) * 4 = off + k * 4 + i * 4 := by omega
  rw [← e]
  exact h6

/-- Turns, cell by cell. -/
def flat4 (ls : List Trn) : List Value := ls.flatMap (fun a => [.int .i64 a.tm, .int .i64 a.b, .int .i64 a.c, .int .i64 a.ph])
theorem flat4_cons (a : Trn) (ls : List Trn) : flat4 (a :: ls) = .int .i64 a.tm :: .int .i64 a.b :: .int .i64 a.c :: .int .i64 a.ph :: flat4 ls := rfl
theorem flat4_app (ls ms : List Trn) : flat4 (ls ++ ms) = flat4 ls ++ flat4 ms := by unfold flat4; exact List.flatMap_append
theorem flat4_len : ∀ ls : List Trn, (flat4 ls).length = ls.length * 4
  | [] => rfl
  | a :: ls => by have := flat4_len ls; rw [flat4_cons]; simp only [List.length_cons, this]; omega
theorem flat4_one (ls : List Trn) : ∀ u ∈ flat4 ls, u.oneCell' = true := by
  intro u hu
  simp only [flat4, List.mem_flatMap, List.mem_cons, List.not_mem_nil, or_false] at hu
  obtain ⟨p, _, rfl | rfl | rfl | rfl⟩ := hu <;> rfl
theorem flat4_get : ∀ (ls : List Trn) (i : Nat) (h : i < ls.length), (flat4 ls)[i * 4]? = some (.int .i64 ls[i].tm) ∧ (flat4 ls)[i * 4 + 1]? = some (.int .i64 ls[i].b) ∧ (flat4 ls)[i * 4 + 2]? = some (.int .i64 ls[i].c) ∧ (flat4 ls)[i * 4 + 3]? = some (.int .i64 ls[i].ph)
  | a :: ls, 0, _ => ⟨rfl, rfl, rfl, rfl⟩
  | a :: ls, i + 1, h => by
    have g := flat4_get ls i (by simpa using h)
    rw [flat4_cons]
    have e1 : (i + 1) * 4 = i * 4 + 1 + 1 + 1 + 1 := by omega
    rw [e1]
    refine ⟨?_, ?_, ?_, ?_⟩ <;> simp only [List.getElem_cons_succ]
    · simpa using g.1
    · have := g.2.1; simpa [Nat.add_right_comm] using this
    · have := g.2.2.1; simpa [Nat.add_right_comm] using this
    · have := g.2.2.2; simpa [Nat.add_right_comm] using this
theorem TrnsAt.flat_cells {w : World} {B : Nat} {a : Addr} {ls : List Trn} (h : TrnsAt w B (some a) ls) : ∀ j u, (flat4 ls)[j]? = some u → w.cell? (a.add j) = some u := by
  intro j u hu
  have hj := (List.getElem?_eq_some_iff.1 hu).1
  rw [flat4_len] at hj
  obtain ⟨b, off, ha, _, h6⟩ := h (j / 4) (by omega)
  cases ha
  have g := flat4_get ls (j / 4) (by omega)
  rw [Go.WideShapes.add_plain]
  have hm : j % 4 = 0 ∨ j % 4 = 1 ∨ j % 4 = 2 ∨ j % 4 = 3 := by omega
  have fin : ∀ (r : Nat) (v : Value), j / 4 * 4 + r = j → (flat4 ls)[j / 4 * 4 + r]? = some v → w.cell? ⟨b, off + j / 4 * 4 + r, none⟩ = some v → w.cell? ⟨b, off + j, none⟩ = some u := by
    intro r v e h1 h2
    have e2 : off + j / 4 * 4 + r = off + j := by omega
    rw [e2] at h2
    rw [e] at h1
    rw [h2]
    exact h1.symm.trans hu
  rcases hm with hm | hm | hm | hm
  · exact fin 0 _ (by omega) g.1 h6.c0
  · exact fin 1 _ (by omega) g.2.1 h6.c1
  · exact fin 2 _ (by omega) g.2.2.1 h6.c2
  · exact fin 3 _ (by omega) g.2.2.2 h6.c3

/-- A row of turns of one's own. -/
def OwnT (w : World) (base : Nat) (v : Value) (ls : List Trn) : Prop := w.ownsRow base 55 4 v ls.length (flat4 ls)
theorem OwnT.slice {w : World} {base : Nat} {v : Value} {ls : List Trn} (h : OwnT w base v ls) : ∃ A cap, v = .slice A ls.length cap ∧ TrnsAt w w.heap.size A ls ∧ (A = none → cap = 0) ∧ ls.length ≤ cap := by
  unfold OwnT at h
  rcases h.2 with ⟨hv, h0⟩ | ⟨g, cap, cur, hv, _, hg, hcap, _⟩
  · refine ⟨none, 0, by rw [hv, h0], ?_, fun _ => rfl, by omega⟩
    rw [List.length_eq_zero_iff] at h0
    rw [h0]
    exact TrnsAt.nil _ _ _
  · refine ⟨some ⟨g, 0, none⟩, cap, hv, ?_, fun e => (by cases e), hcap⟩
    intro i hi
    have g6 := flat4_get ls i hi
    have hc := fun j u (hu : (flat4 ls)[j]? = some u) => (by have := h.cells (g := g) (by rw [hv]; rfl) _ _ hu; rw [Go.WideShapes.add_plain] at this; exact this : w.cell? ⟨g, 0 + j, none⟩ = some u)
    exact ⟨g, 0, rfl, (Array.getElem?_eq_some_iff.1 hg).1, ⟨hc _ _ g6.1, hc _ _ g6.2.1, hc _ _ g6.2.2.1, hc _ _ g6.2.2.2⟩⟩
theorem OwnT.below {w W : World} {base : Nat} {v : Value} {ls : List Trn} (h : OwnT w base v ls) (hb : Below w.heap.size w W) : OwnT W base v ls := owns_below h hb
theorem OwnT.lower {w : World} {base base' : Nat} {v : Value} {ls : List Trn} (h : OwnT w base v ls) (hb : base' ≤ base) : OwnT w base' v ls := owns_lower h hb
theorem OwnT.nil (w : World) (base : Nat) : OwnT w base (.slice none 0 0) [] := World.ownsRow_nil w base 55 4
theorem OwnT.ge {w : World} {base : Nat} {v : Value} {ls : List Trn} (h : OwnT w base v ls) : ∀ k, v.ownBlock = some k → base ≤ k := fun k hk => (World.ownsRow.lt h k hk).1
theorem OwnT.rows {w : World} {base : Nat} {A : Option Addr} {l c : Nat} {ls : List Trn} (h : OwnT w base (.slice A l c) ls) : TrnsAt w w.heap.size A ls ∧ (A = none → c = 0) := by
  obtain ⟨A', c', e, h1, h2, _⟩ := h.slice
  cases e
  exact ⟨h1, h2⟩

/-- What a call ends with that hands back turns in memory of their own. -/
def OwnedT (w : World) (n : Nat) (ls : List Trn) (e : Ending) (w' : World) : Prop := ∃ A c, e = .returned (.slice A n c) ∧ OwnT w' w.heap.size (.slice A n c) ls ∧ Below w.heap.size w w'
/-- .. and an error. -/
def GivesT (w : World) (n : Nat) (ls : List Trn) (er : Int) (e : Ending) (w' : World) : Prop := ∃ A c, e = .returned (.tuple #[.slice A n c, .int .i64 er]) ∧ OwnT w' w.heap.size (.slice A n c) ls ∧ Below w.heap.size w w'
/-- Turns that lie there. -/
def turnF (A : Option Addr) (ls : List Trn) : Fact := ⟨fun w => TrnsAt w w.heap.size A ls, fun _ _ h hb => h.on hb⟩
/-- Turns of one's own. -/
def ownTF (base : Nat) (v : Value) (ls : List Trn) : Fact := ⟨fun w => OwnT w base v ls, fun _ _ h hb => h.below hb⟩

/-- Turns of one's own, with those of whatever slice behind them. -/
theorem wpList_append_trns {ops : Array Oper} {rest : List Oper} {o : Oper} {a : Act} {w : World} {Q : Exit → Act → World → Prop} (hgd : o.guard = none) (s x : Operand) (t1 : TypeId)
    (ho : o.op = .call { callee := .builtin .append, args := #[s, x], argTypes := #[t1, t1] }) (hu : Tryz.prog.underlying t1 = some (.slice 55))
    (base : Nat) (v : Value) (zs ms : List Trn) (hs : a.eval s = v) (hown : OwnT w base v zs)
    (A : Option Addr) (n cap : Nat) (hx : a.eval x = .slice A n cap) (hn : n = ms.length) (hA : TrnsAt w w.heap.size A ms) (hnil : A = none → cap = 0) (hb : base ≤ w.heap.size) (hl : zs.length + ms.length ≤ 100000)
    (h : ∀ v' w', OwnT w' base v' (zs ++ ms) → w.grownBy w' v.ownBlock → wpList Tryz.prog ops Q rest (a.put o.dst v') w') : wpList Tryz.prog ops Q (o :: rest) a w := by
  obtain ⟨i0, hi, hz0, hz1, hz2⟩ := info_parts Tryz.infoTu
  subst hn
  cases A with
  | none =>
    obtain rfl : cap = 0 := hnil rfl
    obtain rfl : ms = [] := hA.none_nil
    refine wpList_append_own_none hgd s x t1 ho base 55 i0 4 hu hi v _ _ hs hown hx ?_
    exact h v w (by rw [List.append_nil]; exact hown) (grown_refl _ _)
  | some ad =>
    refine wpList_append_own _ hgd s x t1 ho base 55 i0 _ 4 32 hu hi hz0 hz1 hz2 rfl (by decide) v _ _ hs hown ad ms.length cap (flat4 ms) hx (flat4_len ms) hA.flat_cells (flat4_one ms) (by unfold maxLen; omega) (by omega) hb ?_
    intro v' w' ho' hg _
    exact h v' w' (by unfold OwnT; rw [List.length_append, flat4_app]; exact ho') hg
end Go.Proofs.YtplpadblhjdpcaaGreat

namespace Go.Proofs.YtplpadblhjdpcaaGreat
set_option maxRecDepth 10000
open Go.RowKit

structure DueK : Prop where
  turns : ∀ (m n : Int) (A : Option Addr) (l c : Nat) (ls : List Alm) (t : Int) (q : Nat) (w : World) (_h : Told w A l c ls) (_hq : q = (Du.turns m n ls t).length), Calls Tryz.prog 7 #[.agg #[.int .i64 m, .int .i64 n, .slice A l c], .int .i64 t] w (GivesT w q (Du.turns m n ls t) (Du.turnsE m n ls t))
  next : ∀ (m n : Int) (A : Option Addr) (l c : Nat) (ls : List Alm) (w : World) (_h : Told w A l c ls), Calls Tryz.prog 9 #[.agg #[.int .i64 m, .int .i64 n, .slice A l c]] w fun e w' => e = .returned (.tuple #[.int .i64 (Du.firstA ls).un, .bool (Du.firstB ls)]) ∧ Below w.heap.size w w'
  at' : ∀ (m n : Int) (A : Option Addr) (l c : Nat) (ls : List Alm) (b ch t : Int) (w : World) (_h : Told w A l c ls), Calls Tryz.prog 11 #[.agg #[.int .i64 m, .int .i64 n, .slice A l c], .agg #[.int .i64 b, .int .i64 ch], .int .i64 t] w fun e w' => e = .returned (.tuple #[.int .i64 (Du.atP b ch t ls), .bool (Bd.has b ch ls)]) ∧ Below w.heap.size w w'
  first : ∀ (A : Option Addr) (l c : Nat) (ls : List Alm) (w : World) (_h : Told w A l c ls), Calls Tryz.prog 13 #[.slice A l c] w fun e w' => e = .returned (.tuple #[.agg (sixV (Du.firstA ls)), .bool (Du.firstB ls)]) ∧ Below w.heap.size w w'
  order : ∀ (A : Option Addr) (l c : Nat) (ts : List Trn) (w : World) (_hl : l = ts.length) (_hA : TrnsAt w w.heap.size A ts) (_h0 : A = none → c = 0) (_hf : l ≤ 1000), Calls Tryz.prog 17 #[.slice A l c] w (OwnedT w l (Du.order ts))

/-- What is asked of board and alarm. -/
structure BoardK9 : Prop where
  new : ∀ (m : Int) (l : Nat) (w : World) (_h : l = (Bd.new m).als.length), Calls Tryz.prog 34 #[.int .i64 m] w (GivesB w (Bd.new m) l (Bd.newE m))
  get : ∀ (m n : Int) (A : Option Addr) (l c : Nat) (ls : List Alm) (b ch : Int) (w : World) (_h : Told w A l c ls),
    Calls Tryz.prog 27 #[.agg #[.int .i64 m, .int .i64 n, .slice A l c], .agg #[.int .i64 b, .int .i64 ch]] w fun e w' => e = .returned (.tuple #[.agg (sixV (Bd.getA b ch ls).1), .bool (Bd.getA b ch ls).2]) ∧ Below w.heap.size w w'
  put : ∀ (m n : Int) (A : Option Addr) (l c : Nat) (ls : List Alm) (x : Alm) (q : Nat) (w : World) (_h : Told w A l c ls) (_hq : q = (Bd.put m n ls x).als.length),
    Calls Tryz.prog 37 #[.agg #[.int .i64 m, .int .i64 n, .slice A l c], .agg (sixV x)] w (GivesB w (Bd.put m n ls x) q (Bd.putE m n ls x))
  opn : ∀ (b c prio t : Int) (w : World), Calls Tryz.prog 35 #[.agg #[.int .i64 b, .int .i64 c], .int .i64 prio, .int .i64 t] w fun e w' => e = .returned (.tuple #[.agg (sixV (Am.opn b c prio t)), .int .i64 (Am.openE b c prio t)]) ∧ Below w.heap.size w w'
  deed : ∀ (b c ph pr si un d t long : Int) (w : World), Calls Tryz.prog 36 #[.agg #[.int .i64 b, .int .i64 c, .int .i64 ph, .int .i64 pr, .int .i64 si, .int .i64 un], .int .i64 d, .int .i64 t, .int .i64 long] w fun e w' => e = .returned (.tuple #[.agg (sixV (Am.doA ⟨b, c, ph, pr, si, un⟩ d t long)), .int .i64 (Am.doE ⟨b, c, ph, pr, si, un⟩ d t long)]) ∧ Below w.heap.size w w'

/-- Turns that are the same. -/
def TSameK : Prop := ∀ (A B : Option Addr) (l c c2 : Nat) (ts : List Trn) (w : World) (_h : l = ts.length) (_h1 : TrnsAt w w.heap.size A ts) (_h2 : TrnsAt w w.heap.size B ts) (_h3 : l ≤ 1000),
    Calls Tryz.prog 15 #[.slice A l c, .slice B l c2] w fun e w' => e = .returned (.bool true) ∧ Below w.heap.size w w'
/-- The document's rows. -/
def ComingK : Prop := ∀ (w : World), Calls Tryz.prog 16 #[] w fun e w' => e = .returned (.bool true) ∧ Below w.heap.size w w'
end Go.Proofs.YtplpadblhjdpcaaGreat

namespace Go.Proofs.YtplpadblhjdpcaaGreat
set_option maxRecDepth 10000
open Go.RowKit

theorem far9_any (m n : Int) (A : Option Addr) (l c : Nat) (w : World) :
    Calls Tryz.prog 4 #[.agg #[.int .i64 m, .int .i64 n, .slice A l c]] w fun e w' => e = .returned (.bool (decide ((60 : Int) < (l : Int)))) ∧ Below w.heap.size w w' := by
  have hB := below_new w (.cells #[.int .i64 m, .int .i64 n, .slice A l c] 24)
  go_enter Tryz.func4, Tryz.ntmps4
  go_wp2
  go_ret
  exact ⟨rfl, hB⟩
theorem far9_v (m n : Int) (A : Option Addr) (l c : Nat) (z : Bool) (hz : decide ((60 : Int) < (l : Int)) = z) (W : World) :
    Calls Tryz.prog 4 #[.agg #[.int .i64 m, .int .i64 n, .slice A l c]] W fun e w' => e = .returned (.bool z) ∧ Below W.heap.size W w' := by
  have k := far9_any m n A l c W
  rw [hz] at k
  exact k
end Go.Proofs.YtplpadblhjdpcaaGreat
