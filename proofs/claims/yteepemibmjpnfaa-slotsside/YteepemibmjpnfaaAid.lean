/-
  Small words for memory and texts, of no program: a text's bytes, slices of numbers and of texts that are read, what lies below.
-/
import Derived.WalkKit
import Derived.WalkSpells
import Derived.WalkLawsBesides
import Derived.RangeFuncBox
import Derived.OpenShut
import Derived.Lib.Hide
import Derived.Deep.Draws
import Derived.Laws.Rows
namespace Go.Proofs.Yteepemibmjpnfaa
set_option maxRecDepth 10000
open Go.RowKit

/-- A byte, as a cell holds it. -/
def byteV (x : UInt8) : Value := .int .u8 (x.toNat : Int)

theorem ownsRow_slice {w : World} {base : Nat} {e : TypeId} {size : Nat} {v : Value} {n : Nat} {xs : List Value} (h : w.ownsRow base e size v n xs) : ∃ A c, v = .slice A n c := by
  rcases h.2 with ⟨rfl, rfl⟩ | ⟨g, cap, _, rfl, _⟩
  · exact ⟨_, _, rfl⟩
  · exact ⟨_, _, rfl⟩

/-- A text of these bytes. -/
def strOf (l : List UInt8) : ByteArray := ⟨l.toArray⟩
/-- The bytes of a text. -/
def bl (s : ByteArray) : List UInt8 := s.data.toList
theorem bl_strOf (l : List UInt8) : bl (strOf l) = l := rfl
theorem strOf_bl (s : ByteArray) : strOf (bl s) = s := rfl
theorem strOf_size (l : List UInt8) : (strOf l).size = l.length := rfl
theorem bl_length (s : ByteArray) : (bl s).length = s.size := rfl
theorem bl_append (s t : ByteArray) : bl (s ++ t) = bl s ++ bl t := by unfold bl; rw [ByteArray.data_append]; simp
theorem strOf_append (l : List UInt8) (s : ByteArray) : strOf l ++ s = strOf (l ++ bl s) := by
  rw [← strOf_bl (strOf l ++ s), bl_append, bl_strOf]
theorem bl_inj {s t : ByteArray} (h : bl s = bl t) : s = t := by rw [← strOf_bl s, ← strOf_bl t, h]

/-- The slice at A holds the numbers zs, in blocks below B. -/
def IntsAt (w : World) (B : Nat) (A : Option Addr) (zs : List Int) : Prop :=
  ∀ i (h : i < zs.length), ∃ b off, A = some ⟨b, off, none⟩ ∧ b < B ∧ w.cell? ⟨b, off + i, none⟩ = some (.int .i64 zs[i])

theorem IntsAt.below {w w' : World} {B B' : Nat} {A : Option Addr} {zs : List Int} (h : IntsAt w B A zs) (hb : Below B' w w') (hB : B ≤ B') : IntsAt w' B A zs := fun i hi => by
  obtain ⟨b, off, e, hlt, hc⟩ := h i hi
  exact ⟨b, off, e, hlt, (hb.cell (p := ⟨b, off + i, none⟩) (by show b < B'; omega)).trans hc⟩

theorem IntsAt.more {w : World} {B B' : Nat} {A : Option Addr} {zs : List Int} (h : IntsAt w B A zs) (hB : B ≤ B') : IntsAt w B' A zs := fun i hi => by
  obtain ⟨b, off, e, hlt, hc⟩ := h i hi
  exact ⟨b, off, e, by omega, hc⟩

theorem IntsAt.nil (w : World) (B : Nat) (A : Option Addr) : IntsAt w B A [] := fun _ hi => absurd hi (Nat.not_lt_zero _)

/-- One number, as a slice of one's own holds it. -/
theorem IntsAt.one (w : World) (x : Int) (t : TypeId) : IntsAt (w.alloc (.cells #[.int .i64 x] t)) (w.alloc (.cells #[.int .i64 x] t)).heap.size (some ⟨w.heap.size, 0, none⟩) [x] := fun i hi => by
  obtain rfl : i = 0 := by simpa using hi
  exact ⟨w.heap.size, 0, rfl, by simp, (Boxed.new w t (.int .i64 x)).cell⟩

theorem below_drew {B : Nat} {a w : World} (h : Below B a w) (n : Nat) : Below B a (w.drewN n) := ⟨h.os, h.tape, h.output, h.size, h.block⟩

theorem bl_get (s : ByteArray) (k : Nat) (h : k < s.size) : (bl s)[k]'h = s[k] := rfl
theorem bl_extract_to (s : ByteArray) (k : Nat) (_h : k ≤ s.size) : bl (s.extract 0 k) = (bl s).take k := by
  unfold bl; simp [ByteArray.data_extract]
theorem bl_extract_from (s : ByteArray) (k : Nat) : bl (s.extract k s.size) = (bl s).drop k := by
  unfold bl
  rw [ByteArray.data_extract, Array.toList_extract, List.extract_eq_take_drop]
  rw [List.take_of_length_le (by simp)]

theorem strOf_toList (l : List UInt8) : (strOf l).toList = l := by
  rw [ByteArray.toList_eq]; rfl

/-- Four numbers, as a slice of one's own holds them. -/
theorem IntsAt.four (w : World) (a b c d : Int) (t : TypeId) : IntsAt (w.alloc (.cells #[.int .i64 a, .int .i64 b, .int .i64 c, .int .i64 d] t)) (w.heap.size + 1) (some ⟨w.heap.size, 0, none⟩) [a, b, c, d] := fun i hi => by
  have hb := World.alloc_heap_new w (.cells #[.int .i64 a, .int .i64 b, .int .i64 c, .int .i64 d] t)
  refine ⟨w.heap.size, 0, rfl, by omega, ?_⟩
  simp only [World.cell?, hb]
  match i, hi with
  | 0, _ => rfl
  | 1, _ => rfl
  | 2, _ => rfl
  | 3, _ => rfl

theorem IntsAt.of_own {w : World} {base : Nat} {e : TypeId} {A : Option Addr} {cap : Nat} {zs : List Int} (h : w.ownsRow base e 1 (.slice A zs.length cap) zs.length (zs.map (Value.int .i64))) : IntsAt w w.heap.size A zs := fun i hi => by
  rcases h.2 with ⟨_, h0⟩ | ⟨g, cap', cur, hv, _, hg, _⟩
  · omega
  · have hA : A = some ⟨g, 0, none⟩ := by injection hv
    subst hA
    have hc := h.cells (g := g) rfl i (.int .i64 zs[i]) (by simp [List.getElem?_eq_getElem hi])
    have hadd : (⟨g, 0, none⟩ : Addr).add i = ⟨g, 0 + i, none⟩ := by unfold Addr.add; split <;> simp_all
    rw [hadd] at hc
    exact ⟨g, 0, rfl, (Array.getElem?_eq_some_iff.1 hg).1, hc⟩

theorem strs_append (a b : List UInt8) : strOf a ++ strOf b = strOf (a ++ b) := strOf_append a (strOf b)

theorem below2 {a b c : World} (h : Below a.heap.size a b) (k : Below b.heap.size b c) : Below a.heap.size a c := h.trans (k.mono h.size)

/-- What a law is told of a slice of integers that came in: nil, or a row of cap cells, zs; its elements are the first len. -/
def IsRow (k : IntKind) (w : World) (a : Option Addr) (len cap : Nat) (zs : List Int) : Prop :=
  (a = none ∧ len = 0 ∧ cap = 0 ∧ zs = []) ∨
  ∃ x, a = some x ∧ len ≤ cap ∧ cap ≤ maxLen ∧ zs.length = cap ∧ (∀ i, i < zs.length → w.cell? (x.add i) = some (.int k (zs.getD i 0))) ∧ ∀ n ∈ zs, (Lit.int k n).wf = true

theorem IsRow.ints {w : World} {a : Option Addr} {len cap : Nat} {zs : List Int} (h : IsRow .i64 w a len cap zs) : len = (zs.take len).length ∧ len ≤ maxLen ∧ IntsAt w w.heap.size a (zs.take len) ∧ ∀ n ∈ zs.take len, (Lit.int .i64 n).wf = true := by
  rcases h with ⟨rfl, rfl, rfl, rfl⟩ | ⟨x, rfl, hl, hm, hz, hc, hw⟩
  · exact ⟨rfl, Nat.zero_le _, IntsAt.nil _ _ _, by simp⟩
  · have e : len = (zs.take len).length := by rw [List.length_take]; omega
    refine ⟨e, by omega, fun i hi => ?_, fun n hn => hw n (List.mem_of_mem_take hn)⟩
    have hi2 : i < zs.length := by omega
    obtain ⟨b, off, rfl, hcc⟩ := ints_at hc (by omega)
    have h1 := hcc i hi2
    refine ⟨b, off, rfl, World.block_lt_of_cell? w _ h1, h1.trans ?_⟩
    simp [List.getD, List.getElem?_eq_getElem hi2]

/-- The slice at A holds the texts ss, in blocks below B. -/
def StrsAt (w : World) (B : Nat) (A : Option Addr) (ss : List ByteArray) : Prop :=
  ∀ i (h : i < ss.length), ∃ b off, A = some ⟨b, off, none⟩ ∧ b < B ∧ w.cell? ⟨b, off + i, none⟩ = some (.string ss[i])

theorem StrsAt.below {w w' : World} {B B' : Nat} {A : Option Addr} {ss : List ByteArray} (h : StrsAt w B A ss) (hb : Below B' w w') (hB : B ≤ B') : StrsAt w' B A ss := fun i hi => by
  obtain ⟨b, off, e, hlt, hc⟩ := h i hi
  exact ⟨b, off, e, hlt, (hb.cell (p := ⟨b, off + i, none⟩) (by show b < B'; omega)).trans hc⟩

theorem StrsAt.more {w : World} {B B' : Nat} {A : Option Addr} {ss : List ByteArray} (h : StrsAt w B A ss) (hB : B ≤ B') : StrsAt w B' A ss := fun i hi => by
  obtain ⟨b, off, e, hlt, hc⟩ := h i hi
  exact ⟨b, off, e, by omega, hc⟩

theorem StrsAt.nil (w : World) (B : Nat) (A : Option Addr) : StrsAt w B A [] := fun _ hi => absurd hi (Nat.not_lt_zero _)

theorem StrsAt.new (w : World) (ss : List ByteArray) (t : TypeId) : StrsAt (w.alloc (.cells (ss.map Value.string).toArray t)) (w.heap.size + 1) (some ⟨w.heap.size, 0, none⟩) ss := fun i hi => by
  have hb := World.alloc_heap_new w (.cells (ss.map Value.string).toArray t)
  refine ⟨w.heap.size, 0, rfl, by omega, ?_⟩
  simp only [World.cell?, hb]
  simp [hi]

theorem gets_below {w W w1 : World} {e : TypeId} {v : Value} {k : Nat} {xs : List Value} {tmp : Obj} (hB : Below w.heap.size w W) (hown : W.ownsRow w.heap.size e 1 v k xs) (hg : (W.alloc tmp).grownBy w1 v.ownBlock) : Below w.heap.size w w1 :=
  (hB.alloc hB.size tmp).grown hg (by have := hB.size; simp; omega) (fun j ej => (hown.lt j ej).1)

theorem owns_below {w W : World} {base : Nat} {e : TypeId} {size : Nat} {v : Value} {k : Nat} {xs : List Value} (h : w.ownsRow base e size v k xs) (hb : Below w.heap.size w W) : W.ownsRow base e size v k xs :=
  h.kept (row := none) ⟨hb.os, hb.tape, hb.output, hb.size, fun i hi _ => hb.block i hi⟩ (by cases v.ownBlock <;> simp)

theorem retb {a b : Bool} (h : a = b) : Ending.returned (.bool a) = .returned (.bool b) := by rw [h]
theorem below_new (w : World) (o : Obj) : Below w.heap.size w (w.alloc o) := (Below.refl _ _).alloc (Nat.le_refl _) _
theorem below_new2 (w : World) (o o' : Obj) : Below w.heap.size w ((w.alloc o).alloc o') := (below_new w o).alloc (by simp) _
theorem below_new3 (w : World) (o o' o2 : Obj) : Below w.heap.size w (((w.alloc o).alloc o').alloc o2) := (below_new2 w o o').alloc (by simp; omega) _
theorem below_undrew {a b : World} (h : Below a.drew.heap.size a.drew b) : Below a.heap.size a b := ⟨h.os, h.tape, h.output, h.size, h.block⟩
theorem IntsAt.two (w : World) (a b : Int) (t : TypeId) : IntsAt (w.alloc (.cells #[.int .i64 a, .int .i64 b] t)) (w.heap.size + 1) (some ⟨w.heap.size, 0, none⟩) [a, b] := fun i hi => by
  have hb := World.alloc_heap_new w (.cells #[.int .i64 a, .int .i64 b] t)
  refine ⟨w.heap.size, 0, rfl, by omega, ?_⟩
  simp only [World.cell?, hb]
  match i, hi with
  | 0, _ => rfl
  | 1, _ => rfl
theorem IntsAt.on {w w' : World} {A : Option Addr} {zs : List Int} (h : IntsAt w w.heap.size A zs) (hb : Below w.heap.size w w') : IntsAt w' w'.heap.size A zs := (h.below hb (Nat.le_refl _)).more hb.size
theorem grown_refl (w : World) (row : Option Nat) : w.grownBy w row := ⟨rfl, rfl, rfl, Nat.le_refl _, fun _ _ _ => rfl⟩
theorem ownsRow_some {w : World} {base n : Nat} {e : TypeId} {size : Nat} {v : Value} {xs : List Value} (h : w.ownsRow base e size v n xs) (hn : 1 ≤ n) : ∃ g cap, v = .slice (some ⟨g, 0, none⟩) n cap := by
  rcases h.2 with ⟨_, h0⟩ | ⟨g, cap, cur, hv, _⟩
  · omega
  · exact ⟨g, cap, hv⟩
theorem owns_lower {w : World} {base base' : Nat} {e : TypeId} {size : Nat} {v : Value} {n : Nat} {xs : List Value} (h : w.ownsRow base e size v n xs) (hb : base' ≤ base) : w.ownsRow base' e size v n xs := by
  refine ⟨h.1, ?_⟩
  rcases h.2 with h0 | ⟨g, cap, cur, h1, h2, h3⟩
  · exact Or.inl h0
  · exact Or.inr ⟨g, cap, cur, h1, Nat.le_trans hb h2, h3⟩

theorem below_setRow {B : Nat} {w w' : World} (h : Below B w w') {g : Nat} (hg : B ≤ g) (cs : Array Value) : Below B w (w'.setRow g cs) :=
  ⟨h.os, h.tape, h.output, by simp; exact h.size, fun i hi => (setRow_other w' g i cs (by omega)).trans (h.block i hi)⟩
theorem grown_setRow (w : World) (g : Nat) (cs : Array Value) : w.grownBy (w.setRow g cs) (some g) :=
  ⟨rfl, rfl, rfl, by simp, fun k _ hne => setRow_other w g k cs (fun e => hne (by rw [e]))⟩

end Go.Proofs.Yteepemibmjpnfaa
