/-
  Small words for memory and texts, of no program: a text's bytes, slices of numbers and of texts that are read, what lies below.
  Layer 4 (spot): which spots may be.
  Layer 4 (spot), plain mathematics: what may be, numbers, texts, and what a text is of.
  Layer 5 (life), in plain numbers: the table, what deeds make, what is reached, and by which way.
  Layer 6 (alarm), plain mathematics: alarms, what is done to them, and what time makes of them.
  Layer 7 (rank), plain mathematics: how alarms are ranked, sorted, cut, found and merged.
  Layer 10 (mute), plain mathematics: windows, the times that they have, the windows of some times.
  Layer 10 (mute), plain mathematics: what Add, Cut, Till and Total answer; what the laws say of them.
  Layer 8 (board), plain mathematics: which boards are right; what is got, put, dropped, passed and gathered.
  Layer 11 (show), plain mathematics: an alarm's line, the words of a text, numbers, and the alarm whose line a text is.
  Layer 11 (show): mathematics of the laws: of more windows, of fewer lines.
  Layer 11 (show): mathematics of the law ShowHeard: those that are heard rise by rank, and are the ones of no muted bed.
  Layer 10 (mute), plain mathematics: windows joined, and what cuts leave of windows.
  Layer 11 (show), plain mathematics: a text cut at its first blanks; a number's digits, read loosely; what the program's own words are worth as an alarm.
-/
import Derived.WalkKit
import Derived.WalkSpells
import Derived.WalkLawsBesides
import Derived.RangeFuncBox
import Derived.OpenShut
import Derived.Lib.Hide
import Derived.Deep.Draws
import Derived.Laws.Rows
import Derived.Lib.AtoiAll
import Derived.Lib.ItoaNum
import Derived.Lib.Bytealg
import Derived.Lib.IndexLaws
import Derived.Lib.AtoiTie
import Derived.Lib.Split
namespace Go.Proofs.YtpgichlaghhdeaaGreatDoor
set_option maxRecDepth 10000
open Go.RowKit

/-- A byte, as a cell holds it. -/
def byteV (x : UInt8) : Value := .int .u8 (x.toNat : Int)

theorem ownsRow_slice {w : World} {base : Nat} {e : TypeId} {size : Nat} {v : Value} {n : Nat} {xs : List Value} (h : w.ownsRow base e size v n xs) : ∃ A c, v = .slice A n c := by
  rcases h.2 with ⟨rfl, rfl⟩ | ⟨g, cap, _, rfl, _⟩
  · exact ⟨_, _, rfl⟩
  · exact ⟨_, _, rfl⟩

/-- A text of these bytes. -/
def strOf (l : List UInt8) : ByteArray := ⟨l.toArray⟩
/-- The bytes of a text. -/
def bl (s : ByteArray) : List UInt8 := s.data.toList
theorem bl_strOf (l : List UInt8) : bl (strOf l) = l := rfl
theorem strOf_bl (s : ByteArray) : strOf (bl s) = s := rfl
theorem strOf_size (l : List UInt8) : (strOf l).size = l.length := rfl
theorem bl_length (s : ByteArray) : (bl s).length = s.size := rfl
theorem bl_append (s t : ByteArray) : bl (s ++ t) = bl s ++ bl t := by unfold bl; rw [ByteArray.data_append]; simp
theorem strOf_append (l : List UInt8) (s : ByteArray) : strOf l ++ s = strOf (l ++ bl s) := by
  rw [← strOf_bl (strOf l ++ s), bl_append, bl_strOf]
theorem bl_inj {s t : ByteArray} (h : bl s = bl t) : s = t := by rw [← strOf_bl s, ← strOf_bl t, h]

/-- The slice at A holds the numbers zs, in blocks below B. -/
def IntsAt (w : World) (B : Nat) (A : Option Addr) (zs : List Int) : Prop :=
  ∀ i (h : i < zs.length), ∃ b off, A = some ⟨b, off, none⟩ ∧ b < B ∧ w.cell? ⟨b, off + i, none⟩ = some (.int .i64 zs[i])

theorem IntsAt.below {w w' : World} {B B' : Nat} {A : Option Addr} {zs : List Int} (h : IntsAt w B A zs) (hb : Below B' w w') (hB : B ≤ B') : IntsAt w' B A zs := fun i hi => by
  obtain ⟨b, off, e, hlt, hc⟩ := h i hi
  exact ⟨b, off, e, hlt, (hb.cell (p := ⟨b, off + i, none⟩) (by show b < B'; omega)).trans hc⟩

theorem IntsAt.more {w : World} {B B' : Nat} {A : Option Addr} {zs : List Int} (h : IntsAt w B A zs) (hB : B ≤ B') : IntsAt w B' A zs := fun i hi => by
  obtain ⟨b, off, e, hlt, hc⟩ := h i hi
  exact ⟨b, off, e, by omega, hc⟩

theorem IntsAt.nil (w : World) (B : Nat) (A : Option Addr) : IntsAt w B A [] := fun _ hi => absurd hi (Nat.not_lt_zero _)

/-- One number, as a slice of one's own holds it. -/
theorem IntsAt.one (w : World) (x : Int) (t : TypeId) : IntsAt (w.alloc (.cells #[.int .i64 x] t)) (w.alloc (.cells #[.int .i64 x] t)).heap.size (some ⟨w.heap.size, 0, none⟩) [x] := fun i hi => by
  obtain rfl : i = 0 := by simpa using hi
  exact ⟨w.heap.size, 0, rfl, by simp, (Boxed.new w t (.int .i64 x)).cell⟩

theorem below_drew {B : Nat} {a w : World} (h : Below B a w) (n : Nat) : Below B a (w.drewN n) := ⟨h.os, h.tape, h.output, h.size, h.block⟩

theorem bl_get (s : ByteArray) (k : Nat) (h : k < s.size) : (bl s)[k]'h = s[k] := rfl
theorem bl_extract_to (s : ByteArray) (k : Nat) (_h : k ≤ s.size) : bl (s.extract 0 k) = (bl s).take k := by
  unfold bl; simp [ByteArray.data_extract]
theorem bl_extract_from (s : ByteArray) (k : Nat) : bl (s.extract k s.size) = (bl s).drop k := by
  unfold bl
  rw [ByteArray.data_extract, Array.toList_extract, List.extract_eq_take_drop]
  rw [List.take_of_length_le (by simp)]

theorem strOf_toList (l : List UInt8) : (strOf l).toList = l := by
  rw [ByteArray.toList_eq]; rfl

/-- Four numbers, as a slice of one's own holds them. -/
theorem IntsAt.four (w : World) (a b c d : Int) (t : TypeId) : IntsAt (w.alloc (.cells #[.int .i64 a, .int .i64 b, .int .i64 c, .int .i64 d] t)) (w.heap.size + 1) (some ⟨w.heap.size, 0, none⟩) [a, b, c, d] := fun i hi => by
  have hb := World.alloc_heap_new w (.cells #[.int .i64 a, .int .i64 b, .int .i64 c, .int .i64 d] t)
  refine ⟨w.heap.size, 0, rfl, by omega, ?_⟩
  simp only [World.cell?, hb]
  match i, hi with
  | 0, _ => rfl
  | 1, _ => rfl
  | 2, _ => rfl
  | 3, _ => rfl

theorem IntsAt.of_own {w : World} {base : Nat} {e : TypeId} {A : Option Addr} {cap : Nat} {zs : List Int} (h : w.ownsRow base e 1 (.slice A zs.length cap) zs.length (zs.map (Value.int .i64))) : IntsAt w w.heap.size A zs := fun i hi => by
  rcases h.2 with ⟨_, h0⟩ | ⟨g, cap', cur, hv, _, hg, _⟩
  · omega
  · have hA : A = some ⟨g, 0, none⟩ := by injection hv
    subst hA
    have hc := h.cells (g := g) rfl i (.int .i64 zs[i]) (by simp [List.getElem?_eq_getElem hi])
    have hadd : (⟨g, 0, none⟩ : Addr).add i = ⟨g, 0 + i, none⟩ := by unfold Addr.add; split <;> simp_all
    rw [hadd] at hc
    exact ⟨g, 0, rfl, (Array.getElem?_eq_some_iff.1 hg).1, hc⟩

theorem strs_append (a b : List UInt8) : strOf a ++ strOf b = strOf (a ++ b) := strOf_append a (strOf b)

theorem below2 {a b c : World} (h : Below a.heap.size a b) (k : Below b.heap.size b c) : Below a.heap.size a c := h.trans (k.mono h.size)

/-- What a law is told of a slice of integers that came in: nil, or a row of cap cells, zs; its elements are the first len. -/
def IsRow (k : IntKind) (w : World) (a : Option Addr) (len cap : Nat) (zs : List Int) : Prop :=
  (a = none ∧ len = 0 ∧ cap = 0 ∧ zs = []) ∨
  ∃ x, a = some x ∧ len ≤ cap ∧ cap ≤ maxLen ∧ zs.length = cap ∧ (∀ i, i < zs.length → w.cell? (x.add i) = some (.int k (zs.getD i 0))) ∧ ∀ n ∈ zs, (Lit.int k n).wf = true

theorem IsRow.ints {w : World} {a : Option Addr} {len cap : Nat} {zs : List Int} (h : IsRow .i64 w a len cap zs) : len = (zs.take len).length ∧ len ≤ maxLen ∧ IntsAt w w.heap.size a (zs.take len) ∧ ∀ n ∈ zs.take len, (Lit.int .i64 n).wf = true := by
  rcases h with ⟨rfl, rfl, rfl, rfl⟩ | ⟨x, rfl, hl, hm, hz, hc, hw⟩
  · exact ⟨rfl, Nat.zero_le _, IntsAt.nil _ _ _, by simp⟩
  · have e : len = (zs.take len).length := by rw [List.length_take]; omega
    refine ⟨e, by omega, fun i hi => ?_, fun n hn => hw n (List.mem_of_mem_take hn)⟩
    have hi2 : i < zs.length := by omega
    obtain ⟨b, off, rfl, hcc⟩ := ints_at hc (by omega)
    have h1 := hcc i hi2
    refine ⟨b, off, rfl, World.block_lt_of_cell? w _ h1, h1.trans ?_⟩
    simp [List.getD, List.getElem?_eq_getElem hi2]

/-- The slice at A holds the texts ss, in blocks below B. -/
def StrsAt (w : World) (B : Nat) (A : Option Addr) (ss : List ByteArray) : Prop :=
  ∀ i (h : i < ss.length), ∃ b off, A = some ⟨b, off, none⟩ ∧ b < B ∧ w.cell? ⟨b, off + i, none⟩ = some (.string ss[i])

theorem StrsAt.below {w w' : World} {B B' : Nat} {A : Option Addr} {ss : List ByteArray} (h : StrsAt w B A ss) (hb : Below B' w w') (hB : B ≤ B') : StrsAt w' B A ss := fun i hi => by
  obtain ⟨b, off, e, hlt, hc⟩ := h i hi
  exact ⟨b, off, e, hlt, (hb.cell (p := ⟨b, off + i, none⟩) (by show b < B'; omega)).trans hc⟩

theorem StrsAt.more {w : World} {B B' : Nat} {A : Option Addr} {ss : List ByteArray} (h : StrsAt w B A ss) (hB : B ≤ B') : StrsAt w B' A ss := fun i hi => by
  obtain ⟨b, off, e, hlt, hc⟩ := h i hi
  exact ⟨b, off, e, by omega, hc⟩

theorem StrsAt.nil (w : World) (B : Nat) (A : Option Addr) : StrsAt w B A [] := fun _ hi => absurd hi (Nat.not_lt_zero _)

theorem StrsAt.new (w : World) (ss : List ByteArray) (t : TypeId) : StrsAt (w.alloc (.cells (ss.map Value.string).toArray t)) (w.heap.size + 1) (some ⟨w.heap.size, 0, none⟩) ss := fun i hi => by
  have hb := World.alloc_heap_new w (.cells (ss.map Value.string).toArray t)
  refine ⟨w.heap.size, 0, rfl, by omega, ?_⟩
  simp only [World.cell?, hb]
  simp [hi]

theorem gets_below {w W w1 : World} {e : TypeId} {v : Value} {k : Nat} {xs : List Value} {tmp : Obj} (hB : Below w.heap.size w W) (hown : W.ownsRow w.heap.size e 1 v k xs) (hg : (W.alloc tmp).grownBy w1 v.ownBlock) : Below w.heap.size w w1 :=
  (hB.alloc hB.size tmp).grown hg (by have := hB.size; simp; omega) (fun j ej => (hown.lt j ej).1)

theorem owns_below {w W : World} {base : Nat} {e : TypeId} {size : Nat} {v : Value} {k : Nat} {xs : List Value} (h : w.ownsRow base e size v k xs) (hb : Below w.heap.size w W) : W.ownsRow base e size v k xs :=
  h.kept (row := none) ⟨hb.os, hb.tape, hb.output, hb.size, fun i hi _ => hb.block i hi⟩ (by cases v.ownBlock <;> simp)

theorem retb {a b : Bool} (h : a = b) : Ending.returned (.bool a) = .returned (.bool b) := by rw [h]
theorem below_new (w : World) (o : Obj) : Below w.heap.size w (w.alloc o) := (Below.refl _ _).alloc (Nat.le_refl _) _
theorem below_new2 (w : World) (o o' : Obj) : Below w.heap.size w ((w.alloc o).alloc o') := (below_new w o).alloc (by simp) _
theorem below_new3 (w : World) (o o' o2 : Obj) : Below w.heap.size w (((w.alloc o).alloc o').alloc o2) := (below_new2 w o o').alloc (by simp; omega) _
theorem below_undrew {a b : World} (h : Below a.drew.heap.size a.drew b) : Below a.heap.size a b := ⟨h.os, h.tape, h.output, h.size, h.block⟩
theorem IntsAt.two (w : World) (a b : Int) (t : TypeId) : IntsAt (w.alloc (.cells #[.int .i64 a, .int .i64 b] t)) (w.heap.size + 1) (some ⟨w.heap.size, 0, none⟩) [a, b] := fun i hi => by
  have hb := World.alloc_heap_new w (.cells #[.int .i64 a, .int .i64 b] t)
  refine ⟨w.heap.size, 0, rfl, by omega, ?_⟩
  simp only [World.cell?, hb]
  match i, hi with
  | 0, _ => rfl
  | 1, _ => rfl
theorem IntsAt.on {w w' : World} {A : Option Addr} {zs : List Int} (h : IntsAt w w.heap.size A zs) (hb : Below w.heap.size w w') : IntsAt w' w'.heap.size A zs := (h.below hb (Nat.le_refl _)).more hb.size
theorem grown_refl (w : World) (row : Option Nat) : w.grownBy w row := ⟨rfl, rfl, rfl, Nat.le_refl _, fun _ _ _ => rfl⟩
theorem ownsRow_some {w : World} {base n : Nat} {e : TypeId} {size : Nat} {v : Value} {xs : List Value} (h : w.ownsRow base e size v n xs) (hn : 1 ≤ n) : ∃ g cap, v = .slice (some ⟨g, 0, none⟩) n cap := by
  rcases h.2 with ⟨_, h0⟩ | ⟨g, cap, cur, hv, _⟩
  · omega
  · exact ⟨g, cap, hv⟩
theorem owns_lower {w : World} {base base' : Nat} {e : TypeId} {size : Nat} {v : Value} {n : Nat} {xs : List Value} (h : w.ownsRow base e size v n xs) (hb : base' ≤ base) : w.ownsRow base' e size v n xs := by
  refine ⟨h.1, ?_⟩
  rcases h.2 with h0 | ⟨g, cap, cur, h1, h2, h3⟩
  · exact Or.inl h0
  · exact Or.inr ⟨g, cap, cur, h1, Nat.le_trans hb h2, h3⟩

theorem below_setRow {B : Nat} {w w' : World} (h : Below B w w') {g : Nat} (hg : B ≤ g) (cs : Array Value) : Below B w (w'.setRow g cs) :=
  ⟨h.os, h.tape, h.output, by simp; exact h.size, fun i hi => (setRow_other w' g i cs (by omega)).trans (h.block i hi)⟩
theorem grown_setRow (w : World) (g : Nat) (cs : Array Value) : w.grownBy (w.setRow g cs) (some g) :=
  ⟨rfl, rfl, rfl, by simp, fun k _ hne => setRow_other w g k cs (fun e => hne (by rw [e]))⟩

end Go.Proofs.YtpgichlaghhdeaaGreatDoor

namespace Go.Proofs.YtpgichlaghhdeaaGreatDoor
set_option maxRecDepth 10000

/-- May a bed and a channel be? -/
def Sp.may (b c : Int) : Bool := decide (1 ≤ b) && decide (b ≤ 99) && decide (0 ≤ c) && decide (c < 8)
theorem Sp.may_iff {b c : Int} : Sp.may b c = true ↔ 1 ≤ b ∧ b ≤ 99 ∧ 0 ≤ c ∧ c < 8 := by
  simp [Sp.may]; omega
theorem Sp.may_not {b c : Int} : Sp.may b c = false ↔ ¬ (1 ≤ b ∧ b ≤ 99 ∧ 0 ≤ c ∧ c < 8) := by
  rw [← Sp.may_iff]; simp
/-- Is one less than another? -/
def Sp.less (b c b' c' : Int) : Bool := decide (b < b') || (b == b' && decide (c < c'))
theorem Sp.less_iff {b c b' c' : Int} : Sp.less b c b' c' = true ↔ b < b' ∨ (b = b' ∧ c < c') := by simp [Sp.less]

end Go.Proofs.YtpgichlaghhdeaaGreatDoor

namespace Go.Proofs.YtpgichlaghhdeaaGreatDoor
set_option maxRecDepth 10000

/-- Its number, and the refusal. -/
def Sp.num (b c : Int) : Int := if Sp.may b c then 8 * (b - 1) + c else 0
def Sp.numE (b c : Int) : Int := if Sp.may b c then 0 else 1
/-- The spot of a number. -/
def Sp.isNum (n : Int) : Bool := decide (0 ≤ n) && decide (n < 792)
theorem Sp.isNum_iff {n : Int} : Sp.isNum n = true ↔ 0 ≤ n ∧ n < 792 := by simp [Sp.isNum]
def Sp.atB (n : Int) : Int := if Sp.isNum n then n / 8 + 1 else 0
def Sp.atC (n : Int) : Int := if Sp.isNum n then n % 8 else 0
def Sp.atE (n : Int) : Int := if Sp.isNum n then 0 else 1

/-- The text of a spot that may be. -/
def Sp.txt (b c : Int) : List UInt8 := Lib.decDigits b.toNat ++ [47] ++ Lib.decDigits c.toNat
def Sp.prn (b c : Int) : List UInt8 := if Sp.may b c then Sp.txt b c else []
/-- The number that a text is, read loosely. -/
def Sp.loose (l : List UInt8) : Int := match Lib.atoiAll l with
  | .ok v => v
  | .range => Lib.atoiSat l
  | _ => 0
/-- What stands ahead of a text's first stroke, and behind it. -/
def Sp.cutA (l : List UInt8) : List UInt8 := if Lib.indexByte l 47 < 0 then l else l.take (Lib.indexByte l 47).toNat
def Sp.cutB (l : List UInt8) : List UInt8 := if Lib.indexByte l 47 < 0 then [] else l.drop ((Lib.indexByte l 47).toNat + 1)
/-- The spot that a text is of. -/
def Sp.ok (l : List UInt8) : Bool := Sp.may (Sp.loose (Sp.cutA l)) (Sp.loose (Sp.cutB l)) && decide (Sp.txt (Sp.loose (Sp.cutA l)) (Sp.loose (Sp.cutB l)) = l)
def Sp.parB (l : List UInt8) : Int := if Sp.ok l then Sp.loose (Sp.cutA l) else 0
def Sp.parC (l : List UInt8) : Int := if Sp.ok l then Sp.loose (Sp.cutB l) else 0
def Sp.parE (l : List UInt8) : Int := if Sp.ok l then 0 else 20

theorem Sp.txt_back (b c : Nat) (hb : b < 100) (hc : c < 8) : Sp.loose (Sp.cutA (Lib.decDigits b ++ [47] ++ Lib.decDigits c)) = b ∧ Sp.loose (Sp.cutB (Lib.decDigits b ++ [47] ++ Lib.decDigits c)) = c := by
  have h : ∀ b : Fin 100, ∀ c : Fin 8, Sp.loose (Sp.cutA (Lib.decDigits b.val ++ [47] ++ Lib.decDigits c.val)) = (b.val : Int) ∧ Sp.loose (Sp.cutB (Lib.decDigits b.val ++ [47] ++ Lib.decDigits c.val)) = (c.val : Int) := by decide +kernel
  exact h ⟨b, hb⟩ ⟨c, hc⟩
theorem Sp.txt_loose {b c : Int} (h : Sp.may b c = true) : Sp.loose (Sp.cutA (Sp.txt b c)) = b ∧ Sp.loose (Sp.cutB (Sp.txt b c)) = c := by
  have hm := Sp.may_iff.1 h
  have := Sp.txt_back b.toNat c.toNat (by omega) (by omega)
  unfold Sp.txt
  refine ⟨this.1.trans (by omega), this.2.trans (by omega)⟩
theorem Sp.txt_ok {b c : Int} (h : Sp.may b c = true) : Sp.ok (Sp.txt b c) = true := by
  unfold Sp.ok
  rw [(Sp.txt_loose h).1, (Sp.txt_loose h).2, h]
  simp
/-- A text is of a spot just where it is that spot's text. -/
theorem Sp.ok_iff {l : List UInt8} : Sp.ok l = true ↔ ∃ b c, Sp.may b c = true ∧ Sp.txt b c = l := by
  constructor
  · intro h
    unfold Sp.ok at h
    rw [Bool.and_eq_true, decide_eq_true_iff] at h
    exact ⟨_, _, h.1, h.2⟩
  · rintro ⟨b, c, h, rfl⟩
    exact Sp.txt_ok h
theorem Sp.txt_len {b c : Int} (h : Sp.may b c = true) : (Sp.txt b c).length ≤ 4 := by
  have hm := Sp.may_iff.1 h
  have h0 : ∀ b : Fin 100, ∀ c : Fin 8, (Lib.decDigits b.val ++ [47] ++ Lib.decDigits c.val).length ≤ 4 := by decide +kernel
  exact h0 ⟨b.toNat, by omega⟩ ⟨c.toNat, by omega⟩

theorem Sp.par_txt {b c : Int} (h : Sp.may b c = true) : Sp.parB (Sp.txt b c) = b ∧ Sp.parC (Sp.txt b c) = c ∧ Sp.parE (Sp.txt b c) = 0 := by
  have h1 := Sp.txt_ok h
  have h2 := Sp.txt_loose h
  unfold Sp.parB Sp.parC Sp.parE
  rw [h1]
  exact ⟨h2.1, h2.2, rfl⟩
theorem Sp.par_none {l : List UInt8} (h : Sp.ok l = false) : Sp.parB l = 0 ∧ Sp.parC l = 0 ∧ Sp.parE l = 20 := by
  unfold Sp.parB Sp.parC Sp.parE
  rw [h]
  exact ⟨rfl, rfl, rfl⟩

end Go.Proofs.YtpgichlaghhdeaaGreatDoor

namespace Go.Proofs.YtpgichlaghhdeaaGreatDoor
set_option maxRecDepth 10000
namespace Lf

/-- The chapter's table: the phases' rows one behind the other. -/
def tab : List Int := [1, -1, -1, -1, -1, -1, 1, 2, 3, 4, 0, -1, 2, -1, 3, 4, 0, -1, 1, -1, -1, 4, 0, -1, 4, -1, 3, -1, 0, 1]
def isP (p : Int) : Bool := decide (0 ≤ p) && decide (p < 5)
def isD (d : Int) : Bool := decide (1 ≤ d) && decide (d ≤ 6)
def look (p d : Int) : Int := tab.getD (p.toNat * 6 + (d - 1).toNat) 0
/-- Does the deed make something of the phase? -/
def ok (p d : Int) : Bool := isP p && isD d && !(look p d == -1)
/-- What it makes. -/
def nx (p d : Int) : Int := if ok p d then look p d else 0

/-- A row of deeds. -/
def runP (p : Int) (l : List Int) : Int := l.foldl (fun p d => if ok p d then nx p d else p) p
def runN (p : Int) : List Int → Nat
  | [] => 0
  | d :: l => if ok p d then runN (nx p d) l + 1 else runN p l

theorem isP_iff {p : Int} : isP p = true ↔ 0 ≤ p ∧ p < 5 := by unfold isP; simp
theorem isD_iff {d : Int} : isD d = true ↔ 1 ≤ d ∧ d ≤ 6 := by unfold isD; simp
theorem isP_cases {p : Int} (h : isP p = true) : p = 0 ∨ p = 1 ∨ p = 2 ∨ p = 3 ∨ p = 4 := by
  have := isP_iff.1 h; omega
theorem isD_cases {d : Int} (h : isD d = true) : d = 1 ∨ d = 2 ∨ d = 3 ∨ d = 4 ∨ d = 5 ∨ d = 6 := by
  have := isD_iff.1 h; omega
theorem ok_parts {p d : Int} (h : ok p d = true) : isP p = true ∧ isD d = true ∧ ¬ look p d = -1 := by
  unfold ok at h; simp at h; exact ⟨h.1.1, h.1.2, h.2⟩
theorem nx_isP {p d : Int} (h : ok p d = true) : isP (nx p d) = true := by
  obtain ⟨h1, h2, _⟩ := ok_parts h
  rcases isP_cases h1 with rfl | rfl | rfl | rfl | rfl <;> rcases isD_cases h2 with rfl | rfl | rfl | rfl | rfl | rfl <;> first | rfl | (exfalso; revert h; decide)

theorem runP_nil (p : Int) : runP p [] = p := rfl
theorem runP_append (p : Int) (l m : List Int) : runP p (l ++ m) = runP (runP p l) m := by unfold runP; rw [List.foldl_append]
theorem runP_one (p d : Int) : runP p [d] = if ok p d then nx p d else p := rfl
theorem runN_cons (p d : Int) (l : List Int) : runN p (d :: l) = if ok p d then runN (nx p d) l + 1 else runN p l := rfl
theorem runN_append (p : Int) (l m : List Int) : runN p (l ++ m) = runN p l + runN (runP p l) m := by
  induction l generalizing p with
  | nil => simp [runN, runP]
  | cons d l ih =>
    have e : runP p (d :: l) = runP (if ok p d then nx p d else p) l := rfl
    rw [List.cons_append, runN_cons, runN_cons, e]
    cases h : ok p d
    · simp only [Bool.false_eq_true, if_false]; rw [ih]
    · simp only [if_true]; rw [ih]; omega
theorem runN_one (p d : Int) : runN p [d] = if ok p d then 1 else 0 := by simp [runN]
theorem runN_le (p : Int) (l : List Int) : runN p l ≤ l.length := by
  induction l generalizing p with
  | nil => simp [runN]
  | cons d l ih => unfold runN; have := ih (nx p d); have := ih p; split <;> simp <;> omega
theorem runP_take {p : Int} {l : List Int} {k : Nat} (h : k < l.length) : runP p (l.take (k + 1)) = if ok (runP p (l.take k)) l[k] then nx (runP p (l.take k)) l[k] else runP p (l.take k) := by
  rw [List.take_succ_eq_append_getElem h, runP_append, runP_one]
theorem runN_take {p : Int} {l : List Int} {k : Nat} (h : k < l.length) : runN p (l.take (k + 1)) = runN p (l.take k) + if ok (runP p (l.take k)) l[k] then 1 else 0 := by
  rw [List.take_succ_eq_append_getElem h, runN_append, runN_one]

/-- A phase's name. -/
def nameL (p : Int) : List UInt8 :=
  if p = 0 then [113, 117, 105, 101, 116] else if p = 1 then [114, 97, 105, 115, 101, 100] else if p = 2 then [101, 115, 99, 97, 108, 97, 116, 101, 100] else if p = 3 then [97, 99, 107, 101, 100] else if p = 4 then [115, 105, 108, 101, 110, 99, 101, 100] else []

/-! ### what is reached -/
/-- What is known on the way: what is reached, in order, and the last step to each phase. -/
abbrev St := List Int × List (Int × Int)
/-- One deed tried at the i-th phase reached. -/
def tryD (s : St) (i : Nat) (d : Int) : St :=
  if ok (s.1.getD i 0) d && !s.1.contains (nx (s.1.getD i 0) d) then (s.1 ++ [nx (s.1.getD i 0) d], s.2.set (nx (s.1.getD i 0) d).toNat (s.1.getD i 0, d)) else s
def z5 : List (Int × Int) := [(0, 0), (0, 0), (0, 0), (0, 0), (0, 0)]
/-- All that is known ahead of the n-th round: n = 6 i + (d - 1). -/
def know (f : Int) : Nat → St
  | 0 => ([f], z5)
  | n + 1 => tryD (know f n) (n / 6) ((n % 6 : Nat) + 1)
theorem know_nat : ∀ f : Fin 5, ∀ n : Fin 31, 1 ≤ (know (f.val : Int) n.val).1.length ∧ (know (f.val : Int) n.val).1.length ≤ 5 ∧ (know (f.val : Int) n.val).2.length = 5 ∧ (n.val < 30 → n.val / 6 < (know (f.val : Int) n.val).1.length) ∧ (n.val = 30 → (know (f.val : Int) n.val).1.length = 5) := by decide +kernel
theorem know_facts {f : Int} (hf : isP f = true) {n : Nat} (hn : n ≤ 30) : 1 ≤ (know f n).1.length ∧ (know f n).1.length ≤ 5 ∧ (know f n).2.length = 5 ∧ (n < 30 → n / 6 < (know f n).1.length) ∧ (n = 30 → (know f n).1.length = 5) := by
  have h := isP_iff.1 hf
  have := know_nat ⟨f.toNat, by omega⟩ ⟨n, by omega⟩
  simp only [show ((f.toNat : Nat) : Int) = f by omega] at this
  exact this
theorem know_succ (f : Int) (n : Nat) : know f (n + 1) = tryD (know f n) (n / 6) ((n % 6 : Nat) + 1) := rfl
theorem know_step {f : Int} {i j : Nat} (hj : j < 6) : know f (6 * i + (j + 1)) = tryD (know f (6 * i + j)) i ((j : Int) + 1) := by
  rw [show 6 * i + (j + 1) = 6 * i + j + 1 by omega, know_succ, show (6 * i + j) / 6 = i by omega, show (6 * i + j) % 6 = j by omega]

/-! ### the way back from a phase to where one came from -/
def wk (f to : Int) : Nat → Int × List Int
  | 0 => (to, [])
  | k + 1 => if (wk f to k).1 = f then wk f to k else (((know f 30).2.getD (wk f to k).1.toNat (0, 0)).1, (wk f to k).2 ++ [((know f 30).2.getD (wk f to k).1.toNat (0, 0)).2])
/-- The shortest way, the least first. -/
def way (f to : Int) : List Int := if isP f && isP to then (wk f to 4).2.reverse else []
def reach (f : Int) : List Int := if isP f then [0, 1, 2, 3, 4] else []
theorem wk_nat : ∀ f to : Fin 5, ∀ k : Fin 5, ((wk (f.val : Int) (to.val : Int) k.val).1 ≠ (f.val : Int) → k.val < 4 ∧ isP (wk (f.val : Int) (to.val : Int) k.val).1 = true) ∧ ((wk (f.val : Int) (to.val : Int) k.val).1 = (f.val : Int) → (wk (f.val : Int) (to.val : Int) k.val).2 = (wk (f.val : Int) (to.val : Int) 4).2) := by decide +kernel
theorem wk_facts {f to : Int} (hf : isP f = true) (ht : isP to = true) {k : Nat} (hk : k ≤ 4) : ((wk f to k).1 ≠ f → k < 4 ∧ isP (wk f to k).1 = true) ∧ ((wk f to k).1 = f → (wk f to k).2.reverse = way f to) := by
  have h := isP_iff.1 hf
  have h2 := isP_iff.1 ht
  have := wk_nat ⟨f.toNat, by omega⟩ ⟨to.toNat, by omega⟩ ⟨k, by omega⟩
  simp only [show ((f.toNat : Nat) : Int) = f by omega, show ((to.toNat : Nat) : Int) = to by omega] at this
  refine ⟨this.1, fun h => ?_⟩
  rw [this.2 h]; unfold way; rw [hf, ht]; rfl
theorem wk_succ {f to : Int} {k : Nat} (h : (wk f to k).1 ≠ f) : wk f to (k + 1) = (((know f 30).2.getD (wk f to k).1.toNat (0, 0)).1, (wk f to k).2 ++ [((know f 30).2.getD (wk f to k).1.toNat (0, 0)).2]) := by
  show (if (wk f to k).1 = f then wk f to k else _) = _
  rw [if_neg h]
theorem has_nat : ∀ f to : Fin 5, (know (f.val : Int) 30).1.contains (to.val : Int) = true ∧ (know (f.val : Int) 30).1.isPerm [0, 1, 2, 3, 4] = true := by decide +kernel
theorem has_all {f to : Int} (hf : isP f = true) (ht : isP to = true) : (know f 30).1.contains to = true := by
  have h := isP_iff.1 hf
  have h2 := isP_iff.1 ht
  have := (has_nat ⟨f.toNat, by omega⟩ ⟨to.toNat, by omega⟩).1
  simpa only [show ((f.toNat : Nat) : Int) = f by omega, show ((to.toNat : Nat) : Int) = to by omega] using this
theorem sorted_all {f : Int} (hf : isP f = true) : ((know f 30).1.mergeSort fun x y => decide (x ≤ y)) = reach f := by
  have h := isP_iff.1 hf
  have hp := (has_nat ⟨f.toNat, by omega⟩ 0).2
  simp only [show ((f.toNat : Nat) : Int) = f by omega] at hp
  have hp2 := List.isPerm_iff.1 hp
  unfold reach; rw [hf]
  refine List.Perm.eq_of_pairwise (le := fun a b => a ≤ b) (fun a b _ _ h1 h2 => Int.le_antisymm h1 h2) ?_ (by decide) ((List.mergeSort_perm _ _).trans hp2)
  exact (List.pairwise_mergeSort (le := fun x y : Int => decide (x ≤ y)) (fun a b c h1 h2 => by simp at *; omega) (fun a b => by simp; omega) _).imp (fun h => by simpa using h)
theorem way_facts : ∀ f to : Fin 5, (way (f.val : Int) (to.val : Int)).length ≤ 3 ∧ runP (f.val : Int) (way (f.val : Int) (to.val : Int)) = (to.val : Int) ∧ runN (f.val : Int) (way (f.val : Int) (to.val : Int)) = (way (f.val : Int) (to.val : Int)).length ∧ ((way (f.val : Int) (to.val : Int)).length = 0 ↔ f = to) := by decide +kernel
theorem way_len (f to : Int) : (way f to).length ≤ 3 := by
  by_cases h : isP f = true ∧ isP to = true
  · have h1 := isP_iff.1 h.1
    have h2 := isP_iff.1 h.2
    have := (way_facts ⟨f.toNat, by omega⟩ ⟨to.toNat, by omega⟩).1
    simpa only [show ((f.toNat : Nat) : Int) = f by omega, show ((to.toNat : Nat) : Int) = to by omega] using this
  · unfold way
    rw [if_neg (by simpa using h)]; simp
end Lf
end Go.Proofs.YtpgichlaghhdeaaGreatDoor

namespace Go.Proofs.YtpgichlaghhdeaaGreatDoor
set_option maxRecDepth 10000

/-- An alarm: bed, channel, phase, priority, since, until. -/
structure Alm where
  b : Int
  c : Int
  ph : Int
  pr : Int
  si : Int
  un : Int
deriving DecidableEq

namespace Am
def isT (n : Int) : Bool := decide (0 ≤ n) && decide (n ≤ 1000000000)
def late (n : Int) : Bool := decide (n ≤ 1000002000)
def wait (p : Int) : Int := if p = 1 then 10 else if p = 2 then 30 else if p = 3 then 90 else 0
def right (a : Alm) : Bool := Sp.may a.b a.c && decide (1 ≤ a.ph) && decide (a.ph ≤ 4) && decide (1 ≤ a.pr) && decide (a.pr ≤ 3) && isT a.si && decide (a.si ≤ a.un) && late a.un
def zero : Alm := ⟨0, 0, 0, 0, 0, 0⟩
def openE (b c prio t : Int) : Int := if !Sp.may b c || decide (wait prio = 0) || !isT t then 1 else 0
def opn (b c prio t : Int) : Alm := if openE b c prio t = 0 then ⟨b, c, 1, prio, t, t + wait prio⟩ else zero
def raiseE (a : Alm) (prio t : Int) : Int := if !right a || decide (wait prio = 0) || !isT t then 1 else if t < a.si then 62 else 0
def raiseOk (a : Alm) (prio t : Int) : Alm :=
  if a.ph = 3 then ⟨a.b, a.c, 1, min a.pr prio, t, t + wait (min a.pr prio)⟩
  else if a.ph = 1 ∧ min a.pr prio ≠ a.pr then ⟨a.b, a.c, a.ph, min a.pr prio, a.si, max a.si (min a.un (t + wait (min a.pr prio)))⟩
  else ⟨a.b, a.c, a.ph, min a.pr prio, a.si, a.un⟩
def raise (a : Alm) (prio t : Int) : Alm := if raiseE a prio t = 0 then raiseOk a prio t else zero
def turnU (pr deed t long : Int) : Int := if deed = 6 then t + wait pr else if deed = 4 then t + long else t
def turn (a : Alm) (deed t long : Int) : Alm := ⟨a.b, a.c, Lf.nx a.ph deed, a.pr, a.si, turnU a.pr deed t long⟩
def canDo (deed long : Int) : Bool := (deed == 2 || deed == 3 || deed == 4 || deed == 6) && !(deed == 4 && (decide (long < 1) || decide (1000 < long)))
def doE (a : Alm) (deed t long : Int) : Int :=
  if !right a || !isT t || !canDo deed long then 1 else if t < a.si then 62 else if Lf.ok a.ph deed = false then 60 else if (deed = 2 ∨ deed = 6) ∧ t < a.un then 61 else 0
def doA (a : Alm) (deed t long : Int) : Alm := if doE a deed t long = 0 then turn a deed t long else zero
def step (a : Alm) (t : Int) : Alm := if a.ph = 4 ∧ a.un ≤ t then turn a 6 a.un 0 else if a.ph = 1 ∧ a.un ≤ t then turn a 2 a.un 0 else a
def pass (a : Alm) (t : Int) : Alm := if right a then step (step (step a t) t) t else a

theorem isT_iff {n : Int} : isT n = true ↔ 0 ≤ n ∧ n ≤ 1000000000 := by unfold isT; simp
theorem late_iff {n : Int} : late n = true ↔ n ≤ 1000002000 := by unfold late; simp
theorem right_iff {a : Alm} : right a = true ↔ Sp.may a.b a.c = true ∧ 1 ≤ a.ph ∧ a.ph ≤ 4 ∧ 1 ≤ a.pr ∧ a.pr ≤ 3 ∧ (0 ≤ a.si ∧ a.si ≤ 1000000000) ∧ a.si ≤ a.un ∧ a.un ≤ 1000002000 := by
  unfold right
  simp only [Bool.and_eq_true, decide_eq_true_eq, isT_iff, late_iff]
  constructor
  · rintro ⟨⟨⟨⟨⟨⟨⟨h1, h2⟩, h3⟩, h4⟩, h5⟩, h6⟩, h7⟩, h8⟩
    exact ⟨h1, h2, h3, h4, h5, h6, h7, h8⟩
  · rintro ⟨h1, h2, h3, h4, h5, h6, h7, h8⟩
    exact ⟨⟨⟨⟨⟨⟨⟨h1, h2⟩, h3⟩, h4⟩, h5⟩, h6⟩, h7⟩, h8⟩
theorem wait_pos {p : Int} (h : 1 ≤ p) (h3 : p ≤ 3) : 10 ≤ wait p ∧ wait p ≤ 90 := by
  unfold wait; split
  · omega
  · split
    · omega
    · split <;> omega
theorem wait_zero {p : Int} : wait p = 0 ↔ ¬ (1 ≤ p ∧ p ≤ 3) := by
  unfold wait; constructor
  · intro h; split at h
    · omega
    · split at h
      · omega
      · split at h <;> omega
  · intro h; rw [if_neg (by omega), if_neg (by omega), if_neg (by omega)]
theorem wait_mono {p q : Int} (_h : 1 ≤ p) (hq : q ≤ 3) (hpq : p ≤ q) : wait p ≤ wait q := by
  unfold wait
  repeat' split
  all_goals omega
theorem wait_bounds (p : Int) : 0 ≤ wait p ∧ wait p ≤ 90 := by
  unfold wait; repeat' split
  all_goals omega

/-! ### deeds on phases -/
theorem nx_two : Lf.nx 1 2 = 2 := by decide
theorem nx_six : Lf.nx 4 6 = 1 := by decide
theorem do_phase {ph deed : Int} (h : Lf.ok ph deed = true) (h1 : 1 ≤ ph) (hd : deed = 2 ∨ deed = 3 ∨ deed = 4 ∨ deed = 6) : 1 ≤ Lf.nx ph deed ∧ Lf.nx ph deed ≤ 4 := by
  obtain ⟨hp, _, _⟩ := Lf.ok_parts h
  rcases Lf.isP_cases hp with rfl | rfl | rfl | rfl | rfl <;> rcases hd with rfl | rfl | rfl | rfl <;> first | (exfalso; revert h; decide) | (exfalso; omega) | decide
theorem ok_two {ph : Int} (h : Lf.ok ph 2 = true) : ph = 1 := by
  obtain ⟨hp, _, _⟩ := Lf.ok_parts h
  rcases Lf.isP_cases hp with rfl | rfl | rfl | rfl | rfl <;> first | rfl | (exfalso; revert h; decide)
theorem ok_six {ph : Int} (h : Lf.ok ph 6 = true) : ph = 4 := by
  obtain ⟨hp, _, _⟩ := Lf.ok_parts h
  rcases Lf.isP_cases hp with rfl | rfl | rfl | rfl | rfl <;> first | rfl | (exfalso; revert h; decide)

/-! ### what is opened, raised or done is right -/
theorem openE_iff {b c prio t : Int} : openE b c prio t = 0 ↔ Sp.may b c = true ∧ (1 ≤ prio ∧ prio ≤ 3) ∧ 0 ≤ t ∧ t ≤ 1000000000 := by
  unfold openE
  have h1 := wait_zero (p := prio)
  have h2 := isT_iff (n := t)
  cases Sp.may b c <;> cases hT : isT t <;> by_cases hw : wait prio = 0 <;> simp_all
theorem opn_right {b c prio t : Int} (h : openE b c prio t = 0) : right (opn b c prio t) = true ∧ (opn b c prio t).b = b ∧ (opn b c prio t).c = c ∧ (opn b c prio t).si = t := by
  have hh := openE_iff.1 h
  have hw := wait_pos hh.2.1.1 hh.2.1.2
  unfold opn
  rw [if_pos h]
  refine ⟨right_iff.2 ⟨hh.1, ?_⟩, rfl, rfl, rfl⟩
  simp only
  omega
theorem raiseE_iff {a : Alm} {prio t : Int} : raiseE a prio t = 0 ↔ right a = true ∧ (1 ≤ prio ∧ prio ≤ 3) ∧ (0 ≤ t ∧ t ≤ 1000000000) ∧ a.si ≤ t := by
  unfold raiseE
  have h1 := wait_zero (p := prio)
  have h2 := isT_iff (n := t)
  cases right a <;> cases hT : isT t <;> by_cases hw : wait prio = 0 <;> by_cases ht : t < a.si <;> simp_all <;> omega
theorem raise_right {a : Alm} {prio t : Int} (h : raiseE a prio t = 0) : right (raise a prio t) = true ∧ (raise a prio t).b = a.b ∧ (raise a prio t).c = a.c ∧ (raise a prio t).pr ≤ a.pr ∧ (raise a prio t).pr ≤ prio ∧ a.si ≤ (raise a prio t).si := by
  obtain ⟨hr, hp, ht, hs⟩ := raiseE_iff.1 h
  have hr' := right_iff.1 hr
  have hm1 : 1 ≤ min a.pr prio := by omega
  have hm3 : min a.pr prio ≤ 3 := by omega
  have hw := wait_pos hm1 hm3
  unfold raise raiseOk
  rw [if_pos h]
  split
  · refine ⟨right_iff.2 ⟨hr'.1, ?_⟩, rfl, rfl, ?_, ?_, ?_⟩ <;> (simp only; omega)
  · split
    · refine ⟨right_iff.2 ⟨hr'.1, ?_⟩, rfl, rfl, ?_, ?_, ?_⟩ <;> (simp only; omega)
    · refine ⟨right_iff.2 ⟨hr'.1, ?_⟩, rfl, rfl, ?_, ?_, ?_⟩ <;> (simp only; omega)
theorem canDo_iff {deed long : Int} : canDo deed long = true ↔ (deed = 2 ∨ deed = 3 ∨ deed = 4 ∨ deed = 6) ∧ (deed = 4 → 1 ≤ long ∧ long ≤ 1000) := by
  unfold canDo
  simp only [Bool.and_eq_true, Bool.or_eq_true, beq_iff_eq, Bool.not_eq_true', Bool.and_eq_false_iff, Bool.or_eq_false_iff, decide_eq_false_iff_not, beq_eq_false_iff_ne]
  constructor
  · rintro ⟨h1, h2⟩
    exact ⟨by omega, fun h4 => by rcases h2 with h2 | h2 <;> omega⟩
  · rintro ⟨h1, h2⟩
    refine ⟨by omega, ?_⟩
    by_cases h4 : deed = 4
    · right; have := h2 h4; omega
    · left; exact h4
theorem doE_iff {a : Alm} {deed t long : Int} : doE a deed t long = 0 ↔ right a = true ∧ (0 ≤ t ∧ t ≤ 1000000000) ∧ canDo deed long = true ∧ a.si ≤ t ∧ Lf.ok a.ph deed = true ∧ ¬ ((deed = 2 ∨ deed = 6) ∧ t < a.un) := by
  unfold doE
  have h2 := isT_iff (n := t)
  cases right a <;> cases hT : isT t <;> cases canDo deed long <;> by_cases ht : t < a.si <;> cases Lf.ok a.ph deed <;> by_cases hd : (deed = 2 ∨ deed = 6) ∧ t < a.un <;> simp_all <;> omega
theorem turnU_ge {pr deed t long : Int} (h : deed = 4 → 1 ≤ long) : t ≤ turnU pr deed t long := by
  unfold turnU
  have := wait_bounds pr
  split
  · omega
  · split
    · rename_i h4; have := h h4; omega
    · omega
theorem turnU_le {pr deed t long : Int} (h : deed = 4 → long ≤ 1000) : turnU pr deed t long ≤ t + 1000 := by
  unfold turnU
  have := wait_bounds pr
  split
  · omega
  · split
    · rename_i h4; have := h h4; omega
    · omega
theorem do_right {a : Alm} {deed t long : Int} (h : doE a deed t long = 0) : right (doA a deed t long) = true ∧ (doA a deed t long).b = a.b ∧ (doA a deed t long).c = a.c ∧ (doA a deed t long).pr = a.pr ∧ (doA a deed t long).si = a.si ∧ t ≤ (doA a deed t long).un := by
  obtain ⟨hr, ht, hc, hs, ho, _⟩ := doE_iff.1 h
  have hr' := right_iff.1 hr
  obtain ⟨hd, hl⟩ := canDo_iff.1 hc
  have hp := do_phase ho hr'.2.1 hd
  have hu := turnU_ge (pr := a.pr) (deed := deed) (t := t) (long := long) (fun h => (hl h).1)
  have hv := turnU_le (pr := a.pr) (deed := deed) (t := t) (long := long) (fun h => (hl h).2)
  unfold doA turn
  rw [if_pos h]
  refine ⟨right_iff.2 ⟨hr'.1, ?_⟩, rfl, rfl, rfl, rfl, hu⟩
  simp only
  omega

/-! ### what time makes -/
theorem step_four {a : Alm} {t : Int} (h : a.ph = 4) (hu : a.un ≤ t) : step a t = ⟨a.b, a.c, 1, a.pr, a.si, a.un + wait a.pr⟩ := by
  unfold step; rw [if_pos ⟨h, hu⟩]; unfold turn turnU; rw [h, nx_six]; simp
theorem step_one {a : Alm} {t : Int} (h : a.ph = 1) (hu : a.un ≤ t) : step a t = ⟨a.b, a.c, 2, a.pr, a.si, a.un⟩ := by
  unfold step; rw [if_neg (by omega), if_pos ⟨h, hu⟩]; unfold turn turnU; rw [h, nx_two]; simp
theorem step_still {a : Alm} {t : Int} (h : ¬ ((a.ph = 4 ∨ a.ph = 1) ∧ a.un ≤ t)) : step a t = a := by
  unfold step; rw [if_neg (by omega), if_neg (by omega)]
/-- Is something due at t? -/
def due (a : Alm) (t : Int) : Prop := (a.ph = 4 ∨ a.ph = 1) ∧ a.un ≤ t
theorem pass_cases {a : Alm} (t : Int) (h : right a = true) :
    (a.ph = 4 ∧ a.un ≤ t ∧ a.un + wait a.pr ≤ t ∧ pass a t = ⟨a.b, a.c, 2, a.pr, a.si, a.un + wait a.pr⟩) ∨
    (a.ph = 4 ∧ a.un ≤ t ∧ t < a.un + wait a.pr ∧ pass a t = ⟨a.b, a.c, 1, a.pr, a.si, a.un + wait a.pr⟩) ∨
    (a.ph = 1 ∧ a.un ≤ t ∧ pass a t = ⟨a.b, a.c, 2, a.pr, a.si, a.un⟩) ∨
    (¬ due a t ∧ pass a t = a) := by
  unfold pass due
  rw [if_pos h]
  by_cases h4 : a.ph = 4
  · by_cases hu : a.un ≤ t
    · rw [step_four h4 hu]
      by_cases hv : a.un + wait a.pr ≤ t
      · left
        refine ⟨h4, hu, hv, ?_⟩
        rw [step_one (a := ⟨a.b, a.c, 1, a.pr, a.si, a.un + wait a.pr⟩) (t := t) rfl hv]
        exact step_still (by simp)
      · right; left
        refine ⟨h4, hu, by omega, ?_⟩
        rw [step_still (a := ⟨a.b, a.c, 1, a.pr, a.si, a.un + wait a.pr⟩) (by simp; omega), step_still (by simp; omega)]
    · right; right; right
      have : step a t = a := step_still (by omega)
      exact ⟨by omega, by rw [this, this, this]⟩
  · by_cases h1 : a.ph = 1
    · by_cases hu : a.un ≤ t
      · right; right; left
        refine ⟨h1, hu, ?_⟩
        rw [step_one h1 hu, step_still (a := ⟨a.b, a.c, 2, a.pr, a.si, a.un⟩) (by simp), step_still (by simp)]
      · right; right; right
        have : step a t = a := step_still (by omega)
        exact ⟨by omega, by rw [this, this, this]⟩
    · right; right; right
      have : step a t = a := step_still (by omega)
      exact ⟨by omega, by rw [this, this, this]⟩
theorem pass_wrong {a : Alm} (t : Int) (h : right a = false) : pass a t = a := by unfold pass; rw [h]; rfl
/-- Spot, priority and beginning stay; the end does not fall. -/
theorem pass_keeps (a : Alm) (t : Int) : (pass a t).b = a.b ∧ (pass a t).c = a.c ∧ (pass a t).pr = a.pr ∧ (pass a t).si = a.si ∧ a.un ≤ (pass a t).un := by
  cases h : right a
  · rw [pass_wrong t h]; exact ⟨rfl, rfl, rfl, rfl, Int.le_refl _⟩
  · have hw := wait_bounds a.pr
    rcases pass_cases t h with ⟨_, _, _, e⟩ | ⟨_, _, _, e⟩ | ⟨_, _, e⟩ | ⟨_, e⟩ <;> rw [e] <;> refine ⟨rfl, rfl, rfl, rfl, ?_⟩ <;> first | exact Int.le_refl _ | (simp only; omega)
theorem pass_right {a : Alm} {t : Int} (h : right a = true) (hu : a.un ≤ 1000000000) : right (pass a t) = true := by
  have hr := right_iff.1 h
  have hw := wait_pos hr.2.2.2.1 hr.2.2.2.2.1
  refine right_iff.2 ?_
  rcases pass_cases t h with ⟨_, _, _, e⟩ | ⟨_, _, _, e⟩ | ⟨_, _, e⟩ | ⟨_, e⟩ <;> rw [e] <;> refine ⟨hr.1, ?_⟩ <;> (try simp only) <;> omega
/-- Behind a Pass nothing is due. -/
theorem pass_due {a : Alm} (t : Int) (h : right a = true) : ¬ due (pass a t) t := by
  unfold due
  rcases pass_cases t h with ⟨_, _, _, e⟩ | ⟨_, _, _, e⟩ | ⟨_, _, e⟩ | ⟨hd, e⟩
  · rw [e]; simp
  · rw [e]; simp; omega
  · rw [e]; simp
  · rw [e]; exact hd
theorem pass_still {a : Alm} {t : Int} (h : ¬ due a t) : pass a t = a := by
  cases hr : right a
  · exact pass_wrong t hr
  · unfold due at h
    rcases pass_cases t hr with ⟨h4, hu, _⟩ | ⟨h4, hu, _⟩ | ⟨h1, hu, _⟩ | ⟨_, e⟩
    · exact absurd ⟨Or.inl h4, hu⟩ h
    · exact absurd ⟨Or.inl h4, hu⟩ h
    · exact absurd ⟨Or.inr h1, hu⟩ h
    · exact e
theorem pass_again (a : Alm) (t : Int) : pass (pass a t) t = pass a t := by
  cases hr : right a
  · rw [pass_wrong t hr, pass_wrong t hr]
  · exact pass_still (pass_due t hr)
/-- Time till one time, and then till a later one, is as time till that. -/
theorem pass_twoR {a : Alm} {t t' : Int} (ht : t ≤ t') (hb0 : right a = true → right (pass a t) = true) : pass (pass a t) t' = pass a t' := by
  cases hr : right a
  · rw [pass_wrong t hr]
  · have hb := hb0 hr
    rcases pass_cases t hr with ⟨h4, h1, h2, e⟩ | ⟨h4, h1, h2, e⟩ | ⟨h4, h1, e⟩ | ⟨hd, e⟩
    · rw [pass_still (a := pass a t) (by rw [e]; unfold due; simp), e]
      rcases pass_cases t' hr with ⟨_, _, _, e'⟩ | ⟨_, _, h3, e'⟩ | ⟨h5, _, e'⟩ | ⟨hd', e'⟩
      · rw [e']
      · omega
      · omega
      · unfold due at hd'; omega
    · rw [e] at hb
      rw [e]
      rcases pass_cases t' hb with ⟨h5, _⟩ | ⟨h5, _⟩ | ⟨_, h6, e2⟩ | ⟨hd2, e2⟩
      · simp at h5
      · simp at h5
      · rw [e2]
        simp only at h6 ⊢
        rcases pass_cases t' hr with ⟨_, _, _, e'⟩ | ⟨_, _, h3, e'⟩ | ⟨h5, _, e'⟩ | ⟨hd', e'⟩
        · rw [e']
        · omega
        · omega
        · unfold due at hd'; omega
      · rw [e2]
        unfold due at hd2
        simp at hd2
        rcases pass_cases t' hr with ⟨_, _, h3, e'⟩ | ⟨_, _, h3, e'⟩ | ⟨h5, _, e'⟩ | ⟨hd', e'⟩
        · omega
        · rw [e']
        · omega
        · unfold due at hd'; omega
    · rw [pass_still (a := pass a t) (by rw [e]; unfold due; simp), e]
      rcases pass_cases t' hr with ⟨h5, _, _, e'⟩ | ⟨h5, _, h3, e'⟩ | ⟨h5, _, e'⟩ | ⟨hd', e'⟩
      · omega
      · omega
      · rw [e']
      · unfold due at hd'; omega
    · rw [e]
theorem pass_two {a : Alm} {t t' : Int} (ht : t ≤ t') (hu : a.un ≤ 1000000000) : pass (pass a t) t' = pass a t' := pass_twoR ht (fun hr => pass_right hr hu)
/-- Behind a Pass neither ESCALATE nor WAKE can be done. -/
theorem due_two {a : Alm} {t s : Int} (h : right a = true) (hs : s ≤ t) : doE (pass a t) 2 s 0 ≠ 0 ∧ doE (pass a t) 6 s 0 ≠ 0 := by
  have hd := pass_due t h
  unfold due at hd
  refine ⟨fun e => ?_, fun e => ?_⟩
  · obtain ⟨_, _, _, _, ho, hu⟩ := doE_iff.1 e
    have := ok_two ho
    omega
  · obtain ⟨_, _, _, _, ho, hu⟩ := doE_iff.1 e
    have := ok_six ho
    omega
/-- Raised twice at one time it is as raised once with the more urgent one of both. -/
theorem raise_twice {a : Alm} {p q t : Int} (h : raiseE a p t = 0) (h' : raiseE (raise a p t) q t = 0) : raiseE a (min p q) t = 0 ∧ raise (raise a p t) q t = raise a (min p q) t := by
  obtain ⟨hr, hp, ht, hs⟩ := raiseE_iff.1 h
  obtain ⟨_, hq, _, _⟩ := raiseE_iff.1 h'
  have h3 : raiseE a (min p q) t = 0 := raiseE_iff.2 ⟨hr, by omega, ht, hs⟩
  refine ⟨h3, ?_⟩
  have hr' := right_iff.1 hr
  have e1 : raise a p t = raiseOk a p t := by unfold raise; rw [if_pos h]
  have e2 : raise a (min p q) t = raiseOk a (min p q) t := by unfold raise; rw [if_pos h3]
  have e3 : raise (raise a p t) q t = raiseOk (raise a p t) q t := by show (if raiseE (raise a p t) q t = 0 then raiseOk (raise a p t) q t else zero) = _; rw [if_pos h']
  rw [e3, e2, e1]
  have w1 := wait_bounds (min a.pr p)
  have w2 := wait_bounds (min a.pr (min p q))
  have hm : min (min a.pr p) q = min a.pr (min p q) := by omega
  have mono := wait_mono (p := min a.pr (min p q)) (q := min a.pr p) (by omega) (by omega) (by omega)
  by_cases h3 : a.ph = 3
  · have hA : raiseOk a p t = ⟨a.b, a.c, 1, min a.pr p, t, t + wait (min a.pr p)⟩ := by unfold raiseOk; rw [if_pos h3]
    have hC : raiseOk a (min p q) t = ⟨a.b, a.c, 1, min a.pr (min p q), t, t + wait (min a.pr (min p q))⟩ := by unfold raiseOk; rw [if_pos h3]
    rw [hA, hC]
    unfold raiseOk
    simp only [hm]
    rw [if_neg (by decide)]
    by_cases hne : min a.pr (min p q) = min a.pr p
    · rw [if_neg (by simp [hne])]
      simp [hne]
    · rw [if_pos ⟨by trivial, hne⟩]
      simp only [Alm.mk.injEq, true_and]
      omega
  · by_cases h1 : a.ph = 1
    · have hU : raiseOk a p t = ⟨a.b, a.c, a.ph, min a.pr p, a.si, if min a.pr p ≠ a.pr then max a.si (min a.un (t + wait (min a.pr p))) else a.un⟩ := by
        unfold raiseOk; rw [if_neg h3]
        by_cases hp : min a.pr p ≠ a.pr
        · rw [if_pos ⟨h1, hp⟩, if_pos hp]
        · rw [if_neg (fun h => hp h.2), if_neg hp]
      have hC : raiseOk a (min p q) t = ⟨a.b, a.c, a.ph, min a.pr (min p q), a.si, if min a.pr (min p q) ≠ a.pr then max a.si (min a.un (t + wait (min a.pr (min p q)))) else a.un⟩ := by
        unfold raiseOk; rw [if_neg h3]
        by_cases hp : min a.pr (min p q) ≠ a.pr
        · rw [if_pos ⟨h1, hp⟩, if_pos hp]
        · rw [if_neg (fun h => hp h.2), if_neg hp]
      rw [hU, hC]
      unfold raiseOk
      simp only [hm]
      rw [if_neg h3]
      by_cases hne : min a.pr (min p q) = min a.pr p
      · rw [if_neg (fun h => h.2 hne)]
        simp only [hne]
      · rw [if_pos ⟨h1, hne⟩]
        simp only [Alm.mk.injEq, true_and]
        rw [if_pos (show min a.pr (min p q) ≠ a.pr by omega)]
        split <;> omega
    · have hU : raiseOk a p t = ⟨a.b, a.c, a.ph, min a.pr p, a.si, a.un⟩ := by unfold raiseOk; rw [if_neg h3, if_neg (fun h => h1 h.1)]
      have hC : raiseOk a (min p q) t = ⟨a.b, a.c, a.ph, min a.pr (min p q), a.si, a.un⟩ := by unfold raiseOk; rw [if_neg h3, if_neg (fun h => h1 h.1)]
      rw [hU, hC]
      unfold raiseOk
      simp only [hm]
      rw [if_neg h3, if_neg (fun h => h1 h.1)]
end Am
end Go.Proofs.YtpgichlaghhdeaaGreatDoor

namespace Go.Proofs.YtpgichlaghhdeaaGreatDoor
set_option maxRecDepth 10000

namespace Rk
def press (p : Int) : Int := if p = 2 then 0 else if p = 1 then 1 else if p = 4 then 2 else if p = 3 then 3 else 4
def keys (a : Alm) : List Int := [press a.ph, a.pr, a.si, a.un, a.ph, a.b, a.c]
/-- Two rows of numbers, number by number. -/
def lex : List Int → List Int → Int
  | x :: xs, y :: ys => if x < y then -1 else if y < x then 1 else lex xs ys
  | _, _ => 0
def cmp (a b : Alm) : Int := lex (keys a) (keys b)
theorem lex_vals : ∀ xs ys : List Int, lex xs ys = -1 ∨ lex xs ys = 0 ∨ lex xs ys = 1
  | [], _ => Or.inr (Or.inl (by simp [lex]))
  | _ :: _, [] => Or.inr (Or.inl (by simp [lex]))
  | x :: xs, y :: ys => by
    unfold lex
    split
    · exact Or.inl rfl
    · split
      · exact Or.inr (Or.inr rfl)
      · exact lex_vals xs ys
theorem lex_swap : ∀ xs ys : List Int, lex ys xs = - lex xs ys
  | [], [] => by simp [lex]
  | [], _ :: _ => by simp [lex]
  | _ :: _, [] => by simp [lex]
  | x :: xs, y :: ys => by
    have := lex_swap xs ys
    unfold lex
    split
    · rw [if_neg (by omega)]
    · split
      · first | rfl | (rw [if_pos (by assumption)]; rfl)
      · exact this
theorem lex_zero : ∀ xs ys : List Int, xs.length = ys.length → (lex xs ys = 0 ↔ xs = ys)
  | [], [], _ => by simp [lex]
  | x :: xs, y :: ys, h => by
    have := lex_zero xs ys (by simpa using h)
    unfold lex
    split
    · constructor
      · intro h; omega
      · intro h; injection h; omega
    · split
      · constructor
        · intro h; omega
        · intro h; injection h; omega
      · rw [this]
        constructor
        · intro h; rw [h]; congr 1; omega
        · intro h; injection h
theorem lex_trans : ∀ xs ys zs : List Int, xs.length = ys.length → ys.length = zs.length → lex xs ys ≤ 0 → lex ys zs ≤ 0 → lex xs zs ≤ 0
  | [], _, _, _, _ => by intros; simp [lex]
  | x :: xs, y :: ys, z :: zs, h1, h2 => by
    have ih := lex_trans xs ys zs (by simpa using h1) (by simpa using h2)
    intro a b
    unfold lex at a b ⊢
    by_cases c1 : x < y
    · by_cases c2 : y < z
      · rw [if_pos (by omega)]; omega
      · rw [if_neg c2] at b
        by_cases c3 : z < y
        · rw [if_pos c3] at b; omega
        · rw [if_pos (by omega)]; omega
    · rw [if_neg c1] at a
      by_cases c1' : y < x
      · rw [if_pos c1'] at a; omega
      · rw [if_neg c1'] at a
        by_cases c2 : y < z
        · rw [if_pos (by omega)]; omega
        · rw [if_neg c2] at b
          by_cases c3 : z < y
          · rw [if_pos c3] at b; omega
          · rw [if_neg c3] at b
            rw [if_neg (by omega), if_neg (by omega)]
            exact ih a b
theorem cmp_vals (a b : Alm) : cmp a b = -1 ∨ cmp a b = 0 ∨ cmp a b = 1 := lex_vals _ _
theorem cmp_swap (a b : Alm) : cmp b a = - cmp a b := lex_swap _ _
theorem cmp_zero (a b : Alm) : cmp a b = 0 ↔ a = b := by
  unfold cmp
  rw [lex_zero (keys a) (keys b) rfl]
  constructor
  · intro h
    unfold keys at h
    simp only [List.cons.injEq, and_true] at h
    obtain ⟨_, h2, h3, h4, h5, h6, h7⟩ := h
    cases a; cases b
    simp_all
  · intro h; rw [h]
theorem cmp_trans {a b c : Alm} (h1 : cmp a b ≤ 0) (h2 : cmp b c ≤ 0) : cmp a c ≤ 0 := lex_trans (keys a) (keys b) (keys c) rfl rfl h1 h2
theorem cmp_trans_lt {a b c : Alm} (h1 : cmp a b < 0) (h2 : cmp b c < 0) : cmp a c < 0 := by
  have h := cmp_trans (a := a) (b := b) (c := c) (by omega) (by omega)
  by_cases h0 : cmp a c = 0
  · rw [cmp_zero] at h0
    subst h0
    rw [cmp_swap] at h2
    omega
  · omega
def le (a b : Alm) : Prop := cmp a b ≤ 0
theorem le_anti {a b : Alm} (h1 : le a b) (h2 : le b a) : a = b := by
  unfold le at h1 h2
  rw [cmp_swap] at h2
  exact (cmp_zero a b).1 (by omega)
theorem le_total (a b : Alm) : le a b ∨ le b a := by
  unfold le
  rw [cmp_swap a b]
  omega
theorem le_refl (a : Alm) : le a a := by unfold le; rw [(cmp_zero a a).2 rfl]; exact Int.le_refl _

/-! ### sorting -/
def ins (a : Alm) : List Alm → List Alm
  | [] => [a]
  | x :: xs => if cmp x a ≤ 0 then x :: ins a xs else a :: x :: xs
def sort (l : List Alm) : List Alm := l.foldl (fun out a => ins a out) []
def Sorted (l : List Alm) : Prop := l.Pairwise le
theorem ins_perm (a : Alm) : ∀ l, (ins a l).Perm (a :: l)
  | [] => List.Perm.refl _
  | x :: xs => by
    unfold ins
    split
    · exact ((ins_perm a xs).cons x).trans (List.Perm.swap a x xs)
    · exact List.Perm.refl _
theorem ins_sorted (a : Alm) : ∀ l, Sorted l → Sorted (ins a l)
  | [], _ => List.pairwise_singleton _ _
  | x :: xs, h => by
    have h' := List.pairwise_cons.1 h
    unfold ins
    split
    · rename_i hx
      refine List.pairwise_cons.2 ⟨fun y hy => ?_, ins_sorted a xs h'.2⟩
      rcases List.mem_cons.1 ((ins_perm a xs).mem_iff.1 hy) with rfl | hy
      · exact hx
      · exact h'.1 y hy
    · rename_i hx
      have hax : le a x := by have := le_total x a; unfold le at *; omega
      refine List.pairwise_cons.2 ⟨fun y hy => ?_, h⟩
      rcases List.mem_cons.1 hy with rfl | hy
      · exact hax
      · exact cmp_trans hax (h'.1 y hy)
theorem fold_perm : ∀ (l out : List Alm), (l.foldl (fun out a => ins a out) out).Perm (out ++ l)
  | [], out => by simp
  | a :: l, out => by
    simp only [List.foldl_cons]
    refine (fold_perm l (ins a out)).trans ?_
    refine ((ins_perm a out).append_right l).trans ?_
    exact (List.perm_middle (a := a) (l₁ := out) (l₂ := l)).symm
theorem fold_sorted : ∀ (l out : List Alm), Sorted out → Sorted (l.foldl (fun out a => ins a out) out)
  | [], _, h => h
  | a :: l, out, h => fold_sorted l (ins a out) (ins_sorted a out h)
theorem sort_perm (l : List Alm) : (sort l).Perm l := by have := fold_perm l []; simpa [sort] using this
theorem sort_sorted (l : List Alm) : Sorted (sort l) := fold_sorted l [] List.Pairwise.nil
/-- What is sorted is told by its alarms alone. -/
theorem sorted_eq {a b : List Alm} (h1 : Sorted a) (h2 : Sorted b) (h : a.Perm b) : a = b := List.Perm.eq_of_pairwise (fun _ _ _ _ => le_anti) h1 h2 h
theorem sort_of {a l : List Alm} (h1 : Sorted a) (h : a.Perm l) : a = sort l := sorted_eq h1 (sort_sorted l) (h.trans (sort_perm l).symm)
theorem sort_same {a b : List Alm} (h : a.Perm b) : sort a = sort b := sort_of (sort_sorted a) ((sort_perm a).trans h)
theorem sort_again {l : List Alm} (h : Sorted l) : sort l = l := (sort_of h (List.Perm.refl _)).symm
theorem sort_len (l : List Alm) : (sort l).length = l.length := (sort_perm l).length_eq
theorem sort_sort (l : List Alm) : sort (sort l) = sort l := sort_again (sort_sorted l)
/-- The place at which the next one is put in: behind all that are not behind it. -/
theorem ins_at (a : Alm) : ∀ (l : List Alm) (k : Nat), k ≤ l.length → (∀ i (h : i < l.length), i < k → cmp l[i] a ≤ 0) → (∀ h : k < l.length, ¬ cmp l[k] a ≤ 0) → ins a l = l.take k ++ [a] ++ l.drop k
  | [], 0, _, _, _ => rfl
  | x :: xs, 0, _, _, h2 => by
    have h := h2 (by simp)
    simp only [List.getElem_cons_zero] at h
    unfold ins
    rw [if_neg h]
    rfl
  | x :: xs, k + 1, hk, h1, h2 => by
    have hx := h1 0 (by simp) (by omega)
    simp only [List.getElem_cons_zero] at hx
    unfold ins
    rw [if_pos hx, ins_at a xs k (by simpa using hk) (fun i h hi => by have := h1 (i + 1) (by simpa using h) (by omega); simpa using this) (fun h => by have := h2 (by simpa using h); simpa using this)]
    rfl
theorem sort_snoc (l : List Alm) (a : Alm) : sort (l ++ [a]) = ins a (sort l) := by unfold sort; rw [List.foldl_append]; rfl
theorem sort_take_succ (l : List Alm) (k : Nat) (h : k < l.length) : sort (l.take (k + 1)) = ins l[k] (sort (l.take k)) := by
  rw [List.take_succ_eq_append_getElem h, sort_snoc]

/-! ### the first ones -/
def top (n : Int) (l : List Alm) : List Alm := (sort l).take n.toNat
theorem sorted_take {l : List Alm} (h : Sorted l) (n : Nat) : Sorted (l.take n) := List.Pairwise.sublist (List.take_sublist n l) h
theorem top_top (k n : Int) (l : List Alm) : top k (top n l) = top (min n k) l := by
  unfold top
  rw [sort_again (sorted_take (sort_sorted l) _), List.take_take]
  congr 1
  omega
theorem top_len (n : Int) (l : List Alm) : (top n l).length ≤ l.length := by
  unfold top
  rw [List.length_take, sort_len]
  omega
/-- Two rows that are sorted, as one. -/
def mrg : List Alm → List Alm → List Alm
  | [], m => m
  | x :: l, [] => x :: l
  | x :: l, y :: m => if cmp x y ≤ 0 then x :: mrg l (y :: m) else y :: mrg (x :: l) m
termination_by l m => l.length + m.length
theorem mrg_nil_left (m : List Alm) : mrg [] m = m := by unfold mrg; rfl
theorem mrg_nil_right (l : List Alm) : mrg l [] = l := by cases l <;> (unfold mrg; rfl)
theorem mrg_cons (x : Alm) (l : List Alm) (y : Alm) (m : List Alm) : mrg (x :: l) (y :: m) = if cmp x y ≤ 0 then x :: mrg l (y :: m) else y :: mrg (x :: l) m := by rw [mrg]
theorem mrg_perm : ∀ l m : List Alm, (mrg l m).Perm (l ++ m)
  | [], m => by rw [mrg_nil_left]; exact List.Perm.refl _
  | x :: l, [] => by rw [mrg_nil_right]; simp
  | x :: l, y :: m => by
    rw [mrg_cons]
    split
    · exact (mrg_perm l (y :: m)).cons x
    · exact ((mrg_perm (x :: l) m).cons y).trans (List.perm_middle (a := y) (l₁ := x :: l) (l₂ := m)).symm
termination_by l m => l.length + m.length
theorem mrg_sorted : ∀ l m : List Alm, Sorted l → Sorted m → Sorted (mrg l m)
  | [], m, _, h => by rw [mrg_nil_left]; exact h
  | x :: l, [], h, _ => by rw [mrg_nil_right]; exact h
  | x :: l, y :: m, h1, h2 => by
    have g1 := List.pairwise_cons.1 h1
    have g2 := List.pairwise_cons.1 h2
    rw [mrg_cons]
    split
    · rename_i hx
      refine List.pairwise_cons.2 ⟨fun z hz => ?_, mrg_sorted l (y :: m) g1.2 h2⟩
      rcases List.mem_append.1 ((mrg_perm l (y :: m)).mem_iff.1 hz) with hz | hz
      · exact g1.1 z hz
      · rcases List.mem_cons.1 hz with rfl | hz
        · exact hx
        · exact cmp_trans hx (g2.1 z hz)
    · rename_i hx
      have hyx : le y x := by have := le_total x y; unfold le at *; omega
      refine List.pairwise_cons.2 ⟨fun z hz => ?_, mrg_sorted (x :: l) m h1 g2.2⟩
      rcases List.mem_append.1 ((mrg_perm (x :: l) m).mem_iff.1 hz) with hz | hz
      · rcases List.mem_cons.1 hz with rfl | hz
        · exact hyx
        · exact cmp_trans hyx (g1.1 z hz)
      · exact g2.1 z hz
termination_by l m => l.length + m.length
theorem mrg_take : ∀ (n p q : Nat) (l m : List Alm), n ≤ p → n ≤ q → (mrg (l.take p) (m.take q)).take n = (mrg l m).take n
  | 0, _, _, _, _, _, _ => by simp
  | n + 1, p, q, [], m, _, hq => by
    rw [List.take_nil, mrg_nil_left, mrg_nil_left, List.take_take]; congr 1; omega
  | n + 1, p, q, x :: l, [], hp, _ => by
    rw [List.take_nil, mrg_nil_right, mrg_nil_right, List.take_take]; congr 1; omega
  | n + 1, p + 1, q + 1, x :: l, y :: m, hp, hq => by
    rw [List.take_succ_cons, List.take_succ_cons, mrg_cons, mrg_cons]
    split
    · rw [List.take_succ_cons, List.take_succ_cons]
      have := mrg_take n p (q + 1) l (y :: m) (by omega) (by omega)
      rw [List.take_succ_cons] at this
      rw [this]
    · rw [List.take_succ_cons, List.take_succ_cons]
      have := mrg_take n (p + 1) q (x :: l) m (by omega) (by omega)
      rw [List.take_succ_cons] at this
      rw [this]
theorem sort_append (l m : List Alm) : sort (l ++ m) = mrg (sort l) (sort m) :=
  (sort_of (mrg_sorted _ _ (sort_sorted l) (sort_sorted m)) ((mrg_perm _ _).trans ((sort_perm l).append (sort_perm m)))).symm
theorem top_both (n : Int) (l m : List Alm) : top n (sort (top n l ++ top n m)) = top n (l ++ m) := by
  unfold top
  rw [sort_sort, sort_append, sort_append, sort_again (sorted_take (sort_sorted l) _), sort_again (sorted_take (sort_sorted m) _)]
  exact mrg_take _ _ _ _ _ (Nat.le_refl _) (Nat.le_refl _)

/-! ### the place of a spot -/
def isAt (b c : Int) (a : Alm) : Bool := a.b == b && a.c == c
/-- The first place in a row, and whether there is one. -/
def fst (b c : Int) : List Alm → Nat → Int × Bool
  | [], _ => (0, false)
  | a :: l, k => if isAt b c a then ((k : Int), true) else fst b c l (k + 1)
def place (l : List Alm) (b c : Int) : Int × Bool := fst b c (sort l) 0
theorem fst_drop (b c : Int) (l : List Alm) (k : Nat) (h : k < l.length) : fst b c (l.drop k) k = if isAt b c l[k] then ((k : Int), true) else fst b c (l.drop (k + 1)) (k + 1) := by
  rw [List.drop_eq_getElem_cons h]
  rfl
theorem fst_none (b c : Int) : ∀ (l : List Alm) (k : Nat), (fst b c l k).2 = false → (∀ a ∈ l, isAt b c a = false) ∧ (fst b c l k).1 = 0
  | [], _, _ => ⟨fun _ h => (by cases h), rfl⟩
  | a :: l, k, h => by
    unfold fst at h ⊢
    split at h
    · cases h
    · rename_i ha
      have ih := fst_none b c l (k + 1) h
      rw [if_neg ha]
      refine ⟨fun x hx => ?_, ih.2⟩
      rcases List.mem_cons.1 hx with rfl | hx
      · simpa using ha
      · exact ih.1 x hx
theorem fst_some (b c : Int) : ∀ (l : List Alm) (k : Nat), (fst b c l k).2 = true → ∃ j : Nat, ∃ h : j < l.length, (fst b c l k).1 = ((k + j : Nat) : Int) ∧ isAt b c l[j] = true ∧ ∀ i (hi : i < j), isAt b c (l[i]'(by omega)) = false
  | [], _, h => by cases h
  | a :: l, k, h => by
    unfold fst at h ⊢
    by_cases ha : isAt b c a = true
    · rw [if_pos ha]
      exact ⟨0, by simp, by simp, ha, fun i hi => absurd hi (Nat.not_lt_zero _)⟩
    · rw [if_neg ha] at h ⊢
      obtain ⟨j, hj, e, h1, h2⟩ := fst_some b c l (k + 1) h
      refine ⟨j + 1, by simpa using hj, by rw [e]; congr 1; omega, by simpa using h1, fun i hi => ?_⟩
      cases i with
      | zero => simpa using ha
      | succ i => have := h2 i (by omega); simpa using this
/-- What Place promises. -/
theorem place_none {l : List Alm} {b c : Int} (h : (place l b c).2 = false) : (∀ a ∈ l, isAt b c a = false) ∧ (place l b c).1 = 0 := by
  have := fst_none b c (sort l) 0 h
  exact ⟨fun a ha => this.1 a ((sort_perm l).mem_iff.2 ha), this.2⟩
theorem place_some {l : List Alm} {b c : Int} (h : (place l b c).2 = true) : ∃ j : Nat, ∃ hj : j < (sort l).length, (place l b c).1 = (j : Int) ∧ isAt b c (sort l)[j] = true ∧ ∀ i (hi : i < j), isAt b c ((sort l)[i]'(by omega)) = false := by
  obtain ⟨j, hj, e, h1, h2⟩ := fst_some b c (sort l) 0 h
  exact ⟨j, hj, by unfold place; rw [e]; simp, h1, h2⟩
def merge (a b : List Alm) : List Alm := sort (a ++ b)
end Rk
end Go.Proofs.YtpgichlaghhdeaaGreatDoor

namespace Go.Proofs.YtpgichlaghhdeaaGreatDoor
set_option maxRecDepth 10000

/-- A window. -/
structure Win where
  bed : Int
  fr : Int
  to : Int
deriving DecidableEq

namespace Mu
def may (w : Win) : Bool := decide (1 ≤ w.bed) && decide (w.bed ≤ 99) && decide (0 ≤ w.fr) && decide (w.fr < w.to) && decide (w.to ≤ 1000000000)
theorem may_iff {w : Win} : may w = true ↔ 1 ≤ w.bed ∧ w.bed ≤ 99 ∧ 0 ≤ w.fr ∧ w.fr < w.to ∧ w.to ≤ 1000000000 := by
  unfold may; simp only [Bool.and_eq_true, decide_eq_true_eq]; omega
def hasW (w : Win) (b t : Int) : Bool := decide (w.bed = b) && decide (w.fr ≤ t) && decide (t < w.to)
theorem hasW_iff {w : Win} {b t : Int} : hasW w b t = true ↔ w.bed = b ∧ w.fr ≤ t ∧ t < w.to := by
  unfold hasW; simp only [Bool.and_eq_true, decide_eq_true_eq]; omega
def has (l : List Win) (b t : Int) : Bool := l.any (fun w => hasW w b t)
theorem has_nil (b t : Int) : has [] b t = false := rfl
theorem has_cons (w : Win) (l : List Win) (b t : Int) : has (w :: l) b t = (hasW w b t || has l b t) := rfl
theorem has_app (l m : List Win) (b t : Int) : has (l ++ m) b t = (has l b t || has m b t) := by unfold has; exact List.any_append
theorem has_iff {l : List Win} {b t : Int} : has l b t = true ↔ ∃ w ∈ l, w.bed = b ∧ w.fr ≤ t ∧ t < w.to := by
  unfold has; rw [List.any_eq_true]
  exact ⟨fun ⟨w, h1, h2⟩ => ⟨w, h1, hasW_iff.1 h2⟩, fun ⟨w, h1, h2⟩ => ⟨w, h1, hasW_iff.2 h2⟩⟩
theorem has_not {l : List Win} {b t : Int} : has l b t = false ↔ ∀ w ∈ l, ¬ (w.bed = b ∧ w.fr ≤ t ∧ t < w.to) := by
  rw [← Bool.not_eq_true, has_iff]
  exact ⟨fun h w hw hx => h ⟨w, hw, hx⟩, fun h ⟨w, hw, hx⟩ => h w hw hx⟩

/-- One window ends ahead of another one. -/
def before (x y : Win) : Prop := x.bed < y.bed ∨ (x.bed = y.bed ∧ x.to < y.fr)
instance (x y : Win) : Decidable (before x y) := by unfold before; infer_instance
/-- Windows one behind the other, each of some time. -/
def Can (l : List Win) : Prop := (∀ w ∈ l, w.fr < w.to) ∧ l.Pairwise before
theorem Can.tail {x : Win} {l : List Win} (h : Can (x :: l)) : Can l := ⟨fun w hw => h.1 w (List.mem_cons_of_mem _ hw), (List.pairwise_cons.1 h.2).2⟩
theorem before_trans {x y z : Win} (h1 : before x y) (h2 : before y z) (hy : y.fr < y.to) : before x z := by unfold before at *; omega

theorem can_apart {x : Win} {l : List Win} (h : Can (x :: l)) {b t : Int} (hx : hasW x b t = true) : has l b t = false := by
  rw [hasW_iff] at hx
  rw [has_not]
  intro w hw hc
  have hb := (List.pairwise_cons.1 h.2).1 w hw
  unfold before at hb
  omega
theorem can_first {x : Win} {l : List Win} (h : Can (x :: l)) {b t : Int} (ht : has (x :: l) b t = true) : x.bed < b ∨ (x.bed = b ∧ x.fr ≤ t) := by
  obtain ⟨w, hw, h1, h2, h3⟩ := has_iff.1 ht
  rcases List.mem_cons.1 hw with rfl | hw
  · omega
  · have hb := (List.pairwise_cons.1 h.2).1 w hw
    have hx := h.1 x (by simp)
    unfold before at hb
    omega
theorem can_end {x : Win} {l : List Win} (h : Can (x :: l)) : has (x :: l) x.bed x.to = false := by
  rw [has_not]
  intro w hw hc
  rcases List.mem_cons.1 hw with rfl | hw
  · omega
  · have hb := (List.pairwise_cons.1 h.2).1 w hw
    unfold before at hb
    omega
/-- Windows of the same times are the same. -/
theorem can_eq : ∀ {l m : List Win}, Can l → Can m → (∀ b t, has l b t = has m b t) → l = m
  | [], [], _, _, _ => rfl
  | [], y :: m, _, hm, h => by
    have := h y.bed y.fr
    rw [has_nil] at this
    have hy : has (y :: m) y.bed y.fr = true := has_iff.2 ⟨y, by simp, rfl, Int.le_refl _, hm.1 y (by simp)⟩
    rw [← this] at hy; cases hy
  | x :: l, [], hl, _, h => by
    have := h x.bed x.fr
    rw [has_nil] at this
    have hy : has (x :: l) x.bed x.fr = true := has_iff.2 ⟨x, by simp, rfl, Int.le_refl _, hl.1 x (by simp)⟩
    rw [this] at hy; cases hy
  | x :: l, y :: m, hl, hm, h => by
    have hx : has (x :: l) x.bed x.fr = true := has_iff.2 ⟨x, by simp, rfl, Int.le_refl _, hl.1 x (by simp)⟩
    have hy : has (y :: m) y.bed y.fr = true := has_iff.2 ⟨y, by simp, rfl, Int.le_refl _, hm.1 y (by simp)⟩
    have h1 := can_first hm (by rw [← h]; exact hx : has (y :: m) x.bed x.fr = true)
    have h2 := can_first hl (by rw [h]; exact hy : has (x :: l) y.bed y.fr = true)
    have eb : x.bed = y.bed := by omega
    have ef : x.fr = y.fr := by omega
    have lx := hl.1 x (by simp)
    have ly := hm.1 y (by simp)
    have ex := can_end hl
    have ey := can_end hm
    have et : x.to = y.to := by
      rcases Int.lt_trichotomy x.to y.to with hlt | heq | hgt
      · have : has (y :: m) x.bed x.to = true := has_iff.2 ⟨y, by simp, eb.symm, by omega, hlt⟩
        rw [← h, ex] at this; cases this
      · exact heq
      · have : has (x :: l) y.bed y.to = true := has_iff.2 ⟨x, by simp, eb, by omega, hgt⟩
        rw [h, ey] at this; cases this
    have e : x = y := by
      obtain ⟨x0, x1, x2⟩ := x
      obtain ⟨y0, y1, y2⟩ := y
      simp only at eb ef et
      rw [eb, ef, et]
    subst e
    refine congrArg (x :: ·) (can_eq hl.tail hm.tail fun b t => ?_)
    have hbt := h b t
    rw [has_cons, has_cons] at hbt
    cases hw : hasW x b t
    · rw [hw] at hbt; simpa using hbt
    · rw [can_apart hl hw, can_apart hm hw]

/-! ### right windows -/
def rising : List Win → Bool
  | x :: y :: l => decide (before x y) && rising (y :: l)
  | _ => true
def isL (l : List Win) : Bool := l.all may && rising l && decide (l.length ≤ 100)
theorem rising_can : ∀ {l : List Win}, (∀ w ∈ l, w.fr < w.to) → (rising l = true ↔ l.Pairwise before)
  | [], _ => ⟨fun _ => List.Pairwise.nil, fun _ => rfl⟩
  | [x], _ => ⟨fun _ => List.pairwise_singleton _ _, fun _ => rfl⟩
  | x :: y :: l, h => by
    have ih := rising_can (l := y :: l) (fun w hw => h w (List.mem_cons_of_mem _ hw))
    unfold rising
    rw [Bool.and_eq_true, decide_eq_true_eq, ih]
    constructor
    · rintro ⟨h1, h2⟩
      refine List.pairwise_cons.2 ⟨fun z hz => ?_, h2⟩
      rcases List.mem_cons.1 hz with rfl | hz
      · exact h1
      · exact before_trans h1 ((List.pairwise_cons.1 h2).1 z hz) (h y (by simp))
    · intro h1
      exact ⟨(List.pairwise_cons.1 h1).1 y (by simp), (List.pairwise_cons.1 h1).2⟩
theorem isL_iff {l : List Win} : isL l = true ↔ (∀ w ∈ l, may w = true) ∧ Can l ∧ l.length ≤ 100 := by
  unfold isL Can
  rw [Bool.and_eq_true, Bool.and_eq_true, List.all_eq_true, decide_eq_true_eq]
  constructor
  · rintro ⟨⟨h1, h2⟩, h3⟩
    have hf : ∀ w ∈ l, w.fr < w.to := fun w hw => (may_iff.1 (h1 w hw)).2.2.2.1
    exact ⟨h1, ⟨hf, (rising_can hf).1 h2⟩, h3⟩
  · rintro ⟨h1, ⟨h2, h3⟩, h4⟩
    exact ⟨⟨h1, (rising_can h2).2 h3⟩, h4⟩

/-! ### the places at which windows begin or end -/
def put (n : Int) : List Int → List Int
  | [] => [n]
  | x :: l => if x < n then x :: put n l else if x = n then x :: l else n :: x :: l
theorem mem_put {n z : Int} : ∀ {l : List Int}, z ∈ put n l ↔ z = n ∨ z ∈ l
  | [] => by simp [put]
  | x :: l => by
    unfold put
    split
    · rw [List.mem_cons, mem_put, List.mem_cons]
      constructor
      · rintro (h | h | h) <;> simp [h]
      · rintro (h | h | h) <;> simp [h]
    · split
      · rename_i h; subst h; simp
      · simp
theorem put_sorted {n : Int} : ∀ {l : List Int}, l.Pairwise (· < ·) → (put n l).Pairwise (· < ·)
  | [], _ => List.pairwise_singleton _ _
  | x :: l, h => by
    have h' := List.pairwise_cons.1 h
    unfold put
    split
    · rename_i hx
      refine List.pairwise_cons.2 ⟨fun z hz => ?_, put_sorted h'.2⟩
      rcases mem_put.1 hz with rfl | hz
      · exact hx
      · exact h'.1 z hz
    · split
      · exact h
      · rename_i h1 h2
        refine List.pairwise_cons.2 ⟨fun z hz => ?_, h⟩
        rcases List.mem_cons.1 hz with rfl | hz
        · omega
        · have := h'.1 z hz; omega
def mark (bed : Int) (out : List Int) (w : Win) : List Int := if w.bed = bed then put w.to (put w.fr out) else out
def marks (l : List Win) (bed : Int) : List Int := l.foldl (mark bed) []
theorem fold_marks (bed : Int) : ∀ (l : List Win) (out : List Int), out.Pairwise (· < ·) → (l.foldl (mark bed) out).Pairwise (· < ·) ∧ ∀ z, z ∈ l.foldl (mark bed) out ↔ z ∈ out ∨ ∃ w ∈ l, w.bed = bed ∧ (z = w.fr ∨ z = w.to)
  | [], out, h => ⟨h, fun z => by simp⟩
  | w :: l, out, h => by
    have hs : (mark bed out w).Pairwise (· < ·) := by
      unfold mark; split
      · exact put_sorted (put_sorted h)
      · exact h
    have ih := fold_marks bed l (mark bed out w) hs
    refine ⟨ih.1, fun z => ?_⟩
    rw [List.foldl_cons, ih.2]
    have hm : z ∈ mark bed out w ↔ z ∈ out ∨ (w.bed = bed ∧ (z = w.fr ∨ z = w.to)) := by
      unfold mark; split
      · rename_i hb; rw [mem_put, mem_put]; simp [hb]; constructor
        · rintro (h | h | h) <;> simp [h]
        · rintro (h | h | h) <;> simp [h]
      · rename_i hb; simp [hb]
    rw [hm]
    constructor
    · rintro ((h | h) | ⟨v, hv, h⟩)
      · exact Or.inl h
      · exact Or.inr ⟨w, by simp, h⟩
      · exact Or.inr ⟨v, by simp [hv], h⟩
    · rintro (h | ⟨v, hv, h⟩)
      · exact Or.inl (Or.inl h)
      · rcases List.mem_cons.1 hv with rfl | hv
        · exact Or.inl (Or.inr h)
        · exact Or.inr ⟨v, hv, h⟩
theorem marks_sorted (l : List Win) (bed : Int) : (marks l bed).Pairwise (· < ·) := (fold_marks bed l [] List.Pairwise.nil).1
theorem mem_marks {l : List Win} {bed z : Int} : z ∈ marks l bed ↔ ∃ w ∈ l, w.bed = bed ∧ (z = w.fr ∨ z = w.to) := by
  have := (fold_marks bed l [] List.Pairwise.nil).2 z
  unfold marks
  simpa using this
/-- Between two places all times are alike. -/
theorem has_const {l : List Win} {bed a t : Int} {k : List Int} (hk : ∀ w ∈ l, w.bed = bed → w.fr ∈ k ∧ w.to ∈ k) (hat : a ≤ t) (h : ∀ z ∈ k, ¬ (a < z ∧ z ≤ t)) : has l bed a = has l bed t := by
  have key : has l bed a = true ↔ has l bed t = true := by
    rw [has_iff, has_iff]
    constructor
    · rintro ⟨w, hw, h1, h2, h3⟩
      have := h w.to (hk w hw h1).2
      exact ⟨w, hw, h1, by omega, by omega⟩
    · rintro ⟨w, hw, h1, h2, h3⟩
      have := h w.fr (hk w hw h1).1
      exact ⟨w, hw, h1, by omega, by omega⟩
  cases ha : has l bed a <;> cases hb : has l bed t <;> simp_all

/-! ### the windows of some times -/
def joinW (bed k0 k1 : Int) (out : List Win) : List Win :=
  match out.getLast? with
  | some v => if v.bed = bed ∧ v.to = k0 then out.dropLast ++ [⟨bed, v.fr, k1⟩] else out ++ [⟨bed, k0, k1⟩]
  | none => [⟨bed, k0, k1⟩]
/-- So far, up to a place of a bed: the windows of just these times. -/
structure Inv (F : Int → Int → Bool) (bed k0 : Int) (out : List Win) : Prop where
  can : Can out
  le : ∀ v ∈ out, v.bed < bed ∨ (v.bed = bed ∧ v.to ≤ k0)
  hs : ∀ b t, has out b t = true ↔ (F b t = true ∧ (b < bed ∨ (b = bed ∧ t < k0)))
theorem last_split {out : List Win} {v : Win} (h : out.getLast? = some v) : ∃ d, out = d ++ [v] ∧ out.dropLast = d := by
  obtain ⟨d, e⟩ := List.getLast?_eq_some_iff.1 h
  exact ⟨d, e, by rw [e]; simp⟩
theorem Inv.join {F : Int → Int → Bool} {bed k0 k1 : Int} {out : List Win} (h : Inv F bed k0 out) (hk : k0 < k1) (hc : ∀ t, k0 ≤ t → t < k1 → F bed t = true) : Inv F bed k1 (joinW bed k0 k1 out) := by
  have hadd : ∀ (o' : List Win), (∀ b t, has o' b t = true ↔ has out b t = true ∨ (b = bed ∧ k0 ≤ t ∧ t < k1)) → ∀ b t, has o' b t = true ↔ (F b t = true ∧ (b < bed ∨ (b = bed ∧ t < k1))) := by
    intro o' ho b t
    rw [ho, h.hs]
    constructor
    · rintro (⟨h1, h2⟩ | ⟨rfl, h2, h3⟩)
      · exact ⟨h1, by omega⟩
      · exact ⟨hc t h2 h3, Or.inr ⟨rfl, h3⟩⟩
    · rintro ⟨h1, h2⟩
      by_cases hb : b = bed ∧ k0 ≤ t
      · exact Or.inr ⟨hb.1, hb.2, by omega⟩
      · exact Or.inl ⟨h1, by omega⟩
  unfold joinW
  cases hg : out.getLast? with
  | none =>
    obtain rfl : out = [] := by cases out with | nil => rfl | cons x l => simp [List.getLast?] at hg
    simp only
    refine ⟨⟨fun w hw => ?_, List.pairwise_singleton _ _⟩, fun w hw => ?_, hadd _ fun b t => ?_⟩
    · obtain rfl : w = ⟨bed, k0, k1⟩ := by simpa using hw
      exact hk
    · obtain rfl : w = ⟨bed, k0, k1⟩ := by simpa using hw
      exact Or.inr ⟨rfl, Int.le_refl _⟩
    · rw [has_iff, has_iff]
      constructor
      · rintro ⟨w, hw, h1, h2, h3⟩
        obtain rfl : w = ⟨bed, k0, k1⟩ := by simpa using hw
        exact Or.inr ⟨h1.symm, h2, h3⟩
      · rintro (⟨w, hw, _⟩ | ⟨h1, h2, h3⟩)
        · cases hw
        · exact ⟨⟨bed, k0, k1⟩, by simp, h1.symm, h2, h3⟩
  | some v =>
    obtain ⟨d, e1, e2⟩ := last_split hg
    simp only
    have hv : v ∈ out := by rw [e1]; simp
    have hd : ∀ x ∈ d, x ∈ out := fun x hx => by rw [e1]; simp [hx]
    have hpw := h.can.2
    rw [e1, List.pairwise_append] at hpw
    have hdv : ∀ x ∈ d, before x v := fun x hx => hpw.2.2 x hx v (by simp)
    have hvl := h.can.1 v hv
    have hvle := h.le v hv
    split
    · rename_i hvb
      rw [e2]
      refine ⟨⟨fun w hw => ?_, ?_⟩, fun w hw => ?_, hadd _ fun b t => ?_⟩
      · rcases List.mem_append.1 hw with hw | hw
        · exact h.can.1 w (hd w hw)
        · obtain rfl : w = ⟨bed, v.fr, k1⟩ := by simpa using hw
          simp only; omega
      · refine List.pairwise_append.2 ⟨hpw.1, List.pairwise_singleton _ _, fun x hx y hy => ?_⟩
        obtain rfl : y = ⟨bed, v.fr, k1⟩ := by simpa using hy
        have := hdv x hx
        unfold before at *
        simp only; omega
      · rcases List.mem_append.1 hw with hw | hw
        · have := h.le w (hd w hw); omega
        · obtain rfl : w = ⟨bed, v.fr, k1⟩ := by simpa using hw
          exact Or.inr ⟨rfl, Int.le_refl _⟩
      · rw [has_iff, has_iff]
        constructor
        · rintro ⟨w, hw, h1, h2, h3⟩
          rcases List.mem_append.1 hw with hw | hw
          · exact Or.inl ⟨w, hd w hw, h1, h2, h3⟩
          · obtain rfl : w = ⟨bed, v.fr, k1⟩ := by simpa using hw
            simp only at h1 h2 h3
            by_cases ht : t < k0
            · exact Or.inl ⟨v, hv, by omega, h2, by omega⟩
            · exact Or.inr ⟨h1.symm, by omega, h3⟩
        · rintro (⟨w, hw, h1, h2, h3⟩ | ⟨h1, h2, h3⟩)
          · rw [e1] at hw
            rcases List.mem_append.1 hw with hw | hw
            · exact ⟨w, by simp [hw], h1, h2, h3⟩
            · obtain rfl : w = v := by simpa using hw
              exact ⟨⟨bed, w.fr, k1⟩, by simp, by simp only; omega, h2, by simp only; omega⟩
          · exact ⟨⟨bed, v.fr, k1⟩, by simp, h1.symm, by simp only; omega, h3⟩
    · rename_i hvb
      refine ⟨⟨fun w hw => ?_, ?_⟩, fun w hw => ?_, hadd _ fun b t => ?_⟩
      · rcases List.mem_append.1 hw with hw | hw
        · exact h.can.1 w hw
        · obtain rfl : w = ⟨bed, k0, k1⟩ := by simpa using hw
          exact hk
      · refine List.pairwise_append.2 ⟨h.can.2, List.pairwise_singleton _ _, fun x hx y hy => ?_⟩
        obtain rfl : y = ⟨bed, k0, k1⟩ := by simpa using hy
        rw [e1] at hx
        rcases List.mem_append.1 hx with hx | hx
        · have := hdv x hx
          have := h.le x (hd x hx)
          unfold before at *
          simp only; omega
        · obtain rfl : x = v := by simpa using hx
          unfold before
          simp only; omega
      · rcases List.mem_append.1 hw with hw | hw
        · have := h.le w hw; omega
        · obtain rfl : w = ⟨bed, k0, k1⟩ := by simpa using hw
          exact Or.inr ⟨rfl, Int.le_refl _⟩
      · rw [has_app, Bool.or_eq_true]
        have : has [(⟨bed, k0, k1⟩ : Win)] b t = true ↔ (b = bed ∧ k0 ≤ t ∧ t < k1) := by
          rw [has_iff]
          constructor
          · rintro ⟨w, hw, h1, h2, h3⟩
            obtain rfl : w = ⟨bed, k0, k1⟩ := by simpa using hw
            exact ⟨h1.symm, h2, h3⟩
          · rintro ⟨h1, h2, h3⟩
            exact ⟨⟨bed, k0, k1⟩, by simp, h1.symm, h2, h3⟩
        rw [this]
theorem Inv.skip {F : Int → Int → Bool} {bed k0 k1 : Int} {out : List Win} (h : Inv F bed k0 out) (hk : k0 < k1) (hc : ∀ t, k0 ≤ t → t < k1 → F bed t = false) : Inv F bed k1 out := by
  refine ⟨h.can, fun v hv => by have := h.le v hv; omega, fun b t => ?_⟩
  rw [h.hs]
  constructor
  · rintro ⟨h1, h2⟩; exact ⟨h1, by omega⟩
  · rintro ⟨h1, h2⟩
    refine ⟨h1, ?_⟩
    by_cases hb : b = bed ∧ k0 ≤ t
    · have := hc t hb.2 (by omega)
      rw [← hb.1, h1] at this
      cases this
    · omega
/-- One place on. -/
def step (f : Int → Bool) (bed : Int) (k : List Int) (out : List Win) (i : Nat) : List Win := if f (k.getD i 0) then joinW bed (k.getD i 0) (k.getD (i + 1) 0) out else out
def segN (f : Int → Bool) (bed : Int) (k : List Int) (n : Nat) (out : List Win) : List Win := (List.range n).foldl (step f bed k) out
theorem segN_succ (f : Int → Bool) (bed : Int) (k : List Int) (n : Nat) (out : List Win) : segN f bed k (n + 1) out = step f bed k (segN f bed k n out) n := by
  unfold segN; rw [List.range_succ, List.foldl_append]; rfl
theorem getD_lt {k : List Int} (hs : k.Pairwise (· < ·)) {i j : Nat} (hij : i < j) (hj : j < k.length) : k.getD i 0 < k.getD j 0 := by
  have h := List.pairwise_iff_getElem.1 hs i j (by omega) hj hij
  rw [List.getD_eq_getElem?_getD, List.getD_eq_getElem?_getD, List.getElem?_eq_getElem (by omega), List.getElem?_eq_getElem hj]
  exact h
theorem mem_getD {k : List Int} {z : Int} (h : z ∈ k) : ∃ i, i < k.length ∧ k.getD i 0 = z := by
  obtain ⟨i, hi, e⟩ := List.mem_iff_getElem.1 h
  exact ⟨i, hi, by rw [List.getD_eq_getElem?_getD, List.getElem?_eq_getElem hi]; exact e⟩
/-- The windows of a bed's times behind those of the beds ahead. -/
theorem seg_inv {F : Int → Int → Bool} {bed : Int} {k : List Int} (hs : k.Pairwise (· < ·)) (hc : ∀ a t, a ≤ t → (∀ z ∈ k, ¬ (a < z ∧ z ≤ t)) → F bed a = F bed t) {out : List Win} (h0 : Inv F bed (k.getD 0 0) out) :
    ∀ n, n + 1 ≤ k.length → Inv F bed (k.getD n 0) (segN (F bed) bed k n out)
  | 0, _ => h0
  | n + 1, hn => by
    have ih := seg_inv hs hc h0 n (by omega)
    have hlt := getD_lt hs (Nat.lt_succ_self n) (by omega : n + 1 < k.length)
    have hcon : ∀ t, k.getD n 0 ≤ t → t < k.getD (n + 1) 0 → F bed t = F bed (k.getD n 0) := by
      intro t h1 h2
      refine (hc _ t h1 fun z hz hzz => ?_).symm
      obtain ⟨i, hi, e⟩ := mem_getD hz
      rcases Nat.lt_or_ge n i with hni | hni
      · have : k.getD (n + 1) 0 ≤ k.getD i 0 := by
          rcases Nat.lt_or_ge (n + 1) i with h3 | h3
          · exact Int.le_of_lt (getD_lt hs h3 hi)
          · have : i = n + 1 := by omega
            rw [this]; exact Int.le_refl _
        omega
      · have : k.getD i 0 ≤ k.getD n 0 := by
          rcases Nat.lt_or_ge i n with h3 | h3
          · exact Int.le_of_lt (getD_lt hs h3 (by omega))
          · have : i = n := by omega
            rw [this]; exact Int.le_refl _
        omega
    rw [segN_succ]
    unfold step
    cases hF : F bed (k.getD n 0)
    · rw [if_neg (by simp)]
      exact ih.skip hlt fun t h1 h2 => by rw [hcon t h1 h2, hF]
    · rw [if_pos rfl]
      exact ih.join hlt fun t h1 h2 => by rw [hcon t h1 h2, hF]
/-- All beds up to one. -/
def bedsN (F : Int → Int → Bool) (all : List Win) (n : Nat) : List Win :=
  (List.range n).foldl (fun out (i : Nat) => segN (F ((i : Int) + 1)) ((i : Int) + 1) (marks all ((i : Int) + 1)) ((marks all ((i : Int) + 1)).length - 1) out) []
theorem bedsN_succ (F : Int → Int → Bool) (all : List Win) (n : Nat) : bedsN F all (n + 1) = segN (F ((n : Int) + 1)) ((n : Int) + 1) (marks all ((n : Int) + 1)) ((marks all ((n : Int) + 1)).length - 1) (bedsN F all n) := by
  unfold bedsN; rw [List.range_succ, List.foldl_append]; rfl
/-- What the times of two rows are: of one or the other, or of one alone. -/
def F2 (l m : List Win) (both : Bool) (b t : Int) : Bool := if both then has l b t || has m b t else has l b t && !has m b t
theorem F2_has {l m : List Win} {both : Bool} {b t : Int} (h : F2 l m both b t = true) : has (l ++ m) b t = true := by
  unfold F2 at h
  rw [has_app]
  cases both <;> cases h1 : has l b t <;> cases h2 : has m b t <;> simp [h1, h2] at h ⊢
def wins (l m : List Win) (both : Bool) : List Win := bedsN (F2 l m both) (l ++ m) 99
theorem F2_const {l m : List Win} {both : Bool} {bed a t : Int} (hat : a ≤ t) (h : ∀ z ∈ marks (l ++ m) bed, ¬ (a < z ∧ z ≤ t)) : F2 l m both bed a = F2 l m both bed t := by
  have h1 := has_const (l := l) (bed := bed) (fun w hw hb => ⟨mem_marks.2 ⟨w, by simp [hw], hb, Or.inl rfl⟩, mem_marks.2 ⟨w, by simp [hw], hb, Or.inr rfl⟩⟩) hat h
  have h2 := has_const (l := m) (bed := bed) (fun w hw hb => ⟨mem_marks.2 ⟨w, by simp [hw], hb, Or.inl rfl⟩, mem_marks.2 ⟨w, by simp [hw], hb, Or.inr rfl⟩⟩) hat h
  unfold F2
  rw [h1, h2]
theorem getD_min {k : List Int} (hs : k.Pairwise (· < ·)) {z : Int} (h : z ∈ k) : k.getD 0 0 ≤ z ∧ z ≤ k.getD (k.length - 1) 0 := by
  obtain ⟨i, hi, rfl⟩ := mem_getD h
  constructor
  · rcases Nat.eq_zero_or_pos i with rfl | hp
    · exact Int.le_refl _
    · exact Int.le_of_lt (getD_lt hs hp hi)
  · rcases Nat.lt_or_ge i (k.length - 1) with hp | hp
    · exact Int.le_of_lt (getD_lt hs hp (by omega))
    · have : i = k.length - 1 := by omega
      rw [this]; exact Int.le_refl _
/-- What stands behind n beds. -/
theorem beds_inv (l m : List Win) (both : Bool) (hp : ∀ w ∈ l ++ m, 1 ≤ w.bed) : ∀ n : Nat, Can (bedsN (F2 l m both) (l ++ m) n) ∧ (∀ v ∈ bedsN (F2 l m both) (l ++ m) n, v.bed < (n : Int) + 1) ∧ ∀ b t, has (bedsN (F2 l m both) (l ++ m) n) b t = true ↔ (F2 l m both b t = true ∧ b < (n : Int) + 1)
  | 0 => by
    have e : bedsN (F2 l m both) (l ++ m) 0 = [] := rfl
    rw [e]
    refine ⟨⟨(fun _ h => by cases h), List.Pairwise.nil⟩, (fun _ h => by cases h), fun b t => ⟨(fun h => by rw [has_nil] at h; cases h), fun h => ?_⟩⟩
    obtain ⟨w, hw, h1, _⟩ := has_iff.1 (F2_has h.1)
    have := hp w hw
    have := h.2
    exfalso
    omega
  | n + 1 => by
    obtain ⟨c1, c2, c3⟩ := beds_inv l m both hp n
    rw [bedsN_succ]
    obtain ⟨bed, hbed⟩ : ∃ bed : Int, bed = (n : Int) + 1 := ⟨_, rfl⟩
    rw [← hbed] at c2 c3 ⊢
    have eb : ((n + 1 : Nat) : Int) + 1 = bed + 1 := by rw [hbed]; omega
    rw [eb]
    obtain ⟨out, hout⟩ : ∃ out, out = bedsN (F2 l m both) (l ++ m) n := ⟨_, rfl⟩
    rw [← hout] at c1 c2 c3 ⊢
    have hs := marks_sorted (l ++ m) bed
    have hm := fun z => mem_marks (l := l ++ m) (bed := bed) (z := z)
    have hc : ∀ a t, a ≤ t → (∀ z ∈ marks (l ++ m) bed, ¬ (a < z ∧ z ≤ t)) → F2 l m both bed a = F2 l m both bed t := fun a t h1 h2 => F2_const h1 h2
    obtain ⟨k, hk⟩ : ∃ k, k = marks (l ++ m) bed := ⟨_, rfl⟩
    rw [← hk] at hs hm hc ⊢
    have hF : ∀ t, F2 l m both bed t = true → ∃ x ∈ k, ∃ y ∈ k, x ≤ t ∧ t < y := fun t h => by
      obtain ⟨w, hw, h1, h2, h3⟩ := has_iff.1 (F2_has h)
      exact ⟨w.fr, (hm _).2 ⟨w, hw, h1, Or.inl rfl⟩, w.to, (hm _).2 ⟨w, hw, h1, Or.inr rfl⟩, h2, h3⟩
    have h0 : Inv (F2 l m both) bed (k.getD 0 0) out := by
      refine ⟨c1, fun v hv => Or.inl (c2 v hv), fun b t => ?_⟩
      rw [c3]
      constructor
      · rintro ⟨h1, h2⟩; exact ⟨h1, Or.inl h2⟩
      · rintro ⟨h1, h2 | ⟨rfl, h2⟩⟩
        · exact ⟨h1, h2⟩
        · obtain ⟨x, hx, _, _, h3, _⟩ := hF t h1
          have := (getD_min hs hx).1
          exfalso
          omega
    cases hkl : k.length with
    | zero =>
      have hk0 : k = [] := List.length_eq_zero_iff.1 hkl
      have e : segN (F2 l m both bed) bed k (0 - 1) out = out := rfl
      rw [e]
      refine ⟨c1, fun v hv => by have := c2 v hv; omega, fun b t => ?_⟩
      rw [c3]
      constructor
      · rintro ⟨h1, h2⟩; exact ⟨h1, by omega⟩
      · rintro ⟨h1, h2⟩
        refine ⟨h1, ?_⟩
        by_cases hb : b = bed
        · rw [hb] at h1
          obtain ⟨x, hx, _⟩ := hF t h1
          rw [hk0] at hx
          cases hx
        · omega
    | succ q =>
      have hi := seg_inv hs hc h0 q (by omega)
      have e : q + 1 - 1 = q := by omega
      rw [e]
      refine ⟨hi.can, fun v hv => by have := hi.le v hv; omega, fun b t => ?_⟩
      rw [hi.hs]
      constructor
      · rintro ⟨h1, h2⟩; exact ⟨h1, by omega⟩
      · rintro ⟨h1, h2⟩
        refine ⟨h1, ?_⟩
        by_cases hb : b = bed
        · rw [hb] at h1
          obtain ⟨_, _, y, hy, _, h3⟩ := hF t h1
          have := (getD_min hs hy).2
          rw [hkl, e] at this
          exact Or.inr ⟨hb, by omega⟩
        · omega
/-- The windows of the times of two rows: one behind the other, of just these times, and they may be. -/
theorem wins_spec {l m : List Win} {both : Bool} (h : ∀ w ∈ l ++ m, may w = true) : Can (wins l m both) ∧ (∀ b t, has (wins l m both) b t = F2 l m both b t) ∧ ∀ v ∈ wins l m both, may v = true := by
  obtain ⟨c1, _, c3⟩ := beds_inv l m both (fun w hw => (may_iff.1 (h w hw)).1) 99
  have hF : ∀ b t, has (wins l m both) b t = true ↔ F2 l m both b t = true := by
    intro b t
    unfold wins
    rw [c3]
    constructor
    · exact fun h => h.1
    · intro h1
      obtain ⟨w, hw, h2, _⟩ := has_iff.1 (F2_has h1)
      have := may_iff.1 (h w hw)
      exact ⟨h1, by omega⟩
  refine ⟨c1, fun b t => ?_, fun v hv => ?_⟩
  · have := hF b t
    cases h1 : has (wins l m both) b t <;> cases h2 : F2 l m both b t <;> simp_all
  · have hlt := c1.1 v hv
    have a1 := (hF v.bed v.fr).1 (has_iff.2 ⟨v, hv, rfl, Int.le_refl _, hlt⟩)
    have a2 := (hF v.bed (v.to - 1)).1 (has_iff.2 ⟨v, hv, rfl, by omega, by omega⟩)
    obtain ⟨w1, hw1, h1, h2, h3⟩ := has_iff.1 (F2_has a1)
    obtain ⟨w2, hw2, h4, h5, h6⟩ := has_iff.1 (F2_has a2)
    have m1 := may_iff.1 (h w1 hw1)
    have m2 := may_iff.1 (h w2 hw2)
    exact may_iff.2 ⟨by omega, by omega, by omega, hlt, by omega⟩
end Mu
end Go.Proofs.YtpgichlaghhdeaaGreatDoor

namespace Go.Proofs.YtpgichlaghhdeaaGreatDoor
set_option maxRecDepth 10000
namespace Mu
def turnE (l m : List Win) (both : Bool) : Int := if !isL l || !m.all may then 1 else if 100 < (wins l m both).length then 81 else 0
def turn (l m : List Win) (both : Bool) : List Win := if turnE l m both = 0 then wins l m both else []
theorem turnE_iff {l m : List Win} {both : Bool} : turnE l m both = 0 ↔ isL l = true ∧ (∀ w ∈ m, may w = true) ∧ (wins l m both).length ≤ 100 := by
  unfold turnE
  cases h1 : isL l
  · simp
  · cases h2 : m.all may
    · have : ¬ ∀ w ∈ m, may w = true := fun h => by rw [← List.all_eq_true] at h; rw [h2] at h; cases h
      simp [this]
    · have h3 := List.all_eq_true.1 h2
      by_cases h4 : 100 < (wins l m both).length
      · simp [h4]
      · simp [h4]; exact ⟨h3, by omega⟩
theorem turnE_vals {l m : List Win} {both : Bool} : turnE l m both = 0 ∨ turnE l m both = 1 ∨ turnE l m both = 81 := by
  unfold turnE
  split
  · exact Or.inr (Or.inl rfl)
  · split
    · exact Or.inr (Or.inr rfl)
    · exact Or.inl rfl
/-- What comes out is right, and of just these times. -/
theorem turn_spec {l m : List Win} {both : Bool} (h : turnE l m both = 0) : isL (turn l m both) = true ∧ ∀ b t, has (turn l m both) b t = F2 l m both b t := by
  have hi := turnE_iff.1 h
  have hl := isL_iff.1 hi.1
  have e : turn l m both = wins l m both := by unfold turn; rw [if_pos h]
  have hm : ∀ w ∈ l ++ m, may w = true := fun w hw => by
    rcases List.mem_append.1 hw with hw | hw
    · exact hl.1 w hw
    · exact hi.2.1 w hw
  have hw := wins_spec (both := both) hm
  rw [e]
  exact ⟨isL_iff.2 ⟨hw.2.2, hw.1, hi.2.2⟩, hw.2.1⟩
/-- Right windows of the same times are the same. -/
theorem isL_eq {l m : List Win} (hl : isL l = true) (hm : isL m = true) (h : ∀ b t, has l b t = has m b t) : l = m := can_eq (isL_iff.1 hl).2.1 (isL_iff.1 hm).2.1 h
/-- What is right, and has these times, is what comes out. -/
theorem turn_of {l m x : List Win} {both : Bool} (h1 : isL l = true) (h2 : ∀ w ∈ m, may w = true) (hx : isL x = true) (h : ∀ b t, has x b t = F2 l m both b t) : turnE l m both = 0 ∧ turn l m both = x := by
  have hl := isL_iff.1 h1
  have hm : ∀ w ∈ l ++ m, may w = true := fun w hw => by
    rcases List.mem_append.1 hw with hw | hw
    · exact hl.1 w hw
    · exact h2 w hw
  have hw := wins_spec (both := both) hm
  have e : wins l m both = x := can_eq hw.1 (isL_iff.1 hx).2.1 (fun b t => by rw [hw.2.1, h])
  have hE : turnE l m both = 0 := turnE_iff.2 ⟨h1, h2, by rw [e]; exact (isL_iff.1 hx).2.2⟩
  exact ⟨hE, by unfold turn; rw [if_pos hE, e]⟩
theorem turn_len (l m : List Win) (both : Bool) : (turn l m both).length ≤ 100 := by
  unfold turn
  split
  · rename_i h; exact (turnE_iff.1 h).2.2
  · exact Nat.zero_le _

/-! ### till, total -/
def tillW (l : List Win) (b t : Int) : Option Win := l.find? (fun w => hasW w b t)
def tillN (l : List Win) (b t : Int) : Int := match tillW l b t with | some w => w.to | none => 0
theorem tillB (b t : Int) : ∀ l : List Win, (tillW l b t).isSome = has l b t
  | [] => rfl
  | w :: l => by
    have ih := tillB b t l
    unfold tillW at ih ⊢
    rw [List.find?_cons, has_cons]
    cases hasW w b t
    · simpa using ih
    · rfl
def tot (bed : Int) : List Win → Int
  | [] => 0
  | w :: l => (if w.bed = bed then w.to - w.fr else 0) + tot bed l
def total (l : List Win) (bed : Int) : Int := if isL l then tot bed l else 0
/-- How many times. -/
def cnt (f : Int → Bool) : Nat → Nat
  | 0 => 0
  | n + 1 => cnt f n + (if f (n : Int) then 1 else 0)
theorem cnt_congr {f g : Int → Bool} (h : ∀ t, f t = g t) : ∀ n, cnt f n = cnt g n
  | 0 => rfl
  | n + 1 => by unfold cnt; rw [cnt_congr h n, h]
theorem cnt_or {f g : Int → Bool} (h : ∀ t, ¬ (f t = true ∧ g t = true)) : ∀ n, cnt (fun t => f t || g t) n = cnt f n + cnt g n
  | 0 => rfl
  | n + 1 => by
    unfold cnt
    rw [cnt_or h n]
    have := h (n : Int)
    cases h1 : f (n : Int) <;> cases h2 : g (n : Int) <;> simp_all <;> omega
theorem cnt_le (f : Int → Bool) : ∀ n, cnt f n ≤ n
  | 0 => Nat.le_refl _
  | n + 1 => by
    unfold cnt
    have := cnt_le f n
    split <;> omega
theorem cnt_none : ∀ n, cnt (fun _ => false) n = 0
  | 0 => rfl
  | n + 1 => by unfold cnt; rw [cnt_none n]; rfl
theorem cnt_w {w : Win} {bed : Int} (h0 : 0 ≤ w.fr) (h1 : w.fr ≤ w.to) : ∀ n : Nat, (cnt (fun t => hasW w bed t) n : Int) = if w.bed = bed then min w.to (n : Int) - min w.fr (n : Int) else 0
  | 0 => by
    unfold cnt
    split
    · simp only [Int.natCast_zero]; omega
    · rfl
  | n + 1 => by
    unfold cnt
    have ih := cnt_w (bed := bed) h0 h1 n
    by_cases hb : w.bed = bed
    · rw [if_pos hb] at ih ⊢
      by_cases ht : w.fr ≤ (n : Int) ∧ (n : Int) < w.to
      · have : hasW w bed (n : Int) = true := hasW_iff.2 ⟨hb, ht.1, ht.2⟩
        rw [this, if_pos rfl]
        omega
      · have : hasW w bed (n : Int) = false := by rw [← Bool.not_eq_true, hasW_iff]; omega
        rw [this]
        simp only [Bool.false_eq_true, if_false]
        omega
    · rw [if_neg hb] at ih ⊢
      have : hasW w bed (n : Int) = false := by rw [← Bool.not_eq_true, hasW_iff]; omega
      rw [this]
      simp only [Bool.false_eq_true, if_false]
      omega
theorem cnt_tot {bed : Int} {N : Nat} : ∀ {l : List Win}, Can l → (∀ w ∈ l, 0 ≤ w.fr ∧ w.to ≤ (N : Int)) → (cnt (fun t => has l bed t) N : Int) = tot bed l
  | [], _, _ => by
    have := cnt_none N
    have e : cnt (fun t => has [] bed t) N = cnt (fun _ => false) N := cnt_congr (fun _ => rfl) N
    rw [e, this]; rfl
  | w :: l, hc, hb => by
    have ih := cnt_tot (bed := bed) (N := N) hc.tail (fun v hv => hb v (List.mem_cons_of_mem _ hv))
    have e : cnt (fun t => has (w :: l) bed t) N = cnt (fun t => hasW w bed t || has l bed t) N := cnt_congr (fun _ => rfl) N
    have ho := cnt_or (f := fun t => hasW w bed t) (g := fun t => has l bed t) (fun t h => by have := can_apart hc h.1; rw [this] at h; cases h.2) N
    have hw := hb w (by simp)
    have hlt := hc.1 w (by simp)
    have hcw := cnt_w (bed := bed) hw.1 (Int.le_of_lt hlt) N
    rw [e, ho]
    unfold tot
    rw [Int.natCast_add, ih, hcw]
    by_cases h : w.bed = bed
    · rw [if_pos h, if_pos h]; omega
    · rw [if_neg h, if_neg h]
theorem total_cnt {l : List Win} {bed : Int} (h : isL l = true) : (cnt (fun t => has l bed t) 1000000000 : Int) = total l bed := by
  have hl := isL_iff.1 h
  unfold total
  rw [if_pos h]
  exact cnt_tot hl.2.1 (fun w hw => by have := may_iff.1 (hl.1 w hw); omega)
/-- Add and Cut share out the times. -/
theorem total_share {l : List Win} {w : Win} {bed : Int} (h1 : turnE l [w] true = 0) (h2 : turnE l [w] false = 0) :
    turnE (turn l [w] true) [w] false = 0 ∧ turn (turn l [w] true) [w] false = turn l [w] false ∧ total (turn l [w] true) bed = total (turn l [w] false) bed + (if bed = w.bed then w.to - w.fr else 0) := by
  obtain ⟨a1, a2⟩ := turn_spec h1
  obtain ⟨c1, c2⟩ := turn_spec h2
  have hm := (turnE_iff.1 h1).2.1
  have hw := may_iff.1 (hm w (by simp))
  have ht := turn_of (l := turn l [w] true) (m := [w]) (both := false) a1 hm c1 (fun b t => by
    rw [c2]
    unfold F2
    rw [a2]
    unfold F2
    cases has l b t <;> cases has [w] b t <;> rfl)
  refine ⟨ht.1, ht.2, ?_⟩
  rw [← total_cnt a1, ← total_cnt c1]
  have e1 : cnt (fun t => has (turn l [w] true) bed t) 1000000000 = cnt (fun t => has (turn l [w] false) bed t || hasW w bed t) 1000000000 := cnt_congr (fun t => by
    rw [a2, c2]
    unfold F2
    have : has [w] bed t = hasW w bed t := by rw [has_cons, has_nil, Bool.or_false]
    rw [this]
    cases has l bed t <;> cases hasW w bed t <;> rfl) _
  have e2 := cnt_or (f := fun t => has (turn l [w] false) bed t) (g := fun t => hasW w bed t) (fun t h => by
    have h1 := h.1
    rw [c2] at h1
    unfold F2 at h1
    have e : has [w] bed t = hasW w bed t := by rw [has_cons, has_nil, Bool.or_false]
    rw [e, h.2] at h1
    simp at h1) 1000000000
  have e3 := cnt_w (w := w) (bed := bed) (by omega) (by omega) 1000000000
  rw [e1, e2, Int.natCast_add, e3]
  by_cases h : w.bed = bed
  · rw [if_pos h, if_pos h.symm]; omega
  · rw [if_neg h, if_neg (fun e => h e.symm)]
/-- One more window, or one less: the times so far. -/
theorem turn_more {l x m : List Win} {w : Win} {both : Bool} (h : ∀ b t, has x b t = F2 l m both b t) (hE : turnE x [w] both = 0) : isL (turn x [w] both) = true ∧ ∀ b t, has (turn x [w] both) b t = F2 l (w :: m) both b t := by
  obtain ⟨a1, a2⟩ := turn_spec hE
  refine ⟨a1, fun b t => ?_⟩
  rw [a2]
  have e : has [w] b t = hasW w b t := by rw [has_cons, has_nil, Bool.or_false]
  unfold F2
  rw [h, e, has_cons]
  unfold F2
  cases both <;> cases has l b t <;> cases has m b t <;> cases hasW w b t <;> rfl
end Mu
end Go.Proofs.YtpgichlaghhdeaaGreatDoor

namespace Go.Proofs.YtpgichlaghhdeaaGreatDoor
set_option maxRecDepth 10000

/-- A board. -/
structure Brd where
  most : Int
  now : Int
  als : List Alm

namespace Bd
def lessA (a b : Alm) : Bool := Sp.less a.b a.c b.b b.c
def atS (b c : Int) (a : Alm) : Bool := a.b == b && a.c == c
theorem lessA_iff {a b : Alm} : lessA a b = true ↔ a.b < b.b ∨ (a.b = b.b ∧ a.c < b.c) := Sp.less_iff
theorem atS_iff {b c : Int} {a : Alm} : atS b c a = true ↔ a.b = b ∧ a.c = c := by simp [atS]
theorem less_trans {a b c : Alm} (h1 : lessA a b = true) (h2 : lessA b c = true) : lessA a c = true := by
  rw [lessA_iff] at *; omega
theorem less_not {a b : Alm} (h : lessA a b = true) : lessA b a = false := by
  rw [← Bool.not_eq_true, lessA_iff]; rw [lessA_iff] at h; omega
theorem less_self (a : Alm) : lessA a a = false := by rw [← Bool.not_eq_true, lessA_iff]; omega
/-- Neither less nor at its spot: behind it. -/
theorem less_of {x a : Alm} (h1 : ¬ lessA x a = true) (h2 : ¬ atS a.b a.c x = true) : lessA a x = true := by
  rw [lessA_iff] at *; rw [atS_iff] at h2; omega
theorem less_at {x a y : Alm} (h : atS a.b a.c x = true) (h2 : lessA x y = true) : lessA a y = true := by
  rw [lessA_iff] at *; rw [atS_iff] at h; omega
theorem at_less {x a : Alm} (h : lessA x a = true) : atS a.b a.c x = false := by
  rw [← Bool.not_eq_true, atS_iff]; rw [lessA_iff] at h; omega
theorem at_less' {x a : Alm} (h : lessA a x = true) : atS a.b a.c x = false := by
  rw [← Bool.not_eq_true, atS_iff]; rw [lessA_iff] at h; omega

/-- May an alarm be on a board of this time? -/
def may (n : Int) (a : Alm) : Bool := Am.right a && decide (a.si ≤ n)
def rising : List Alm → Bool
  | a :: b :: l => lessA a b && rising (b :: l)
  | _ => true
def rows (n : Int) (ls : List Alm) : Bool := ls.all (may n) && rising ls
def isB (m n : Int) (ls : List Alm) : Bool := decide (1 ≤ m) && decide (m ≤ 200) && Am.isT n && decide ((ls.length : Int) ≤ m) && rows n ls

theorem rising_iff : ∀ ls : List Alm, rising ls = true ↔ ls.Pairwise (fun a b => lessA a b = true)
  | [] => by simp [rising]
  | [a] => by simp [rising]
  | a :: b :: l => by
    have ih := rising_iff (b :: l)
    unfold rising
    rw [Bool.and_eq_true, ih, List.pairwise_cons (a := a)]
    constructor
    · rintro ⟨h1, h2⟩
      refine ⟨fun x hx => ?_, h2⟩
      rcases List.mem_cons.1 hx with rfl | hx
      · exact h1
      · exact less_trans h1 ((List.pairwise_cons.1 h2).1 x hx)
    · rintro ⟨h1, h2⟩
      exact ⟨h1 b (by simp), h2⟩
theorem rows_iff {n : Int} {ls : List Alm} : rows n ls = true ↔ (∀ a ∈ ls, Am.right a = true ∧ a.si ≤ n) ∧ ls.Pairwise (fun a b => lessA a b = true) := by
  unfold rows
  rw [Bool.and_eq_true, rising_iff, List.all_eq_true]
  simp [may]
theorem isB_iff {m n : Int} {ls : List Alm} : isB m n ls = true ↔ (1 ≤ m ∧ m ≤ 200) ∧ (0 ≤ n ∧ n ≤ 1000000000) ∧ (ls.length : Int) ≤ m ∧ rows n ls = true := by
  unfold isB
  simp only [Bool.and_eq_true, decide_eq_true_eq, Am.isT_iff]
  constructor
  · rintro ⟨⟨⟨⟨h1, h2⟩, h3⟩, h4⟩, h5⟩; exact ⟨⟨h1, h2⟩, h3, h4, h5⟩
  · rintro ⟨⟨h1, h2⟩, h3, h4, h5⟩; exact ⟨⟨⟨⟨h1, h2⟩, h3⟩, h4⟩, h5⟩

/-! ### get, put, drop -/
def getA (b c : Int) : List Alm → Alm × Bool
  | [] => (Am.zero, false)
  | x :: l => if atS b c x then (x, true) else getA b c l
def has (b c : Int) (ls : List Alm) : Bool := (getA b c ls).2
def putL (a : Alm) : List Alm → List Alm
  | [] => [a]
  | x :: l => if lessA x a then x :: putL a l else if atS a.b a.c x then a :: l else a :: x :: l
def putE (m n : Int) (ls : List Alm) (a : Alm) : Int := if !isB m n ls || !Am.right a || decide (n < a.si) then 1 else if !has a.b a.c ls && decide (m ≤ (ls.length : Int)) then 81 else 0
def put (m n : Int) (ls : List Alm) (a : Alm) : Brd := if putE m n ls a = 0 then ⟨m, n, putL a ls⟩ else ⟨0, 0, []⟩
def dropL (b c : Int) (ls : List Alm) : List Alm := ls.filter (fun x => !atS b c x)
def dropE (m n : Int) (ls : List Alm) (b c : Int) : Int := if !isB m n ls then 1 else if has b c ls then 0 else 80
def drop (m n : Int) (ls : List Alm) (b c : Int) : Brd := if dropE m n ls b c = 0 then ⟨m, n, dropL b c ls⟩ else ⟨0, 0, []⟩
def passL (t : Int) (ls : List Alm) : List Alm := ls.map (fun a => Am.pass a t)
def passE (m n : Int) (ls : List Alm) (t : Int) : Int := if !isB m n ls || !Am.isT t then 1 else if t < n then 62 else if isB m t (passL t ls) then 0 else 1
def pass (m n : Int) (ls : List Alm) (t : Int) : Brd := if passE m n ls t = 0 then ⟨m, t, passL t ls⟩ else ⟨0, 0, []⟩
def ofL (beds : List Int) (ls : List Alm) : List Alm := ls.filter (fun x => beds.any (fun k => k == x.b))
def newE (m : Int) : Int := if m < 1 ∨ 200 < m then 1 else 0
def new (m : Int) : Brd := if newE m = 0 then ⟨m, 0, []⟩ else ⟨0, 0, []⟩

theorem mem_drop {b c : Int} {ls : List Alm} {x : Alm} (h : x ∈ dropL b c ls) : x ∈ ls := (List.mem_filter.1 h).1
theorem getA_has {b c : Int} : ∀ {ls : List Alm}, has b c ls = false → getA b c ls = (Am.zero, false) ∧ ∀ x ∈ ls, atS b c x = false
  | [], _ => ⟨rfl, fun _ h => nomatch h⟩
  | x :: l, h => by
    unfold has getA at h
    by_cases hx : atS b c x = true
    · rw [if_pos hx] at h; cases h
    · rw [if_neg hx] at h
      have ih := getA_has (ls := l) h
      refine ⟨by unfold getA; rw [if_neg hx]; exact ih.1, fun y hy => ?_⟩
      rcases List.mem_cons.1 hy with rfl | hy
      · simpa using hx
      · exact ih.2 y hy
theorem getA_put (a : Alm) : ∀ ls : List Alm, getA a.b a.c (putL a ls) = (a, true)
  | [] => by simp [putL, getA, atS]
  | x :: l => by
    unfold putL
    split
    · rename_i h
      unfold getA
      rw [at_less h]
      exact getA_put a l
    · split <;> simp [getA, atS]
theorem getA_other {a : Alm} {b c : Int} (h : ¬ (b = a.b ∧ c = a.c)) : ∀ ls : List Alm, getA b c (putL a ls) = getA b c ls
  | [] => by
    have : atS b c a = false := by rw [← Bool.not_eq_true, atS_iff]; omega
    simp [putL, getA, this]
  | x :: l => by
    have ha : atS b c a = false := by rw [← Bool.not_eq_true, atS_iff]; omega
    unfold putL
    split
    · unfold getA
      rw [getA_other h l]
    · split
      · rename_i hx
        have hx2 : atS b c x = false := by rw [← Bool.not_eq_true, atS_iff]; rw [atS_iff] at hx; omega
        simp [getA, ha, hx2]
      · simp [getA, ha]
theorem drop_put (a : Alm) : ∀ ls : List Alm, dropL a.b a.c (putL a ls) = dropL a.b a.c ls
  | [] => by simp [putL, dropL, atS]
  | x :: l => by
    have ih := drop_put a l
    have ha : atS a.b a.c a = true := by rw [atS_iff]; exact ⟨rfl, rfl⟩
    unfold putL
    split
    · unfold dropL at ih ⊢
      rw [List.filter_cons, List.filter_cons, ih]
    · split
      · rename_i hx
        simp [dropL, ha, hx]
      · simp [dropL, ha]
theorem drop_none {b c : Int} {ls : List Alm} (h : ∀ x ∈ ls, atS b c x = false) : dropL b c ls = ls := by
  unfold dropL
  exact List.filter_eq_self.2 (fun x hx => by simp [h x hx])
/-- Behind what is less, all are behind. -/
theorem none_behind {a x : Alm} {l : List Alm} (h : lessA a x = true) (hp : (x :: l).Pairwise (fun a b => lessA a b = true)) : ∀ y ∈ x :: l, atS a.b a.c y = false := by
  intro y hy
  rcases List.mem_cons.1 hy with rfl | hy
  · exact at_less' h
  · exact at_less' (less_trans h ((List.pairwise_cons.1 hp).1 y hy))
theorem none_after {a x : Alm} {l : List Alm} (h : atS a.b a.c x = true) (hp : (x :: l).Pairwise (fun a b => lessA a b = true)) : ∀ y ∈ l, atS a.b a.c y = false :=
  fun y hy => at_less' (less_at h ((List.pairwise_cons.1 hp).1 y hy))
theorem has_none {b c : Int} {ls : List Alm} (h : ∀ x ∈ ls, atS b c x = false) : has b c ls = false := by
  induction ls with
  | nil => rfl
  | cons x l ih =>
    unfold has getA
    rw [h x (by simp)]
    exact ih (fun y hy => h y (by simp [hy]))
theorem put_perm {a : Alm} : ∀ {ls : List Alm}, ls.Pairwise (fun a b => lessA a b = true) → (putL a ls).Perm (a :: dropL a.b a.c ls)
  | [], _ => List.Perm.refl _
  | x :: l, hp => by
    have ih := put_perm (a := a) (List.pairwise_cons.1 hp).2
    unfold putL
    split
    · rename_i h
      have e : dropL a.b a.c (x :: l) = x :: dropL a.b a.c l := by unfold dropL; rw [List.filter_cons, at_less h]; rfl
      rw [e]
      exact (ih.cons x).trans (List.Perm.swap a x _)
    · split
      · rename_i hx
        have e : dropL a.b a.c (x :: l) = l := by
          have := drop_none (none_after hx hp)
          unfold dropL at this ⊢
          rw [List.filter_cons, hx]
          exact this
        rw [e]
      · rename_i h1 h2
        rw [drop_none (none_behind (less_of h1 h2) hp)]
theorem put_len {a : Alm} : ∀ {ls : List Alm}, ls.Pairwise (fun a b => lessA a b = true) → (putL a ls).length = ls.length + (if has a.b a.c ls then 0 else 1)
  | [], _ => rfl
  | x :: l, hp => by
    have ih := put_len (a := a) (List.pairwise_cons.1 hp).2
    unfold putL
    split
    · rename_i h
      have e : has a.b a.c (x :: l) = has a.b a.c l := by unfold has; rw [getA, at_less h]; rfl
      rw [e, List.length_cons, ih, List.length_cons]
      omega
    · split
      · rename_i hx
        have e : has a.b a.c (x :: l) = true := by unfold has getA; rw [hx]; rfl
        rw [e]; simp
      · rename_i h1 h2
        rw [has_none (none_behind (less_of h1 h2) hp)]; simp
theorem put_rising {a : Alm} : ∀ {ls : List Alm}, ls.Pairwise (fun a b => lessA a b = true) → (putL a ls).Pairwise (fun a b => lessA a b = true)
  | [], _ => List.pairwise_singleton _ _
  | x :: l, hp => by
    have hp' := List.pairwise_cons.1 hp
    have ih := put_rising (a := a) hp'.2
    unfold putL
    split
    · rename_i h
      refine List.pairwise_cons.2 ⟨fun y hy => ?_, ih⟩
      rcases List.mem_cons.1 ((put_perm hp'.2).mem_iff.1 hy) with rfl | hy
      · exact h
      · exact hp'.1 y (mem_drop hy)
    · split
      · rename_i hx
        exact List.pairwise_cons.2 ⟨fun y hy => less_at hx (hp'.1 y hy), hp'.2⟩
      · rename_i h1 h2
        have h := less_of h1 h2
        refine List.pairwise_cons.2 ⟨fun y hy => ?_, hp⟩
        rcases List.mem_cons.1 hy with rfl | hy
        · exact h
        · exact less_trans h (hp'.1 y hy)
theorem drop_rows {n : Int} {ls : List Alm} (b c : Int) (h : rows n ls = true) : rows n (dropL b c ls) = true := by
  rw [rows_iff] at h ⊢
  exact ⟨fun a ha => h.1 a (mem_drop ha), h.2.sublist List.filter_sublist⟩
theorem put_rows {n : Int} {ls : List Alm} {a : Alm} (h : rows n ls = true) (hr : Am.right a = true) (hs : a.si ≤ n) : rows n (putL a ls) = true := by
  rw [rows_iff] at h ⊢
  refine ⟨fun x hx => ?_, put_rising h.2⟩
  rcases List.mem_cons.1 ((put_perm h.2).mem_iff.1 hx) with rfl | hx
  · exact ⟨hr, hs⟩
  · exact h.1 x (mem_drop hx)
theorem putE_iff {m n : Int} {ls : List Alm} {a : Alm} : putE m n ls a = 0 ↔ isB m n ls = true ∧ Am.right a = true ∧ a.si ≤ n ∧ (has a.b a.c ls = true ∨ (ls.length : Int) < m) := by
  unfold putE
  cases isB m n ls <;> cases Am.right a <;> cases has a.b a.c ls <;> by_cases h : n < a.si <;> by_cases h2 : m ≤ (ls.length : Int) <;> simp [h, h2] <;> omega
theorem put_isB {m n : Int} {ls : List Alm} {a : Alm} (h : putE m n ls a = 0) : isB m n (putL a ls) = true := by
  rw [putE_iff] at h
  obtain ⟨hb, hr, hs, hf⟩ := h
  have hb' := isB_iff.1 hb
  refine isB_iff.2 ⟨hb'.1, hb'.2.1, ?_, put_rows hb'.2.2.2 hr hs⟩
  rw [put_len (rows_iff.1 hb'.2.2.2).2]
  rcases hf with hf | hf
  · rw [hf]; simp; exact hb'.2.2.1
  · have := hb'.2.2.1
    split <;> omega
theorem drop_isB {m n : Int} {ls : List Alm} (b c : Int) (h : isB m n ls = true) : isB m n (dropL b c ls) = true := by
  have hb := isB_iff.1 h
  refine isB_iff.2 ⟨hb.1, hb.2.1, ?_, drop_rows b c hb.2.2.2⟩
  have : (dropL b c ls).length ≤ ls.length := List.length_filter_le _ _
  omega
theorem has_other {a : Alm} {b c : Int} (h : ¬ (b = a.b ∧ c = a.c)) (ls : List Alm) : has b c (putL a ls) = has b c ls := by unfold has; rw [getA_other h ls]
/-- Two of unlike spots, in either order. -/
theorem put_comm {x y : Alm} {ls : List Alm} (hp : ls.Pairwise (fun a b => lessA a b = true)) (h : ¬ (x.b = y.b ∧ x.c = y.c)) : putL y (putL x ls) = putL x (putL y ls) := by
  have key : ∀ {x y : Alm}, ¬ (x.b = y.b ∧ x.c = y.c) → (putL y (putL x ls)).Perm (y :: x :: dropL y.b y.c (dropL x.b x.c ls)) := by
    intro x y h
    refine (put_perm (put_rising hp)).trans (List.Perm.cons y ?_)
    have hx : atS y.b y.c x = false := by rw [← Bool.not_eq_true, atS_iff]; omega
    have h2 : (dropL y.b y.c (putL x ls)).Perm (dropL y.b y.c (x :: dropL x.b x.c ls)) := (put_perm hp).filter _
    have e : dropL y.b y.c (x :: dropL x.b x.c ls) = x :: dropL y.b y.c (dropL x.b x.c ls) := by unfold dropL; rw [List.filter_cons, hx]; rfl
    rw [e] at h2
    exact h2
  have ecomm : dropL y.b y.c (dropL x.b x.c ls) = dropL x.b x.c (dropL y.b y.c ls) := by
    unfold dropL
    rw [List.filter_filter, List.filter_filter]
    congr 1
    funext z
    exact Bool.and_comm _ _
  have p1 := key h
  have p2 := key (x := y) (y := x) (by omega)
  refine List.Perm.eq_of_pairwise (fun a b _ _ h1 h2 => ?_) (put_rising (put_rising hp)) (put_rising (put_rising hp)) (p1.trans ?_)
  · have := less_not h1
    rw [this] at h2
    cases h2
  · rw [ecomm]
    exact (List.Perm.swap x y _).trans p2.symm
/-- May both be put, in this order? Then in the other one too. -/
theorem both_iff {m n : Int} {ls : List Alm} {x y : Alm} (h : ¬ (x.b = y.b ∧ x.c = y.c)) : (putE m n ls x = 0 ∧ putE m n (putL x ls) y = 0) ↔ (putE m n ls y = 0 ∧ putE m n (putL y ls) x = 0) := by
  have key : ∀ {x y : Alm}, ¬ (x.b = y.b ∧ x.c = y.c) → (putE m n ls x = 0 ∧ putE m n (putL x ls) y = 0) → (putE m n ls y = 0 ∧ putE m n (putL y ls) x = 0) := by
    rintro x y h ⟨h1, h2⟩
    have hx := putE_iff.1 h1
    have hy := putE_iff.1 h2
    have hp := (rows_iff.1 (isB_iff.1 hx.1).2.2.2).2
    rw [has_other (a := x) (b := y.b) (c := y.c) (by omega), put_len hp] at hy
    have g1 : putE m n ls y = 0 := by
      refine putE_iff.2 ⟨hx.1, hy.2.1, hy.2.2.1, ?_⟩
      rcases hy.2.2.2 with h3 | h3
      · exact Or.inl h3
      · right; omega
    refine ⟨g1, putE_iff.2 ⟨put_isB g1, hx.2.1, hx.2.2.1, ?_⟩⟩
    rw [has_other (a := y) (b := x.b) (c := x.c) h, put_len hp]
    cases e1 : has x.b x.c ls
    · right
      rw [e1] at hy
      have h4 : (ls.length : Int) < m := by
        rcases hx.2.2.2 with h4 | h4
        · rw [e1] at h4; cases h4
        · exact h4
      cases e2 : has y.b y.c ls
      · rcases hy.2.2.2 with h3 | h3
        · rw [e2] at h3; cases h3
        · simpa using h3
      · simpa using h4
    · exact Or.inl rfl
  exact ⟨key h, key (by omega)⟩

/-! ### time -/
theorem pass_len (t : Int) (ls : List Alm) : (passL t ls).length = ls.length := by unfold passL; rw [List.length_map]
theorem passE_iff {m n : Int} {ls : List Alm} {t : Int} : passE m n ls t = 0 ↔ isB m n ls = true ∧ (0 ≤ t ∧ t ≤ 1000000000) ∧ n ≤ t ∧ isB m t (passL t ls) = true := by
  unfold passE
  rw [← Am.isT_iff]
  cases isB m n ls <;> cases Am.isT t <;> cases isB m t (passL t ls) <;> by_cases h : t < n <;> simp [h] <;> omega
theorem passE_vals {m n : Int} {ls : List Alm} {t : Int} : passE m n ls t = 0 ∨ passE m n ls t = 1 ∨ passE m n ls t = 62 := by
  unfold passE
  split
  · exact Or.inr (Or.inl rfl)
  · split
    · exact Or.inr (Or.inr rfl)
    · split
      · exact Or.inl rfl
      · exact Or.inr (Or.inl rfl)
/-- Time till one time, and then till a later one. -/
theorem pass_pass {m n : Int} {ls : List Alm} {t t' : Int} (h : passE m n ls t = 0) (h' : passE m t (passL t ls) t' = 0) : passL t' (passL t ls) = passL t' ls ∧ passE m n ls t' = 0 := by
  have h1 := passE_iff.1 h
  have h2 := passE_iff.1 h'
  have hr := (rows_iff.1 (isB_iff.1 h1.2.2.2).2.2.2).1
  have e : passL t' (passL t ls) = passL t' ls := by
    unfold passL
    rw [List.map_map]
    refine List.map_congr_left fun a ha => ?_
    exact Am.pass_twoR h2.2.2.1 (fun _ => (hr _ (List.mem_map.2 ⟨a, ha, rfl⟩)).1)
  refine ⟨e, passE_iff.2 ⟨h1.1, h2.2.1, by omega, ?_⟩⟩
  rw [← e]
  exact h2.2.2.2
theorem getA_at : ∀ {ls : List Alm}, ls.Pairwise (fun a b => lessA a b = true) → ∀ i (h : i < ls.length), getA ls[i].b ls[i].c ls = (ls[i], true)
  | x :: l, hp, 0, _ => by
    have : atS x.b x.c x = true := by rw [atS_iff]; exact ⟨rfl, rfl⟩
    simp [getA, this]
  | x :: l, hp, i + 1, h => by
    have hp' := List.pairwise_cons.1 hp
    have hi : i < l.length := by simpa using h
    have h1 : atS l[i].b l[i].c x = false := at_less (hp'.1 _ (List.getElem_mem hi))
    simp only [List.getElem_cons_succ]
    unfold getA
    rw [h1]
    exact getA_at hp'.2 i hi
theorem pass_get {m n : Int} {ls : List Alm} {t : Int} (h : passE m n ls t = 0) (i : Nat) (hi : i < ls.length) : getA ls[i].b ls[i].c (passL t ls) = (Am.pass ls[i] t, true) := by
  have h1 := passE_iff.1 h
  have hp := (rows_iff.1 (isB_iff.1 h1.2.2.2).2.2.2).2
  have hi' : i < (passL t ls).length := by rw [pass_len]; exact hi
  have hg := getA_at hp i hi'
  have e : (passL t ls)[i] = Am.pass ls[i] t := by simp [passL]
  rw [e, (Am.pass_keeps ls[i] t).1, (Am.pass_keeps ls[i] t).2.1] at hg
  exact hg
theorem zero_isB : isB 0 0 [] = false := by decide
end Bd
end Go.Proofs.YtpgichlaghhdeaaGreatDoor

namespace Go.Proofs.YtpgichlaghhdeaaGreatDoor
set_option maxRecDepth 10000
namespace Sh

/-! ### words -/
/-- A text's words, by single blanks. -/
def words : List UInt8 → List (List UInt8)
  | [] => [[]]
  | c :: l => if c = 32 then [] :: words l else match words l with
    | [] => [[c]]
    | w :: ws => (c :: w) :: ws
theorem words_ne : ∀ l, words l ≠ []
  | [] => by simp [words]
  | c :: l => by
    unfold words
    split
    · simp
    · split <;> simp
theorem words_one : ∀ {x : List UInt8}, (∀ c ∈ x, c ≠ 32) → words x = [x]
  | [], _ => rfl
  | c :: x, h => by
    have ih := words_one (x := x) (fun d hd => h d (List.mem_cons_of_mem _ hd))
    unfold words
    rw [if_neg (h c (by simp)), ih]
theorem words_cons : ∀ {x : List UInt8} (y : List UInt8), (∀ c ∈ x, c ≠ 32) → words (x ++ 32 :: y) = x :: words y
  | [], y, _ => by
    rw [List.nil_append]
    conv => lhs; unfold words
    rw [if_pos rfl]
  | c :: x, y, h => by
    have ih := words_cons (x := x) y (fun d hd => h d (List.mem_cons_of_mem _ hd))
    rw [List.cons_append]
    conv => lhs; unfold words
    rw [if_neg (h c (by simp)), ih]
/-- One more sign, behind. -/
theorem words_blank : ∀ l : List UInt8, words (l ++ [32]) = words l ++ [[]]
  | [] => by decide
  | c :: l => by
    have ih := words_blank l
    rw [List.cons_append]
    conv => lhs; unfold words
    conv => rhs; unfold words
    split
    · rw [ih]; rfl
    · rw [ih]
      have hne := words_ne l
      cases hw : words l with
      | nil => exact absurd hw hne
      | cons w ws => rfl
theorem words_sign {c : UInt8} (hc : c ≠ 32) : ∀ l : List UInt8, ∃ ws w, words l = ws ++ [w] ∧ words (l ++ [c]) = ws ++ [w ++ [c]]
  | [] => ⟨[], [], by simp [words], by simp [words, hc]⟩
  | d :: l => by
    obtain ⟨ws, w, e1, e2⟩ := words_sign hc l
    by_cases hd : d = 32
    · refine ⟨[] :: ws, w, ?_, ?_⟩
      · unfold words; rw [if_pos hd, e1]; rfl
      · rw [List.cons_append]; unfold words; rw [if_pos hd, e2]; rfl
    · cases ws with
      | nil =>
        refine ⟨[], d :: w, ?_, ?_⟩
        · unfold words; rw [if_neg hd, e1]; rfl
        · rw [List.cons_append]; unfold words; rw [if_neg hd, e2]; rfl
      | cons v vs =>
        refine ⟨(d :: v) :: vs, w, ?_, ?_⟩
        · unfold words; rw [if_neg hd, e1]; rfl
        · rw [List.cons_append]; unfold words; rw [if_neg hd, e2]; rfl

/-! ### numbers -/
open Go.Lib (decDigits nDigits)
theorem dec_big {n : Nat} (h : ¬ n < 10) : decDigits n = decDigits (n / 10) ++ [UInt8.ofNat (48 + n % 10)] := by rw [decDigits, dif_neg h]
theorem dec_sign : ∀ (n : Nat), ∀ c ∈ decDigits n, 48 ≤ c.toNat ∧ c.toNat ≤ 57 := by
  intro n
  induction n using Nat.strongRecOn with
  | _ n ih =>
    intro c hc
    by_cases h : n < 10
    · rw [Go.Lib.decDigits_one h] at hc
      obtain rfl : c = UInt8.ofNat (48 + n) := by simpa using hc
      rw [UInt8.toNat_ofNat', Nat.mod_eq_of_lt (by omega)]
      omega
    · rw [dec_big h] at hc
      rcases List.mem_append.1 hc with hc | hc
      · exact ih (n / 10) (by omega) c hc
      · obtain rfl : c = UInt8.ofNat (48 + n % 10) := by simpa using hc
        rw [UInt8.toNat_ofNat', Nat.mod_eq_of_lt (by omega)]
        omega
/-- What digits are worth. -/
def valN (l : List UInt8) : Nat := l.foldl (fun n c => 10 * n + (c.toNat - 48)) 0
theorem valN_snoc (l : List UInt8) (c : UInt8) : valN (l ++ [c]) = 10 * valN l + (c.toNat - 48) := by unfold valN; rw [List.foldl_append]; rfl
theorem valN_dec : ∀ n : Nat, valN (decDigits n) = n := by
  intro n
  induction n using Nat.strongRecOn with
  | _ n ih =>
    by_cases h : n < 10
    · rw [Go.Lib.decDigits_one h]
      unfold valN
      simp only [List.foldl_cons, List.foldl_nil]
      rw [UInt8.toNat_ofNat', Nat.mod_eq_of_lt (by omega)]
      omega
    · rw [dec_big h, valN_snoc, ih (n / 10) (by omega), UInt8.toNat_ofNat', Nat.mod_eq_of_lt (by omega)]
      omega
theorem dec_len {n : Nat} (h : n < 10000000000) : (decDigits n).length ≤ 10 ∧ 1 ≤ (decDigits n).length := by
  rw [Go.Lib.decDigits_length]
  refine ⟨?_, Go.Lib.nDigits_pos n⟩
  have step : ∀ k : Nat, ∀ m : Nat, m < 10 ^ k → nDigits m ≤ max k 1 := by
    intro k
    induction k with
    | zero => intro m hm; rw [Go.Lib.nDigits_small (by omega)]; omega
    | succ k ih =>
      intro m hm
      by_cases h : m < 10
      · rw [Go.Lib.nDigits_small h]; omega
      · rw [Go.Lib.nDigits_big h]
        have := ih (m / 10) (by rw [Nat.pow_succ] at hm; omega)
        rcases Nat.eq_zero_or_pos k with rfl | hk
        · simp at hm; omega
        · omega
  have := step 10 n (by simpa using h)
  omega
def isDig (c : UInt8) : Bool := decide (48 ≤ c.toNat) && decide (c.toNat ≤ 57)
/-- The number of digits; -1: they are none without a 0 ahead. -/
def numI (l : List UInt8) : Int := if 1 ≤ l.length ∧ l.length ≤ 10 ∧ l.all isDig = true ∧ decDigits (valN l) = l then (valN l : Int) else -1
theorem numI_dec {n : Nat} (h : n < 10000000000) : numI (decDigits n) = n := by
  have hl := dec_len h
  unfold numI
  rw [valN_dec, if_pos ⟨hl.2, hl.1, List.all_eq_true.2 fun c hc => by have := dec_sign n c hc; unfold isDig; simp [this], rfl⟩]
theorem numI_int {z : Int} (h0 : 0 ≤ z) (h : z ≤ 9999999999) : numI (decDigits z.toNat) = z := by
  rw [numI_dec (by omega)]; omega

/-! ### lines -/
def lineL (a : Alm) : List UInt8 := Sp.txt a.b a.c ++ 32 :: (Lf.nameL a.ph ++ 32 :: (decDigits a.pr.toNat ++ 32 :: (decDigits a.si.toNat ++ 32 :: decDigits a.un.toNat)))
def line (a : Alm) : List UInt8 := if Am.right a then lineL a else []
def lineE (a : Alm) : Int := if Am.right a then 0 else 1
def phaseOf (l : List UInt8) : Int := if Lf.nameL 4 = l then 4 else if Lf.nameL 3 = l then 3 else if Lf.nameL 2 = l then 2 else if Lf.nameL 1 = l then 1 else 0
theorem phaseOf_name {p : Int} (h1 : 1 ≤ p) (h2 : p ≤ 4) : phaseOf (Lf.nameL p) = p := by
  have h : p = 1 ∨ p = 2 ∨ p = 3 ∨ p = 4 := by omega
  rcases h with rfl | rfl | rfl | rfl <;> decide
/-- What a text's words are, as an alarm. -/
def cand (s : List UInt8) : Option Alm :=
  match words s with
  | [w0, w1, w2, w3, w4] => if Sp.ok w0 then some ⟨Sp.parB w0, Sp.parC w0, phaseOf w1, numI w2, numI w3, numI w4⟩ else none
  | _ => none
def ok (s : List UInt8) : Bool := match cand s with | some a => Am.right a && decide (lineL a = s) | none => false
def parA (s : List UInt8) : Alm := if ok s then (cand s).getD Am.zero else Am.zero
def parE (s : List UInt8) : Int := if ok s then 0 else 20

theorem no_blank_dec (n : Nat) : ∀ c ∈ decDigits n, c ≠ 32 := fun c hc e => by
  have := dec_sign n c hc
  rw [e] at this
  exact absurd this.1 (by decide)
theorem no_blank_txt (b c : Int) : ∀ x ∈ Sp.txt b c, x ≠ 32 := fun x hx e => by
  unfold Sp.txt at hx
  rcases List.mem_append.1 hx with hx | hx
  · rcases List.mem_append.1 hx with hx | hx
    · exact no_blank_dec _ x hx e
    · have : x = 47 := by simpa using hx
      rw [this] at e
      exact absurd e (by decide)
  · exact no_blank_dec _ x hx e
theorem no_blank_name (p : Int) : ∀ x ∈ Lf.nameL p, x ≠ 32 := by
  unfold Lf.nameL
  repeat' split
  all_goals (intro x hx e; subst e; revert hx; decide)
theorem words_line (a : Alm) : words (lineL a) = [Sp.txt a.b a.c, Lf.nameL a.ph, decDigits a.pr.toNat, decDigits a.si.toNat, decDigits a.un.toNat] := by
  unfold lineL
  rw [words_cons _ (no_blank_txt _ _), words_cons _ (no_blank_name _), words_cons _ (no_blank_dec _), words_cons _ (no_blank_dec _), words_one (no_blank_dec _)]
theorem cand_line {a : Alm} (h : Am.right a = true) : cand (lineL a) = some a := by
  have r := Am.right_iff.1 h
  unfold cand
  rw [words_line]
  simp only
  rw [if_pos (Sp.txt_ok r.1), (Sp.par_txt r.1).1, (Sp.par_txt r.1).2.1, phaseOf_name r.2.1 r.2.2.1, numI_int (by omega) (by omega), numI_int (by omega) (by omega), numI_int (by omega) (by omega)]
theorem ok_line {a : Alm} (h : Am.right a = true) : ok (lineL a) = true := by
  unfold ok
  rw [cand_line h]
  simp [h]
theorem parA_line {a : Alm} (h : Am.right a = true) : parA (lineL a) = a ∧ parE (lineL a) = 0 := by
  unfold parA parE
  rw [ok_line h, cand_line h]
  exact ⟨rfl, rfl⟩
theorem ok_back {s : List UInt8} (h : ok s = true) : Am.right (parA s) = true ∧ lineL (parA s) = s := by
  have h' := h
  unfold ok at h
  cases hc : cand s with
  | none => rw [hc] at h; cases h
  | some a =>
    rw [hc] at h
    simp only [Bool.and_eq_true, decide_eq_true_eq] at h
    unfold parA
    rw [if_pos h', hc]
    exact h
theorem ok_iff {s : List UInt8} : ok s = true ↔ ∃ a, Am.right a = true ∧ lineL a = s := by
  constructor
  · intro h; exact ⟨_, ok_back h⟩
  · rintro ⟨a, h, rfl⟩; exact ok_line h
theorem not_ok {s : List UInt8} (h : ok s = false) : parA s = Am.zero ∧ parE s = 20 := by
  unfold parA parE
  rw [h]
  exact ⟨rfl, rfl⟩
/-- Told, it is parsed. -/
theorem back_a {a : Alm} (h : lineE a = 0) : parE (line a) = 0 ∧ parA (line a) = a := by
  unfold lineE at h
  cases hr : Am.right a
  · rw [hr] at h; exact absurd h (by decide)
  · have k := parA_line hr
    unfold line
    rw [hr]
    exact ⟨k.2, k.1⟩
/-- Parsed, it is told. -/
theorem back_s {s : List UInt8} (h : parE s = 0) : lineE (parA s) = 0 ∧ line (parA s) = s := by
  cases ho : ok s
  · rw [(not_ok ho).2] at h; exact absurd h (by decide)
  · have k := ok_back ho
    unfold lineE line
    rw [k.1]
    exact ⟨rfl, k.2⟩
theorem name_len (p : Int) : (Lf.nameL p).length ≤ 9 := by
  unfold Lf.nameL
  repeat' split
  all_goals decide
theorem line_len (a : Alm) : (line a).length ≤ 50 := by
  unfold line
  cases hr : Am.right a
  · simp
  · have r := Am.right_iff.1 hr
    rw [if_pos rfl]
    unfold lineL
    have h1 := Sp.txt_len r.1
    have h2 := name_len a.ph
    have h3 := (dec_len (n := a.pr.toNat) (by omega)).1
    have h4 := (dec_len (n := a.si.toNat) (by omega)).1
    have h5 := (dec_len (n := a.un.toNat) (by omega)).1
    simp only [List.length_append, List.length_cons]
    omega

/-! ### who is heard, lines, counts -/
def heardL (l : List Win) (now : Int) (al : List Alm) : List Alm := (Rk.sort al).filter (fun a => !Mu.has l a.b now)
def heardE (m now : Int) (al : List Alm) (l : List Win) : Int := if Bd.isB m now al && Mu.isL l then 0 else 1
def heard (m now : Int) (al : List Alm) (l : List Win) : List Alm := if heardE m now al l = 0 then heardL l now al else []
def linesE (m now : Int) (al : List Alm) (l : List Win) (n : Int) : Int := if heardE m now al l = 0 then (if n < 1 then 1 else 0) else 1
def lines (m now : Int) (al : List Alm) (l : List Win) (n : Int) : List (List UInt8) := if linesE m now al l n = 0 then ((heardL l now al).take n.toNat).map line else []
def cnt (p : Int) (al : List Alm) : Nat := (al.filter (fun a => a.ph == p)).length
theorem cnt_snoc (p : Int) (al : List Alm) (a : Alm) : cnt p (al ++ [a]) = cnt p al + if a.ph = p then 1 else 0 := by
  unfold cnt
  rw [List.filter_append, List.length_append]
  by_cases h : a.ph = p
  · simp [h]
  · simp [h]
theorem cnt_all : ∀ al : List Alm, cnt 0 al + cnt 1 al + cnt 2 al + cnt 3 al + cnt 4 al ≤ al.length
  | [] => by simp [cnt]
  | a :: al => by
    have ih := cnt_all al
    have e : ∀ p, cnt p (a :: al) = cnt p al + if a.ph = p then 1 else 0 := fun p => by
      unfold cnt
      rw [List.filter_cons]
      by_cases h : a.ph = p
      · simp [h]
      · simp [h]
    rw [e, e, e, e, e, List.length_cons]
    repeat' split
    all_goals omega
theorem heard_len (l : List Win) (now : Int) (al : List Alm) : (heardL l now al).length ≤ al.length := by
  unfold heardL
  exact Nat.le_trans (List.length_filter_le _ _) (by rw [Rk.sort_len]; exact Nat.le_refl _)
end Sh
end Go.Proofs.YtpgichlaghhdeaaGreatDoor

namespace Go.Proofs.YtpgichlaghhdeaaGreatDoor
set_option maxRecDepth 10000
namespace Sh
theorem heardE_nil {m now : Int} {al : List Alm} {l : List Win} (h : heardE m now al l = 0) : heardE m now al [] = 0 := by
  unfold heardE at h ⊢
  cases h1 : Bd.isB m now al
  · rw [h1] at h; exact absurd h (by simp)
  · rw [if_pos (by rw [show Mu.isL ([] : List Win) = true from by decide]; rfl)]
theorem heard_all {m now : Int} {al : List Alm} (h : heardE m now al [] = 0) : (heard m now al []).length = al.length := by
  unfold heard heardL
  rw [if_pos h, List.filter_eq_self.2 (fun a _ => by rw [Mu.has_nil]; rfl), Rk.sort_len]
theorem heardE_more {m now : Int} {al : List Alm} {l : List Win} {w : Win} (h : heardE m now al l = 0) (hT : Mu.turnE l [w] true = 0) : heardE m now al (Mu.turn l [w] true) = 0 := by
  unfold heardE at h ⊢
  cases h1 : Bd.isB m now al
  · rw [h1] at h; exact absurd h (by simp)
  · rw [(Mu.turn_spec hT).1]; rfl
theorem filter_len_le {α : Type} (p q : α → Bool) (h : ∀ a, p a = true → q a = true) : ∀ l : List α, (l.filter p).length ≤ (l.filter q).length
  | [] => Nat.le_refl _
  | a :: l => by
    have ih := filter_len_le p q h l
    rw [List.filter_cons, List.filter_cons]
    by_cases hp : p a = true
    · rw [if_pos hp, if_pos (h a hp)]
      simp only [List.length_cons]
      omega
    · rw [if_neg hp]
      split
      · simp only [List.length_cons]; omega
      · exact ih
theorem heard_more {m now : Int} {al : List Alm} {l : List Win} {w : Win} (h : heardE m now al l = 0) (hT : Mu.turnE l [w] true = 0) : (heard m now al (Mu.turn l [w] true)).length ≤ (heard m now al l).length := by
  unfold heard heardL
  rw [if_pos h, if_pos (heardE_more h hT)]
  refine filter_len_le _ _ (fun a ha => ?_) _
  rw [(Mu.turn_spec hT).2] at ha
  cases e : Mu.has l a.b now
  · rfl
  · rw [show Mu.F2 l [w] true a.b now = true by simp [Mu.F2, e]] at ha
    exact absurd ha (by decide)
theorem take_facts {α : Type} (L : List α) (n m : Nat) (h : n ≤ m) : (L.take n).length ≤ (L.take m).length ∧ (L.take m).take (L.take n).length = L.take n ∧ ((L.take n).length = n ∨ (L.take n).length = L.length ∧ (L.take m).length = L.length) := by
  rw [List.length_take, List.length_take, List.take_take]
  refine ⟨by omega, ?_, by omega⟩
  by_cases hn : n ≤ L.length
  · rw [show min (min n L.length) m = n by omega]
  · rw [show min (min n L.length) m = L.length by omega, List.take_length, List.take_of_length_le (by omega)]
end Sh
end Go.Proofs.YtpgichlaghhdeaaGreatDoor

namespace Go.Proofs.YtpgichlaghhdeaaGreatDoor
set_option maxRecDepth 10000
namespace Sh
theorem heardE_iff {m now : Int} {al : List Alm} {l : List Win} : heardE m now al l = 0 ↔ Bd.isB m now al = true ∧ Mu.isL l = true := by
  unfold heardE
  cases Bd.isB m now al <;> cases Mu.isL l <;> simp
theorem heard_ok {m now : Int} {al : List Alm} {l : List Win} (h : heardE m now al l = 0) : heard m now al l = heardL l now al := by unfold heard; rw [if_pos h]
theorem nodup_of {m now : Int} {al : List Alm} (h : Bd.isB m now al = true) : al.Nodup := by
  have h1 := (Bd.rows_iff.1 (Bd.isB_iff.1 h).2.2.2).2
  refine h1.imp (fun {a b} hab e => ?_)
  rw [e, Bd.less_self] at hab
  exact absurd hab (by decide)
theorem heard_rise {m now : Int} {al : List Alm} {l : List Win} (h : heardE m now al l = 0) : (heard m now al l).Pairwise (fun a b => Rk.cmp a b = -1) := by
  have hn := nodup_of (heardE_iff.1 h).1
  have hs : (Rk.sort al).Nodup := (Rk.sort_perm al).nodup_iff.2 hn
  have hp : (Rk.sort al).Pairwise (fun a b => Rk.cmp a b = -1) := by
    refine (List.Pairwise.and (Rk.sort_sorted al) hs).imp (fun {a b} hab => ?_)
    have h1 : Rk.cmp a b ≤ 0 := hab.1
    have h2 : Rk.cmp a b ≠ 0 := fun e => hab.2 ((Rk.cmp_zero a b).1 e)
    have h3 := Rk.cmp_vals a b
    omega
  rw [heard_ok h]
  exact List.Pairwise.sublist List.filter_sublist hp
theorem heard_next {m now : Int} {al : List Alm} {l : List Win} (h : heardE m now al l = 0) (i : Nat) (hi : i + 1 < (heard m now al l).length) : Rk.cmp ((heard m now al l)[i]'(by omega)) (heard m now al l)[i + 1] = -1 :=
  List.pairwise_iff_getElem.1 (heard_rise h) i (i + 1) (by omega) hi (Nat.lt_succ_self i)
theorem heard_mem {m now : Int} {al : List Alm} {l : List Win} (h : heardE m now al l = 0) {a : Alm} (ha : a ∈ al) : a ∈ heard m now al l ↔ Mu.has l a.b now = false := by
  rw [heard_ok h]
  unfold heardL
  rw [List.mem_filter, (Rk.sort_perm al).mem_iff]
  cases Mu.has l a.b now <;> simp [ha]
theorem heard_len2 {m now : Int} {al : List Alm} {l : List Win} (h : heardE m now al l = 0) : (heard m now al l).length ≤ al.length := by
  rw [heard_ok h]; exact heard_len _ _ _
/-- Is it among the first k? -/
def inK (a : Alm) (hs : List Alm) (k : Nat) : Bool := (hs.take k).any (fun x => decide (x = a))
theorem inK_succ (a : Alm) (hs : List Alm) (k : Nat) (hk : k < hs.length) : inK a hs (k + 1) = (inK a hs k || decide (hs[k] = a)) := by
  unfold inK
  rw [List.take_add_one, List.any_append, List.getElem?_eq_getElem hk]
  simp
theorem inK_all (a : Alm) (hs : List Alm) : inK a hs hs.length = decide (a ∈ hs) := by
  unfold inK
  rw [List.take_length, Bool.eq_iff_iff, List.any_eq_true, decide_eq_true_eq]
  constructor
  · rintro ⟨x, hx, e⟩; rw [decide_eq_true_eq] at e; exact e ▸ hx
  · intro h; exact ⟨a, h, by simp⟩
theorem heard_in {m now : Int} {al : List Alm} {l : List Win} (h : heardE m now al l = 0) (i : Nat) (hi : i < al.length) : inK al[i] (heard m now al l) (heard m now al l).length = !Mu.has l al[i].b now := by
  rw [inK_all]
  have k := heard_mem h (List.getElem_mem hi)
  cases e : Mu.has l al[i].b now
  · exact decide_eq_true (k.2 e)
  · exact decide_eq_false (fun hm => by rw [k.1 hm] at e; exact absurd e (by decide))
end Sh
end Go.Proofs.YtpgichlaghhdeaaGreatDoor

namespace Go.Proofs.YtpgichlaghhdeaaGreatDoor
set_option maxRecDepth 10000
namespace Mu
/-- By bed, then by beginning. -/
def le2 (x y : Win) : Prop := x.bed < y.bed ∨ (x.bed = y.bed ∧ x.fr ≤ y.fr)
def joinS (all : List Win) (w : Win) : List Win :=
  match all.getLast? with
  | some v => if before v w then all ++ [w] else all.dropLast ++ [⟨v.bed, v.fr, max v.to w.to⟩]
  | none => [w]
theorem joinS_nil (w : Win) : joinS [] w = [w] := rfl
theorem joinS_far {all : List Win} {v w : Win} (h : all.getLast? = some v) (hb : before v w) : joinS all w = all ++ [w] := by unfold joinS; rw [h]; simp only; rw [if_pos hb]
theorem joinS_near {all : List Win} {v w : Win} (h : all.getLast? = some v) (hb : ¬ before v w) : joinS all w = all.dropLast ++ [⟨v.bed, v.fr, max v.to w.to⟩] := by unfold joinS; rw [h]; simp only; rw [if_neg hb]
def joinL (s : List Win) : List Win := s.foldl joinS []
theorem has_one (w : Win) (b t : Int) : has [w] b t = hasW w b t := by rw [has_cons, has_nil, Bool.or_false]
/-- What is joined so far. -/
structure Joined (all pre rest : List Win) : Prop where
  can : Can all
  hs : ∀ b t, has all b t = has pre b t
  mays : (∀ w ∈ pre, may w = true) → ∀ w ∈ all, may w = true
  le : ∀ v ∈ all, ∀ w ∈ rest, le2 v w
theorem bool_iff {a b : Bool} (h : a = true ↔ b = true) : a = b := by cases a <;> cases b <;> simp_all
theorem Joined.step {all pre rest : List Win} {w : Win} (h : Joined all pre (w :: rest)) (hw : w.fr < w.to) (hr : ∀ v ∈ rest, le2 w v) : Joined (joinS all w) (pre ++ [w]) rest := by
  cases hg : all.getLast? with
  | none =>
    obtain rfl : all = [] := by cases all with | nil => rfl | cons x l => simp [List.getLast?] at hg
    rw [joinS_nil]
    refine ⟨⟨fun v hv => ?_, List.pairwise_singleton _ _⟩, fun b t => ?_, fun hm v hv => hm v (by simp at hv; simp [hv]), fun v hv u hu => ?_⟩
    · obtain rfl : v = w := by simpa using hv
      exact hw
    · rw [has_app, ← h.hs, has_nil]; rfl
    · obtain rfl : v = w := by simpa using hv
      exact hr u hu
  | some v =>
    obtain ⟨d, e1, e2⟩ := last_split hg
    have hv : v ∈ all := by rw [e1]; simp
    have hd : ∀ x ∈ d, x ∈ all := fun x hx => by rw [e1]; simp [hx]
    have hpw := h.can.2
    rw [e1, List.pairwise_append] at hpw
    have hdv : ∀ x ∈ d, before x v := fun x hx => hpw.2.2 x hx v (by simp)
    have hvl := h.can.1 v hv
    have hvw := h.le v hv w (by simp)
    by_cases hb : before v w
    · rw [joinS_far hg hb]
      refine ⟨⟨fun x hx => ?_, ?_⟩, fun b t => ?_, fun hm x hx => ?_, fun x hx u hu => ?_⟩
      · rcases List.mem_append.1 hx with hx | hx
        · exact h.can.1 x hx
        · obtain rfl : x = w := by simpa using hx
          exact hw
      · refine List.pairwise_append.2 ⟨h.can.2, List.pairwise_singleton _ _, fun x hx y hy => ?_⟩
        obtain rfl : y = w := by simpa using hy
        rw [e1] at hx
        rcases List.mem_append.1 hx with hx | hx
        · exact before_trans (hdv x hx) hb hvl
        · obtain rfl : x = v := by simpa using hx
          exact hb
      · rw [has_app, has_app, h.hs]
      · rcases List.mem_append.1 hx with hx | hx
        · exact h.mays (fun u hu => hm u (by simp [hu])) x hx
        · obtain rfl : x = w := by simpa using hx
          exact hm x (by simp)
      · rcases List.mem_append.1 hx with hx | hx
        · exact h.le x hx u (by simp [hu])
        · obtain rfl : x = w := by simpa using hx
          exact hr u hu
    · rw [joinS_near hg hb, e2]
      have hq : v.bed = w.bed ∧ v.fr ≤ w.fr ∧ w.fr ≤ v.to := by unfold before at hb; unfold le2 at hvw; omega
      refine ⟨⟨fun x hx => ?_, ?_⟩, fun b t => ?_, fun hm x hx => ?_, fun x hx u hu => ?_⟩
      · rcases List.mem_append.1 hx with hx | hx
        · exact h.can.1 x (hd x hx)
        · obtain rfl : x = ⟨v.bed, v.fr, max v.to w.to⟩ := by simpa using hx
          simp only; omega
      · refine List.pairwise_append.2 ⟨hpw.1, List.pairwise_singleton _ _, fun x hx y hy => ?_⟩
        obtain rfl : y = ⟨v.bed, v.fr, max v.to w.to⟩ := by simpa using hy
        have := hdv x hx
        unfold before at *
        simp only; omega
      · have e3 : has all b t = (has d b t || hasW v b t) := by rw [e1, has_app, has_one]
        rw [has_app, has_app, ← h.hs, e3, has_one, has_one]
        apply bool_iff
        simp only [Bool.or_eq_true, hasW_iff]
        constructor
        · rintro (h1 | h1)
          · exact Or.inl (Or.inl h1)
          · by_cases ht : t < v.to
            · exact Or.inl (Or.inr ⟨h1.1, h1.2.1, ht⟩)
            · exact Or.inr ⟨by omega, by omega, by omega⟩
        · rintro ((h1 | h1) | h1)
          · exact Or.inl h1
          · exact Or.inr ⟨h1.1, h1.2.1, by omega⟩
          · exact Or.inr ⟨by omega, by omega, by omega⟩
      · rcases List.mem_append.1 hx with hx | hx
        · exact h.mays (fun u hu => hm u (by simp [hu])) x (hd x hx)
        · obtain rfl : x = ⟨v.bed, v.fr, max v.to w.to⟩ := by simpa using hx
          have m1 := may_iff.1 (h.mays (fun u hu => hm u (by simp [hu])) v hv)
          have m2 := may_iff.1 (hm w (by simp))
          exact may_iff.2 ⟨m1.1, m1.2.1, m1.2.2.1, by simp only; omega, by simp only; omega⟩
      · rcases List.mem_append.1 hx with hx | hx
        · exact h.le x (hd x hx) u (by simp [hu])
        · obtain rfl : x = ⟨v.bed, v.fr, max v.to w.to⟩ := by simpa using hx
          have := h.le v hv u (by simp [hu])
          unfold le2 at *
          exact this
theorem Joined.fold : ∀ {rest all pre : List Win}, Joined all pre rest → (∀ w ∈ rest, w.fr < w.to) → rest.Pairwise le2 → Joined (rest.foldl joinS all) (pre ++ rest) []
  | [], all, pre, h, _, _ => by rw [List.append_nil]; exact h
  | w :: rest, all, pre, h, hf, hp => by
    have hp' := List.pairwise_cons.1 hp
    have k := Joined.fold (h.step (hf w (by simp)) hp'.1) (fun v hv => hf v (List.mem_cons_of_mem _ hv)) hp'.2
    rw [List.append_assoc, List.singleton_append] at k
    exact k
theorem joinL_spec {s : List Win} (hm : ∀ w ∈ s, may w = true) (hp : s.Pairwise le2) : Can (joinL s) ∧ (∀ b t, has (joinL s) b t = has s b t) ∧ ∀ w ∈ joinL s, may w = true := by
  have k := Joined.fold (rest := s) (all := []) (pre := []) ⟨⟨(fun _ h => by cases h), List.Pairwise.nil⟩, fun _ _ => rfl, (fun _ _ h => by cases h), (fun _ h => by cases h)⟩ (fun w hw => (may_iff.1 (hm w hw)).2.2.2.1) hp
  rw [List.nil_append] at k
  exact ⟨k.can, k.hs, k.mays hm⟩
theorem has_perm {s l : List Win} (h : s.Perm l) (b t : Int) : has s b t = has l b t := by
  apply bool_iff
  rw [has_iff, has_iff]
  exact ⟨fun ⟨w, hw, k⟩ => ⟨w, h.mem_iff.1 hw, k⟩, fun ⟨w, hw, k⟩ => ⟨w, h.mem_iff.2 hw, k⟩⟩
theorem joinS_len (all : List Win) (w : Win) : (joinS all w).length ≤ all.length + 1 := by
  unfold joinS
  split
  · split
    · simp
    · simp only [List.length_append, List.length_dropLast, List.length_cons, List.length_nil]; omega
  · simp
theorem fold_len : ∀ (rest all : List Win), (rest.foldl joinS all).length ≤ all.length + rest.length
  | [], all => by simp
  | w :: rest, all => by
    have := fold_len rest (joinS all w)
    have := joinS_len all w
    rw [List.foldl_cons, List.length_cons]
    omega

/-! ### what cuts leave -/
def rest1 (w : Win) : List Win := if w.fr < w.to then [w] else []
def head1 (w c : Win) : List Win := if w.fr < c.fr then [⟨w.bed, w.fr, c.fr⟩] else []
def meetB (c w : Win) : Bool := decide (c.bed = w.bed ∧ c.fr < w.to ∧ w.fr < c.to)
def wo : Win → List Win → List Win
  | w, [] => rest1 w
  | w, c :: cs => if meetB c w then head1 w c ++ wo ⟨w.bed, c.to, w.to⟩ cs else rest1 w
def behB (w c : Win) : Bool := decide (c.bed < w.bed ∨ (w.bed = c.bed ∧ c.to ≤ w.fr))
def dropB (w : Win) : List Win → List Win
  | [] => []
  | c :: cs => if behB w c then dropB w cs else c :: cs
def leftL : List Win → List Win → List Win
  | [], _ => []
  | w :: l, cuts => wo w (dropB w cuts) ++ leftL l (dropB w cuts)
theorem rest1_mem {w v : Win} (h : v ∈ rest1 w) : v = w ∧ w.fr < w.to := by
  unfold rest1 at h
  split at h
  · rename_i h1; exact ⟨by simpa using h, h1⟩
  · cases h
theorem rest1_has (w : Win) (b t : Int) : has (rest1 w) b t = hasW w b t := by
  unfold rest1
  split
  · exact has_one w b t
  · rw [has_nil]
    symm
    rw [← Bool.not_eq_true, hasW_iff]
    omega
theorem head1_mem {w c v : Win} (h : v ∈ head1 w c) : v = ⟨w.bed, w.fr, c.fr⟩ ∧ w.fr < c.fr := by
  unfold head1 at h
  split at h
  · rename_i h1; exact ⟨by simpa using h, h1⟩
  · cases h
theorem head1_has (w c : Win) (b t : Int) : has (head1 w c) b t = true ↔ w.bed = b ∧ w.fr ≤ t ∧ t < c.fr := by
  unfold head1
  split
  · rw [has_one, hasW_iff]
  · rw [has_nil]
    constructor
    · intro h; cases h
    · omega
theorem wo_spec : ∀ (cs : List Win) (w : Win), Can cs → (∀ c ∈ cs, behB w c = false) →
    (wo w cs).Pairwise before ∧ (∀ v ∈ wo w cs, v.bed = w.bed ∧ w.fr ≤ v.fr ∧ v.fr < v.to ∧ v.to ≤ w.to) ∧ ∀ b t, has (wo w cs) b t = (hasW w b t && !has cs b t)
  | [], w, _, _ => by
    unfold wo
    refine ⟨?_, fun v hv => ?_, fun b t => ?_⟩
    · unfold rest1; split
      · exact List.pairwise_singleton _ _
      · exact List.Pairwise.nil
    · obtain ⟨rfl, h⟩ := rest1_mem hv
      omega
    · rw [rest1_has, has_nil]; simp
  | c :: cs, w, hc, hb => by
    have hcc := hc.1 c (by simp)
    have hcs := (List.pairwise_cons.1 hc.2).1
    have hbc := hb c (by simp)
    unfold behB at hbc
    rw [decide_eq_false_iff_not] at hbc
    unfold wo
    by_cases hm : meetB c w = true
    · rw [if_pos hm]
      unfold meetB at hm
      rw [decide_eq_true_eq] at hm
      have ih := wo_spec cs ⟨w.bed, c.to, w.to⟩ hc.tail (fun c' hc' => by
        have := hcs c' hc'
        have := hc.1 c' (List.mem_cons_of_mem _ hc')
        unfold before at *
        unfold behB
        rw [decide_eq_false_iff_not]
        simp only
        omega)
      refine ⟨?_, fun v hv => ?_, fun b t => ?_⟩
      · refine List.pairwise_append.2 ⟨?_, ih.1, fun x hx y hy => ?_⟩
        · unfold head1; split
          · exact List.pairwise_singleton _ _
          · exact List.Pairwise.nil
        · obtain ⟨rfl, h⟩ := head1_mem hx
          have := ih.2.1 y hy
          simp only at this
          unfold before
          simp only
          omega
      · rcases List.mem_append.1 hv with hv | hv
        · obtain ⟨rfl, h⟩ := head1_mem hv
          refine ⟨rfl, Int.le_refl _, h, ?_⟩
          simp only; omega
        · have := ih.2.1 v hv
          simp only at this
          omega
      · rw [has_app, ih.2.2, has_cons]
        apply bool_iff
        rw [Bool.or_eq_true, head1_has, Bool.and_eq_true, Bool.and_eq_true, Bool.not_eq_true', Bool.not_eq_true', Bool.or_eq_false_iff, hasW_iff, hasW_iff, ← Bool.not_eq_true (hasW c b t), hasW_iff]
        simp only
        constructor
        · rintro (h1 | ⟨h1, h2⟩)
          · refine ⟨⟨h1.1, h1.2.1, by omega⟩, by omega, ?_⟩
            rw [has_not]
            intro x hx hxx
            have := hcs x hx
            unfold before at this
            omega
          · exact ⟨⟨h1.1, by omega, h1.2.2⟩, by omega, h2⟩
        · rintro ⟨h1, h2, h3⟩
          by_cases ht : t < c.fr
          · exact Or.inl ⟨h1.1, h1.2.1, ht⟩
          · exact Or.inr ⟨⟨h1.1, by omega, h1.2.2⟩, h3⟩
    · rw [if_neg hm]
      have hm' := hm
      unfold meetB at hm'
      rw [decide_eq_true_eq] at hm'
      refine ⟨?_, fun v hv => ?_, fun b t => ?_⟩
      · unfold rest1; split
        · exact List.pairwise_singleton _ _
        · exact List.Pairwise.nil
      · obtain ⟨rfl, h⟩ := rest1_mem hv
        omega
      · rw [rest1_has]
        cases hw : hasW w b t
        · rfl
        · rw [hasW_iff] at hw
          have : has (c :: cs) b t = false := by
            rw [has_not]
            intro x hx hxx
            rcases List.mem_cons.1 hx with rfl | hx
            · omega
            · have := hcs x hx
              unfold before at this
              omega
          rw [this]; rfl
theorem dropB_can (w : Win) : ∀ {cs : List Win}, Can cs → Can (dropB w cs) ∧ (∀ c ∈ dropB w cs, behB w c = false) ∧ ∀ c ∈ dropB w cs, c ∈ cs
  | [], h => ⟨h, (fun _ h => by cases h), fun _ h => h⟩
  | c :: cs, h => by
    unfold dropB
    split
    · have ih := dropB_can w h.tail
      exact ⟨ih.1, ih.2.1, fun x hx => List.mem_cons_of_mem _ (ih.2.2 x hx)⟩
    · rename_i hb
      have hbf : behB w c = false := by simpa using hb
      refine ⟨h, fun x hx => ?_, fun _ h => h⟩
      rcases List.mem_cons.1 hx with rfl | hx
      · exact hbf
      · have := (List.pairwise_cons.1 h.2).1 x hx
        have := h.1 x (List.mem_cons_of_mem _ hx)
        unfold behB at hbf ⊢
        rw [decide_eq_false_iff_not] at hbf ⊢
        unfold before at *
        omega
theorem dropB_has (w : Win) {b t : Int} (ht : w.bed < b ∨ (w.bed = b ∧ w.fr ≤ t)) : ∀ cs : List Win, has (dropB w cs) b t = has cs b t
  | [] => rfl
  | c :: cs => by
    unfold dropB
    split
    · rename_i hb
      unfold behB at hb
      rw [decide_eq_true_eq] at hb
      rw [dropB_has w ht cs, has_cons]
      have : hasW c b t = false := by rw [← Bool.not_eq_true, hasW_iff]; omega
      rw [this]; rfl
    · rfl
theorem left_spec : ∀ (l cs : List Win), Can l → Can cs →
    Can (leftL l cs) ∧ (∀ v ∈ leftL l cs, ∃ w ∈ l, v.bed = w.bed ∧ w.fr ≤ v.fr ∧ v.to ≤ w.to) ∧ ∀ b t, has (leftL l cs) b t = (has l b t && !has cs b t)
  | [], cs, _, _ => ⟨⟨(fun _ h => by cases h), List.Pairwise.nil⟩, (fun _ h => by cases h), fun _ _ => rfl⟩
  | w :: l, cs, hl, hc => by
    obtain ⟨d1, d2, d3⟩ := dropB_can w hc
    have ih := left_spec l (dropB w cs) hl.tail d1
    have hw := wo_spec (dropB w cs) w d1 d2
    have hbw := (List.pairwise_cons.1 hl.2).1
    have hww := hl.1 w (by simp)
    unfold leftL
    refine ⟨⟨fun v hv => ?_, ?_⟩, fun v hv => ?_, fun b t => ?_⟩
    · rcases List.mem_append.1 hv with hv | hv
      · exact (hw.2.1 v hv).2.2.1
      · exact ih.1.1 v hv
    · refine List.pairwise_append.2 ⟨hw.1, ih.1.2, fun x hx y hy => ?_⟩
      have h1 := hw.2.1 x hx
      obtain ⟨u, hu, h2⟩ := ih.2.1 y hy
      have h3 := hbw u hu
      unfold before at *
      omega
    · rcases List.mem_append.1 hv with hv | hv
      · have h1 := hw.2.1 v hv
        exact ⟨w, by simp, h1.1, h1.2.1, h1.2.2.2⟩
      · obtain ⟨u, hu, h2⟩ := ih.2.1 v hv
        exact ⟨u, List.mem_cons_of_mem _ hu, h2⟩
    · rw [has_app, hw.2.2, ih.2.2, has_cons]
      by_cases ht : w.bed < b ∨ (w.bed = b ∧ w.fr ≤ t)
      · rw [dropB_has w ht]
        cases hasW w b t <;> cases has l b t <;> cases has cs b t <;> rfl
      · have h1 : hasW w b t = false := by rw [← Bool.not_eq_true, hasW_iff]; omega
        have h2 : has l b t = false := by
          rw [has_not]
          intro x hx hxx
          have := hbw x hx
          unfold before at this
          omega
        rw [h1, h2]; rfl
theorem wo_len : ∀ (cs : List Win) (w : Win), (wo w cs).length ≤ cs.length + 1
  | [], w => by unfold wo rest1; split <;> simp
  | c :: cs, w => by
    unfold wo
    have ih := wo_len cs ⟨w.bed, c.to, w.to⟩
    have hh : (head1 w c).length ≤ 1 := by unfold head1; split <;> simp
    split
    · rw [List.length_append, List.length_cons]; omega
    · unfold rest1; split <;> simp
/-- What is right, but for how many, and of these times, is what comes out. -/
theorem wins_of {l m x : List Win} {both : Bool} (hm : ∀ w ∈ l ++ m, may w = true) (hx : Can x) (h : ∀ b t, has x b t = F2 l m both b t) : wins l m both = x := by
  have hw := wins_spec (both := both) hm
  exact can_eq hw.1 hx (fun b t => by rw [hw.2.1, h])
theorem turn_fit {l m x : List Win} {both : Bool} (h1 : isL l = true) (h2 : m.all may = true) (hx : Can x) (h : ∀ b t, has x b t = F2 l m both b t) :
    turnE l m both = (if 100 < x.length then 81 else 0) ∧ turn l m both = (if 100 < x.length then [] else x) := by
  have hm : ∀ w ∈ l ++ m, may w = true := fun w hw => by
    rcases List.mem_append.1 hw with hw | hw
    · exact (isL_iff.1 h1).1 w hw
    · exact List.all_eq_true.1 h2 w hw
  have e := wins_of hm hx h
  have hE : turnE l m both = (if 100 < x.length then 81 else 0) := by unfold turnE; rw [h1, h2, e]; rfl
  refine ⟨hE, ?_⟩
  unfold turn
  rw [hE, e]
  by_cases hl : 100 < x.length
  · rw [if_pos hl, if_pos hl]; rfl
  · rw [if_neg hl, if_neg hl]; rfl
theorem turn_bad {l m : List Win} {both : Bool} (h : isL l = false ∨ m.all may = false) : turnE l m both = 1 ∧ turn l m both = [] := by
  have hE : turnE l m both = 1 := by
    unfold turnE
    rcases h with h | h
    · rw [h]; rfl
    · rw [h]; cases isL l <;> rfl
  exact ⟨hE, by unfold turn; rw [hE]; rfl⟩
end Mu
end Go.Proofs.YtpgichlaghhdeaaGreatDoor

namespace Go.Proofs.YtpgichlaghhdeaaGreatDoor
set_option maxRecDepth 10000
namespace Sh

/-! ### cut at blanks -/
theorem blank_or : ∀ l : List UInt8, (∀ c ∈ l, c ≠ 32) ∨ ∃ x y, l = x ++ 32 :: y ∧ ∀ c ∈ x, c ≠ 32
  | [] => .inl (fun _ h => nomatch h)
  | c :: l => by
    by_cases hc : c = 32
    · exact .inr ⟨[], l, by rw [hc]; rfl, fun _ h => nomatch h⟩
    · rcases blank_or l with h | ⟨x, y, rfl, h⟩
      · refine .inl (fun d hd => ?_)
        rcases List.mem_cons.1 hd with rfl | hd
        · exact hc
        · exact h d hd
      · refine .inr ⟨c :: x, y, rfl, fun d hd => ?_⟩
        rcases List.mem_cons.1 hd with rfl | hd
        · exact hc
        · exact h d hd
theorem pre_one (c : UInt8) (l : List UInt8) : List.isPrefixOf [32] (c :: l) = (c == 32) := by
  simp [List.isPrefixOf]
  by_cases h : c = 32
  · subst h; decide
  · have h2 : ¬ (32 : UInt8) = c := fun e => h e.symm
    rw [beq_eq_false_iff_ne.2 h, beq_eq_false_iff_ne.2 h2]
theorem index_none : ∀ {l : List UInt8}, (∀ c ∈ l, c ≠ 32) → Lib.index l [32] = -1
  | [], _ => rfl
  | c :: l, h => by
    have ih := index_none (l := l) (fun d hd => h d (List.mem_cons_of_mem _ hd))
    have hc := h c (by simp)
    unfold Lib.index
    rw [pre_one, beq_eq_false_iff_ne.2 hc, ih]
    rfl
theorem index_hit : ∀ {x : List UInt8} (y : List UInt8), (∀ c ∈ x, c ≠ 32) → Lib.index (x ++ 32 :: y) [32] = (x.length : Int)
  | [], y, _ => by
    rw [List.nil_append]
    unfold Lib.index
    rw [pre_one]
    rfl
  | c :: x, y, h => by
    have ih := index_hit (x := x) y (fun d hd => h d (List.mem_cons_of_mem _ hd))
    have hc := h c (by simp)
    rw [List.cons_append]
    unfold Lib.index
    rw [pre_one, beq_eq_false_iff_ne.2 hc, ih]
    have : ¬ ((x.length : Int) == -1) = true := by rw [beq_iff_eq]; omega
    rw [if_neg (by decide), if_neg this]
    simp
theorem splitK_none {l : List UInt8} (h : ∀ c ∈ l, c ≠ 32) (k : Nat) : Lib.splitK [32] 0 k l = [l] := by
  cases k with
  | zero => rfl
  | succ k =>
    unfold Lib.splitK
    rw [index_none h]
    rfl
theorem splitK_hit {x : List UInt8} (y : List UInt8) (h : ∀ c ∈ x, c ≠ 32) (k : Nat) : Lib.splitK [32] 0 (k + 1) (x ++ 32 :: y) = x :: Lib.splitK [32] 0 k y := by
  conv => lhs; unfold Lib.splitK
  rw [index_hit y h]
  have : ¬ ((x.length : Int) == -1) = true := by rw [beq_iff_eq]; omega
  rw [if_neg this]
  simp
theorem words_len : ∀ l : List UInt8, (words l).length ≤ l.length + 1
  | [] => by simp [words]
  | c :: l => by
    have ih := words_len l
    unfold words
    split
    · simp only [List.length_cons]; omega
    · split
      · simp
      · rename_i w ws e
        rw [e] at ih
        simp only [List.length_cons] at ih ⊢
        omega
theorem splitK_words : ∀ (k : Nat) (l : List UInt8), (words l).length ≤ k + 1 → Lib.splitK [32] 0 k l = words l
  | 0, l, h => by
    rcases blank_or l with hn | ⟨x, y, rfl, hx⟩
    · rw [words_one hn]; rfl
    · rw [words_cons y hx] at h
      have := words_ne y
      cases hw : words y with
      | nil => exact absurd hw this
      | cons a b => rw [hw] at h; simp at h
  | k + 1, l, h => by
    rcases blank_or l with hn | ⟨x, y, rfl, hx⟩
    · rw [splitK_none hn, words_one hn]
    · rw [words_cons y hx] at h ⊢
      rw [splitK_hit y hx, splitK_words k y (by simpa using h)]
theorem splitK_len : ∀ (k : Nat) (l : List UInt8), (Lib.splitK [32] 0 k l).length = min (k + 1) (words l).length
  | 0, l => by
    have h1 : 1 ≤ (words l).length := List.length_pos_iff.2 (words_ne l)
    show 1 = _
    omega
  | k + 1, l => by
    rcases blank_or l with hn | ⟨x, y, rfl, hx⟩
    · rw [splitK_none hn, words_one hn]
      show 1 = min (k + 1 + 1) 1
      omega
    · rw [splitK_hit y hx, words_cons y hx, List.length_cons, List.length_cons, splitK_len k y]
      omega
/-- Six pieces at most: five if the words are five. -/
theorem split_five {l : List UInt8} (h : (words l).length = 5) : Lib.splitK [32] 0 (min 6 (l.length + 1) - 1) l = words l :=
  splitK_words _ _ (by have := words_len l; omega)
theorem split_other {l : List UInt8} (h : (words l).length ≠ 5) : (Lib.splitK [32] 0 (min 6 (l.length + 1) - 1) l).length ≠ 5 := by
  rw [splitK_len]
  have := words_len l
  omega

/-! ### digits, read loosely -/
open Go.Lib (decDigits)
theorem decFrom_snoc (c : UInt8) : ∀ (l : List UInt8) (acc : Nat), Lib.decFrom acc (l ++ [c]) = (Lib.decFrom acc l).bind (fun m => (Lib.digitVal c).map (fun d => m * 10 + d))
  | [], acc => by
    simp only [List.nil_append, Lib.decFrom, Option.bind_some]
    cases Lib.digitVal c <;> rfl
  | a :: l, acc => by
    simp only [List.cons_append, Lib.decFrom]
    cases Lib.digitVal a with
    | none => rfl
    | some d => exact decFrom_snoc c l _
theorem digit_val {n : Nat} (h : n < 10) : Lib.digitVal (UInt8.ofNat (48 + n)) = some n := by
  unfold Lib.digitVal
  rw [UInt8.toNat_ofNat', Nat.mod_eq_of_lt (by omega), if_pos (by omega)]
  congr 1
  omega
theorem decFrom_dec : ∀ n : Nat, Lib.decFrom 0 (decDigits n) = some n := by
  intro n
  induction n using Nat.strongRecOn with
  | _ n ih =>
    by_cases h : n < 10
    · rw [Go.Lib.decDigits_one h]
      simp only [Lib.decFrom]
      rw [digit_val h]
      simp
    · rw [dec_big h, decFrom_snoc, ih (n / 10) (by omega), digit_val (by omega)]
      show some (n / 10 * 10 + n % 10) = some n
      congr 1
      omega
theorem dec_cons (n : Nat) : ∃ c r, decDigits n = c :: r ∧ 48 ≤ c.toNat ∧ c.toNat ≤ 57 := by
  have h1 : decDigits n ≠ [] := by
    intro e
    have := Go.Lib.nDigits_pos n
    rw [← Go.Lib.decDigits_length, e] at this
    simp at this
  obtain ⟨c, r, e⟩ := List.exists_cons_of_ne_nil h1
  exact ⟨c, r, e, dec_sign n c (by rw [e]; simp)⟩
theorem loose_dec {n : Nat} (h : n < 10000000000) : Sp.loose (decDigits n) = (n : Int) := by
  have hl := (dec_len h).1
  unfold Sp.loose
  rw [Lib.atoiAll_short _ (by omega)]
  obtain ⟨c, r, e, h0, h1⟩ := dec_cons n
  have hd := decFrom_dec n
  rw [e] at hd ⊢
  have n1 : (c == 45) = false := by rw [beq_eq_false_iff_ne]; intro hc; rw [hc] at h0; exact absurd h0 (by decide)
  have n2 : (c == 43) = false := by rw [beq_eq_false_iff_ne]; intro hc; rw [hc] at h0; exact absurd h0 (by decide)
  have e2 : Lib.atoi (c :: r) = some (n : Int) := by
    unfold Lib.atoi Lib.decNat
    dsimp only
    rw [n1, n2]
    simp [hd]
  rw [e2]
  rfl
theorem loose_int {z : Int} (h0 : 0 ≤ z) (h : z ≤ 9999999999) : Sp.loose (decDigits z.toNat) = z := by
  rw [loose_dec (by omega)]; omega

/-! ### the program's own candidate -/
def phI (l : List UInt8) : Option Int := if Lf.nameL 0 = l then some 0 else if Lf.nameL 1 = l then some 1 else if Lf.nameL 2 = l then some 2 else if Lf.nameL 3 = l then some 3 else if Lf.nameL 4 = l then some 4 else none
theorem phI_name {p : Int} (h1 : 0 ≤ p) (h2 : p ≤ 4) : phI (Lf.nameL p) = some p := by
  have h : p = 0 ∨ p = 1 ∨ p = 2 ∨ p = 3 ∨ p = 4 := by omega
  rcases h with rfl | rfl | rfl | rfl | rfl <;> decide
theorem phI_some {l : List UInt8} {p : Int} (h : phI l = some p) : 0 ≤ p ∧ p ≤ 4 ∧ Lf.nameL p = l := by
  unfold phI at h
  repeat' split at h
  all_goals first
    | (cases h; done)
    | (obtain rfl := Option.some.inj h; refine ⟨by omega, by omega, ?_⟩; assumption)
/-- If the text is a line, its words are read so. -/
theorem read_line {a : Alm} (h : Am.right a = true) : ∃ w0 w1 w2 w3 w4, words (lineL a) = [w0, w1, w2, w3, w4] ∧ Sp.ok w0 = true ∧ phI w1 = some a.ph ∧ (⟨Sp.parB w0, Sp.parC w0, a.ph, Sp.loose w2, Sp.loose w3, Sp.loose w4⟩ : Alm) = a := by
  have r := Am.right_iff.1 h
  refine ⟨_, _, _, _, _, words_line a, Sp.txt_ok r.1, phI_name (by omega) (by omega), ?_⟩
  rw [(Sp.par_txt r.1).1, (Sp.par_txt r.1).2.1, loose_int (by omega) (by omega), loose_int (by omega) (by omega), loose_int (by omega) (by omega)]
/-- Not five words: no line. -/
theorem no_five {l : List UInt8} (h : (words l).length ≠ 5) : ok l = false := by
  rw [← Bool.not_eq_true, ok_iff]
  rintro ⟨a, hr, rfl⟩
  obtain ⟨w0, w1, w2, w3, w4, e, _⟩ := read_line hr
  exact h (by rw [e]; rfl)
theorem no_spot {l w0 w1 w2 w3 w4 : List UInt8} (e : words l = [w0, w1, w2, w3, w4]) (h : Sp.ok w0 = false) : ok l = false := by
  rw [← Bool.not_eq_true, ok_iff]
  rintro ⟨a, hr, rfl⟩
  obtain ⟨v0, v1, v2, v3, v4, e', h0, _⟩ := read_line hr
  rw [e] at e'
  injection e' with e'
  subst e'
  rw [h] at h0
  cases h0
theorem no_name {l w0 w1 w2 w3 w4 : List UInt8} (e : words l = [w0, w1, w2, w3, w4]) (h : phI w1 = none) : ok l = false := by
  rw [← Bool.not_eq_true, ok_iff]
  rintro ⟨a, hr, rfl⟩
  obtain ⟨v0, v1, v2, v3, v4, e', _, h1, _⟩ := read_line hr
  rw [e] at e'
  injection e' with e1 e2
  injection e2 with e2
  subst e2
  rw [h] at h1
  cases h1
theorem the_alarm {l w0 w1 w2 w3 w4 : List UInt8} {p : Int} (e : words l = [w0, w1, w2, w3, w4]) (h : phI w1 = some p) {a : Alm} (hr : Am.right a = true) (hl : lineL a = l) : (⟨Sp.parB w0, Sp.parC w0, p, Sp.loose w2, Sp.loose w3, Sp.loose w4⟩ : Alm) = a := by
  subst hl
  obtain ⟨v0, v1, v2, v3, v4, e', _, h1, h2⟩ := read_line hr
  rw [e] at e'
  injection e' with e1 e'
  injection e' with e2 e'
  injection e' with e3 e'
  injection e' with e4 e'
  injection e' with e5 e'
  subst e1 e2 e3 e4 e5
  rw [h] at h1
  injection h1 with h1
  rw [h1]
  exact h2
theorem no_right {l w0 w1 w2 w3 w4 : List UInt8} {p : Int} (e : words l = [w0, w1, w2, w3, w4]) (h : phI w1 = some p) (hr : Am.right ⟨Sp.parB w0, Sp.parC w0, p, Sp.loose w2, Sp.loose w3, Sp.loose w4⟩ = false) : ok l = false := by
  rw [← Bool.not_eq_true, ok_iff]
  rintro ⟨a, ha, hl⟩
  rw [the_alarm e h ha hl, ha] at hr
  cases hr
theorem no_line {l w0 w1 w2 w3 w4 : List UInt8} {p : Int} (e : words l = [w0, w1, w2, w3, w4]) (h : phI w1 = some p) (hl : ¬ lineL ⟨Sp.parB w0, Sp.parC w0, p, Sp.loose w2, Sp.loose w3, Sp.loose w4⟩ = l) : ok l = false := by
  rw [← Bool.not_eq_true, ok_iff]
  rintro ⟨a, ha, hl2⟩
  rw [the_alarm e h ha hl2] at hl
  exact hl hl2
/-- A word is no longer than its text. -/
theorem words_le : ∀ (l x : List UInt8), x ∈ words l → x.length ≤ l.length
  | [], x, h => by
    obtain rfl : x = [] := by simpa [words] using h
    exact Nat.le_refl _
  | c :: l, x, h => by
    unfold words at h
    split at h
    · rcases List.mem_cons.1 h with rfl | h
      · exact Nat.zero_le _
      · exact Nat.le_succ_of_le (words_le l x h)
    · have hne := words_ne l
      split at h
      · rename_i e; exact absurd e hne
      · rename_i w ws e
        rcases List.mem_cons.1 h with rfl | h
        · have := words_le l w (by rw [e]; simp)
          simp only [List.length_cons]; omega
        · exact Nat.le_succ_of_le (words_le l x (by rw [e]; exact List.mem_cons_of_mem _ h))
end Sh
end Go.Proofs.YtpgichlaghhdeaaGreatDoor
