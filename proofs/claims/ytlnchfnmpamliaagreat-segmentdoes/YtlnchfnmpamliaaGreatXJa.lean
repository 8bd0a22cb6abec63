/-
  Plain mathematics of layer 1 (wire): a number's digits, its bytes, and how bytes are read. No program, no memory.
  Plain mathematics of layer 1 (wire): how bytes are read as numbers and texts. No program, no memory.
  Plain mathematics of layer 2 (sum): a shift, a step, a sum, where a sum is found. No program, no memory.
  Plain mathematics of layer 3 (frame): a frame's bytes, how bytes begin with one, rows of texts. No program, no memory.
  Plain mathematics of layer 3 (frame): frames one behind the other, and what is cut within one. No program, no memory.
  Layer 13 (record): numbered texts: the mathematics.
  Small words for memory and texts, of no program: a text's bytes, slices of numbers and of texts that are read, what lies below.
  Layer 12 (file): the mathematics of a file.
  Layer 13 (record): records in a file: the mathematics.
  Layer 14 (segment): a log in several files: the mathematics.
  Layer 14 (segment): texts that are added: the mathematics.
  Layer 14 (segment): what a crash leaves; what a Drop leaves: the mathematics.
  What is known of the memory along a walk, in one word: blocks of one's own and what they hold, facts that last while nothing that is there is turned, and what was there at the start.
  Rows of files in memory.
  Small words for memory, of no program: a slice of texts that came in.
-/
import Derived.WalkKit
import Derived.WalkSpells
import Derived.WalkLawsBesides
import Derived.RangeFuncBox
import Derived.OpenShut
import Derived.Lib.Hide
import Derived.Deep.Draws
import Derived.Laws.Rows
import Derived.Laws.Tables
import Derived.Deep.WholeRow
import Derived.Laws.IdiomCopy
import Derived.Test.YtlnchfnmpamliaaGreatChecked
import Derived.Laws.AppendOwnNone
import Derived.Lib.OwnBridge
import Derived.Deep.Strs
namespace Go.Proofs.YtlnchfnmpamliaaGreat
set_option maxRecDepth 10000
namespace Wm

def maxN : Nat := 2147483647

/-- The digits of n, the lowest first. -/
def digs (n : Nat) : List UInt8 :=
  if _h : n = 0 then [] else UInt8.ofNat (n % 250) :: digs (n / 250)
termination_by n
decreasing_by omega

theorem digs_zero : digs 0 = [] := by unfold digs; simp
theorem digs_pos {n : Nat} (h : 0 < n) : digs n = UInt8.ofNat (n % 250) :: digs (n / 250) := by
  rw [digs]; simp [Nat.ne_of_gt h]

/-- A number's end byte. -/
def endB (n : Int) : UInt8 := if n < 0 then 254 else 255

def lay (n : Int) : List UInt8 := digs n.natAbs ++ [endB n]

def lays (l : List Int) : List UInt8 := l.flatMap lay

/-- Is a number one that has bytes? -/
def fits (n : Int) : Bool := decide (-2147483647 ≤ n) && decide (n ≤ 2147483647)

theorem fits_iff {n : Int} : fits n = true ↔ -2147483647 ≤ n ∧ n ≤ 2147483647 := by simp [fits]

/-- The number that digits make. -/
def val : List UInt8 → Nat
  | [] => 0
  | d :: ds => d.toNat + 250 * val ds

theorem val_digs (n : Nat) : val (digs n) = n := by
  induction n using Nat.strongRecOn with
  | _ n ih =>
    by_cases h : n = 0
    · subst h; rw [digs_zero]; rfl
    · rw [digs_pos (by omega)]
      have h1 : (UInt8.ofNat (n % 250)).toNat = n % 250 := by
        rw [UInt8.toNat_ofNat']; omega
      simp only [val, h1, ih (n / 250) (by omega)]
      omega

theorem digs_lt (n : Nat) : ∀ d ∈ digs n, d.toNat < 250 := by
  induction n using Nat.strongRecOn with
  | _ n ih =>
    by_cases h : n = 0
    · subst h; rw [digs_zero]; simp
    · rw [digs_pos (by omega)]
      intro d hd
      rcases List.mem_cons.1 hd with rfl | hd
      · rw [UInt8.toNat_ofNat']; omega
      · exact ih (n / 250) (by omega) d hd

theorem digs_nil {n : Nat} : digs n = [] ↔ n = 0 := by
  constructor
  · intro h
    by_cases h0 : n = 0
    · exact h0
    · rw [digs_pos (by omega)] at h; cases h
  · rintro rfl; exact digs_zero

theorem digs_last (n : Nat) : (digs n).getLast? ≠ some 0 := by
  induction n using Nat.strongRecOn with
  | _ n ih =>
    by_cases h : n = 0
    · subst h; rw [digs_zero]; simp
    · rw [digs_pos (by omega)]
      by_cases h2 : n / 250 = 0
      · rw [h2, digs_zero]
        simp only [List.getLast?_singleton, ne_eq, Option.some.injEq]
        intro hc
        have := congrArg UInt8.toNat hc
        rw [UInt8.toNat_ofNat'] at this
        simp at this
        omega
      · have := ih (n / 250) (by omega)
        rw [List.getLast?_cons]
        have hne : digs (n / 250) ≠ [] := fun hh => h2 (digs_nil.1 hh)
        rw [List.getLast?_eq_some_getLast hne] at this ⊢
        simpa using this

/-- Digits that are a number's: each below 250, the last not 0. -/
def proper (ds : List UInt8) : Prop := (∀ d ∈ ds, d.toNat < 250) ∧ ds.getLast? ≠ some 0

theorem proper_digs (n : Nat) : proper (digs n) := ⟨digs_lt n, digs_last n⟩

theorem val_pos {ds : List UInt8} (h : proper ds) (hne : ds ≠ []) : 0 < val ds := by
  induction ds with
  | nil => exact absurd rfl hne
  | cons d ds ih =>
    by_cases h2 : ds = []
    · subst h2
      have := h.2
      simp at this
      have : d.toNat ≠ 0 := fun hc => this (UInt8.toNat_inj.1 (by simpa using hc))
      simp [val]; omega
    · have hp : proper ds := ⟨fun x hx => h.1 x (List.mem_cons_of_mem _ hx), by
        have := h.2
        rw [List.getLast?_cons, List.getLast?_eq_some_getLast h2] at this
        rw [List.getLast?_eq_some_getLast h2]; simpa using this⟩
      have := ih hp h2
      simp [val]; omega

theorem digs_val {ds : List UInt8} (h : proper ds) : digs (val ds) = ds := by
  induction ds with
  | nil => exact digs_zero
  | cons d ds ih =>
    have hd : d.toNat < 250 := h.1 d (List.mem_cons_self ..)
    have hpos := val_pos h (by simp)
    rw [digs_pos hpos]
    have hp : proper ds := by
      by_cases h2 : ds = []
      · subst h2; exact ⟨by simp, by simp⟩
      · exact ⟨fun x hx => h.1 x (List.mem_cons_of_mem _ hx), by
          have := h.2
          rw [List.getLast?_cons, List.getLast?_eq_some_getLast h2] at this
          rw [List.getLast?_eq_some_getLast h2]; simpa using this⟩
    have e1 : val (d :: ds) % 250 = d.toNat := by simp only [val]; omega
    have e2 : val (d :: ds) / 250 = val ds := by simp only [val]; omega
    rw [e1, e2, ih hp]
    simp

end Wm
end Go.Proofs.YtlnchfnmpamliaaGreat

namespace Go.Proofs.YtlnchfnmpamliaaGreat
set_option maxRecDepth 10000
namespace Wm

/-- Is a byte an end byte? -/
def isEnd (c : UInt8) : Bool := decide (254 ≤ c.toNat)
/-- Where the first end byte stands. -/
def endAt (l : List UInt8) : Nat := l.findIdx isEnd

theorem endAt_le (l : List UInt8) : endAt l ≤ l.length := List.findIdx_le_length

theorem endAt_before {l : List UInt8} {j : Nat} (h : j < endAt l) (hj : j < l.length) : isEnd l[j] = false := by
  have := List.not_of_lt_findIdx h
  simpa using this

theorem endAt_at {l : List UInt8} (h : endAt l < l.length) : isEnd l[endAt l] = true := List.findIdx_getElem (w := h)

theorem endAt_eq {l : List UInt8} {k : Nat} (hk : k < l.length) (h1 : isEnd l[k] = true) (h2 : ∀ j (hj : j < k), isEnd (l[j]'(by omega)) = false) : endAt l = k := by
  unfold endAt
  rw [List.findIdx_eq hk]
  exact ⟨h1, fun j hj => by simpa using h2 j hj⟩

theorem endAt_none {l : List UInt8} (h : ∀ j (hj : j < l.length), isEnd l[j] = false) : endAt l = l.length := by
  unfold endAt
  rw [List.findIdx_eq_length]
  intro x hx
  obtain ⟨j, hj, rfl⟩ := List.getElem_of_mem hx
  simpa using h j hj

/-- Digits of a number within the bounds. -/
def sizeOk (l : List UInt8) : Bool := l.all (fun d => decide (d.toNat < 250)) && (l.getLast? != some 0) && decide (val l ≤ 2147483647)

theorem sizeOk_iff {l : List UInt8} : sizeOk l = true ↔ proper l ∧ val l ≤ 2147483647 := by
  simp [sizeOk, proper]

/-- May the digits ds with the end byte c be a number's? -/
def good (ds : List UInt8) (c : UInt8) : Bool := sizeOk ds && !(decide (c = 254) && decide (val ds = 0))
def sgn (ds : List UInt8) (c : UInt8) : Int := if c = 254 then -(val ds : Int) else (val ds : Int)

/-- The number that l begins with, what stands behind it, and the error. -/
def getInt (l : List UInt8) : Int × List UInt8 × Int :=
  if h : endAt l < l.length then
    if good (l.take (endAt l)) l[endAt l] = true then (sgn (l.take (endAt l)) l[endAt l], l.drop (endAt l + 1), 0) else (0, [], 20)
  else (0, [], 22)

theorem digs_notEnd {n : Nat} {c : UInt8} (h : c ∈ digs n) : isEnd c = false := by
  have := digs_lt n c h
  simp [isEnd]; omega

theorem endB_isEnd (n : Int) : isEnd (endB n) = true := by
  unfold endB isEnd; split <;> decide

theorem endAt_lay (n : Int) (r : List UInt8) : endAt (lay n ++ r) = (digs n.natAbs).length := by
  unfold endAt lay
  rw [List.append_assoc, List.findIdx_append]
  have h1 : (digs n.natAbs).findIdx isEnd = (digs n.natAbs).length := List.findIdx_eq_length.2 fun x hx => digs_notEnd hx
  rw [h1]
  simp [List.findIdx_cons, endB_isEnd]

theorem getInt_lay {n : Int} (h : fits n = true) (r : List UInt8) : getInt (lay n ++ r) = (n, r, 0) := by
  have hf := fits_iff.1 h
  have he := endAt_lay n r
  have hlt : endAt (lay n ++ r) < (lay n ++ r).length := by rw [he]; simp [lay]
  have htake : (lay n ++ r).take (endAt (lay n ++ r)) = digs n.natAbs := by rw [he]; simp [lay]
  have hdrop : (lay n ++ r).drop (endAt (lay n ++ r) + 1) = r := by
    rw [he]
    have : (lay n).length = (digs n.natAbs).length + 1 := by simp [lay]
    rw [← this]; simp
  have hget : (lay n ++ r)[endAt (lay n ++ r)] = endB n := by
    have h2 : (lay n ++ r)[endAt (lay n ++ r)]? = some (endB n) := by
      rw [he, lay, List.append_assoc, List.getElem?_append_right (Nat.le_refl _)]; simp
    rw [List.getElem?_eq_getElem hlt] at h2
    exact Option.some.inj h2
  unfold getInt
  rw [dif_pos hlt, htake, hdrop, hget]
  have hv := val_digs n.natAbs
  have hg : good (digs n.natAbs) (endB n) = true := by
    unfold good
    rw [sizeOk_iff.2 ⟨proper_digs _, by omega⟩, hv]
    simp only [endB]
    split <;> simp <;> omega
  rw [if_pos hg]
  unfold sgn
  rw [hv]
  simp only [endB]
  split
  · rename_i hc; simp; omega
  · rename_i hc; simp; omega

theorem isEnd_cases {c : UInt8} (h : isEnd c = true) : c = 254 ∨ c = 255 := by
  have h1 : 254 ≤ c.toNat := by simpa [isEnd] using h
  have h2 := c.toNat_lt
  have h3 : c.toNat = 254 ∨ c.toNat = 255 := by omega
  rcases h3 with h3 | h3
  · exact .inl (UInt8.toNat_inj.1 (by simpa using h3))
  · exact .inr (UInt8.toNat_inj.1 (by simpa using h3))

/-- What is read is laid as it was. -/
theorem getInt_ok {l : List UInt8} {n : Int} {r : List UInt8} (h : getInt l = (n, r, 0)) : fits n = true ∧ l = lay n ++ r := by
  unfold getInt at h
  split at h
  · rename_i hlt
    split at h
    · rename_i hg
      simp only [Prod.mk.injEq, and_true] at h
      obtain ⟨rfl, rfl⟩ := h
      have hg' := hg
      unfold good at hg'
      simp only [Bool.and_eq_true] at hg'
      obtain ⟨hs, hz⟩ := hg'
      obtain ⟨hp, hv⟩ := sizeOk_iff.1 hs
      have hd := digs_val hp
      have hsplit : l = l.take (endAt l) ++ ([l[endAt l]] ++ l.drop (endAt l + 1)) := by
        conv => lhs; rw [← List.take_append_drop (endAt l) l, List.drop_eq_getElem_cons hlt]
        rfl
      rcases isEnd_cases (endAt_at hlt) with hc | hc
      · have hpos : val (l.take (endAt l)) ≠ 0 := by
          intro h0; rw [hc, h0] at hz; simp at hz
        refine ⟨fits_iff.2 (by simp only [sgn, hc, if_true]; omega), ?_⟩
        have e1 : lay (sgn (l.take (endAt l)) l[endAt l]) = l.take (endAt l) ++ [l[endAt l]] := by
          simp only [sgn, hc, if_true, lay, Int.natAbs_neg, Int.natAbs_natCast, hd]
          congr 2
          simp only [endB]; rw [if_pos (by omega)]
        rw [e1, List.append_assoc]; exact hsplit
      · have hne : ¬ ((255 : UInt8) = 254) := by decide
        refine ⟨fits_iff.2 (by simp only [sgn, hc, if_neg hne]; omega), ?_⟩
        have e1 : lay (sgn (l.take (endAt l)) l[endAt l]) = l.take (endAt l) ++ [l[endAt l]] := by
          simp only [sgn, hc, if_neg hne, lay, Int.natAbs_natCast, hd]
          congr 2
        rw [e1, List.append_assoc]; exact hsplit
    · simp at h
  · simp at h

theorem getInt_err (l : List UInt8) : (∃ n r, getInt l = (n, r, 0)) ∨ getInt l = (0, [], 20) ∨ getInt l = (0, [], 22) := by
  unfold getInt
  split
  · split
    · exact .inl ⟨_, _, rfl⟩
    · exact .inr (.inl rfl)
  · exact .inr (.inr rfl)

/-- Some numbers, one behind the other. -/
def getInts : Nat → List UInt8 → List Int × List UInt8 × Int
  | 0, l => ([], l, 0)
  | m + 1, l =>
    if (getInt l).2.2 = 0 then
      if (getInts m (getInt l).2.1).2.2 = 0 then ((getInt l).1 :: (getInts m (getInt l).2.1).1, (getInts m (getInt l).2.1).2.1, 0) else ([], [], (getInts m (getInt l).2.1).2.2)
    else ([], [], (getInt l).2.2)

/-- What is read, behind numbers that were read ahead. -/
def glue (ns : List Int) (t : List Int × List UInt8 × Int) : List Int × List UInt8 × Int := if t.2.2 = 0 then (ns ++ t.1, t.2.1, 0) else ([], [], t.2.2)

theorem getInts_err (m : Nat) (l : List UInt8) : (∃ ns r, getInts m l = (ns, r, 0)) ∨ ∃ e, e ≠ 0 ∧ getInts m l = ([], [], e) := by
  induction m generalizing l with
  | zero => exact .inl ⟨[], l, rfl⟩
  | succ m ih =>
    unfold getInts
    by_cases h1 : (getInt l).2.2 = 0
    · rw [if_pos h1]
      by_cases h2 : (getInts m (getInt l).2.1).2.2 = 0
      · rw [if_pos h2]; exact .inl ⟨_, _, rfl⟩
      · rw [if_neg h2]; exact .inr ⟨_, h2, rfl⟩
    · rw [if_neg h1]; exact .inr ⟨_, h1, rfl⟩

theorem glue_nil (m : Nat) (l : List UInt8) : glue [] (getInts m l) = getInts m l := by
  rcases getInts_err m l with ⟨ns, r, h⟩ | ⟨e, he, h⟩
  · rw [h]; simp [glue]
  · rw [h]; simp [glue, he]

theorem glue_step {ns : List Int} {m : Nat} {l r : List UInt8} {n : Int} (h : getInt l = (n, r, 0)) : glue ns (getInts (m + 1) l) = glue (ns ++ [n]) (getInts m r) := by
  rw [getInts, h]
  simp only [if_true]
  rcases getInts_err m r with ⟨ns', r', h'⟩ | ⟨e, he, h'⟩
  · rw [h']; simp [glue]
  · rw [h']; simp [glue, he]

theorem glue_bad {ns : List Int} {m : Nat} {l : List UInt8} (h : (getInt l).2.2 ≠ 0) : glue ns (getInts (m + 1) l) = ([], [], (getInt l).2.2) := by
  rw [getInts, if_neg h]
  simp [glue, h]

theorem lays_cons (x : Int) (l : List Int) : lays (x :: l) = lay x ++ lays l := by simp [lays]

theorem getInts_lays (zs : List Int) (h : zs.all fits = true) (r : List UInt8) : getInts zs.length (lays zs ++ r) = (zs, r, 0) := by
  induction zs with
  | nil => simp [getInts, lays]
  | cons z zs ih =>
    simp only [List.all_cons, Bool.and_eq_true] at h
    have hg := getInt_lay h.1 (lays zs ++ r)
    rw [List.length_cons, lays_cons, List.append_assoc, getInts, hg]
    simp [ih h.2]

theorem getInts_ok {m : Nat} {l r : List UInt8} {ns : List Int} (h : getInts m l = (ns, r, 0)) : ns.length = m ∧ ns.all fits = true ∧ l = lays ns ++ r := by
  induction m generalizing l ns with
  | zero =>
    simp only [getInts, Prod.mk.injEq, and_true] at h
    obtain ⟨rfl, rfl⟩ := h
    simp [lays]
  | succ m ih =>
    rcases getInt_err l with ⟨n, r1, h1⟩ | h1 | h1
    · rw [getInts, h1] at h
      simp only [if_true] at h
      rcases getInts_err m r1 with ⟨ns', r', h'⟩ | ⟨e, he, h'⟩
      · rw [h'] at h
        simp only [if_true, Prod.mk.injEq, and_true] at h
        obtain ⟨rfl, rfl⟩ := h
        obtain ⟨a, b, c⟩ := ih h'
        obtain ⟨d, f⟩ := getInt_ok h1
        refine ⟨by simp [a], by simp only [List.all_cons, d, b, Bool.and_self], ?_⟩
        rw [f, c, lays_cons, List.append_assoc]
      · rw [h'] at h
        simp [he] at h
    · rw [getInts, h1] at h; simp at h
    · rw [getInts, h1] at h; simp at h

/-- The text that l begins with, what stands behind it, and the error. -/
def getText (l : List UInt8) : List UInt8 × List UInt8 × Int :=
  if (getInt l).2.2 = 0 then
    if (getInt l).1 < 0 ∨ 3000 < (getInt l).1 then ([], [], 20)
    else if ((getInt l).2.1.length : Int) < (getInt l).1 then ([], [], 22)
    else ((getInt l).2.1.take (getInt l).1.toNat, (getInt l).2.1.drop (getInt l).1.toNat, 0)
  else ([], [], (getInt l).2.2)

theorem getText_lay (t r : List UInt8) (h : t.length ≤ 3000) : getText (lay t.length ++ t ++ r) = (t, r, 0) := by
  have hg := getInt_lay (n := (t.length : Int)) (fits_iff.2 (by omega)) (t ++ r)
  unfold getText
  rw [List.append_assoc, hg]
  simp only [if_true]
  rw [if_neg (by omega), if_neg (by simp; omega)]
  simp

theorem getText_ok {l t r : List UInt8} (h : getText l = (t, r, 0)) : t.length ≤ 3000 ∧ l = lay t.length ++ t ++ r := by
  rcases getInt_err l with ⟨n, r1, h1⟩ | h1 | h1
  · unfold getText at h
    rw [h1] at h
    simp only [if_true] at h
    split at h
    · simp at h
    · rename_i hn
      split at h
      · simp at h
      · rename_i hl
        simp only [Prod.mk.injEq, and_true] at h
        obtain ⟨rfl, rfl⟩ := h
        obtain ⟨d, f⟩ := getInt_ok h1
        have hlen : (r1.take n.toNat).length = n.toNat := by rw [List.length_take]; omega
        refine ⟨by rw [hlen]; omega, ?_⟩
        rw [hlen, f, List.append_assoc, List.take_append_drop]
        congr 2
        omega
  · unfold getText at h; rw [h1] at h; simp at h
  · unfold getText at h; rw [h1] at h; simp at h

theorem getText_err (l : List UInt8) : (∃ t r, getText l = (t, r, 0)) ∨ ∃ e, e ≠ 0 ∧ getText l = ([], [], e) := by
  unfold getText
  split
  · split
    · exact .inr ⟨20, by decide, rfl⟩
    · split
      · exact .inr ⟨22, by decide, rfl⟩
      · exact .inl ⟨_, _, rfl⟩
  · rename_i h; exact .inr ⟨_, h, rfl⟩

end Wm
end Go.Proofs.YtlnchfnmpamliaaGreat

namespace Go.Proofs.YtlnchfnmpamliaaGreat
set_option maxRecDepth 10000
namespace Sm

/-- One shift. -/
def sh (c : Nat) : Nat := if 32768 ≤ c then (2 * c % 65536) ^^^ 4129 else 2 * c % 65536
/-- k shifts. -/
def it : Nat → Nat → Nat
  | 0, c => c
  | k + 1, c => sh (it k c)
/-- A step by one byte. -/
def st (c b : Nat) : Nat := it 8 (c ^^^ 256 * b)
/-- A sum that goes on by bytes. -/
def go (c : Nat) (l : List UInt8) : Nat := l.foldl (fun c b => st c b.toNat) c
/-- The sum of bytes. -/
def ofL (l : List UInt8) : Nat := go 65535 l

theorem xor_lt {a b : Nat} (ha : a < 65536) (hb : b < 65536) : a ^^^ b < 65536 := Nat.xor_lt_two_pow (n := 16) ha hb

theorem sh_lt (c : Nat) : sh c < 65536 := by
  unfold sh
  split
  · exact xor_lt (by omega) (by decide)
  · omega

theorem it_lt {k c : Nat} (h : c < 65536) : it k c < 65536 := by
  cases k with
  | zero => exact h
  | succ k => exact sh_lt _

theorem st_lt {c b : Nat} (h : c < 65536) (hb : b < 256) : st c b < 65536 := it_lt (xor_lt h (by omega))

theorem go_nil (c : Nat) : go c [] = c := rfl
theorem go_cons (c : Nat) (b : UInt8) (l : List UInt8) : go c (b :: l) = go (st c b.toNat) l := by unfold go; rw [List.foldl_cons]

theorem go_lt {c : Nat} (h : c < 65536) (l : List UInt8) : go c l < 65536 := by
  induction l generalizing c with
  | nil => exact h
  | cons b l ih => rw [go_cons]; exact ih (st_lt h b.toNat_lt)

theorem ofL_lt (l : List UInt8) : ofL l < 65536 := by unfold ofL; exact go_lt (by omega) l

theorem go_append (c : Nat) (l m : List UInt8) : go c (l ++ m) = go (go c l) m := by
  unfold go; rw [List.foldl_append]
theorem go_one (c : Nat) (b : UInt8) : go c [b] = st c b.toNat := by rw [go_cons, go_nil]
theorem ofL_snoc (l : List UInt8) (b : UInt8) : ofL (l ++ [b]) = st (ofL l) b.toNat := by
  unfold ofL; rw [go_append, go_one]

theorem hi_iff {c : Nat} (h : c < 65536) : (32768 ≤ c) ↔ c.testBit 15 = true := by
  rw [Nat.testBit_eq_decide_div_mod_eq, decide_eq_true_iff]; omega

theorem dbl_xor (a b : Nat) : 2 * (a ^^^ b) % 65536 = (2 * a % 65536) ^^^ (2 * b % 65536) := by
  have e : ∀ x : Nat, 2 * x = x <<< 1 := fun x => by rw [Nat.shiftLeft_eq]; omega
  rw [e, e, e, Nat.shiftLeft_xor_distrib]
  exact Nat.xor_mod_two_pow (n := 16)

theorem sh_xor {a b : Nat} (ha : a < 65536) (hb : b < 65536) : sh (a ^^^ b) = sh a ^^^ sh b := by
  have h := hi_iff (xor_lt ha hb)
  rw [Nat.testBit_xor] at h
  unfold sh
  by_cases h1 : 32768 ≤ a <;> by_cases h2 : 32768 ≤ b
  · have h3 : ¬ 32768 ≤ a ^^^ b := by rw [h, (hi_iff ha).1 h1, (hi_iff hb).1 h2]; simp
    rw [if_pos h1, if_pos h2, if_neg h3, dbl_xor, Nat.xor_assoc, Nat.xor_comm 4129, Nat.xor_assoc, Nat.xor_self, Nat.xor_zero]
  · have e2 : b.testBit 15 = false := by rw [← Bool.not_eq_true, ← hi_iff hb]; exact h2
    have h3 : 32768 ≤ a ^^^ b := by rw [h, (hi_iff ha).1 h1, e2]; rfl
    rw [if_pos h1, if_neg h2, if_pos h3, dbl_xor, Nat.xor_assoc, Nat.xor_assoc, Nat.xor_comm 4129]
  · have e1 : a.testBit 15 = false := by rw [← Bool.not_eq_true, ← hi_iff ha]; exact h1
    have h3 : 32768 ≤ a ^^^ b := by rw [h, (hi_iff hb).1 h2, e1]; rfl
    rw [if_neg h1, if_pos h2, if_pos h3, dbl_xor, Nat.xor_assoc]
  · have e1 : a.testBit 15 = false := by rw [← Bool.not_eq_true, ← hi_iff ha]; exact h1
    have e2 : b.testBit 15 = false := by rw [← Bool.not_eq_true, ← hi_iff hb]; exact h2
    have h3 : ¬ 32768 ≤ a ^^^ b := by rw [h, e1, e2]; simp
    rw [if_neg h1, if_neg h2, if_neg h3, dbl_xor]

theorem xor_zero_iff {a b : Nat} : a ^^^ b = 0 ↔ a = b := by
  constructor
  · intro h
    have := congrArg (· ^^^ b) h
    simpa [Nat.xor_assoc] using this
  · rintro rfl; exact Nat.xor_self _

theorem sh_zero {c : Nat} (h : c < 65536) (hs : sh c = 0) : c = 0 := by
  unfold sh at hs
  split at hs
  · have := xor_zero_iff.1 hs; omega
  · omega

theorem sh_inj {a b : Nat} (ha : a < 65536) (hb : b < 65536) (h : sh a = sh b) : a = b := by
  have := sh_xor ha hb
  rw [h, Nat.xor_self] at this
  exact xor_zero_iff.1 (sh_zero (xor_lt ha hb) this)

theorem it_inj {k a b : Nat} (ha : a < 65536) (hb : b < 65536) (h : it k a = it k b) : a = b := by
  induction k with
  | zero => exact h
  | succ k ih => exact ih (sh_inj (it_lt ha) (it_lt hb) h)

theorem it_xor {k a b : Nat} (ha : a < 65536) (hb : b < 65536) : it k (a ^^^ b) = it k a ^^^ it k b := by
  induction k with
  | zero => rfl
  | succ k ih => show sh (it k (a ^^^ b)) = _; rw [ih, sh_xor (it_lt ha) (it_lt hb)]; rfl

theorem xor_left {a b c : Nat} (h : a ^^^ b = a ^^^ c) : b = c := by
  have := congrArg (a ^^^ ·) h
  simpa [← Nat.xor_assoc] using this
theorem xor_right {a b c : Nat} (h : b ^^^ a = c ^^^ a) : b = c := xor_left (a := a) (by rw [Nat.xor_comm, h, Nat.xor_comm])

theorem st_inj {c d b : Nat} (hc : c < 65536) (hd : d < 65536) (hb : b < 256) (h : st c b = st d b) : c = d :=
  xor_right (it_inj (xor_lt hc (by omega)) (xor_lt hd (by omega)) h)
theorem st_byte {c a b : Nat} (hc : c < 65536) (ha : a < 256) (hb : b < 256) (h : st c a = st c b) : a = b := by
  have := xor_left (it_inj (xor_lt hc (by omega)) (xor_lt hc (by omega)) h)
  omega

theorem go_inj {c d : Nat} (hc : c < 65536) (hd : d < 65536) (l : List UInt8) (h : go c l = go d l) : c = d := by
  induction l generalizing c d with
  | nil => exact h
  | cons b l ih => rw [go_cons, go_cons] at h; exact st_inj hc hd b.toNat_lt (ih (st_lt hc b.toNat_lt) (st_lt hd b.toNat_lt) h)

theorem mul_xor (a b : Nat) : 256 * (a ^^^ b) = 256 * a ^^^ 256 * b := by
  have e : ∀ x : Nat, 256 * x = x <<< 8 := fun x => by rw [Nat.shiftLeft_eq]; omega
  rw [e, e, e, Nat.shiftLeft_xor_distrib]

theorem no_fix : ∀ x : Nat, x < 256 → it 8 (256 * x) = 256 * x → x = 0 := by decide +kernel

theorem xor4 {p q r s : Nat} (h : p ^^^ q = r ^^^ s) : p ^^^ r = s ^^^ q := by
  have h2 := congrArg (fun z => r ^^^ z ^^^ q) h
  simp only [Nat.xor_assoc] at h2
  rw [Nat.xor_self, Nat.xor_zero, ← Nat.xor_assoc r r, Nat.xor_self, Nat.zero_xor, Nat.xor_comm] at h2
  exact h2

theorem swap {c a b : Nat} (hc : c < 65536) (ha : a < 256) (hb : b < 256) (h : st (st c a) b = st (st c b) a) : a = b := by
  have hA : 256 * a < 65536 := by omega
  have hB : 256 * b < 65536 := by omega
  have h1 := it_inj (xor_lt (st_lt hc ha) hB) (xor_lt (st_lt hc hb) hA) h
  unfold st at h1
  rw [it_xor hc hA, it_xor hc hB, Nat.xor_assoc, Nat.xor_assoc] at h1
  have h2 := xor_left h1
  have h3 := xor4 h2
  rw [← it_xor hA hB, ← mul_xor] at h3
  exact xor_zero_iff.1 (no_fix _ (Nat.xor_lt_two_pow (n := 8) ha hb) h3)

/-- One byte that is another one. -/
theorem sees (p q : List UInt8) (x y : UInt8) : ofL (p ++ x :: q) = ofL (p ++ y :: q) ↔ x = y := by
  constructor
  · intro h
    unfold ofL at h
    rw [go_append, go_append, go_cons, go_cons] at h
    have hp : go 65535 p < 65536 := ofL_lt p
    generalize go 65535 p = c at *
    have h1 := go_inj (st_lt hp x.toNat_lt) (st_lt hp y.toNat_lt) q h
    exact UInt8.toNat_inj.1 (st_byte hp x.toNat_lt y.toNat_lt h1)
  · rintro rfl; rfl

/-- Two side by side that change places. -/
theorem sees2 (p q : List UInt8) (x y : UInt8) : ofL (p ++ y :: x :: q) = ofL (p ++ x :: y :: q) ↔ x = y := by
  constructor
  · intro h
    unfold ofL at h
    rw [go_append, go_append, go_cons, go_cons, go_cons, go_cons] at h
    have hp : go 65535 p < 65536 := ofL_lt p
    generalize go 65535 p = c at *
    have h1 := go_inj (st_lt (st_lt hp y.toNat_lt) x.toNat_lt) (st_lt (st_lt hp x.toNat_lt) y.toNat_lt) q h
    exact UInt8.toNat_inj.1 (swap hp y.toNat_lt x.toNat_lt h1).symm
  · rintro rfl; rfl

theorem ofL_more (l m r : List UInt8) : ofL (l ++ r) = ofL (m ++ r) ↔ ofL l = ofL m := by
  constructor
  · intro h
    unfold ofL at h
    rw [go_append, go_append] at h
    have hl : go 65535 l < 65536 := ofL_lt l
    have hm : go 65535 m < 65536 := ofL_lt m
    unfold ofL
    generalize go 65535 l = c at *
    generalize go 65535 m = d at *
    exact go_inj hl hm r h
  · intro h; unfold ofL at h ⊢; rw [go_append, go_append, h]

/-- Is c the sum of the first k bytes, and k at most most? -/
def isAt (l : List UInt8) (c most : Int) (k : Nat) : Bool := decide ((k : Int) ≤ most) && decide ((ofL (l.take k) : Int) = c)
def fnd (l : List UInt8) (c most : Int) : Option Nat := (List.range (l.length + 1)).find? (isAt l c most)
def fndK (l : List UInt8) (c most : Int) : Nat := (fnd l c most).getD 0
def fndB (l : List UInt8) (c most : Int) : Bool := (fnd l c most).isSome

theorem find_range {n k : Nat} {p : Nat → Bool} (hk : k < n) (h : p k = true) (hn : ∀ j, j < k → p j = false) : (List.range n).find? p = some k := by
  rw [List.find?_range_eq_some]
  exact ⟨h, by simpa using hk, fun j hj => by simp [hn j hj]⟩

theorem fnd_at {l : List UInt8} {c most : Int} {k : Nat} (hk : k ≤ l.length) (h : isAt l c most k = true) (hn : ∀ j, j < k → isAt l c most j = false) : fndK l c most = k ∧ fndB l c most = true := by
  have : fnd l c most = some k := find_range (by omega) h hn
  unfold fndK fndB
  rw [this]; exact ⟨rfl, rfl⟩

theorem fnd_none {l : List UInt8} {c most : Int} (hn : ∀ j, j ≤ l.length → isAt l c most j = false) : fndK l c most = 0 ∧ fndB l c most = false := by
  have : fnd l c most = none := by
    unfold fnd
    rw [List.find?_eq_none]
    intro j hj
    rw [List.mem_range] at hj
    simp [hn j (by omega)]
  unfold fndK fndB
  rw [this]; exact ⟨rfl, rfl⟩

theorem fnd_cases (l : List UInt8) (c most : Int) : (fndK l c most ≤ l.length ∧ fndB l c most = true ∧ isAt l c most (fndK l c most) = true ∧ ∀ j, j < fndK l c most → isAt l c most j = false) ∨
    (fndK l c most = 0 ∧ fndB l c most = false ∧ ∀ j, j ≤ l.length → isAt l c most j = false) := by
  unfold fndK fndB
  cases h : fnd l c most with
  | none =>
    right
    refine ⟨rfl, rfl, fun j hj => ?_⟩
    unfold fnd at h
    rw [List.find?_eq_none] at h
    simpa using h j (by rw [List.mem_range]; omega)
  | some k =>
    left
    unfold fnd at h
    rw [List.find?_range_eq_some] at h
    obtain ⟨h1, h2, h3⟩ := h
    rw [List.mem_range] at h2
    exact ⟨by simp; omega, rfl, h1, fun j hj => by simpa using h3 j hj⟩

/-- The bits in which two numbers are unlike, the first i of them. -/
theorem unlike_succ (a b i : Nat) : (a ^^^ b) % 2 ^ (i + 1) = (a ^^^ b) % 2 ^ i + (if a / 2 ^ i % 2 = b / 2 ^ i % 2 then 0 else 2 ^ i) := by
  have hb : (a ^^^ b) / 2 ^ i % 2 = ((a ^^^ b).testBit i).toNat := by
    rw [Nat.testBit_eq_decide_div_mod_eq]
    have := Nat.mod_lt ((a ^^^ b) / 2 ^ i) (show 0 < 2 by decide)
    by_cases h : (a ^^^ b) / 2 ^ i % 2 = 1
    · rw [h]; rfl
    · rw [show (a ^^^ b) / 2 ^ i % 2 = 0 by omega]; rfl
  rw [Nat.mod_pow_succ, hb, Nat.testBit_xor, Nat.testBit_eq_decide_div_mod_eq, Nat.testBit_eq_decide_div_mod_eq]
  clear hb
  have h1 : a / 2 ^ i % 2 < 2 := Nat.mod_lt _ (by decide)
  have h2 : b / 2 ^ i % 2 < 2 := Nat.mod_lt _ (by decide)
  generalize a / 2 ^ i % 2 = x at *
  generalize b / 2 ^ i % 2 = y at *
  generalize 2 ^ i = w
  have : (x = 0 ∨ x = 1) ∧ (y = 0 ∨ y = 1) := by omega
  rcases this with ⟨rfl | rfl, rfl | rfl⟩ <;> simp

end Sm
end Go.Proofs.YtlnchfnmpamliaaGreat

namespace Go.Proofs.YtlnchfnmpamliaaGreat
set_option maxRecDepth 10000
namespace Fm

def kindOk (k : Int) : Bool := decide (0 ≤ k) && decide (k ≤ 99)
theorem kindOk_iff {k : Int} : kindOk k = true ↔ 0 ≤ k ∧ k ≤ 99 := by simp [kindOk]
theorem kindOk_not {k : Int} : kindOk k = false ↔ k < 0 ∨ 99 < k := by
  rw [Bool.eq_false_iff, ne_eq, kindOk_iff]; omega

/-- A text's bytes. -/
def textL (t : List UInt8) : List UInt8 := Wm.lay (t.length : Int) ++ t
/-- What stands ahead of the sum. -/
def ahead (k : Int) (t : List UInt8) : List UInt8 := Wm.lay k ++ textL t
def frame (k : Int) (t : List UInt8) : List UInt8 := ahead k t ++ Wm.lay (Sm.ofL (ahead k t) : Int)

def putE (k : Int) (t : List UInt8) : Int := if kindOk k = true then if t.length ≤ 3000 then 0 else 2 else 1
def putS (k : Int) (t : List UInt8) : List UInt8 := if kindOk k = true then if t.length ≤ 3000 then frame k t else [] else []

theorem put_yes {k : Int} {t : List UInt8} (h : kindOk k = true) (h2 : t.length ≤ 3000) : putS k t = frame k t ∧ putE k t = 0 := by
  simp [putS, putE, h, h2]
theorem put_long {k : Int} {t : List UInt8} (h : kindOk k = true) (h2 : ¬ t.length ≤ 3000) : putS k t = [] ∧ putE k t = 2 := by
  simp [putS, putE, h, h2]
theorem put_kind {k : Int} {t : List UInt8} (h : kindOk k = false) : putS k t = [] ∧ putE k t = 1 := by
  simp [putS, putE, h]
theorem putE_zero {k : Int} {t : List UInt8} (h : putE k t = 0) : kindOk k = true ∧ t.length ≤ 3000 := by
  unfold putE at h
  split at h
  · rename_i h1
    split at h
    · rename_i h2; exact ⟨h1, h2⟩
    · cases h
  · cases h

/-- The frame that l begins with: its kind, its text, what stands behind, the error. -/
def get (l : List UInt8) : Int × List UInt8 × List UInt8 × Int :=
  if (Wm.getInt l).2.2 = 0 then
    if (Wm.getText (Wm.getInt l).2.1).2.2 = 0 then
      if (Wm.getInt (Wm.getText (Wm.getInt l).2.1).2.1).2.2 = 0 then
        if kindOk (Wm.getInt l).1 = true ∧ 0 ≤ (Wm.getInt (Wm.getText (Wm.getInt l).2.1).2.1).1 ∧ (Wm.getInt (Wm.getText (Wm.getInt l).2.1).2.1).1 ≤ 65535 then
          if (Wm.getInt (Wm.getText (Wm.getInt l).2.1).2.1).1 = (Sm.ofL (l.take (l.length - (Wm.getText (Wm.getInt l).2.1).2.1.length)) : Int) then
            ((Wm.getInt l).1, (Wm.getText (Wm.getInt l).2.1).1, (Wm.getInt (Wm.getText (Wm.getInt l).2.1).2.1).2.1, 0)
          else (0, [], [], 21)
        else (0, [], [], 20)
      else (0, [], [], (Wm.getInt (Wm.getText (Wm.getInt l).2.1).2.1).2.2)
    else (0, [], [], (Wm.getText (Wm.getInt l).2.1).2.2)
  else (0, [], [], (Wm.getInt l).2.2)

theorem get_e1 {l : List UInt8} {n : Int} {r : List UInt8} {e : Int} (h : Wm.getInt l = (n, r, e)) (he : e ≠ 0) : get l = (0, [], [], e) := by
  unfold get; rw [h]; simp [he]
theorem get_e2 {l a t r : List UInt8} {n e : Int} (h : Wm.getInt l = (n, a, 0)) (h2 : Wm.getText a = (t, r, e)) (he : e ≠ 0) : get l = (0, [], [], e) := by
  unfold get; rw [h]; simp only [if_true]; rw [h2]; simp [he]
theorem get_e3 {l a t b r : List UInt8} {n c e : Int} (h : Wm.getInt l = (n, a, 0)) (h2 : Wm.getText a = (t, b, 0)) (h3 : Wm.getInt b = (c, r, e)) (he : e ≠ 0) : get l = (0, [], [], e) := by
  unfold get; rw [h]; simp only [if_true]; rw [h2]; simp only [if_true]; rw [h3]; simp [he]
theorem get_form {l a t b r : List UInt8} {n c : Int} (h : Wm.getInt l = (n, a, 0)) (h2 : Wm.getText a = (t, b, 0)) (h3 : Wm.getInt b = (c, r, 0)) (hk : ¬ (kindOk n = true ∧ 0 ≤ c ∧ c ≤ 65535)) : get l = (0, [], [], 20) := by
  unfold get; rw [h]; simp only [if_true]; rw [h2]; simp only [if_true]; rw [h3]; simp only [if_true]; rw [if_neg hk]
theorem get_sum {l a t b r : List UInt8} {n c : Int} (h : Wm.getInt l = (n, a, 0)) (h2 : Wm.getText a = (t, b, 0)) (h3 : Wm.getInt b = (c, r, 0)) (hk : kindOk n = true ∧ 0 ≤ c ∧ c ≤ 65535) (hs : ¬ c = (Sm.ofL (l.take (l.length - b.length)) : Int)) : get l = (0, [], [], 21) := by
  unfold get; rw [h]; simp only [if_true]; rw [h2]; simp only [if_true]; rw [h3]; simp only [if_true]; rw [if_pos hk, if_neg hs]
theorem get_yes {l a t b r : List UInt8} {n c : Int} (h : Wm.getInt l = (n, a, 0)) (h2 : Wm.getText a = (t, b, 0)) (h3 : Wm.getInt b = (c, r, 0)) (hk : kindOk n = true ∧ 0 ≤ c ∧ c ≤ 65535) (hs : c = (Sm.ofL (l.take (l.length - b.length)) : Int)) : get l = (n, t, r, 0) := by
  unfold get; rw [h]; simp only [if_true]; rw [h2]; simp only [if_true]; rw [h3]; simp only [if_true]; rw [if_pos hk, if_pos hs]

theorem getInt_cases (l : List UInt8) : (∃ n r, Wm.getInt l = (n, r, 0)) ∨ ∃ e, e ≠ 0 ∧ Wm.getInt l = (0, [], e) := by
  rcases Wm.getInt_err l with h | h | h
  · exact .inl h
  · exact .inr ⟨20, by decide, h⟩
  · exact .inr ⟨22, by decide, h⟩

theorem get_cases (l : List UInt8) : (∃ k t r, get l = (k, t, r, 0)) ∨ ∃ e, e ≠ 0 ∧ get l = (0, [], [], e) := by
  rcases getInt_cases l with ⟨n, a, h⟩ | ⟨e, he, h⟩
  · rcases Wm.getText_err a with ⟨t, b, h2⟩ | ⟨e, he, h2⟩
    · rcases getInt_cases b with ⟨c, r, h3⟩ | ⟨e, he, h3⟩
      · by_cases hk : kindOk n = true ∧ 0 ≤ c ∧ c ≤ 65535
        · by_cases hs : c = (Sm.ofL (l.take (l.length - b.length)) : Int)
          · exact .inl ⟨_, _, _, get_yes h h2 h3 hk hs⟩
          · exact .inr ⟨21, by decide, get_sum h h2 h3 hk hs⟩
        · exact .inr ⟨20, by decide, get_form h h2 h3 hk⟩
      · exact .inr ⟨e, he, get_e3 h h2 h3 he⟩
    · exact .inr ⟨e, he, get_e2 h h2 he⟩
  · exact .inr ⟨e, he, get_e1 h he⟩

theorem fits_kind {k : Int} (h : kindOk k = true) : Wm.fits k = true := Wm.fits_iff.2 (by have := kindOk_iff.1 h; omega)
theorem fits_sum (l : List UInt8) : Wm.fits (Sm.ofL l : Int) = true := Wm.fits_iff.2 (by have := Sm.ofL_lt l; omega)

/-- What is put is got, whatever stands behind. -/
theorem get_frame {k : Int} {t : List UInt8} (h : kindOk k = true) (h2 : t.length ≤ 3000) (r : List UInt8) : get (frame k t ++ r) = (k, t, r, 0) := by
  have e : frame k t ++ r = Wm.lay k ++ (Wm.lay (t.length : Int) ++ t ++ (Wm.lay (Sm.ofL (ahead k t) : Int) ++ r)) := by
    simp [frame, ahead, textL, List.append_assoc]
  have g1 := Wm.getInt_lay (fits_kind h) (Wm.lay (t.length : Int) ++ t ++ (Wm.lay (Sm.ofL (ahead k t) : Int) ++ r))
  have g2 := Wm.getText_lay t (Wm.lay (Sm.ofL (ahead k t) : Int) ++ r) h2
  have g3 := Wm.getInt_lay (fits_sum (ahead k t)) r
  rw [← e] at g1
  have hlt := Sm.ofL_lt (ahead k t)
  refine get_yes g1 g2 g3 ⟨h, by omega, by omega⟩ ?_
  have : (frame k t ++ r).take ((frame k t ++ r).length - (Wm.lay (Sm.ofL (ahead k t) : Int) ++ r).length) = ahead k t := by
    have e2 : frame k t ++ r = ahead k t ++ (Wm.lay (Sm.ofL (ahead k t) : Int) ++ r) := by simp [frame, List.append_assoc]
    rw [e2, List.length_append, Nat.add_sub_cancel]
    exact List.take_left
  rw [this]

/-- What is got is put as it was. -/
theorem get_ok {l t r : List UInt8} {k : Int} (h : get l = (k, t, r, 0)) : kindOk k = true ∧ t.length ≤ 3000 ∧ l = frame k t ++ r := by
  rcases getInt_cases l with ⟨n, a, h1⟩ | ⟨e, he, h1⟩
  · rcases Wm.getText_err a with ⟨t', b, h2⟩ | ⟨e, he, h2⟩
    · rcases getInt_cases b with ⟨c, r', h3⟩ | ⟨e, he, h3⟩
      · by_cases hk : kindOk n = true ∧ 0 ≤ c ∧ c ≤ 65535
        · by_cases hs : c = (Sm.ofL (l.take (l.length - b.length)) : Int)
          · rw [get_yes h1 h2 h3 hk hs] at h
            simp only [Prod.mk.injEq, and_true] at h
            obtain ⟨rfl, rfl, rfl⟩ := h
            obtain ⟨hf1, e1⟩ := Wm.getInt_ok h1
            obtain ⟨hf2, e2⟩ := Wm.getText_ok h2
            obtain ⟨hf3, e3⟩ := Wm.getInt_ok h3
            refine ⟨hk.1, hf2, ?_⟩
            have el : l = ahead n t' ++ b := by rw [e1, e2]; simp [ahead, textL, List.append_assoc]
            have : l.take (l.length - b.length) = ahead n t' := by
              rw [el, List.length_append, Nat.add_sub_cancel]; exact List.take_left
            rw [this] at hs
            rw [el, frame, e3, hs, List.append_assoc]
          · rw [get_sum h1 h2 h3 hk hs] at h; simp at h
        · rw [get_form h1 h2 h3 hk] at h; simp at h
      · rw [get_e3 h1 h2 h3 he] at h; simp at h; exact absurd h.2.2.2 he
    · rw [get_e2 h1 h2 he] at h; simp at h; exact absurd h.2.2.2 he
  · rw [get_e1 h1 he] at h; simp at h; exact absurd h.2.2.2 he

theorem lay_pos (n : Int) : 0 < (Wm.lay n).length := by simp [Wm.lay]
theorem frame_pos (k : Int) (t : List UInt8) : 0 < (frame k t).length := by
  have := lay_pos k
  simp [frame, ahead]; omega
theorem get_less {l t r : List UInt8} {k : Int} (h : get l = (k, t, r, 0)) : r.length < l.length := by
  have := (get_ok h).2.2
  rw [this, List.length_append]
  have := frame_pos k t
  omega
theorem get_nil : get [] = (0, [], [], 22) := get_e1 (n := 0) (r := []) (by simp [Wm.getInt]) (by decide)

/-- All frames that l begins with: their texts, how many bytes they take, and the error of what stands behind. -/
def all (l : List UInt8) : List (List UInt8) × Nat × Int :=
  if l = [] then ([], 0, 0)
  else if _h : (get l).2.2.2 = 0 ∧ (get l).2.2.1.length < l.length then
    ((get l).2.1 :: (all (get l).2.2.1).1, (l.length - (get l).2.2.1.length) + (all (get l).2.2.1).2.1, (all (get l).2.2.1).2.2)
  else ([], 0, (get l).2.2.2)
termination_by l.length
decreasing_by exact _h.2

theorem all_nil : all [] = ([], 0, 0) := by rw [all]; simp
theorem all_ok {l t r : List UInt8} {k : Int} (h : get l = (k, t, r, 0)) : all l = (t :: (all r).1, (l.length - r.length) + (all r).2.1, (all r).2.2) := by
  have hl := get_less h
  rw [all, if_neg (by rintro rfl; simp at hl), dif_pos (by rw [h]; exact ⟨rfl, hl⟩), h]
theorem all_bad {l : List UInt8} {e : Int} (hl : l ≠ []) (h : get l = (0, [], [], e)) (he : e ≠ 0) : all l = ([], 0, e) := by
  rw [all, if_neg hl, dif_neg (by rw [h]; exact fun x => he x.1), h]

/-- What was told ahead, and what is told behind. -/
def allGlue (ts : List (List UInt8)) (n : Nat) (x : List (List UInt8) × Nat × Int) : List (List UInt8) × Nat × Int := (ts ++ x.1, n + x.2.1, x.2.2)
theorem allGlue_zero (x : List (List UInt8) × Nat × Int) : allGlue [] 0 x = x := by simp [allGlue]
theorem allGlue_step {ts : List (List UInt8)} {n : Nat} {l t r : List UInt8} {k : Int} (h : get l = (k, t, r, 0)) : allGlue ts n (all l) = allGlue (ts ++ [t]) (n + (l.length - r.length)) (all r) := by
  rw [all_ok h]; simp [allGlue, Nat.add_assoc]
theorem allGlue_end (ts : List (List UInt8)) (n : Nat) : allGlue ts n (all []) = (ts, n, 0) := by rw [all_nil]; simp [allGlue]
theorem allGlue_bad {ts : List (List UInt8)} {n : Nat} {l : List UInt8} {e : Int} (hl : l ≠ []) (h : get l = (0, [], [], e)) (he : e ≠ 0) : allGlue ts n (all l) = (ts, n, e) := by
  rw [all_bad hl h he]; simp [allGlue]

/-- Texts, one behind the other. -/
def textsL (ls : List (List UInt8)) : List UInt8 := ls.flatMap textL
/-- A row's bytes. -/
def rowL (ls : List (List UInt8)) : List UInt8 := Wm.lay (ls.length : Int) ++ textsL ls
def layOk (ls : List (List UInt8)) : Bool := decide (ls.length ≤ 100) && ls.all (fun t => decide (t.length ≤ 3000))
theorem layOk_iff {ls : List (List UInt8)} : layOk ls = true ↔ ls.length ≤ 100 ∧ ∀ t ∈ ls, t.length ≤ 3000 := by simp [layOk]
theorem layOk_many {ls : List (List UInt8)} (h : 100 < ls.length) : layOk ls = false := by
  rw [Bool.eq_false_iff]; intro hh; have := (layOk_iff.1 hh).1; omega
theorem layOk_long {ls : List (List UInt8)} {k : Nat} (hk : k < ls.length) (h : 3000 < ls[k].length) : layOk ls = false := by
  rw [Bool.eq_false_iff]; intro hh; have := (layOk_iff.1 hh).2 _ (List.getElem_mem hk); omega
def layE (ls : List (List UInt8)) : Int := if layOk ls = true then 0 else 2
def layS (ls : List (List UInt8)) : List UInt8 := if layOk ls = true then rowL ls else []
def rowE (k : Int) (ls : List (List UInt8)) : Int := if kindOk k = true then if layOk ls = true then putE k (rowL ls) else 2 else 1
def rowS (k : Int) (ls : List (List UInt8)) : List UInt8 := if kindOk k = true then if layOk ls = true then putS k (rowL ls) else [] else []
theorem rowE_zero {k : Int} {ls : List (List UInt8)} (h : rowE k ls = 0) : kindOk k = true ∧ layOk ls = true ∧ (rowL ls).length ≤ 3000 ∧ rowS k ls = frame k (rowL ls) := by
  unfold rowE at h
  split at h
  · rename_i h1
    split at h
    · rename_i h2
      have h3 := (putE_zero h).2
      exact ⟨h1, h2, h3, by simp [rowS, h1, h2, put_yes h1 h3]⟩
    · cases h
  · cases h

theorem textsL_snoc (ls : List (List UInt8)) (t : List UInt8) : textsL (ls ++ [t]) = textsL ls ++ textL t := by simp [textsL]
theorem textsL_cons (t : List UInt8) (ls : List (List UInt8)) : textsL (t :: ls) = textL t ++ textsL ls := by simp [textsL]

/-- As many texts as m, read one behind the other. -/
def getTs : Nat → List UInt8 → List (List UInt8) × List UInt8 × Int
  | 0, l => ([], l, 0)
  | m + 1, l =>
    if (Wm.getText l).2.2 = 0 then
      if (getTs m (Wm.getText l).2.1).2.2 = 0 then ((Wm.getText l).1 :: (getTs m (Wm.getText l).2.1).1, (getTs m (Wm.getText l).2.1).2.1, 0) else ([], [], (getTs m (Wm.getText l).2.1).2.2)
    else ([], [], (Wm.getText l).2.2)

def glueT (ts : List (List UInt8)) (x : List (List UInt8) × List UInt8 × Int) : List (List UInt8) × List UInt8 × Int := if x.2.2 = 0 then (ts ++ x.1, x.2.1, 0) else ([], [], x.2.2)

theorem getTs_err (m : Nat) (l : List UInt8) : (∃ ts r, getTs m l = (ts, r, 0)) ∨ ∃ e, e ≠ 0 ∧ getTs m l = ([], [], e) := by
  induction m generalizing l with
  | zero => exact .inl ⟨[], l, rfl⟩
  | succ m ih =>
    unfold getTs
    by_cases h1 : (Wm.getText l).2.2 = 0
    · rw [if_pos h1]
      rcases ih (Wm.getText l).2.1 with ⟨ts, r, h⟩ | ⟨e, he, h⟩
      · rw [h]; exact .inl ⟨_, _, rfl⟩
      · rw [h, if_neg he]; exact .inr ⟨e, he, rfl⟩
    · rw [if_neg h1]; exact .inr ⟨_, h1, rfl⟩

theorem glueT_nil (m : Nat) (l : List UInt8) : glueT [] (getTs m l) = getTs m l := by
  rcases getTs_err m l with ⟨ts, r, h⟩ | ⟨e, he, h⟩
  · rw [h]; simp [glueT]
  · rw [h]; simp [glueT, he]

theorem glueT_step {ts : List (List UInt8)} {m : Nat} {l r t : List UInt8} (h : Wm.getText l = (t, r, 0)) : glueT ts (getTs (m + 1) l) = glueT (ts ++ [t]) (getTs m r) := by
  rw [getTs, h]
  simp only [if_true]
  rcases getTs_err m r with ⟨ts', r', h'⟩ | ⟨e, he, h'⟩
  · rw [h']; simp [glueT]
  · rw [h']; simp [glueT, he]

theorem glueT_bad {ts : List (List UInt8)} {m : Nat} {l t r : List UInt8} {e : Int} (h : Wm.getText l = (t, r, e)) (he : e ≠ 0) : glueT ts (getTs (m + 1) l) = ([], [], e) := by
  rw [getTs, h]
  simp only
  rw [if_neg he]
  simp [glueT, he]

theorem glueT_end (ts : List (List UInt8)) (l : List UInt8) : glueT ts (getTs 0 l) = (ts, l, 0) := by simp [getTs, glueT]

theorem getTs_texts (ls : List (List UInt8)) (h : ∀ t ∈ ls, t.length ≤ 3000) (r : List UInt8) : getTs ls.length (textsL ls ++ r) = (ls, r, 0) := by
  induction ls with
  | nil => simp [getTs, textsL]
  | cons t ls ih =>
    have hg := Wm.getText_lay t (textsL ls ++ r) (h t (List.mem_cons_self ..))
    rw [List.length_cons, textsL_cons, List.append_assoc, textL, getTs, hg]
    simp only [if_true]
    rw [ih fun x hx => h x (List.mem_cons_of_mem _ hx)]
    simp

theorem getTs_ok {m : Nat} {l r : List UInt8} {ts : List (List UInt8)} (h : getTs m l = (ts, r, 0)) : ts.length = m ∧ (∀ t ∈ ts, t.length ≤ 3000) ∧ l = textsL ts ++ r := by
  induction m generalizing l ts with
  | zero =>
    simp only [getTs, Prod.mk.injEq, and_true] at h
    obtain ⟨rfl, rfl⟩ := h
    simp [textsL]
  | succ m ih =>
    rcases Wm.getText_err l with ⟨t, r1, h1⟩ | ⟨e, he, h1⟩
    · rw [getTs, h1] at h
      simp only [if_true] at h
      rcases getTs_err m r1 with ⟨ts', r', h'⟩ | ⟨e, he, h'⟩
      · rw [h'] at h
        simp only [if_true, Prod.mk.injEq, and_true] at h
        obtain ⟨rfl, rfl⟩ := h
        obtain ⟨i1, i2, i3⟩ := ih h'
        obtain ⟨j1, j2⟩ := Wm.getText_ok h1
        refine ⟨by simp [i1], ?_, ?_⟩
        · intro x hx
          rcases List.mem_cons.1 hx with rfl | hx
          · exact j1
          · exact i2 x hx
        · rw [j2, i3, textsL_cons, textL]; simp [List.append_assoc]
      · rw [h', if_neg he] at h; simp at h; exact absurd h.2.2 he
    · rw [getTs, h1] at h
      simp only at h
      rw [if_neg he] at h
      simp at h; exact absurd h.2.2 he

/-- The texts whose row's bytes t is. -/
def rowOf (t : List UInt8) : Option (List (List UInt8)) :=
  if (Wm.getInt t).2.2 = 0 ∧ 0 ≤ (Wm.getInt t).1 ∧ (Wm.getInt t).1 ≤ 100 then
    if (getTs (Wm.getInt t).1.toNat (Wm.getInt t).2.1).2.2 = 0 ∧ (getTs (Wm.getInt t).1.toNat (Wm.getInt t).2.1).2.1 = [] then some (getTs (Wm.getInt t).1.toNat (Wm.getInt t).2.1).1 else none
  else none

theorem rowOf_e1 {l r : List UInt8} {n e : Int} (h : Wm.getInt l = (n, r, e)) (he : ¬ (e = 0 ∧ 0 ≤ n ∧ n ≤ 100)) : rowOf l = none := by
  unfold rowOf; rw [h]; exact if_neg he
theorem rowOf_e2 {l r r' : List UInt8} {n e : Int} {ts : List (List UInt8)} (h : Wm.getInt l = (n, r, 0)) (h0 : 0 ≤ n ∧ n ≤ 100) (h2 : getTs n.toNat r = (ts, r', e)) (he : ¬ (e = 0 ∧ r' = [])) : rowOf l = none := by
  unfold rowOf; rw [h, if_pos ⟨rfl, h0⟩]
  show (if (getTs n.toNat r).2.2 = 0 ∧ (getTs n.toNat r).2.1 = [] then some (getTs n.toNat r).1 else none) = none
  rw [h2]; exact if_neg he
theorem rowOf_yes {l r : List UInt8} {n : Int} {ts : List (List UInt8)} (h : Wm.getInt l = (n, r, 0)) (h0 : 0 ≤ n ∧ n ≤ 100) (h2 : getTs n.toNat r = (ts, [], 0)) : rowOf l = some ts := by
  unfold rowOf; rw [h, if_pos ⟨rfl, h0⟩]
  show (if (getTs n.toNat r).2.2 = 0 ∧ (getTs n.toNat r).2.1 = [] then some (getTs n.toNat r).1 else none) = some ts
  rw [h2]; exact if_pos ⟨rfl, rfl⟩

theorem rowOf_row {ls : List (List UInt8)} (h : layOk ls = true) : rowOf (rowL ls) = some ls := by
  obtain ⟨h1, h2⟩ := layOk_iff.1 h
  refine rowOf_yes (n := (ls.length : Int)) (r := textsL ls) (Wm.getInt_lay (Wm.fits_iff.2 (by omega)) _) (by omega) ?_
  have := getTs_texts ls h2 []
  simpa using this

theorem rowOf_ok {t : List UInt8} {ls : List (List UInt8)} (h : rowOf t = some ls) : layOk ls = true ∧ t = rowL ls := by
  rcases getInt_cases t with ⟨n, r, h1⟩ | ⟨e, he, h1⟩
  · by_cases h0 : 0 ≤ n ∧ n ≤ 100
    · rcases getTs_err n.toNat r with ⟨ts, r', h2⟩ | ⟨e, he, h2⟩
      · by_cases hr : r' = []
        · subst hr
          rw [rowOf_yes h1 h0 h2] at h
          obtain rfl := Option.some.inj h
          obtain ⟨i1, i2, i3⟩ := getTs_ok h2
          refine ⟨layOk_iff.2 ⟨by omega, i2⟩, ?_⟩
          rw [rowL, (Wm.getInt_ok h1).2, i3, List.append_nil, i1]
          congr 2
          omega
        · rw [rowOf_e2 h1 h0 h2 (fun x => hr x.2)] at h; cases h
      · rw [rowOf_e2 h1 h0 h2 (fun x => he x.1)] at h; cases h
    · rw [rowOf_e1 h1 (fun x => h0 x.2)] at h; cases h
  · rw [rowOf_e1 h1 (fun x => he x.1)] at h; cases h

/-- The row that l begins with: its kind, its texts, what stands behind, the error. -/
def getRow (l : List UInt8) : Int × List (List UInt8) × List UInt8 × Int :=
  if (get l).2.2.2 = 0 then
    match rowOf (get l).2.1 with
    | some ts => ((get l).1, ts, (get l).2.2.1, 0)
    | none => (0, [], [], 20)
  else (0, [], [], (get l).2.2.2)

theorem getRow_e {l : List UInt8} {k : Int} {t r : List UInt8} {e : Int} (h : get l = (k, t, r, e)) (he : e ≠ 0) : getRow l = (0, [], [], e) := by
  unfold getRow; rw [h]; exact if_neg he
theorem getRow_no {l t r : List UInt8} {k : Int} (h : get l = (k, t, r, 0)) (h2 : rowOf t = none) : getRow l = (0, [], [], 20) := by
  unfold getRow; rw [h]; simp only [if_true, h2]
theorem getRow_yes {l t r : List UInt8} {k : Int} {ts : List (List UInt8)} (h : get l = (k, t, r, 0)) (h2 : rowOf t = some ts) : getRow l = (k, ts, r, 0) := by
  unfold getRow; rw [h]; simp only [if_true, h2]

theorem getRow_row {k : Int} {ls : List (List UInt8)} (h : rowE k ls = 0) (r : List UInt8) : getRow (rowS k ls ++ r) = (k, ls, r, 0) := by
  obtain ⟨h1, h2, h3, h4⟩ := rowE_zero h
  rw [h4]
  exact getRow_yes (get_frame h1 h3 r) (rowOf_row h2)

theorem getRow_ok {l r : List UInt8} {k : Int} {ls : List (List UInt8)} (h : getRow l = (k, ls, r, 0)) : rowE k ls = 0 ∧ l = rowS k ls ++ r := by
  rcases get_cases l with ⟨k', t, r', h1⟩ | ⟨e, he, h1⟩
  · rcases hr : rowOf t with _ | ts
    · rw [getRow_no h1 hr] at h; simp at h
    · rw [getRow_yes h1 hr] at h
      simp only [Prod.mk.injEq, and_true] at h
      obtain ⟨rfl, rfl, rfl⟩ := h
      obtain ⟨i1, i2⟩ := rowOf_ok hr
      obtain ⟨j1, j2, j3⟩ := get_ok h1
      subst i2
      have hp := put_yes j1 j2
      refine ⟨by simp [rowE, j1, i1, hp.2], ?_⟩
      rw [rowS, if_pos j1, if_pos i1, hp.1]; exact j3
  · rw [getRow_e h1 he] at h; simp at h; exact absurd h.2.2.2 he

theorem getRow_cases (l : List UInt8) : (∃ k ts r, getRow l = (k, ts, r, 0)) ∨ ∃ e, e ≠ 0 ∧ getRow l = (0, [], [], e) := by
  rcases get_cases l with ⟨k, t, r, h⟩ | ⟨e, he, h⟩
  · rcases hr : rowOf t with _ | ts
    · exact .inr ⟨20, by decide, getRow_no h hr⟩
    · exact .inl ⟨_, _, _, getRow_yes h hr⟩
  · exact .inr ⟨e, he, getRow_e h he⟩

end Fm
end Go.Proofs.YtlnchfnmpamliaaGreat

namespace Go.Proofs.YtlnchfnmpamliaaGreat
set_option maxRecDepth 10000
namespace Fm

theorem take_cut {a b : List UInt8} {m : Nat} (h : a.length ≤ m) : (a ++ b).take m = a ++ b.take (m - a.length) := by
  rw [List.take_append, List.take_of_length_le h]

/-- A number's bytes, cut ahead of its end, are none yet. -/
theorem getInt_cut (n : Int) (r : List UInt8) {m : Nat} (h : m < (Wm.lay n).length) : Wm.getInt ((Wm.lay n ++ r).take m) = (0, [], 22) := by
  have h1 : (Wm.lay n ++ r).take m = (Wm.digs n.natAbs).take m := by
    have h2 : m ≤ (Wm.digs n.natAbs).length := by simp [Wm.lay] at h; omega
    unfold Wm.lay
    rw [List.append_assoc, List.take_append_of_le_length h2]
  have h3 : Wm.endAt ((Wm.digs n.natAbs).take m) = ((Wm.digs n.natAbs).take m).length := Wm.endAt_none (by
    intro j hj
    exact Wm.digs_notEnd (List.mem_of_mem_take (List.getElem_mem hj)))
  rw [h1]
  unfold Wm.getInt
  rw [dif_neg (by omega)]

theorem getText_cut (t r : List UInt8) (ht : t.length ≤ 3000) {m : Nat} (h : m < (textL t).length) : Wm.getText ((textL t ++ r).take m) = ([], [], 22) := by
  unfold textL at h ⊢
  rw [List.append_assoc]
  by_cases hm : m < (Wm.lay (t.length : Int)).length
  · have h1 := getInt_cut (t.length : Int) (t ++ r) hm
    unfold Wm.getText
    rw [h1]; rfl
  · rw [List.length_append] at h
    have h1 := Wm.getInt_lay (n := (t.length : Int)) (Wm.fits_iff.2 (by omega)) ((t ++ r).take (m - (Wm.lay (t.length : Int)).length))
    rw [take_cut (by omega)]
    unfold Wm.getText
    rw [h1]
    simp only [if_true]
    rw [if_neg (by omega), if_pos]
    rw [List.length_take]
    omega

/-- What is cut within a frame asks for more. -/
theorem get_cut {k : Int} {t : List UInt8} (hk : kindOk k = true) (ht : t.length ≤ 3000) {m : Nat} (h : m < (frame k t).length) (r : List UInt8) : get ((frame k t ++ r).take m) = (0, [], [], 22) := by
  have e : frame k t ++ r = Wm.lay k ++ (textL t ++ (Wm.lay (Sm.ofL (ahead k t) : Int) ++ r)) := by simp [frame, ahead, List.append_assoc]
  have hlen : (frame k t).length = (Wm.lay k).length + ((textL t).length + (Wm.lay (Sm.ofL (ahead k t) : Int)).length) := by simp [frame, ahead]
  rw [e]
  by_cases h1 : m < (Wm.lay k).length
  · exact get_e1 (getInt_cut k _ h1) (by decide)
  · rw [take_cut (by omega)]
    have g1 := Wm.getInt_lay (fits_kind hk) ((textL t ++ (Wm.lay (Sm.ofL (ahead k t) : Int) ++ r)).take (m - (Wm.lay k).length))
    by_cases h2 : m - (Wm.lay k).length < (textL t).length
    · exact get_e2 g1 (getText_cut t _ ht h2) (by decide)
    · rw [take_cut (by omega)] at g1 ⊢
      have g2 := Wm.getText_lay t ((Wm.lay (Sm.ofL (ahead k t) : Int) ++ r).take (m - (Wm.lay k).length - (textL t).length)) ht
      exact get_e3 g1 g2 (getInt_cut _ r (by omega)) (by decide)

/-- Frames one behind the other. -/
def frames (k : Int) (ls : List (List UInt8)) : List UInt8 := ls.flatMap (frame k)
theorem frames_nil (k : Int) : frames k [] = [] := rfl
theorem frames_cons (k : Int) (t : List UInt8) (ls : List (List UInt8)) : frames k (t :: ls) = frame k t ++ frames k ls := by simp [frames]
theorem frames_append (k : Int) (a b : List (List UInt8)) : frames k (a ++ b) = frames k a ++ frames k b := by simp [frames]
theorem frames_succ (k : Int) {ls : List (List UInt8)} {i : Nat} (h : i < ls.length) : frames k (ls.take (i + 1)) = frames k (ls.take i) ++ frame k ls[i] := by
  rw [List.take_succ_eq_append_getElem h, frames_append, frames_cons, frames_nil, List.append_nil]
theorem frames_mono (k : Int) (ls : List (List UInt8)) {i j : Nat} (h : i ≤ j) : (frames k (ls.take i)).length ≤ (frames k (ls.take j)).length := by
  have e : ls.take j = ls.take i ++ (ls.take j).drop i := by
    have h1 := List.take_append_drop i (ls.take j)
    rw [List.take_take, Nat.min_eq_left h] at h1
    exact h1.symm
  rw [e, frames_append, List.length_append]; omega

theorem all_frames {k : Int} (hk : kindOk k = true) {ls : List (List UInt8)} (h : ∀ t ∈ ls, t.length ≤ 3000) (r : List UInt8) : all (frames k ls ++ r) = allGlue ls (frames k ls).length (all r) := by
  induction ls with
  | nil => rw [frames_nil, List.nil_append, List.length_nil, allGlue_zero]
  | cons t ls ih =>
    have h1 := get_frame hk (h t (List.mem_cons_self ..)) (frames k ls ++ r)
    rw [frames_cons, List.append_assoc, all_ok h1, ih fun x hx => h x (List.mem_cons_of_mem _ hx)]
    simp only [allGlue, List.length_append, List.cons_append]
    refine Prod.ext rfl (Prod.ext ?_ rfl)
    show _ = _
    simp only
    omega

theorem all_whole {k : Int} (hk : kindOk k = true) {ls : List (List UInt8)} (h : ∀ t ∈ ls, t.length ≤ 3000) : all (frames k ls) = (ls, (frames k ls).length, 0) := by
  have := all_frames hk h []
  rw [List.append_nil, allGlue_end] at this; exact this

/-- Frames cut at m: j of them are whole; at their end, or within the next one. -/
theorem all_cut {k : Int} (hk : kindOk k = true) {ls : List (List UInt8)} (h : ∀ t ∈ ls, t.length ≤ 3000) {m j : Nat} (hm : m ≤ (frames k ls).length) (hj : j ≤ ls.length)
    (h1 : (frames k (ls.take j)).length ≤ m) (h2 : j < ls.length → m < (frames k (ls.take (j + 1))).length) :
    all ((frames k ls).take m) = (ls.take j, (frames k (ls.take j)).length, if (frames k (ls.take j)).length = m then 0 else 22) := by
  have e : frames k ls = frames k (ls.take j) ++ frames k (ls.drop j) := by rw [← frames_append, List.take_append_drop]
  have hshort : ∀ t ∈ ls.take j, t.length ≤ 3000 := fun t ht => h t (List.mem_of_mem_take ht)
  rw [e, take_cut h1, all_frames hk hshort]
  by_cases heq : (frames k (ls.take j)).length = m
  · rw [if_pos heq, heq, Nat.sub_self, List.take_zero, allGlue_end, ← heq]
  · rw [if_neg heq]
    have hlt : j < ls.length := by
      refine Nat.lt_of_le_of_ne hj fun hh => heq ?_
      rw [hh, List.take_length] at h1 ⊢
      omega
    have h3 := h2 hlt
    rw [frames_succ k hlt, List.length_append] at h3
    have hd : frames k (ls.drop j) = frame k ls[j] ++ frames k (ls.drop (j + 1)) := by rw [List.drop_eq_getElem_cons hlt, frames_cons]
    rw [hd]
    refine allGlue_bad ?_ (get_cut hk (h _ (List.getElem_mem hlt)) (by omega) _) (by decide)
    intro hh
    have := congrArg List.length hh
    rw [List.length_take, List.length_append, List.length_nil] at this
    have := frame_pos k ls[j]
    omega

end Fm
end Go.Proofs.YtlnchfnmpamliaaGreat

namespace Go.Proofs.YtlnchfnmpamliaaGreat
set_option maxRecDepth 10000
namespace Rc

def nOk (n : Int) : Bool := decide (0 ≤ n ∧ n ≤ 1000000000)
theorem nOk_iff {n : Int} : nOk n = true ↔ 0 ≤ n ∧ n ≤ 1000000000 := by unfold nOk; exact decide_eq_true_iff
/-- A record of a number and a text. -/
def rec1 (n : Int) (t : List UInt8) : List UInt8 := Fm.frame 1 (Wm.lay n ++ t)
def putE (n : Int) (t : List UInt8) : Int := if nOk n = true then if t.length ≤ 1000 then 0 else 2 else 1
def putS (n : Int) (t : List UInt8) : List UInt8 := if nOk n = true then if t.length ≤ 1000 then rec1 n t else [] else []
theorem putE_zero {n : Int} {t : List UInt8} : putE n t = 0 ↔ nOk n = true ∧ t.length ≤ 1000 := by
  unfold putE
  constructor
  · intro h
    split at h
    · rename_i h1
      split at h
      · rename_i h2; exact ⟨h1, h2⟩
      · cases h
    · cases h
  · rintro ⟨h1, h2⟩; rw [if_pos h1, if_pos h2]
theorem putS_yes {n : Int} {t : List UInt8} (h : putE n t = 0) : putS n t = rec1 n t := by
  obtain ⟨h1, h2⟩ := putE_zero.1 h
  unfold putS; rw [if_pos h1, if_pos h2]
theorem putS_no {n : Int} {t : List UInt8} (h : putE n t ≠ 0) : putS n t = [] := by
  unfold putS
  by_cases h1 : nOk n = true
  · rw [if_pos h1]
    by_cases h2 : t.length ≤ 1000
    · exact absurd (putE_zero.2 ⟨h1, h2⟩) h
    · rw [if_neg h2]
  · rw [if_neg h1]
theorem digs_short (k : Nat) : ∀ n : Nat, n < 250 ^ k → (Wm.digs n).length ≤ k := by
  induction k with
  | zero => intro n h; have : n = 0 := by simpa using h
            subst this; rw [Wm.digs_zero]; exact Nat.le_refl _
  | succ k ih =>
    intro n h
    by_cases h0 : n = 0
    · subst h0; rw [Wm.digs_zero]; exact Nat.zero_le _
    · rw [Wm.digs_pos (by omega), List.length_cons]
      have := ih (n / 250) (Nat.div_lt_of_lt_mul (by rw [Nat.pow_succ] at h; omega))
      omega
theorem lay_short {n : Int} (h : nOk n = true) : (Wm.lay n).length ≤ 5 := by
  have h1 := nOk_iff.1 h
  unfold Wm.lay
  rw [List.length_append]
  have := digs_short 4 n.natAbs (by omega)
  simp; omega
theorem body_short {n : Int} (h : nOk n = true) {t : List UInt8} (h2 : t.length ≤ 1000) : (Wm.lay n ++ t).length ≤ 3000 := by
  have := lay_short h
  rw [List.length_append]; omega
theorem fits_n {n : Int} (h : nOk n = true) : Wm.fits n = true := Wm.fits_iff.2 (by have := nOk_iff.1 h; omega)
theorem kind1 : Fm.kindOk 1 = true := by decide
theorem rec_pos (n : Int) (t : List UInt8) : 0 < (rec1 n t).length := Fm.frame_pos _ _
theorem get_rec {n : Int} {t : List UInt8} (h : nOk n = true) (h2 : t.length ≤ 1000) (r : List UInt8) : Fm.get (rec1 n t ++ r) = (1, Wm.lay n ++ t, r, 0) := Fm.get_frame kind1 (body_short h h2) r

/-- The record of that number that l begins with: its text, and what stands behind. -/
def one (l : List UInt8) (n : Int) : Option (List UInt8 × List UInt8) :=
  if (Fm.get l).2.2.2 = 0 ∧ (Wm.getInt (Fm.get l).2.1).2.2 = 0 ∧ putE n (Wm.getInt (Fm.get l).2.1).2.1 = 0 ∧ rec1 n (Wm.getInt (Fm.get l).2.1).2.1 = l.take (l.length - (Fm.get l).2.2.1.length)
  then some ((Wm.getInt (Fm.get l).2.1).2.1, (Fm.get l).2.2.1) else none

theorem one_rec {n : Int} {t : List UInt8} (h : nOk n = true) (h2 : t.length ≤ 1000) (r : List UInt8) : one (rec1 n t ++ r) n = some (t, r) := by
  have g := get_rec h h2 r
  have gi := Wm.getInt_lay (fits_n h) t
  unfold one
  rw [g]; simp only
  rw [gi]; simp only
  rw [if_pos ⟨trivial, trivial, putE_zero.2 ⟨h, h2⟩, by rw [List.length_append, Nat.add_sub_cancel, List.take_left]⟩]
theorem one_ok {l : List UInt8} {n : Int} {t r : List UInt8} (h : one l n = some (t, r)) : nOk n = true ∧ t.length ≤ 1000 ∧ l = rec1 n t ++ r := by
  unfold one at h
  split at h
  · rename_i hc
    obtain ⟨h1, h2, h3, h4⟩ := hc
    cases h
    have hp := putE_zero.1 h3
    refine ⟨hp.1, hp.2, ?_⟩
    rcases Fm.get_cases l with ⟨k, t', r', hg⟩ | ⟨e, he, hg⟩
    · have hl := (Fm.get_ok hg).2.2
      rw [hg] at h4 ⊢
      simp only at h4 ⊢
      rw [h4, hl, List.length_append, Nat.add_sub_cancel, List.take_left]
    · rw [hg] at h1; exact absurd h1 he
  · cases h
theorem one_iff {l : List UInt8} {n : Int} {t r : List UInt8} : one l n = some (t, r) ↔ nOk n = true ∧ t.length ≤ 1000 ∧ l = rec1 n t ++ r :=
  ⟨one_ok, fun ⟨h1, h2, h3⟩ => by rw [h3]; exact one_rec h1 h2 r⟩
theorem one_less {l : List UInt8} {n : Int} {t r : List UInt8} (h : one l n = some (t, r)) : r.length < l.length := by
  have := (one_ok h).2.2
  rw [this, List.length_append]
  have := rec_pos n t
  omega
theorem one_nil (n : Int) : one [] n = none := by
  cases h : one [] n with
  | none => rfl
  | some x => obtain ⟨t, r⟩ := x; have := one_less h; simp at this
theorem one_get {l : List UInt8} {n e : Int} (h : Fm.get l = (0, [], [], e)) (he : e ≠ 0) : one l n = none := by
  unfold one; rw [h]; rw [if_neg (fun hh => he hh.1)]

/-- The texts of the records that l begins with, and how many bytes they take. -/
def scan (l : List UInt8) (n : Int) : List (List UInt8) × Nat :=
  match _h : one l n with
  | none => ([], 0)
  | some x => if _h2 : x.2.length < l.length then (x.1 :: (scan x.2 (n + 1)).1, (l.length - x.2.length) + (scan x.2 (n + 1)).2) else ([], 0)
termination_by l.length
theorem scan_no {l : List UInt8} {n : Int} (h : one l n = none) : scan l n = ([], 0) := by
  rw [scan]; split
  · rfl
  · rename_i x hx; rw [h] at hx; cases hx
theorem scan_ok {l t r : List UInt8} {n : Int} (h : one l n = some (t, r)) : scan l n = (t :: (scan r (n + 1)).1, (l.length - r.length) + (scan r (n + 1)).2) := by
  have hl := one_less h
  rw [scan]; split
  · rename_i hx; rw [h] at hx; cases hx
  · rename_i x hx
    rw [h] at hx
    obtain rfl := Option.some.inj hx
    rw [dif_pos hl]
theorem scan_nil (n : Int) : scan [] n = ([], 0) := scan_no (one_nil n)
theorem scan_rec {n : Int} {t : List UInt8} (h : nOk n = true) (h2 : t.length ≤ 1000) (r : List UInt8) : scan (rec1 n t ++ r) n = (t :: (scan r (n + 1)).1, (rec1 n t).length + (scan r (n + 1)).2) := by
  rw [scan_ok (one_rec h h2 r), List.length_append, Nat.add_sub_cancel]
/-- What was told ahead, and what is told behind. -/
def glue (ts : List (List UInt8)) (k : Nat) (x : List (List UInt8) × Nat) : List (List UInt8) × Nat := (ts ++ x.1, k + x.2)
theorem glue_zero (x : List (List UInt8) × Nat) : glue [] 0 x = x := by simp [glue]
theorem glue_step {ts : List (List UInt8)} {k : Nat} {l t r : List UInt8} {n : Int} (h : one l n = some (t, r)) : glue ts k (scan l n) = glue (ts ++ [t]) (k + (l.length - r.length)) (scan r (n + 1)) := by
  rw [scan_ok h]; simp [glue, Nat.add_assoc]
theorem glue_no {ts : List (List UInt8)} {k : Nat} {l : List UInt8} {n : Int} (h : one l n = none) : glue ts k (scan l n) = (ts, k) := by
  rw [scan_no h]; simp [glue]

/-- Records one behind the other. -/
def recs : Int → List (List UInt8) → List UInt8
  | _, [] => []
  | n, t :: ls => rec1 n t ++ recs (n + 1) ls
/-- Have all their numbers, and are none too long? -/
def okAll : Int → List (List UInt8) → Prop
  | _, [] => True
  | n, t :: ls => (nOk n = true ∧ t.length ≤ 1000) ∧ okAll (n + 1) ls
theorem recs_append (n : Int) (a b : List (List UInt8)) : recs n (a ++ b) = recs n a ++ recs (n + a.length) b := by
  induction a generalizing n with
  | nil => simp [recs]
  | cons t a ih =>
    simp only [List.cons_append, recs, ih, List.append_assoc, List.length_cons]
    congr 3; omega
theorem okAll_append (n : Int) (a b : List (List UInt8)) : okAll n (a ++ b) ↔ okAll n a ∧ okAll (n + a.length) b := by
  induction a generalizing n with
  | nil => simp [okAll]
  | cons t a ih =>
    simp only [List.cons_append, okAll, ih, List.length_cons, and_assoc]
    have e : n + 1 + (a.length : Int) = n + ((a.length + 1 : Nat) : Int) := by omega
    rw [e]
theorem okAll_iff (n : Int) (ls : List (List UInt8)) : okAll n ls ↔ (ls = [] ∨ (0 ≤ n ∧ n + ls.length ≤ 1000000001)) ∧ ∀ t ∈ ls, t.length ≤ 1000 := by
  induction ls generalizing n with
  | nil => simp [okAll]
  | cons t ls ih =>
    simp only [okAll, ih, nOk_iff, List.length_cons, List.mem_cons, forall_eq_or_imp, reduceCtorEq, false_or]
    constructor
    · rintro ⟨⟨⟨h1, h2⟩, h3⟩, h4, h5⟩
      refine ⟨⟨h1, ?_⟩, h3, h5⟩
      rcases h4 with rfl | ⟨_, h4⟩
      · simp; omega
      · omega
    · rintro ⟨⟨h1, h2⟩, h3, h5⟩
      refine ⟨⟨⟨h1, by omega⟩, h3⟩, ?_, h5⟩
      by_cases h0 : ls = []
      · exact .inl h0
      · exact .inr ⟨by omega, by omega⟩
theorem scan_recs {n : Int} {ls : List (List UInt8)} (h : okAll n ls) (r : List UInt8) : scan (recs n ls ++ r) n = (ls ++ (scan r (n + ls.length)).1, (recs n ls).length + (scan r (n + ls.length)).2) := by
  induction ls generalizing n with
  | nil => simp [recs]
  | cons t ls ih =>
    have e : n + 1 + (ls.length : Int) = n + ((ls.length + 1 : Nat) : Int) := by omega
    rw [recs, List.append_assoc, scan_rec h.1.1 h.1.2, ih h.2, List.length_cons, e]
    simp [Nat.add_assoc]
theorem scan_whole {n : Int} {ls : List (List UInt8)} (h : okAll n ls) : scan (recs n ls) n = (ls, (recs n ls).length) := by
  have := scan_recs h []
  rw [List.append_nil, scan_nil] at this; simpa using this
/-- What is told is there. -/
theorem scan_split (l : List UInt8) (n : Int) : okAll n (scan l n).1 ∧ (scan l n).2 = (recs n (scan l n).1).length ∧ ∃ r, l = recs n (scan l n).1 ++ r := by
  generalize hk : l.length = k
  induction k using Nat.strongRecOn generalizing l n with
  | _ k ih =>
    cases h : one l n with
    | none => rw [scan_no h]; exact ⟨trivial, rfl, l, rfl⟩
    | some x =>
      obtain ⟨t, r⟩ := x
      have hl := one_less h
      obtain ⟨h1, h2, h3⟩ := one_ok h
      obtain ⟨i1, i2, r', i3⟩ := ih r.length (by omega) r (n + 1) rfl
      rw [scan_ok h]
      refine ⟨⟨⟨h1, h2⟩, i1⟩, ?_, r', ?_⟩
      · simp only [recs, List.length_append, i2]
        have := congrArg List.length h3
        rw [List.length_append] at this
        omega
      · simp only [recs]
        rw [List.append_assoc, ← i3, ← h3]
theorem scan_le (l : List UInt8) (n : Int) : (scan l n).2 ≤ l.length := by
  obtain ⟨_, h2, r, h3⟩ := scan_split l n
  have := congrArg List.length h3
  rw [List.length_append] at this
  omega
theorem scan_take (l : List UInt8) (n : Int) : l.take (scan l n).2 = recs n (scan l n).1 := by
  obtain ⟨_, h2, r, h3⟩ := scan_split l n
  rw [h2]
  generalize (scan l n).1 = ls at h3 ⊢
  rw [h3]
  exact List.take_left
/-- What is mended is read as it was. -/
theorem scan_mended (l : List UInt8) (n : Int) : scan (l.take (scan l n).2) n = scan l n := by
  obtain ⟨h1, h2, _⟩ := scan_split l n
  rw [scan_take, scan_whole h1, ← h2]
/-- Records cut at m: a beginning of them. -/
theorem scan_cut {n : Int} {ls : List (List UInt8)} (h : okAll n ls) (m : Nat) : ∃ j, j ≤ ls.length ∧ scan ((recs n ls).take m) n = (ls.take j, (recs n (ls.take j)).length) ∧ ∀ i, i ≤ ls.length → (recs n (ls.take i)).length ≤ m → i ≤ j := by
  induction ls generalizing n m with
  | nil => exact ⟨0, Nat.le_refl _, by simp [recs, scan_nil], fun i hi _ => hi⟩
  | cons t ls ih =>
    by_cases hm : (rec1 n t).length ≤ m
    · obtain ⟨j, hj, hs, hi⟩ := ih h.2 (m - (rec1 n t).length)
      refine ⟨j + 1, by simp; omega, ?_, ?_⟩
      · rw [recs, Fm.take_cut hm, scan_rec h.1.1 h.1.2, hs]
        simp [recs]
      · intro i hi1 hi2
        cases i with
        | zero => omega
        | succ i =>
          rw [List.take_succ_cons, recs, List.length_append] at hi2
          have := hi i (by simpa using hi1) (by omega)
          omega
    · refine ⟨0, Nat.zero_le _, ?_, ?_⟩
      · have g := Fm.get_cut kind1 (body_short h.1.1 h.1.2) (m := m) (by unfold rec1 at hm; omega) (recs (n + 1) ls)
        rw [recs, scan_no]
        · simp [recs]
        · exact one_get g (by decide)
      · intro i hi1 hi2
        cases i with
        | zero => omega
        | succ i =>
          rw [List.take_succ_cons, recs, List.length_append] at hi2
          omega
theorem recs_mono (n : Int) (ls : List (List UInt8)) (i : Nat) : (recs n (ls.take i)).length ≤ (recs n ls).length := by
  conv => rhs; rw [← List.take_append_drop i ls]
  rw [recs_append, List.length_append]; omega
end Rc
end Go.Proofs.YtlnchfnmpamliaaGreat

namespace Go.Proofs.YtlnchfnmpamliaaGreat
set_option maxRecDepth 10000
open Go.RowKit

/-- A byte, as a cell holds it. -/
def byteV (x : UInt8) : Value := .int .u8 (x.toNat : Int)

theorem ownsRow_slice {w : World} {base : Nat} {e : TypeId} {size : Nat} {v : Value} {n : Nat} {xs : List Value} (h : w.ownsRow base e size v n xs) : ∃ A c, v = .slice A n c := by
  rcases h.2 with ⟨rfl, rfl⟩ | ⟨g, cap, _, rfl, _⟩
  · exact ⟨_, _, rfl⟩
  · exact ⟨_, _, rfl⟩

/-- A text of these bytes. -/
def strOf (l : List UInt8) : ByteArray := ⟨l.toArray⟩
/-- The bytes of a text. -/
def bl (s : ByteArray) : List UInt8 := s.data.toList
theorem bl_strOf (l : List UInt8) : bl (strOf l) = l := rfl
theorem strOf_bl (s : ByteArray) : strOf (bl s) = s := rfl
theorem strOf_size (l : List UInt8) : (strOf l).size = l.length := rfl
theorem bl_length (s : ByteArray) : (bl s).length = s.size := rfl
theorem bl_append (s t : ByteArray) : bl (s ++ t) = bl s ++ bl t := by unfold bl; rw [ByteArray.data_append]; simp
theorem strOf_append (l : List UInt8) (s : ByteArray) : strOf l ++ s = strOf (l ++ bl s) := by
  rw [← strOf_bl (strOf l ++ s), bl_append, bl_strOf]
theorem bl_inj {s t : ByteArray} (h : bl s = bl t) : s = t := by rw [← strOf_bl s, ← strOf_bl t, h]

/-- The slice at A holds the numbers zs, in blocks below B. -/
def IntsAt (w : World) (B : Nat) (A : Option Addr) (zs : List Int) : Prop :=
  ∀ i (h : i < zs.length), ∃ b off, A = some ⟨b, off, none⟩ ∧ b < B ∧ w.cell? ⟨b, off + i, none⟩ = some (.int .i64 zs[i])

theorem IntsAt.below {w w' : World} {B B' : Nat} {A : Option Addr} {zs : List Int} (h : IntsAt w B A zs) (hb : Below B' w w') (hB : B ≤ B') : IntsAt w' B A zs := fun i hi => by
  obtain ⟨b, off, e, hlt, hc⟩ := h i hi
  exact ⟨b, off, e, hlt, (hb.cell (p := ⟨b, off + i, none⟩) (by show b < B'; omega)).trans hc⟩

theorem IntsAt.more {w : World} {B B' : Nat} {A : Option Addr} {zs : List Int} (h : IntsAt w B A zs) (hB : B ≤ B') : IntsAt w B' A zs := fun i hi => by
  obtain ⟨b, off, e, hlt, hc⟩ := h i hi
  exact ⟨b, off, e, by omega, hc⟩

theorem IntsAt.nil (w : World) (B : Nat) (A : Option Addr) : IntsAt w B A [] := fun _ hi => absurd hi (Nat.not_lt_zero _)

/-- One number, as a slice of one's own holds it. -/
theorem IntsAt.one (w : World) (x : Int) (t : TypeId) : IntsAt (w.alloc (.cells #[.int .i64 x] t)) (w.alloc (.cells #[.int .i64 x] t)).heap.size (some ⟨w.heap.size, 0, none⟩) [x] := fun i hi => by
  obtain rfl : i = 0 := by simpa using hi
  exact ⟨w.heap.size, 0, rfl, by simp, (Boxed.new w t (.int .i64 x)).cell⟩

theorem below_drew {B : Nat} {a w : World} (h : Below B a w) (n : Nat) : Below B a (w.drewN n) := ⟨h.os, h.tape, h.output, h.size, h.block⟩

theorem bl_get (s : ByteArray) (k : Nat) (h : k < s.size) : (bl s)[k]'h = s[k] := rfl
theorem bl_extract_to (s : ByteArray) (k : Nat) (_h : k ≤ s.size) : bl (s.extract 0 k) = (bl s).take k := by
  unfold bl; simp [ByteArray.data_extract]
theorem bl_extract_from (s : ByteArray) (k : Nat) : bl (s.extract k s.size) = (bl s).drop k := by
  unfold bl
  rw [ByteArray.data_extract, Array.toList_extract, List.extract_eq_take_drop]
  rw [List.take_of_length_le (by simp)]

theorem strOf_toList (l : List UInt8) : (strOf l).toList = l := by
  rw [ByteArray.toList_eq]; rfl

/-- Four numbers, as a slice of one's own holds them. -/
theorem IntsAt.four (w : World) (a b c d : Int) (t : TypeId) : IntsAt (w.alloc (.cells #[.int .i64 a, .int .i64 b, .int .i64 c, .int .i64 d] t)) (w.heap.size + 1) (some ⟨w.heap.size, 0, none⟩) [a, b, c, d] := fun i hi => by
  have hb := World.alloc_heap_new w (.cells #[.int .i64 a, .int .i64 b, .int .i64 c, .int .i64 d] t)
  refine ⟨w.heap.size, 0, rfl, by omega, ?_⟩
  simp only [World.cell?, hb]
  match i, hi with
  | 0, _ => rfl
  | 1, _ => rfl
  | 2, _ => rfl
  | 3, _ => rfl

theorem IntsAt.of_own {w : World} {base : Nat} {e : TypeId} {A : Option Addr} {cap : Nat} {zs : List Int} (h : w.ownsRow base e 1 (.slice A zs.length cap) zs.length (zs.map (Value.int .i64))) : IntsAt w w.heap.size A zs := fun i hi => by
  rcases h.2 with ⟨_, h0⟩ | ⟨g, cap', cur, hv, _, hg, _⟩
  · omega
  · have hA : A = some ⟨g, 0, none⟩ := by injection hv
    subst hA
    have hc := h.cells (g := g) rfl i (.int .i64 zs[i]) (by simp [List.getElem?_eq_getElem hi])
    have hadd : (⟨g, 0, none⟩ : Addr).add i = ⟨g, 0 + i, none⟩ := by unfold Addr.add; split <;> simp_all
    rw [hadd] at hc
    exact ⟨g, 0, rfl, (Array.getElem?_eq_some_iff.1 hg).1, hc⟩

theorem strs_append (a b : List UInt8) : strOf a ++ strOf b = strOf (a ++ b) := strOf_append a (strOf b)

theorem below2 {a b c : World} (h : Below a.heap.size a b) (k : Below b.heap.size b c) : Below a.heap.size a c := h.trans (k.mono h.size)

/-- What a law is told of a slice of integers that came in: nil, or a row of cap cells, zs; its elements are the first len. -/
def IsRow (k : IntKind) (w : World) (a : Option Addr) (len cap : Nat) (zs : List Int) : Prop :=
  (a = none ∧ len = 0 ∧ cap = 0 ∧ zs = []) ∨
  ∃ x, a = some x ∧ len ≤ cap ∧ cap ≤ maxLen ∧ zs.length = cap ∧ (∀ i, i < zs.length → w.cell? (x.add i) = some (.int k (zs.getD i 0))) ∧ ∀ n ∈ zs, (Lit.int k n).wf = true

theorem IsRow.ints {w : World} {a : Option Addr} {len cap : Nat} {zs : List Int} (h : IsRow .i64 w a len cap zs) : len = (zs.take len).length ∧ len ≤ maxLen ∧ IntsAt w w.heap.size a (zs.take len) ∧ ∀ n ∈ zs.take len, (Lit.int .i64 n).wf = true := by
  rcases h with ⟨rfl, rfl, rfl, rfl⟩ | ⟨x, rfl, hl, hm, hz, hc, hw⟩
  · exact ⟨rfl, Nat.zero_le _, IntsAt.nil _ _ _, by simp⟩
  · have e : len = (zs.take len).length := by rw [List.length_take]; omega
    refine ⟨e, by omega, fun i hi => ?_, fun n hn => hw n (List.mem_of_mem_take hn)⟩
    have hi2 : i < zs.length := by omega
    obtain ⟨b, off, rfl, hcc⟩ := ints_at hc (by omega)
    have h1 := hcc i hi2
    refine ⟨b, off, rfl, World.block_lt_of_cell? w _ h1, h1.trans ?_⟩
    simp [List.getD, List.getElem?_eq_getElem hi2]

/-- The slice at A holds the texts ss, in blocks below B. -/
def StrsAt (w : World) (B : Nat) (A : Option Addr) (ss : List ByteArray) : Prop :=
  ∀ i (h : i < ss.length), ∃ b off, A = some ⟨b, off, none⟩ ∧ b < B ∧ w.cell? ⟨b, off + i, none⟩ = some (.string ss[i])

theorem StrsAt.below {w w' : World} {B B' : Nat} {A : Option Addr} {ss : List ByteArray} (h : StrsAt w B A ss) (hb : Below B' w w') (hB : B ≤ B') : StrsAt w' B A ss := fun i hi => by
  obtain ⟨b, off, e, hlt, hc⟩ := h i hi
  exact ⟨b, off, e, hlt, (hb.cell (p := ⟨b, off + i, none⟩) (by show b < B'; omega)).trans hc⟩

theorem StrsAt.more {w : World} {B B' : Nat} {A : Option Addr} {ss : List ByteArray} (h : StrsAt w B A ss) (hB : B ≤ B') : StrsAt w B' A ss := fun i hi => by
  obtain ⟨b, off, e, hlt, hc⟩ := h i hi
  exact ⟨b, off, e, by omega, hc⟩

theorem StrsAt.nil (w : World) (B : Nat) (A : Option Addr) : StrsAt w B A [] := fun _ hi => absurd hi (Nat.not_lt_zero _)

theorem StrsAt.new (w : World) (ss : List ByteArray) (t : TypeId) : StrsAt (w.alloc (.cells (ss.map Value.string).toArray t)) (w.heap.size + 1) (some ⟨w.heap.size, 0, none⟩) ss := fun i hi => by
  have hb := World.alloc_heap_new w (.cells (ss.map Value.string).toArray t)
  refine ⟨w.heap.size, 0, rfl, by omega, ?_⟩
  simp only [World.cell?, hb]
  simp [hi]

theorem gets_below {w W w1 : World} {e : TypeId} {v : Value} {k : Nat} {xs : List Value} {tmp : Obj} (hB : Below w.heap.size w W) (hown : W.ownsRow w.heap.size e 1 v k xs) (hg : (W.alloc tmp).grownBy w1 v.ownBlock) : Below w.heap.size w w1 :=
  (hB.alloc hB.size tmp).grown hg (by have := hB.size; simp; omega) (fun j ej => (hown.lt j ej).1)

theorem owns_below {w W : World} {base : Nat} {e : TypeId} {size : Nat} {v : Value} {k : Nat} {xs : List Value} (h : w.ownsRow base e size v k xs) (hb : Below w.heap.size w W) : W.ownsRow base e size v k xs :=
  h.kept (row := none) ⟨hb.os, hb.tape, hb.output, hb.size, fun i hi _ => hb.block i hi⟩ (by cases v.ownBlock <;> simp)

theorem retb {a b : Bool} (h : a = b) : Ending.returned (.bool a) = .returned (.bool b) := by rw [h]
theorem below_new (w : World) (o : Obj) : Below w.heap.size w (w.alloc o) := (Below.refl _ _).alloc (Nat.le_refl _) _
theorem below_new2 (w : World) (o o' : Obj) : Below w.heap.size w ((w.alloc o).alloc o') := (below_new w o).alloc (by simp) _
theorem below_new3 (w : World) (o o' o2 : Obj) : Below w.heap.size w (((w.alloc o).alloc o').alloc o2) := (below_new2 w o o').alloc (by simp; omega) _
theorem below_undrew {a b : World} (h : Below a.drew.heap.size a.drew b) : Below a.heap.size a b := ⟨h.os, h.tape, h.output, h.size, h.block⟩
theorem IntsAt.two (w : World) (a b : Int) (t : TypeId) : IntsAt (w.alloc (.cells #[.int .i64 a, .int .i64 b] t)) (w.heap.size + 1) (some ⟨w.heap.size, 0, none⟩) [a, b] := fun i hi => by
  have hb := World.alloc_heap_new w (.cells #[.int .i64 a, .int .i64 b] t)
  refine ⟨w.heap.size, 0, rfl, by omega, ?_⟩
  simp only [World.cell?, hb]
  match i, hi with
  | 0, _ => rfl
  | 1, _ => rfl
theorem IntsAt.on {w w' : World} {A : Option Addr} {zs : List Int} (h : IntsAt w w.heap.size A zs) (hb : Below w.heap.size w w') : IntsAt w' w'.heap.size A zs := (h.below hb (Nat.le_refl _)).more hb.size
theorem grown_refl (w : World) (row : Option Nat) : w.grownBy w row := ⟨rfl, rfl, rfl, Nat.le_refl _, fun _ _ _ => rfl⟩
theorem ownsRow_some {w : World} {base n : Nat} {e : TypeId} {size : Nat} {v : Value} {xs : List Value} (h : w.ownsRow base e size v n xs) (hn : 1 ≤ n) : ∃ g cap, v = .slice (some ⟨g, 0, none⟩) n cap := by
  rcases h.2 with ⟨_, h0⟩ | ⟨g, cap, cur, hv, _⟩
  · omega
  · exact ⟨g, cap, hv⟩
theorem owns_lower {w : World} {base base' : Nat} {e : TypeId} {size : Nat} {v : Value} {n : Nat} {xs : List Value} (h : w.ownsRow base e size v n xs) (hb : base' ≤ base) : w.ownsRow base' e size v n xs := by
  refine ⟨h.1, ?_⟩
  rcases h.2 with h0 | ⟨g, cap, cur, h1, h2, h3⟩
  · exact Or.inl h0
  · exact Or.inr ⟨g, cap, cur, h1, Nat.le_trans hb h2, h3⟩

theorem below_setRow {B : Nat} {w w' : World} (h : Below B w w') {g : Nat} (hg : B ≤ g) (cs : Array Value) : Below B w (w'.setRow g cs) :=
  ⟨h.os, h.tape, h.output, by simp; exact h.size, fun i hi => (setRow_other w' g i cs (by omega)).trans (h.block i hi)⟩
theorem grown_setRow (w : World) (g : Nat) (cs : Array Value) : w.grownBy (w.setRow g cs) (some g) :=
  ⟨rfl, rfl, rfl, by simp, fun k _ hne => setRow_other w g k cs (fun e => hne (by rw [e]))⟩

end Go.Proofs.YtlnchfnmpamliaaGreat

namespace Go.Proofs.YtlnchfnmpamliaaGreat
set_option maxRecDepth 10000
open Go.RowKit

/-- A file: how many bytes at most, the kept ones, the loose ones. -/
structure Fil where
  most : Int
  kept : ByteArray
  loose : ByteArray

/-- A file's cells. -/
def filV (f : Fil) : Array Value := #[.int .i64 f.most, .string f.kept, .string f.loose]
def Fil.v (f : Fil) : Value := .agg (filV f)
theorem fil_one (f : Fil) : (filV f).all (·.oneCell') = true := by simp [filV, Value.oneCell']
/-- No file. -/
def Fi.no : Fil := ⟨0, ⟨#[]⟩, ⟨#[]⟩⟩
def Fi.is (f : Fil) : Bool := decide (1 ≤ f.most ∧ f.most ≤ 4000 ∧ (f.kept.size : Int) + f.loose.size ≤ f.most)
def Fi.read (f : Fil) : ByteArray := f.kept ++ f.loose
def Fi.newE (n : Int) : Int := if 1 ≤ n ∧ n ≤ 4000 then 0 else 1
def Fi.new (n : Int) : Fil := if 1 ≤ n ∧ n ≤ 4000 then ⟨n, ⟨#[]⟩, ⟨#[]⟩⟩ else Fi.no
def Fi.badE (f : Fil) : Int := if Fi.is f then 0 else 1
def Fi.sync (f : Fil) : Fil := if Fi.is f then ⟨f.most, Fi.read f, ⟨#[]⟩⟩ else Fi.no
/-- How many loose bytes a crash leaves. -/
def Fi.many (f : Fil) (n : Int) : Nat := min n.toNat f.loose.size
def Fi.crash (f : Fil) (n : Int) : Fil := if Fi.is f then ⟨f.most, f.kept ++ f.loose.extract 0 (Fi.many f n), ⟨#[]⟩⟩ else Fi.no
def Fi.cutOk (f : Fil) (n : Int) : Bool := Fi.is f && decide (0 ≤ n ∧ n ≤ (f.kept.size : Int) + f.loose.size)
def Fi.cut (f : Fil) (n : Int) : Fil := if Fi.cutOk f n then ⟨f.most, (Fi.read f).extract 0 n.toNat, ⟨#[]⟩⟩ else Fi.no
def Fi.cutE (f : Fil) (n : Int) : Int := if Fi.cutOk f n then 0 else 1
/-- All parts, one behind the other. -/
def Fi.all (ss : List ByteArray) : ByteArray := strOf (ss.map bl).flatten
def Fi.addE (f : Fil) (ss : List ByteArray) : Int := if Fi.is f then (if (f.kept.size : Int) + f.loose.size + (Fi.all ss).size ≤ f.most then 0 else 81) else 1
def Fi.add (f : Fil) (ss : List ByteArray) : Fil := if Fi.addE f ss = 0 then ⟨f.most, f.kept, f.loose ++ Fi.all ss⟩ else Fi.no
/-- As many bytes as are looked at. -/
def Fi.small (f : Fil) : Prop := f.kept.size ≤ 9000 ∧ f.loose.size ≤ 9000

theorem Fi.read_size (f : Fil) : (Fi.read f).size = f.kept.size + f.loose.size := by unfold Fi.read; exact ByteArray.size_append
theorem Fi.all_nil : Fi.all [] = ⟨#[]⟩ := rfl
theorem Fi.all_snoc (ss : List ByteArray) (s : ByteArray) : Fi.all (ss ++ [s]) = Fi.all ss ++ s := by
  unfold Fi.all; rw [List.map_append, List.flatten_append, strOf_append]; simp
theorem Fi.all_append (ss ts : List ByteArray) : Fi.all (ss ++ ts) = Fi.all ss ++ Fi.all ts := by
  unfold Fi.all; rw [List.map_append, List.flatten_append, strs_append]
theorem Fi.all_size_snoc (ss : List ByteArray) (s : ByteArray) : (Fi.all (ss ++ [s])).size = (Fi.all ss).size + s.size := by rw [Fi.all_snoc, ByteArray.size_append]
theorem Fi.all_take_le (ss : List ByteArray) (k : Nat) : (Fi.all (ss.take k)).size ≤ (Fi.all ss).size := by
  conv => rhs; rw [← List.take_append_drop k ss]
  rw [Fi.all_append, ByteArray.size_append]; omega
theorem ba_nil (s : ByteArray) : s ++ (⟨#[]⟩ : ByteArray) = s := by apply bl_inj; rw [bl_append]; show bl s ++ [] = _; simp
theorem ba_assoc (a b c : ByteArray) : a ++ b ++ c = a ++ (b ++ c) := by apply bl_inj; simp [bl_append]
theorem ba_extract0 (s : ByteArray) : s.extract 0 0 = ⟨#[]⟩ := by apply bl_inj; rw [bl_extract_to _ _ (Nat.zero_le _)]; rfl
theorem ba_extract_all (s : ByteArray) : s.extract 0 s.size = s := by apply bl_inj; rw [bl_extract_to _ _ (Nat.le_refl _)]; show (bl s).take (bl s).length = _; simp
theorem Fi.no_read : Fi.read Fi.no = ⟨#[]⟩ := by unfold Fi.read Fi.no; exact ba_nil _
theorem Fi.is_small {f : Fil} (h : Fi.is f = true) : 1 ≤ f.most ∧ f.most ≤ 4000 ∧ (f.kept.size : Int) + f.loose.size ≤ f.most := of_decide_eq_true h
end Go.Proofs.YtlnchfnmpamliaaGreat

namespace Go.Proofs.YtlnchfnmpamliaaGreat
set_option maxRecDepth 10000
open Go.RowKit
namespace Rc

def numsOk (n : Int) (k : Nat) : Bool := decide (k = 0 ∨ (0 ≤ n ∧ n + k ≤ 1000000001))
def shorts (ss : List ByteArray) : Bool := ss.all (fun s => decide (s.size ≤ 1000))
def addE (f : Fil) (n : Int) (ss : List ByteArray) : Int :=
  if Fi.is f = true then if numsOk n ss.length = true then if shorts ss = true then (if (f.kept.size : Int) + f.loose.size + ((recs n (ss.map bl)).length : Nat) ≤ f.most then 0 else 81) else 2 else 1 else 1
def add (f : Fil) (n : Int) (ss : List ByteArray) : Fil := if addE f n ss = 0 then ⟨f.most, f.kept, f.loose ++ strOf (recs n (ss.map bl))⟩ else Fi.no
def sc (f : Fil) (n : Int) : List (List UInt8) × Nat := scan (bl (Fi.read f)) n
def texts (f : Fil) (n : Int) : List ByteArray := if Fi.is f = true then (sc f n).1.map strOf else []
def mend (f : Fil) (n : Int) : Fil := if Fi.is f = true then ⟨f.most, strOf (recs n (sc f n).1), ⟨#[]⟩⟩ else Fi.no

theorem ok_iff (n : Int) (ss : List ByteArray) : okAll n (ss.map bl) ↔ numsOk n ss.length = true ∧ shorts ss = true := by
  rw [okAll_iff]
  unfold numsOk shorts
  rw [decide_eq_true_iff, List.all_eq_true]
  constructor
  · rintro ⟨h1, h2⟩
    refine ⟨?_, fun s hs => decide_eq_true (by have := h2 (bl s) (List.mem_map_of_mem hs); rw [bl_length] at this; exact this)⟩
    rcases h1 with h1 | h1
    · exact .inl (by simpa using h1)
    · exact .inr (by simpa using h1)
  · rintro ⟨h1, h2⟩
    refine ⟨?_, fun t ht => ?_⟩
    · rcases h1 with h1 | h1
      · exact .inl (by simpa using h1)
      · exact .inr (by simpa using h1)
    · obtain ⟨s, hs, rfl⟩ := List.mem_map.1 ht
      rw [bl_length]; exact of_decide_eq_true (h2 s hs)
theorem addE_zero {f : Fil} {n : Int} {ss : List ByteArray} : addE f n ss = 0 ↔ Fi.is f = true ∧ okAll n (ss.map bl) ∧ (f.kept.size : Int) + f.loose.size + ((recs n (ss.map bl)).length : Nat) ≤ f.most := by
  rw [ok_iff]
  unfold addE
  constructor
  · intro h
    split at h
    · rename_i h1
      split at h
      · rename_i h2
        split at h
        · rename_i h3
          split at h
          · rename_i h4; exact ⟨h1, ⟨h2, h3⟩, h4⟩
          · cases h
        · cases h
      · cases h
    · cases h
  · rintro ⟨h1, ⟨h2, h3⟩, h4⟩; rw [if_pos h1, if_pos h2, if_pos h3, if_pos h4]
theorem add_ok {f : Fil} {n : Int} {ss : List ByteArray} (h : addE f n ss = 0) : add f n ss = ⟨f.most, f.kept, f.loose ++ strOf (recs n (ss.map bl))⟩ := by unfold add; rw [if_pos h]
theorem add_bad {f : Fil} {n : Int} {ss : List ByteArray} (h : addE f n ss ≠ 0) : add f n ss = Fi.no := by unfold add; rw [if_neg h]
theorem strOf_size (t : List UInt8) : (strOf t).size = t.length := by rw [← bl_length, bl_strOf]
theorem add_read {f : Fil} {n : Int} {ss : List ByteArray} (h : addE f n ss = 0) : bl (Fi.read (add f n ss)) = bl (Fi.read f) ++ recs n (ss.map bl) := by
  rw [add_ok h]; unfold Fi.read; simp only; rw [bl_append, bl_append, bl_append, bl_strOf, List.append_assoc]
theorem add_is {f : Fil} {n : Int} {ss : List ByteArray} (h : addE f n ss = 0) : Fi.is (add f n ss) = true := by
  obtain ⟨h1, _, h3⟩ := addE_zero.1 h
  have := Fi.is_small h1
  rw [add_ok h]; unfold Fi.is; rw [decide_eq_true_iff]; simp only
  rw [ByteArray.size_append, strOf_size]; omega
theorem no_small : Fi.small Fi.no := ⟨Nat.zero_le _, Nat.zero_le _⟩
theorem is_small9 {f : Fil} (h : Fi.is f = true) : Fi.small f := by have := Fi.is_small h; unfold Fi.small; omega
theorem add_small (f : Fil) (n : Int) (ss : List ByteArray) : Fi.small (add f n ss) := by
  by_cases h : addE f n ss = 0
  · exact is_small9 (add_is h)
  · rw [add_bad h]; exact no_small
theorem mend_yes {f : Fil} (h : Fi.is f = true) (n : Int) : mend f n = ⟨f.most, strOf (recs n (sc f n).1), ⟨#[]⟩⟩ := by unfold mend; rw [if_pos h]
theorem sc_le (f : Fil) (n : Int) : (sc f n).2 ≤ f.kept.size + f.loose.size := by
  have := scan_le (bl (Fi.read f)) n
  rw [bl_length, Fi.read_size] at this; exact this
theorem sc_len (f : Fil) (n : Int) : (sc f n).2 = (recs n (sc f n).1).length := (scan_split (bl (Fi.read f)) n).2.1
theorem mend_cut {f : Fil} (h : Fi.is f = true) (n : Int) : mend f n = Fi.cut f ((sc f n).2 : Nat) ∧ Fi.cutE f ((sc f n).2 : Nat) = 0 := by
  have hl := sc_le f n
  have hc : Fi.cutOk f ((sc f n).2 : Nat) = true := by unfold Fi.cutOk; rw [h, Bool.true_and, decide_eq_true_iff]; omega
  unfold Fi.cut Fi.cutE
  rw [if_pos hc, if_pos hc, mend_yes h]
  refine ⟨?_, rfl⟩
  congr 1
  apply bl_inj
  have h1 : (sc f n).2 ≤ (Fi.read f).size := by rw [Fi.read_size]; exact hl
  rw [bl_strOf, Int.toNat_natCast, bl_extract_to _ _ h1]
  exact (scan_take (bl (Fi.read f)) n).symm
theorem mend_is {f : Fil} (h : Fi.is f = true) (n : Int) : Fi.is (mend f n) = true := by
  have h1 := Fi.is_small h
  have h2 := sc_le f n
  have h3 := sc_len f n
  rw [mend_yes h]; unfold Fi.is; rw [decide_eq_true_iff]; simp only
  rw [strOf_size]; show 1 ≤ f.most ∧ f.most ≤ 4000 ∧ ((recs n (sc f n).1).length : Int) + (0 : Nat) ≤ f.most
  omega
theorem mend_read {f : Fil} (h : Fi.is f = true) (n : Int) : Fi.read (mend f n) = strOf (recs n (sc f n).1) := by
  rw [mend_yes h]; unfold Fi.read; exact ba_nil _
/-- What is mended is read as it was. -/
theorem mend_sc {f : Fil} (h : Fi.is f = true) (n : Int) : sc (mend f n) n = sc f n := by
  have h1 := scan_mended (bl (Fi.read f)) n
  rw [scan_take] at h1
  unfold sc
  rw [mend_read h, bl_strOf]
  exact h1
theorem mend_texts {f : Fil} (h : Fi.is f = true) (n : Int) : texts (mend f n) n = texts f n := by
  unfold texts; rw [if_pos (mend_is h n), if_pos h, mend_sc h]
theorem mend_again {f : Fil} (h : Fi.is f = true) (n : Int) : mend (mend f n) n = mend f n := by
  rw [mend_yes (mend_is h n), mend_sc h, mend_yes h]
theorem mend_small (f : Fil) (n : Int) : Fi.small (mend f n) := by
  by_cases h : Fi.is f = true
  · exact is_small9 (mend_is h n)
  · unfold mend; rw [if_neg h]; exact no_small
theorem texts_no {f : Fil} (h : Fi.is f = false) (n : Int) : texts f n = [] := by unfold texts; rw [h]; rfl
theorem texts_yes {f : Fil} (h : Fi.is f = true) (n : Int) : texts f n = (sc f n).1.map strOf := by unfold texts; rw [if_pos h]
theorem map_back (ss : List ByteArray) : (ss.map bl).map strOf = ss := by
  rw [List.map_map]
  conv => rhs; rw [← List.map_id ss]
  apply List.map_congr_left
  intro s _; exact strOf_bl s

/-- Another number's record is none. -/
theorem one_other {n first : Int} {t : List UInt8} (h : nOk n = true) (h2 : t.length ≤ 1000) (hne : first ≠ n) (r : List UInt8) : one (rec1 n t ++ r) first = none := by
  cases hh : one (rec1 n t ++ r) first with
  | none => rfl
  | some x =>
    obtain ⟨t', r'⟩ := x
    obtain ⟨g1, g2, g3⟩ := one_ok hh
    have e1 := get_rec h h2 r
    have e2 := get_rec g1 g2 r'
    rw [g3, e2] at e1
    have e3 : Wm.lay first ++ t' = Wm.lay n ++ t := by simp only [Prod.mk.injEq] at e1; exact e1.2.1
    have e4 := Wm.getInt_lay (fits_n g1) t'
    have e5 := Wm.getInt_lay (fits_n h) t
    rw [e3, e5] at e4
    simp only [Prod.mk.injEq] at e4
    exact absurd e4.1.symm hne
theorem scan_other {n first : Int} {t : List UInt8} (h : nOk n = true) (h2 : t.length ≤ 1000) (hne : first ≠ n) (r : List UInt8) : scan (rec1 n t ++ r) first = ([], 0) := scan_no (one_other h h2 hne r)

/-! ### the document's rows, reckoned -/
def ab : List ByteArray := [⟨#[97]⟩, ⟨#[98]⟩]
def r0 : Fil := ⟨100, ⟨#[]⟩, ⟨#[]⟩⟩
def r1 : Fil := add r0 5 ab
def r2 : Fil := Fi.crash r1 (((Fi.read r1).size : Int) - 1)
def r3 : Fil := mend r2 5
theorem ok_ab : okAll 5 (ab.map bl) := (ok_iff 5 ab).2 ⟨by decide, by decide⟩
theorem rec1_le {n : Int} (h : nOk n = true) {t : List UInt8} (h2 : t.length ≤ 1000) : (rec1 n t).length ≤ t.length + 20 := by
  have h3 := lay_short h
  have h4 : (Wm.lay 1).length ≤ 5 := lay_short (by decide)
  have h5 : (Wm.lay ((Wm.lay n ++ t).length : Int)).length ≤ 5 := lay_short (nOk_iff.2 (by have := body_short h h2; omega))
  have h6 : (Wm.lay ((Sm.ofL (Fm.ahead 1 (Wm.lay n ++ t)) : Nat) : Int)).length ≤ 5 := lay_short (nOk_iff.2 (by have := Sm.ofL_lt (Fm.ahead 1 (Wm.lay n ++ t)); omega))
  unfold rec1 Fm.frame Fm.ahead Fm.textL
  unfold Fm.ahead Fm.textL at h6
  simp only [List.length_append] at h3 h4 h5 h6 ⊢
  omega
theorem len_ab : (recs 5 (ab.map bl)).length ≤ 42 := by
  have h1 := rec1_le (n := 5) (by decide) (t := [97]) (by decide)
  have h2 := rec1_le (n := 6) (by decide) (t := [98]) (by decide)
  show (rec1 5 [97] ++ (rec1 6 [98] ++ [])).length ≤ 42
  simp only [List.length_append, List.length_nil] at *
  simp only [List.length_cons, List.length_nil] at h1 h2
  omega
theorem r1_ok : addE r0 5 ab = 0 := addE_zero.2 ⟨by decide, ok_ab, by
  have := len_ab
  show (0 : Int) + 0 + ((recs 5 (ab.map bl)).length : Nat) ≤ 100
  omega⟩
theorem r1_is : Fi.is r1 = true := add_is r1_ok
theorem r1_read : bl (Fi.read r1) = recs 5 (ab.map bl) := add_read r1_ok
theorem r1_size : (Fi.read r1).size = (recs 5 (ab.map bl)).length := by rw [← bl_length, r1_read]
theorem r1_texts5 : texts r1 5 = ab := by
  rw [texts_yes r1_is]; unfold sc; rw [r1_read, scan_whole ok_ab]; exact map_back ab
theorem r1_texts4 : texts r1 4 = [] := by
  rw [texts_yes r1_is]; unfold sc; rw [r1_read]
  show (scan (rec1 5 [97] ++ (rec1 6 [98] ++ [])) 4).1.map strOf = []
  rw [scan_other (by decide) (by decide) (by decide)]; rfl
theorem r2_is : Fi.is r2 = true := by
  have h := Fi.is_small r1_is
  have hq : Fi.many r1 (((Fi.read r1).size : Int) - 1) ≤ r1.loose.size := by unfold Fi.many; exact Nat.min_le_right _ _
  unfold r2 Fi.crash
  rw [if_pos r1_is]
  unfold Fi.is
  rw [decide_eq_true_iff]
  simp only
  rw [ByteArray.size_append, ByteArray.size_extract]
  show 1 ≤ r1.most ∧ r1.most ≤ 4000 ∧ ((r1.kept.size + (min (Fi.many r1 (((Fi.read r1).size : Int) - 1)) r1.loose.size - 0) : Nat) : Int) + (0 : Nat) ≤ r1.most
  omega
theorem r2_read : bl (Fi.read r2) = (recs 5 (ab.map bl)).take ((recs 5 (ab.map bl)).length - 1) := by
  have e1 : r1 = ⟨100, ⟨#[]⟩, ⟨#[]⟩ ++ strOf (recs 5 (ab.map bl))⟩ := add_ok r1_ok
  have e0 : (⟨#[]⟩ : ByteArray) ++ strOf (recs 5 (ab.map bl)) = strOf (recs 5 (ab.map bl)) := by apply bl_inj; rw [bl_append]; rfl
  rw [e0] at e1
  have hs := r1_size
  have hm : Fi.many r1 (((Fi.read r1).size : Int) - 1) = (recs 5 (ab.map bl)).length - 1 := by
    unfold Fi.many; rw [hs]
    have : r1.loose.size = (recs 5 (ab.map bl)).length := by rw [e1]; exact strOf_size _
    rw [this]; omega
  unfold r2 Fi.crash
  rw [if_pos r1_is, hm]
  unfold Fi.read
  simp only
  rw [bl_append, bl_append, e1]
  simp only
  rw [bl_extract_to _ _ (by rw [strOf_size]; omega), bl_strOf]
  show [] ++ _ ++ [] = _
  simp
theorem r2_sc : sc r2 5 = ([[97]], (rec1 5 [97]).length) := by
  have hp := rec_pos 6 [98]
  obtain ⟨j, hj, hs, hi⟩ := scan_cut ok_ab ((recs 5 (ab.map bl)).length - 1)
  unfold sc
  rw [r2_read, hs]
  have e : recs 5 (ab.map bl) = rec1 5 [97] ++ (rec1 6 [98] ++ []) := rfl
  have hl : (recs 5 (ab.map bl)).length = (rec1 5 [97]).length + (rec1 6 [98]).length := by rw [e]; simp
  have h1 : 1 ≤ j := hi 1 (by decide) (by
    show (rec1 5 [97] ++ []).length ≤ _
    rw [List.append_nil, hl]; omega)
  have h2 : j < 2 := by
    refine Nat.lt_of_not_le fun h2 => ?_
    have h3 : j = 2 := by have : (ab.map bl).length = 2 := rfl; omega
    subst h3
    have h4 := scan_le ((recs 5 (ab.map bl)).take ((recs 5 (ab.map bl)).length - 1)) 5
    rw [hs, List.length_take] at h4
    have h5 : (recs 5 ((ab.map bl).take 2)).length = (recs 5 (ab.map bl)).length := rfl
    simp only at h4
    omega
  obtain rfl : j = 1 := by omega
  have e1 : (ab.map bl).take 1 = [[97]] := rfl
  rw [e1]
  have e2 : recs 5 [[97]] = rec1 5 [97] := List.append_nil _
  rw [e2]
theorem r2_texts : texts r2 5 = [⟨#[97]⟩] := by rw [texts_yes r2_is, r2_sc]; rfl
theorem r3_less : (Fi.read r3).size < (Fi.read r2).size := by
  have hp := rec_pos 6 [98]
  have hl : (recs 5 (ab.map bl)).length = (rec1 5 [97]).length + (rec1 6 [98]).length := by
    have e : recs 5 (ab.map bl) = rec1 5 [97] ++ (rec1 6 [98] ++ []) := rfl
    rw [e]; simp
  have h1 : (Fi.read r3).size = (rec1 5 [97]).length := by
    unfold r3; rw [mend_read r2_is, r2_sc, strOf_size]
    show (rec1 5 [97] ++ []).length = _
    rw [List.append_nil]
  have h2 : (Fi.read r2).size = (recs 5 (ab.map bl)).length - 1 := by
    rw [← bl_length, r2_read, List.length_take]; omega
  have h3 : 1 < (rec1 6 [98]).length := by
    have := Fm.lay_pos 1
    unfold rec1 Fm.frame Fm.ahead Fm.textL
    simp only [List.length_append, List.length_cons]
    have := Fm.lay_pos 6
    omega
  rw [h1, h2]; omega
end Rc
end Go.Proofs.YtlnchfnmpamliaaGreat

namespace Go.Proofs.YtlnchfnmpamliaaGreat
set_option maxRecDepth 10000
open Go.RowKit

/-- A log: the files' size, the first number, the files. -/
structure Seg where
  sz : Int
  fi : Int
  fs : List Fil
namespace Sg
/-- Are the files right: of this size, only the last one with loose bytes? -/
def okF (sz : Int) : List Fil → Bool
  | [] => true
  | [f] => Fi.is f && decide (f.most = sz)
  | f :: g :: r => (Fi.is f && decide (f.most = sz) && decide (f.loose.size = 0)) && okF sz (g :: r)
def is (s : Seg) : Bool := decide ((20 ≤ s.sz ∧ s.sz ≤ 4000) ∧ (0 ≤ s.fi ∧ s.fi ≤ 900000000) ∧ 1 ≤ s.fs.length ∧ s.fs.length ≤ 20) && okF s.sz s.fs
def no : Seg := ⟨0, 0, []⟩
def badE (s : Seg) : Int := if is s = true then 0 else 1
/-- What a file's bytes tell from a number on. -/
def sc (f : Fil) (n : Int) : List (List UInt8) × Nat := Rc.scan (bl (Fi.read f)) n
/-- Are all of them records'? -/
def whole (f : Fil) (n : Int) : Bool := decide ((sc f n).2 = (Fi.read f).size)
/-- The records' texts, and whether all bytes of all files are records'. -/
def rd : List Fil → Int → List (List UInt8) × Bool
  | [], _ => ([], true)
  | f :: r, n => if whole f n = true then ((sc f n).1 ++ (rd r (n + (sc f n).1.length)).1, (rd r (n + (sc f n).1.length)).2) else ((sc f n).1, false)
def texts (s : Seg) : List ByteArray := if is s = true then (rd s.fs s.fi).1.map strOf else []
def newS (sz n : Int) : Seg := ⟨sz, n, [⟨sz, ⟨#[]⟩, ⟨#[]⟩⟩]⟩
def new (sz n : Int) : Seg := if is (newS sz n) = true then newS sz n else no
def newE (sz n : Int) : Int := if is (newS sz n) = true then 0 else 1
/-- The last file is another one. -/
def onLast (g : Fil → Fil) : List Fil → List Fil
  | [] => []
  | [f] => [g f]
  | f :: h :: r => f :: onLast g (h :: r)
def lastF : List Fil → Fil
  | [] => Fi.no
  | [f] => f
  | _ :: h :: r => lastF (h :: r)
def sync (s : Seg) : Seg := if is s = true then ⟨s.sz, s.fi, onLast Fi.sync s.fs⟩ else no
def crash (s : Seg) (n : Int) : Seg := if is s = true then ⟨s.sz, s.fi, onLast (fun f => Fi.crash f n) s.fs⟩ else no
def mendL : List Fil → Int → List Fil
  | [], _ => []
  | f :: r, n => if whole f n = true then f :: mendL r (n + (sc f n).1.length) else [Rc.mend f n]
def mend (s : Seg) : Seg := if is s = true then ⟨s.sz, s.fi, mendL s.fs s.fi⟩ else no
def dropL (upto : Int) : List Fil → Int → Int × List Fil
  | [], n => (n, [])
  | [f], n => (n, [f])
  | f :: g :: r, n => if whole f n = true ∧ n + (sc f n).1.length ≤ upto ∧ n + (sc f n).1.length ≤ 900000000 then dropL upto (g :: r) (n + (sc f n).1.length) else (n, f :: g :: r)
def drop (s : Seg) (upto : Int) : Seg := if is s = true then ⟨s.sz, (dropL upto s.fs s.fi).1, (dropL upto s.fs s.fi).2⟩ else no
/-- One more record: the log, the error. -/
def oneE (s : Seg) (t : List UInt8) : Int :=
  if (rd s.fs s.fi).2 = true then
    if Rc.putE (s.fi + (rd s.fs s.fi).1.length) t = 0 then
      if s.sz < (Rc.rec1 (s.fi + (rd s.fs s.fi).1.length) t).length then 2
      else if ((Fi.read (lastF s.fs)).size : Int) + (Rc.rec1 (s.fi + (rd s.fs s.fi).1.length) t).length ≤ s.sz then 0
      else if 20 ≤ s.fs.length then 81 else 0
    else Rc.putE (s.fi + (rd s.fs s.fi).1.length) t
  else 1
def oneF (s : Seg) (r : List UInt8) : List Fil :=
  if ((Fi.read (lastF s.fs)).size : Int) + r.length ≤ s.sz then onLast (fun f => ⟨f.most, f.kept, f.loose ++ strOf r⟩) s.fs
  else onLast Fi.sync s.fs ++ [⟨s.sz, ⟨#[]⟩, strOf r⟩]
def one (s : Seg) (t : List UInt8) : Seg := if oneE s t = 0 then ⟨s.sz, s.fi, oneF s (Rc.rec1 (s.fi + (rd s.fs s.fi).1.length) t)⟩ else no
def go : Seg → List (List UInt8) → Seg × Int
  | s, [] => (s, 0)
  | s, t :: r => if oneE s t = 0 then go (one s t) r else (no, oneE s t)
def addE (s : Seg) (l : List ByteArray) : Int := if is s = true then if (rd s.fs s.fi).2 = true then (go s (l.map bl)).2 else 1 else 1
def add (s : Seg) (l : List ByteArray) : Seg := if addE s l = 0 then (go s (l.map bl)).1 else no

/-! ### files and their reading -/
theorem onLast_len (g : Fil → Fil) : ∀ fs : List Fil, (onLast g fs).length = fs.length
  | [] => rfl
  | [_] => rfl
  | f :: h :: r => by rw [onLast, List.length_cons, onLast_len g (h :: r)]; rfl
/-- All but the last one, and it. -/
theorem split_last : ∀ fs : List Fil, fs ≠ [] → ∃ a, fs = a ++ [lastF fs]
  | [], h => absurd rfl h
  | [f], _ => ⟨[], rfl⟩
  | f :: h :: r, _ => by
    obtain ⟨a, ha⟩ := split_last (h :: r) (by simp)
    exact ⟨f :: a, by rw [lastF, List.cons_append, ← ha]⟩
theorem onLast_split (g : Fil → Fil) (a : List Fil) (f : Fil) : onLast g (a ++ [f]) = a ++ [g f] := by
  induction a with
  | nil => rfl
  | cons x a ih =>
    cases a with
    | nil => rfl
    | cons y a => rw [List.cons_append, List.cons_append, onLast, ← List.cons_append, ih]; rfl
theorem lastF_split (a : List Fil) (f : Fil) : lastF (a ++ [f]) = f := by
  induction a with
  | nil => rfl
  | cons x a ih =>
    cases a with
    | nil => rfl
    | cons y a => rw [List.cons_append, List.cons_append, lastF, ← List.cons_append, ih]
theorem okF_split (sz : Int) (a : List Fil) (f : Fil) : okF sz (a ++ [f]) = true ↔ (∀ x ∈ a, Fi.is x = true ∧ x.most = sz ∧ x.loose.size = 0) ∧ Fi.is f = true ∧ f.most = sz := by
  induction a with
  | nil => simp [okF]
  | cons x a ih =>
    cases a with
    | nil =>
      simp only [List.cons_append, List.nil_append, okF, Bool.and_eq_true, decide_eq_true_iff, List.mem_cons, List.not_mem_nil, or_false, forall_eq]
      constructor
      · rintro ⟨⟨⟨h1, h2⟩, h3⟩, h4, h5⟩; exact ⟨⟨h1, h2, h3⟩, h4, h5⟩
      · rintro ⟨⟨h1, h2, h3⟩, h4, h5⟩; exact ⟨⟨⟨h1, h2⟩, h3⟩, h4, h5⟩
    | cons y a =>
      have e : okF sz (x :: y :: a ++ [f]) = ((Fi.is x && decide (x.most = sz) && decide (x.loose.size = 0)) && okF sz (y :: a ++ [f])) := rfl
      rw [e, Bool.and_eq_true, ih]
      simp only [Bool.and_eq_true, decide_eq_true_iff, List.mem_cons, forall_eq_or_imp]
      constructor
      · rintro ⟨⟨⟨h1, h2⟩, h3⟩, ⟨h4, h5⟩, h6⟩; exact ⟨⟨⟨h1, h2, h3⟩, h4, h5⟩, h6⟩
      · rintro ⟨⟨⟨h1, h2, h3⟩, h4, h5⟩, h6⟩; exact ⟨⟨⟨h1, h2⟩, h3⟩, ⟨h4, h5⟩, h6⟩
theorem is_iff {s : Seg} : is s = true ↔ ((20 ≤ s.sz ∧ s.sz ≤ 4000) ∧ (0 ≤ s.fi ∧ s.fi ≤ 900000000) ∧ 1 ≤ s.fs.length ∧ s.fs.length ≤ 20) ∧ okF s.sz s.fs = true := by
  unfold is; rw [Bool.and_eq_true, decide_eq_true_iff]
/-- A right log: its files but the last one, and it. -/
theorem is_split {s : Seg} (h : is s = true) : ∃ a f, s.fs = a ++ [f] ∧ f = lastF s.fs ∧ (∀ x ∈ a, Fi.is x = true ∧ x.most = s.sz ∧ x.loose.size = 0) ∧ Fi.is f = true ∧ f.most = s.sz := by
  obtain ⟨h1, h2⟩ := is_iff.1 h
  obtain ⟨a, ha⟩ := split_last s.fs (by intro e; rw [e] at h1; simp at h1)
  rw [ha] at h2
  obtain ⟨h3, h4, h5⟩ := (okF_split _ _ _).1 h2
  exact ⟨a, lastF s.fs, ha, rfl, h3, h4, h5⟩
theorem rd_yes {f : Fil} {r : List Fil} {n : Int} (h : whole f n = true) : rd (f :: r) n = ((sc f n).1 ++ (rd r (n + (sc f n).1.length)).1, (rd r (n + (sc f n).1.length)).2) := by
  simp only [rd]; rw [if_pos h]
theorem rd_not {f : Fil} {r : List Fil} {n : Int} (h : ¬ whole f n = true) : rd (f :: r) n = ((sc f n).1, false) := by
  simp only [rd]; rw [if_neg h]
theorem rd_app (a b : List Fil) (n : Int) (h : (rd a n).2 = true) : rd (a ++ b) n = ((rd a n).1 ++ (rd b (n + (rd a n).1.length)).1, (rd b (n + (rd a n).1.length)).2) := by
  induction a generalizing n with
  | nil => simp [rd]
  | cons x a ih =>
    by_cases hw : whole x n = true
    · rw [rd_yes hw] at h ⊢
      simp only at h ⊢
      rw [List.cons_append, rd_yes hw, ih _ h]
      simp only [List.append_assoc, List.length_append]
      have e : n + ((sc x n).1.length : Int) + ((rd a (n + ((sc x n).1.length : Int))).1.length : Int) = n + (((sc x n).1.length + (rd a (n + ((sc x n).1.length : Int))).1.length : Nat) : Int) := by omega
      rw [e]
    · rw [rd_not hw] at h; cases h
theorem rd_app_no (a b : List Fil) (n : Int) (h : (rd a n).2 = false) : rd (a ++ b) n = rd a n := by
  induction a generalizing n with
  | nil => cases h
  | cons x a ih =>
    by_cases hw : whole x n = true
    · rw [rd_yes hw] at h
      rw [List.cons_append, rd_yes hw, rd_yes hw, ih _ h]
    · rw [List.cons_append, rd_not hw, rd_not hw]
theorem rd_one (f : Fil) (n : Int) : rd [f] n = ((sc f n).1, whole f n) := by
  simp only [rd]
  by_cases h : whole f n = true
  · rw [if_pos h, h]; simp
  · rw [if_neg h]; simp only [Bool.not_eq_true] at h; rw [h]
theorem whole_iff {f : Fil} {n : Int} : whole f n = true ↔ bl (Fi.read f) = Rc.recs n (sc f n).1 := by
  unfold whole
  rw [decide_eq_true_iff]
  obtain ⟨h1, h2, r, h3⟩ := Rc.scan_split (bl (Fi.read f)) n
  have e : (sc f n).1 = (Rc.scan (bl (Fi.read f)) n).1 := rfl
  have e2 : (sc f n).2 = (Rc.recs n (sc f n).1).length := h2
  rw [← e] at h3 h1
  constructor
  · intro h
    have h4 := congrArg List.length h3
    rw [List.length_append, bl_length, ← h, e2] at h4
    have : r = [] := List.eq_nil_of_length_eq_zero (by omega)
    rw [h3, this, List.append_nil]
  · intro h
    rw [e2, ← h, bl_length]
theorem sc_of {f : Fil} {n : Int} {ts : List (List UInt8)} (h : bl (Fi.read f) = Rc.recs n ts) (ho : Rc.okAll n ts) : sc f n = (ts, (Fi.read f).size) ∧ whole f n = true := by
  have e : sc f n = (ts, (Fi.read f).size) := by
    unfold sc; rw [h, Rc.scan_whole ho, ← h, bl_length]
  refine ⟨e, ?_⟩
  unfold whole; rw [e]; simp
theorem sc_ok (f : Fil) (n : Int) : Rc.okAll n (sc f n).1 := (Rc.scan_split (bl (Fi.read f)) n).1
/-- Two files of the same bytes tell the same. -/
theorem sc_same {f g : Fil} (h : Fi.read f = Fi.read g) (n : Int) : sc f n = sc g n ∧ whole f n = whole g n := by
  unfold sc whole sc; rw [h]; exact ⟨rfl, rfl⟩
theorem rd_onLast (g : Fil → Fil) (a : List Fil) (f : Fil) (h : Fi.read (g f) = Fi.read f) (n : Int) : rd (onLast g (a ++ [f])) n = rd (a ++ [f]) n := by
  rw [onLast_split]
  by_cases ha : (rd a n).2 = true
  · rw [rd_app _ _ _ ha, rd_app _ _ _ ha, rd_one, rd_one, (sc_same h _).1, (sc_same h _).2]
  · rw [Bool.not_eq_true] at ha
    rw [rd_app_no _ _ _ ha, rd_app_no _ _ _ ha]

/-! ### Sync -/
theorem sync_read {f : Fil} (h : Fi.is f = true) : Fi.read (Fi.sync f) = Fi.read f ∧ Fi.is (Fi.sync f) = true ∧ (Fi.sync f).most = f.most ∧ (Fi.sync f).loose.size = 0 := by
  have e : Fi.sync f = ⟨f.most, Fi.read f, ⟨#[]⟩⟩ := by unfold Fi.sync; rw [if_pos h]
  have h2 := Fi.is_small h
  rw [e]
  refine ⟨ba_nil _, ?_, rfl, rfl⟩
  unfold Fi.is; rw [decide_eq_true_iff]; simp only; rw [Fi.read_size]
  show 1 ≤ f.most ∧ f.most ≤ 4000 ∧ ((f.kept.size + f.loose.size : Nat) : Int) + (0 : Nat) ≤ f.most
  omega
theorem is_onLast {s : Seg} (h : is s = true) (g : Fil → Fil) (hg : ∀ f, Fi.is f = true → Fi.is (g f) = true ∧ (g f).most = f.most) : is ⟨s.sz, s.fi, onLast g s.fs⟩ = true := by
  obtain ⟨h1, _⟩ := is_iff.1 h
  obtain ⟨a, f, ha, _, h3, h4, h5⟩ := is_split h
  refine is_iff.2 ⟨?_, ?_⟩
  · simp only; rw [onLast_len]; exact h1
  · simp only; rw [ha, onLast_split, okF_split]
    exact ⟨h3, (hg f h4).1, (hg f h4).2.trans h5⟩
theorem sync_is {s : Seg} (h : is s = true) : sync s = ⟨s.sz, s.fi, onLast Fi.sync s.fs⟩ ∧ is (sync s) = true := by
  have e : sync s = ⟨s.sz, s.fi, onLast Fi.sync s.fs⟩ := by unfold sync; rw [if_pos h]
  refine ⟨e, ?_⟩
  rw [e]; exact is_onLast h _ (fun f hf => ⟨(sync_read hf).2.1, (sync_read hf).2.2.1⟩)
theorem sync_rd {s : Seg} (h : is s = true) : rd (sync s).fs (sync s).fi = rd s.fs s.fi := by
  obtain ⟨a, f, ha, _, _, h4, _⟩ := is_split h
  rw [(sync_is h).1, ha]; exact rd_onLast _ _ _ (sync_read h4).1 _
theorem sync_texts {s : Seg} (h : is s = true) : texts (sync s) = texts s := by
  unfold texts; rw [if_pos (sync_is h).2, if_pos h, sync_rd h]
theorem onLast_twice (g k : Fil → Fil) (a : List Fil) (f : Fil) (h : k (g f) = g f) : onLast k (onLast g (a ++ [f])) = onLast g (a ++ [f]) := by
  rw [onLast_split, onLast_split, h]
theorem fsync_yes {f : Fil} (h : Fi.is f = true) : Fi.sync f = ⟨f.most, Fi.read f, ⟨#[]⟩⟩ := by unfold Fi.sync; rw [if_pos h]
theorem file_sync_twice {f : Fil} (h : Fi.is f = true) : Fi.sync (Fi.sync f) = Fi.sync f ∧ ∀ n, Fi.crash (Fi.sync f) n = Fi.sync f := by
  have e := fsync_yes h
  have h2 := (sync_read h).2.1
  constructor
  · rw [fsync_yes h2, (sync_read h).1, (sync_read h).2.2.1]; exact e.symm
  · intro n
    rw [e] at h2 ⊢
    unfold Fi.crash
    rw [if_pos h2]
    have : (⟨#[]⟩ : ByteArray).extract 0 (Fi.many ⟨f.most, Fi.read f, ⟨#[]⟩⟩ n) = ⟨#[]⟩ := by
      have : Fi.many ⟨f.most, Fi.read f, ⟨#[]⟩⟩ n = 0 := by unfold Fi.many; simp only; exact Nat.min_zero _
      rw [this]; exact ba_extract0 _
    simp only
    rw [this, ba_nil]
theorem sync_twice {s : Seg} (h : is s = true) : sync (sync s) = sync s ∧ ∀ n, crash (sync s) n = sync s := by
  obtain ⟨e, hi⟩ := sync_is h
  obtain ⟨a, f, ha, _, _, h4, _⟩ := is_split h
  obtain ⟨t1, t2⟩ := file_sync_twice h4
  constructor
  · rw [(sync_is hi).1, e]; simp only
    rw [ha, onLast_twice _ _ _ _ t1]
  · intro n
    unfold crash
    rw [if_pos hi, e]; simp only
    rw [ha, onLast_twice _ (fun f => Fi.crash f n) _ _ (t2 n)]

/-! ### Mend -/
theorem mendL_rd (fs : List Fil) (n : Int) (hi : ∀ f ∈ fs, Fi.is f = true) : rd (mendL fs n) n = ((rd fs n).1, true) := by
  induction fs generalizing n with
  | nil => rfl
  | cons f r ih =>
    simp only [mendL, rd]
    by_cases h : whole f n = true
    · rw [if_pos h, if_pos h]
      simp only [rd]
      rw [if_pos h, ih _ (fun x hx => hi x (List.mem_cons_of_mem _ hx))]
    · rw [if_neg h, if_neg h, rd_one]
      have hf := hi f (List.mem_cons_self ..)
      have e : sc (Rc.mend f n) n = sc f n := Rc.mend_sc hf n
      have e2 : whole (Rc.mend f n) n = true := by
        rw [whole_iff, e, Rc.mend_read hf, bl_strOf]; rfl
      rw [e, e2]
theorem mendL_again (fs : List Fil) (n : Int) (h : (rd fs n).2 = true) : mendL fs n = fs := by
  induction fs generalizing n with
  | nil => rfl
  | cons f r ih =>
    simp only [rd] at h
    simp only [mendL]
    by_cases hw : whole f n = true
    · rw [if_pos hw] at h ⊢
      rw [ih _ h]
    · rw [if_neg hw] at h; cases h
theorem mendL_ok (sz : Int) (fs : List Fil) (n : Int) (h : okF sz fs = true) (hne : fs ≠ []) : okF sz (mendL fs n) = true ∧ 1 ≤ (mendL fs n).length ∧ (mendL fs n).length ≤ fs.length := by
  induction fs generalizing n with
  | nil => exact absurd rfl hne
  | cons f r ih =>
    have hf : Fi.is f = true ∧ f.most = sz := by
      cases r with
      | nil => simp only [okF, Bool.and_eq_true, decide_eq_true_iff] at h; exact h
      | cons g r => simp only [okF, Bool.and_eq_true, decide_eq_true_iff] at h; exact h.1.1
    have hm : Fi.is (Rc.mend f n) = true ∧ (Rc.mend f n).most = sz := ⟨Rc.mend_is hf.1 n, by rw [Rc.mend_yes hf.1]; exact hf.2⟩
    simp only [mendL]
    by_cases hw : whole f n = true
    · rw [if_pos hw]
      cases r with
      | nil =>
        simp only [mendL, okF, Bool.and_eq_true, decide_eq_true_iff]
        exact ⟨hf, by simp, by simp⟩
      | cons g r =>
        have h2 := h
        simp only [okF, Bool.and_eq_true, decide_eq_true_iff] at h2
        obtain ⟨i1, i2, i3⟩ := ih (n + ((sc f n).1.length : Int)) h2.2 (by simp)
        generalize mendL (g :: r) (n + ((sc f n).1.length : Int)) = ms at i1 i2 i3 ⊢
        cases ms with
        | nil => simp at i2
        | cons x ms =>
          simp only [okF, Bool.and_eq_true, decide_eq_true_iff]
          refine ⟨⟨⟨hf, h2.1.2⟩, i1⟩, by simp, ?_⟩
          simp only [List.length_cons] at i3 ⊢
          omega
    · rw [if_neg hw]
      simp only [okF, Bool.and_eq_true, decide_eq_true_iff]
      exact ⟨hm, by simp, by simp⟩
theorem files_is {s : Seg} (h : is s = true) : ∀ f ∈ s.fs, Fi.is f = true := by
  obtain ⟨a, f, ha, _, h3, h4, _⟩ := is_split h
  intro x hx
  rw [ha] at hx
  rcases List.mem_append.1 hx with hx | hx
  · exact (h3 x hx).1
  · obtain rfl : x = f := by simpa using hx
    exact h4
theorem mend_is {s : Seg} (h : is s = true) : mend s = ⟨s.sz, s.fi, mendL s.fs s.fi⟩ ∧ is (mend s) = true := by
  have e : mend s = ⟨s.sz, s.fi, mendL s.fs s.fi⟩ := by unfold mend; rw [if_pos h]
  obtain ⟨h1, h2⟩ := is_iff.1 h
  obtain ⟨m1, m2, m3⟩ := mendL_ok s.sz s.fs s.fi h2 (by intro e; rw [e] at h1; simp at h1)
  refine ⟨e, ?_⟩
  rw [e]; exact is_iff.2 ⟨⟨h1.1, h1.2.1, m2, by have := h1.2.2.2; simp only; omega⟩, m1⟩
theorem mend_rd {s : Seg} (h : is s = true) : rd (mend s).fs (mend s).fi = ((rd s.fs s.fi).1, true) := by
  rw [(mend_is h).1]; exact mendL_rd _ _ (files_is h)
theorem mend_texts {s : Seg} (h : is s = true) : texts (mend s) = texts s := by
  unfold texts; rw [if_pos (mend_is h).2, if_pos h, mend_rd h]
theorem mend_twice {s : Seg} (h : is s = true) : mend (mend s) = mend s := by
  have e : mend (mend s) = ⟨(mend s).sz, (mend s).fi, mendL (mend s).fs (mend s).fi⟩ := (mend_is (mend_is h).2).1
  have h2 := mendL_again (mend s).fs (mend s).fi (by rw [mend_rd h])
  rw [e, h2]
theorem mend_adds {s : Seg} (h : is s = true) : addE (mend s) [] = 0 ∧ add (mend s) [] = mend s := by
  have e : addE (mend s) [] = 0 := by unfold addE; rw [if_pos (mend_is h).2, mend_rd h]; rfl
  refine ⟨e, ?_⟩
  unfold add; rw [if_pos e]; rfl
end Sg
end Go.Proofs.YtlnchfnmpamliaaGreat

namespace Go.Proofs.YtlnchfnmpamliaaGreat
set_option maxRecDepth 10000
open Go.RowKit
namespace Sg

/-- A right log that is whole: its last file, what stands ahead of it. -/
theorem whole_split {s : Seg} (h : is s = true) (hw : (rd s.fs s.fi).2 = true) : ∃ a f, s.fs = a ++ [f] ∧ lastF s.fs = f ∧ (∀ x ∈ a, Fi.is x = true ∧ x.most = s.sz ∧ x.loose.size = 0) ∧ Fi.is f = true ∧ f.most = s.sz ∧
    (rd a s.fi).2 = true ∧ bl (Fi.read f) = Rc.recs (s.fi + (rd a s.fi).1.length) (sc f (s.fi + (rd a s.fi).1.length)).1 ∧ (rd s.fs s.fi).1 = (rd a s.fi).1 ++ (sc f (s.fi + (rd a s.fi).1.length)).1 := by
  obtain ⟨a, f, ha, hf, h3, h4, h5⟩ := is_split h
  rw [ha] at hw
  by_cases h2 : (rd a s.fi).2 = true
  · rw [rd_app _ _ _ h2, rd_one] at hw
    simp only at hw
    refine ⟨a, f, ha, hf.symm, h3, h4, h5, h2, whole_iff.1 hw, ?_⟩
    rw [ha, rd_app _ _ _ h2, rd_one]
  · rw [Bool.not_eq_true] at h2
    rw [rd_app_no _ _ _ h2, h2] at hw; cases hw

theorem recs_snoc (n : Int) (ts : List (List UInt8)) (t : List UInt8) : Rc.recs n (ts ++ [t]) = Rc.recs n ts ++ Rc.rec1 (n + ts.length) t := by
  rw [Rc.recs_append]; simp [Rc.recs]
theorem okAll_snoc {n : Int} {ts : List (List UInt8)} {t : List UInt8} (h : Rc.okAll n ts) (h2 : Rc.putE (n + ts.length) t = 0) : Rc.okAll n (ts ++ [t]) := by
  rw [Rc.okAll_append]; exact ⟨h, Rc.putE_zero.1 h2, trivial⟩

theorem oneE_zero {s : Seg} {t : List UInt8} (h : oneE s t = 0) : (rd s.fs s.fi).2 = true ∧ Rc.putE (s.fi + (rd s.fs s.fi).1.length) t = 0 ∧ ((Rc.rec1 (s.fi + (rd s.fs s.fi).1.length) t).length : Int) ≤ s.sz ∧
    (¬ (((Fi.read (lastF s.fs)).size : Int) + (Rc.rec1 (s.fi + (rd s.fs s.fi).1.length) t).length ≤ s.sz) → s.fs.length < 20) := by
  unfold oneE at h
  split at h
  · rename_i h1
    split at h
    · rename_i h2
      split at h
      · cases h
      · rename_i h3
        refine ⟨h1, h2, by omega, ?_⟩
        intro hn
        rw [if_neg hn] at h
        split at h
        · cases h
        · omega
    · rename_i h2; exact absurd h h2
  · cases h
/-- What one more record makes. -/
theorem one_ok {s : Seg} {t : List UInt8} (hi : is s = true) (h : oneE s t = 0) : is (one s t) = true ∧ rd (one s t).fs (one s t).fi = ((rd s.fs s.fi).1 ++ [t], true) ∧ (one s t).sz = s.sz ∧ (one s t).fi = s.fi := by
  obtain ⟨hw, hp, hr, hroom⟩ := oneE_zero h
  have e : one s t = ⟨s.sz, s.fi, oneF s (Rc.rec1 (s.fi + (rd s.fs s.fi).1.length) t)⟩ := by unfold one; rw [if_pos h]
  rw [e]
  obtain ⟨a, f, ha, hl, h3, h4, h5, h6, h7, h8⟩ := whole_split hi hw
  obtain ⟨i1, _⟩ := is_iff.1 hi
  have hof := sc_ok f (s.fi + (rd a s.fi).1.length)
  generalize htf : (sc f (s.fi + (rd a s.fi).1.length)).1 = tf at h7 h8 hof
  have hn : s.fi + ((rd s.fs s.fi).1.length : Int) = s.fi + (rd a s.fi).1.length + tf.length := by rw [h8, List.length_append]; omega
  generalize hR : Rc.rec1 (s.fi + (rd s.fs s.fi).1.length) t = R at hr hroom
  have hfs := Fi.is_small h4
  unfold oneF
  rw [hl] at hroom ⊢
  by_cases hrm : ((Fi.read f).size : Int) + R.length ≤ s.sz
  · rw [if_pos hrm, ha, onLast_split]
    have hrd : bl (Fi.read ⟨f.most, f.kept, f.loose ++ strOf R⟩) = Rc.recs (s.fi + (rd a s.fi).1.length) (tf ++ [t]) := by
      unfold Fi.read; simp only
      rw [← ba_assoc, bl_append, bl_strOf, recs_snoc, ← hn, hR, ← h7]; rfl
    have hs := sc_of hrd (okAll_snoc hof (by rw [← hn]; exact hp))
    refine ⟨is_iff.2 ⟨?_, ?_⟩, ?_, rfl, rfl⟩
    · simp only; rw [List.length_append] ; rw [ha, List.length_append] at i1; exact i1
    · simp only; rw [okF_split]
      refine ⟨h3, ?_, h5⟩
      rw [Fi.read_size] at hrm
      unfold Fi.is; rw [decide_eq_true_iff]; simp only
      rw [ByteArray.size_append, strOf_size]; omega
    · simp only
      rw [rd_app _ _ _ h6, rd_one, hs.1, hs.2, ← ha, h8, List.append_assoc]
  · rw [if_neg hrm, ha, onLast_split]
    have hlen := hroom hrm
    obtain ⟨y1, y2, y3, y4⟩ := sync_read h4
    have hrd0 : rd (a ++ [Fi.sync f]) s.fi = ((rd s.fs s.fi).1, true) := by
      have h9 := rd_onLast Fi.sync a f y1 s.fi
      rw [onLast_split] at h9
      rw [h9, ← ha, ← hw]
    have hrd : bl (Fi.read ⟨s.sz, ⟨#[]⟩, strOf R⟩) = Rc.recs (s.fi + (rd s.fs s.fi).1.length) [t] := by
      unfold Fi.read; simp only
      rw [bl_append, bl_strOf, Rc.recs, Rc.recs, List.append_nil, hR]; rfl
    have hs := sc_of hrd ⟨Rc.putE_zero.1 hp, trivial⟩
    refine ⟨is_iff.2 ⟨?_, ?_⟩, ?_, rfl, rfl⟩
    · simp only
      rw [ha, List.length_append] at i1 hlen
      simp only [List.length_append, List.length_cons, List.length_nil] at i1 hlen ⊢
      omega
    · simp only; rw [okF_split]
      refine ⟨?_, ?_, rfl⟩
      · intro x hx
        rcases List.mem_append.1 hx with hx | hx
        · exact h3 x hx
        · obtain rfl : x = Fi.sync f := by simpa using hx
          exact ⟨y2, y3.trans h5, y4⟩
      · unfold Fi.is; rw [decide_eq_true_iff]; simp only
        rw [strOf_size]
        show 1 ≤ s.sz ∧ s.sz ≤ 4000 ∧ ((0 : Nat) : Int) + R.length ≤ s.sz
        omega
    · simp only
      rw [rd_app _ _ _ (by rw [hrd0]), hrd0]
      simp only
      rw [rd_one, hs.1, hs.2, ← ha]
theorem go_yes {s : Seg} {t : List UInt8} {l : List (List UInt8)} (h : oneE s t = 0) : go s (t :: l) = go (one s t) l := by simp only [go]; rw [if_pos h]
theorem go_not {s : Seg} {t : List UInt8} {l : List (List UInt8)} (h : oneE s t ≠ 0) : go s (t :: l) = (no, oneE s t) := by simp only [go]; rw [if_neg h]
theorem go_append (s : Seg) (l m : List (List UInt8)) (h : (go s l).2 = 0) : go s (l ++ m) = go (go s l).1 m := by
  induction l generalizing s with
  | nil => rfl
  | cons t l ih =>
    by_cases he : oneE s t = 0
    · rw [go_yes he] at h ⊢
      rw [List.cons_append, go_yes he, ih _ h]
    · rw [go_not he] at h; exact absurd h he
theorem go_append_bad (s : Seg) (l m : List (List UInt8)) (h : (go s l).2 ≠ 0) : go s (l ++ m) = (no, (go s l).2) := by
  induction l generalizing s with
  | nil => exact absurd rfl h
  | cons t l ih =>
    by_cases he : oneE s t = 0
    · rw [go_yes he] at h ⊢
      rw [List.cons_append, go_yes he, ih _ h]
    · rw [go_not he, List.cons_append, go_not he]
theorem go_ok {s : Seg} {l : List (List UInt8)} (hi : is s = true) (hw : (rd s.fs s.fi).2 = true) (h : (go s l).2 = 0) : is (go s l).1 = true ∧ rd (go s l).1.fs (go s l).1.fi = ((rd s.fs s.fi).1 ++ l, true) ∧ (go s l).1.sz = s.sz ∧ (go s l).1.fi = s.fi := by
  induction l generalizing s with
  | nil => refine ⟨hi, ?_, rfl, rfl⟩; simp only [go, List.append_nil]; rw [← hw]
  | cons t l ih =>
    simp only [go] at h ⊢
    by_cases he : oneE s t = 0
    · rw [if_pos he] at h ⊢
      obtain ⟨o1, o2, o3, o4⟩ := one_ok hi he
      obtain ⟨i1, i2, i3, i4⟩ := ih o1 (by rw [o2]) h
      refine ⟨i1, ?_, i3.trans o3, i4.trans o4⟩
      rw [i2, o2]; simp
    · rw [if_neg he] at h; exact absurd h he
theorem go_bad {s : Seg} {l : List (List UInt8)} (h : (go s l).2 ≠ 0) : (go s l).1 = no := by
  induction l generalizing s with
  | nil => exact absurd rfl h
  | cons t l ih =>
    simp only [go] at h ⊢
    by_cases he : oneE s t = 0
    · rw [if_pos he] at h ⊢; exact ih h
    · rw [if_neg he]
theorem addE_zero {s : Seg} {l : List ByteArray} (h : addE s l = 0) : is s = true ∧ (rd s.fs s.fi).2 = true ∧ (go s (l.map bl)).2 = 0 := by
  unfold addE at h
  split at h
  · rename_i h1
    split at h
    · rename_i h2; exact ⟨h1, h2, h⟩
    · cases h
  · cases h
theorem add_ok {s : Seg} {l : List ByteArray} (h : addE s l = 0) : is (add s l) = true ∧ rd (add s l).fs (add s l).fi = ((rd s.fs s.fi).1 ++ l.map bl, true) ∧ (add s l).sz = s.sz ∧ (add s l).fi = s.fi := by
  obtain ⟨h1, h2, h3⟩ := addE_zero h
  unfold add; rw [if_pos h]; exact go_ok h1 h2 h3
theorem add_texts {s : Seg} {l : List ByteArray} (h : addE s l = 0) : texts (add s l) = texts s ++ l := by
  unfold texts; rw [if_pos (add_ok h).1, if_pos (addE_zero h).1, (add_ok h).2.1]
  simp only; rw [List.map_append, Rc.map_back]
theorem add_bad {s : Seg} {l : List ByteArray} (h : addE s l ≠ 0) : add s l = no := by unfold add; rw [if_neg h]
/-- Two rows of texts, at once or one behind the other. -/
theorem add_append {s : Seg} {l m : List ByteArray} (h : addE s l = 0) : addE s (l ++ m) = addE (add s l) m ∧ add s (l ++ m) = add (add s l) m := by
  obtain ⟨h1, h2, h3⟩ := addE_zero h
  obtain ⟨a1, a2, _, _⟩ := add_ok h
  have e0 : add s l = (go s (l.map bl)).1 := by unfold add; rw [if_pos h]
  have e1 : addE s (l ++ m) = addE (add s l) m := by
    unfold addE
    rw [if_pos h1, if_pos h2, if_pos a1, a2]
    simp only [if_true]
    rw [List.map_append, go_append _ _ _ h3, e0]
  refine ⟨e1, ?_⟩
  by_cases he : addE s (l ++ m) = 0
  · rw [e0]
    rw [e0] at e1
    have he2 := he
    rw [e1] at he2
    unfold add
    rw [if_pos he, if_pos he2, List.map_append, go_append _ _ _ h3]
  · rw [add_bad he, add_bad (by rw [← e1]; exact he)]
theorem add_append_bad {s : Seg} {l m : List ByteArray} (h : addE s l ≠ 0) : addE s (l ++ m) ≠ 0 := by
  unfold addE at h ⊢
  by_cases h1 : is s = true
  · rw [if_pos h1] at h ⊢
    by_cases h2 : (rd s.fs s.fi).2 = true
    · rw [if_pos h2] at h ⊢
      rw [List.map_append, go_append_bad _ _ _ h]; exact h
    · rw [if_neg h2]; decide
  · rw [if_neg h1]; decide
/-- A new log. -/
theorem new_ok {sz n : Int} (h : newE sz n = 0) : new sz n = newS sz n ∧ is (newS sz n) = true ∧ rd (newS sz n).fs (newS sz n).fi = ([], true) := by
  have hi : is (newS sz n) = true := by
    unfold newE at h
    split at h
    · assumption
    · cases h
  refine ⟨by unfold new; rw [if_pos hi], hi, ?_⟩
  have hs := sc_of (f := ⟨sz, ⟨#[]⟩, ⟨#[]⟩⟩) (n := n) (ts := []) rfl trivial
  show rd [_] n = _
  rw [rd_one, hs.1, hs.2]
end Sg
end Go.Proofs.YtlnchfnmpamliaaGreat

namespace Go.Proofs.YtlnchfnmpamliaaGreat
set_option maxRecDepth 10000
open Go.RowKit
namespace Sg

/-- The first L records are kept: they lie ahead of the last file, or within its kept bytes. -/
def Kept (s : Seg) (L : Nat) : Prop := ∃ a f, s.fs = a ++ [f] ∧ (rd a s.fi).2 = true ∧ ∃ i, i ≤ (sc f (s.fi + (rd a s.fi).1.length)).1.length ∧ L ≤ (rd a s.fi).1.length + i ∧ (Rc.recs (s.fi + (rd a s.fi).1.length) ((sc f (s.fi + (rd a s.fi).1.length)).1.take i)).length ≤ f.kept.size
theorem sync_kept {s : Seg} (hi : is s = true) (hw : (rd s.fs s.fi).2 = true) : Kept (sync s) (rd s.fs s.fi).1.length := by
  obtain ⟨a, f, ha, _, h3, h4, h5, h6, h7, h8⟩ := whole_split hi hw
  have e := (sync_is hi).1
  have y := sync_read h4
  refine ⟨a, Fi.sync f, ?_, ?_, ?_⟩
  · rw [e]; simp only; rw [ha, onLast_split]
  · rw [e]; exact h6
  · rw [e]; simp only
    have h9 := (sc_same y.1 (s.fi + (rd a s.fi).1.length)).1
    rw [h9]
    refine ⟨_, Nat.le_refl _, by rw [h8, List.length_append]; exact Nat.le_refl _, ?_⟩
    rw [List.take_length, ← h7, fsync_yes h4, bl_length]; exact Nat.le_refl _
theorem one_kept {s : Seg} {t : List UInt8} {L : Nat} (hi : is s = true) (h : oneE s t = 0) (hk : Kept s L) : Kept (one s t) L := by
  obtain ⟨hw, hp, hr, hroom⟩ := oneE_zero h
  have e : one s t = ⟨s.sz, s.fi, oneF s (Rc.rec1 (s.fi + (rd s.fs s.fi).1.length) t)⟩ := by unfold one; rw [if_pos h]
  obtain ⟨a, f, ha, hl, h3, h4, h5, h6, h7, h8⟩ := whole_split hi hw
  obtain ⟨a', f', ha', k1, i, k2, k3, k4⟩ := hk
  obtain ⟨rfl, rfl⟩ : a' = a ∧ f' = f := by
    rw [ha] at ha'
    have h9 := List.append_inj' ha' rfl
    exact ⟨h9.1.symm, by have := h9.2; simp at this; exact this.symm⟩
  have hof := sc_ok f' (s.fi + (rd a' s.fi).1.length)
  generalize htf : (sc f' (s.fi + (rd a' s.fi).1.length)).1 = tf at h7 h8 hof k2 k4
  have hn : s.fi + ((rd s.fs s.fi).1.length : Int) = s.fi + (rd a' s.fi).1.length + tf.length := by rw [h8, List.length_append]; omega
  rw [e]
  unfold oneF
  rw [hl]
  by_cases hrm : ((Fi.read f').size : Int) + (Rc.rec1 (s.fi + (rd s.fs s.fi).1.length) t).length ≤ s.sz
  · rw [if_pos hrm]
    refine ⟨a', ⟨f'.most, f'.kept, f'.loose ++ strOf (Rc.rec1 (s.fi + (rd s.fs s.fi).1.length) t)⟩, ?_, h6, ?_⟩
    · simp only; rw [ha, onLast_split]
    · simp only
      have hrd : bl (Fi.read ⟨f'.most, f'.kept, f'.loose ++ strOf (Rc.rec1 (s.fi + (rd s.fs s.fi).1.length) t)⟩) = Rc.recs (s.fi + (rd a' s.fi).1.length) (tf ++ [t]) := by
        unfold Fi.read; simp only
        rw [← ba_assoc, bl_append, bl_strOf, recs_snoc, ← hn, ← h7]; rfl
      have hs := sc_of hrd (okAll_snoc hof (by rw [← hn]; exact hp))
      rw [hs.1]
      refine ⟨i, by rw [List.length_append]; omega, k3, ?_⟩
      rw [List.take_append_of_le_length k2]; exact k4
  · rw [if_neg hrm]
    obtain ⟨y1, y2, y3, y4⟩ := sync_read h4
    have hrd0 : rd (a' ++ [Fi.sync f']) s.fi = ((rd s.fs s.fi).1, true) := by
      have h9 := rd_onLast Fi.sync a' f' y1 s.fi
      rw [onLast_split] at h9
      rw [h9, ← ha, ← hw]
    refine ⟨a' ++ [Fi.sync f'], ⟨s.sz, ⟨#[]⟩, strOf (Rc.rec1 (s.fi + (rd s.fs s.fi).1.length) t)⟩, ?_, ?_, 0, Nat.zero_le _, ?_, ?_⟩
    · simp only; rw [ha, onLast_split]
    · simp only; rw [hrd0]
    · simp only; rw [hrd0]; simp only; rw [h8, List.length_append]; omega
    · simp [Rc.recs]
theorem go_kept {s : Seg} {l : List (List UInt8)} {L : Nat} (hi : is s = true) (h : (go s l).2 = 0) (hk : Kept s L) : Kept (go s l).1 L := by
  induction l generalizing s with
  | nil => exact hk
  | cons t l ih =>
    by_cases he : oneE s t = 0
    · rw [go_yes he] at h ⊢
      exact ih (one_ok hi he).1 h (one_kept hi he hk)
    · rw [go_not he] at h; exact absurd h he
/-- A crash of a whole log: a beginning of its records, and all that are kept. -/
theorem crash_rd {s : Seg} {L : Nat} (hi : is s = true) (hw : (rd s.fs s.fi).2 = true) (hk : Kept s L) (n : Int) : is (crash s n) = true ∧ (crash s n).sz = s.sz ∧ (crash s n).fi = s.fi ∧ ∃ j, L ≤ j ∧ j ≤ (rd s.fs s.fi).1.length ∧ (rd (crash s n).fs (crash s n).fi).1 = (rd s.fs s.fi).1.take j := by
  have hcr : ∀ f, Fi.is f = true → Fi.is (Fi.crash f n) = true ∧ (Fi.crash f n).most = f.most := by
    intro f hf
    have h2 := Fi.is_small hf
    have e : Fi.crash f n = ⟨f.most, f.kept ++ f.loose.extract 0 (Fi.many f n), ⟨#[]⟩⟩ := by unfold Fi.crash; rw [if_pos hf]
    rw [e]
    refine ⟨?_, rfl⟩
    unfold Fi.is; rw [decide_eq_true_iff]; simp only
    rw [ByteArray.size_append, ByteArray.size_extract]
    show 1 ≤ f.most ∧ f.most ≤ 4000 ∧ ((f.kept.size + (min (Fi.many f n) f.loose.size - 0) : Nat) : Int) + (0 : Nat) ≤ f.most
    omega
  have e : crash s n = ⟨s.sz, s.fi, onLast (fun f => Fi.crash f n) s.fs⟩ := by unfold crash; rw [if_pos hi]
  obtain ⟨a, f, ha, _, h3, h4, h5, h6, h7, h8⟩ := whole_split hi hw
  obtain ⟨a', f', ha', k1, i, k2, k3, k4⟩ := hk
  obtain ⟨rfl, rfl⟩ : a' = a ∧ f' = f := by
    rw [ha] at ha'
    have h9 := List.append_inj' ha' rfl
    exact ⟨h9.1.symm, by have := h9.2; simp at this; exact this.symm⟩
  have hof := sc_ok f' (s.fi + (rd a' s.fi).1.length)
  generalize htf : (sc f' (s.fi + (rd a' s.fi).1.length)).1 = tf at h7 h8 hof k2 k4
  have ef : Fi.crash f' n = ⟨f'.most, f'.kept ++ f'.loose.extract 0 (Fi.many f' n), ⟨#[]⟩⟩ := by unfold Fi.crash; rw [if_pos h4]
  have hq : Fi.many f' n ≤ f'.loose.size := by unfold Fi.many; exact Nat.min_le_right _ _
  have hrc : bl (Fi.read (Fi.crash f' n)) = (Rc.recs (s.fi + (rd a' s.fi).1.length) tf).take (f'.kept.size + Fi.many f' n) := by
    rw [ef, ← h7]; unfold Fi.read; simp only
    rw [ba_nil, bl_append, bl_append, bl_extract_to _ _ hq, ← bl_length f'.kept, List.take_length_add_append]
  obtain ⟨j, hj, hsc, hmin⟩ := Rc.scan_cut hof (f'.kept.size + Fi.many f' n)
  have hij : i ≤ j := hmin i k2 (by omega)
  have hrd : (rd (onLast (fun f => Fi.crash f n) s.fs) s.fi).1 = (rd a' s.fi).1 ++ tf.take j := by
    rw [ha, onLast_split, rd_app _ _ _ h6, rd_one]
    simp only
    unfold sc
    rw [hrc, hsc]
  rw [e]
  refine ⟨is_onLast hi _ hcr, rfl, rfl, (rd a' s.fi).1.length + j, by omega, by rw [h8, List.length_append]; omega, ?_⟩
  simp only
  rw [hrd, h8, List.take_length_add_append]

/-! ### Drop -/
/-- What a Drop leaves: the records from some number on. -/
theorem dropL_rd (upto : Int) (fs : List Fil) (n : Int) (hw : (rd fs n).2 = true) : ∃ k, k ≤ (rd fs n).1.length ∧ (dropL upto fs n).1 = n + (k : Nat) ∧ rd (dropL upto fs n).2 (dropL upto fs n).1 = ((rd fs n).1.drop k, true) ∧ (k = 0 ∨ n + (k : Nat) ≤ upto) ∧ ((dropL upto fs n).1 ≤ 900000000 ∨ (dropL upto fs n).1 = n) := by
  induction fs generalizing n with
  | nil => exact ⟨0, Nat.zero_le _, by simp [dropL], by simp [dropL, rd], .inl rfl, .inr (by simp [dropL])⟩
  | cons f r ih =>
    cases r with
    | nil => exact ⟨0, Nat.zero_le _, by simp [dropL], by simp only [dropL, List.drop_zero]; rw [← hw], .inl rfl, .inr (by simp [dropL])⟩
    | cons g r =>
      by_cases hc : whole f n = true ∧ n + (sc f n).1.length ≤ upto ∧ n + (sc f n).1.length ≤ 900000000
      · have e : dropL upto (f :: g :: r) n = dropL upto (g :: r) (n + (sc f n).1.length) := by rw [dropL, if_pos hc]
        rw [rd_yes hc.1] at hw ⊢
        obtain ⟨k, k1, k2, k3, k4, k5⟩ := ih _ hw
        rw [e]
        refine ⟨(sc f n).1.length + k, by simp only [List.length_append]; omega, by rw [k2]; omega, ?_, .inr ?_, ?_⟩
        · rw [k3]; simp only; rw [← List.drop_drop, List.drop_left]
        · rcases k4 with k4 | k4
          · rw [k4]; have := hc.2.1; omega
          · omega
        · rcases k5 with k5 | k5
          · exact .inl k5
          · left; rw [k5]; exact hc.2.2
      · have e : dropL upto (f :: g :: r) n = (n, f :: g :: r) := by rw [dropL, if_neg hc]
        rw [e]
        exact ⟨0, Nat.zero_le _, by simp, by simp only [List.drop_zero]; rw [← hw], .inl rfl, .inr rfl⟩
theorem dropL_ok (sz upto : Int) (fs : List Fil) (n : Int) (h : okF sz fs = true) (hne : fs ≠ []) : okF sz (dropL upto fs n).2 = true ∧ 1 ≤ (dropL upto fs n).2.length ∧ (dropL upto fs n).2.length ≤ fs.length := by
  induction fs generalizing n with
  | nil => exact absurd rfl hne
  | cons f r ih =>
    cases r with
    | nil => exact ⟨h, Nat.le_refl _, Nat.le_refl _⟩
    | cons g r =>
      rw [dropL]
      split
      · have h2 := h
        simp only [okF, Bool.and_eq_true] at h2
        obtain ⟨i1, i2, i3⟩ := ih (n + (sc f n).1.length) h2.2 (by simp)
        exact ⟨i1, i2, by simp only [List.length_cons] at i3 ⊢; omega⟩
      · exact ⟨h, by simp, Nat.le_refl _⟩
/-- Dropped twice it is as dropped once at the greater number. -/
theorem dropL_twice (u v : Int) (fs : List Fil) (n : Int) : dropL v (dropL u fs n).2 (dropL u fs n).1 = dropL (max u v) fs n := by
  induction fs generalizing n with
  | nil => rfl
  | cons f r ih =>
    cases r with
    | nil => rfl
    | cons g r =>
      by_cases hu : whole f n = true ∧ n + (sc f n).1.length ≤ u ∧ n + (sc f n).1.length ≤ 900000000
      · have e1 : dropL u (f :: g :: r) n = dropL u (g :: r) (n + (sc f n).1.length) := by rw [dropL, if_pos hu]
        have e2 : dropL (max u v) (f :: g :: r) n = dropL (max u v) (g :: r) (n + (sc f n).1.length) := by rw [dropL, if_pos ⟨hu.1, by omega, hu.2.2⟩]
        rw [e1, e2, ih]
      · have e1 : dropL u (f :: g :: r) n = (n, f :: g :: r) := by rw [dropL, if_neg hu]
        rw [e1]
        simp only
        by_cases hv : whole f n = true ∧ n + (sc f n).1.length ≤ v ∧ n + (sc f n).1.length ≤ 900000000
        · have e2 : dropL (max u v) (f :: g :: r) n = dropL (max u v) (g :: r) (n + (sc f n).1.length) := by rw [dropL, if_pos ⟨hv.1, by omega, hv.2.2⟩]
          have e3 : dropL v (f :: g :: r) n = dropL v (g :: r) (n + (sc f n).1.length) := by rw [dropL, if_pos hv]
          have e4 : max u v = v := by
            have : ¬ (n + (sc f n).1.length ≤ u) := fun h => hu ⟨hv.1, h, hv.2.2⟩
            omega
          rw [e4]
        · have e2 : dropL (max u v) (f :: g :: r) n = (n, f :: g :: r) := by
            rw [dropL, if_neg]
            rintro ⟨h1, h2, h3⟩
            by_cases hh : n + (sc f n).1.length ≤ u
            · exact hu ⟨h1, hh, h3⟩
            · exact hv ⟨h1, by omega, h3⟩
          have e3 : dropL v (f :: g :: r) n = (n, f :: g :: r) := by rw [dropL, if_neg hv]
          rw [e2, e3]
theorem drop_ok {s : Seg} (hi : is s = true) (upto : Int) : drop s upto = ⟨s.sz, (dropL upto s.fs s.fi).1, (dropL upto s.fs s.fi).2⟩ := by unfold drop; rw [if_pos hi]
theorem drop_is {s : Seg} (hi : is s = true) (hw : (rd s.fs s.fi).2 = true) (upto : Int) : is (drop s upto) = true ∧ ∃ k, k ≤ (rd s.fs s.fi).1.length ∧ (drop s upto).fi = s.fi + (k : Nat) ∧ rd (drop s upto).fs (drop s upto).fi = ((rd s.fs s.fi).1.drop k, true) ∧ (k = 0 ∨ s.fi + (k : Nat) ≤ upto) := by
  obtain ⟨k, k1, k2, k3, k4, k5⟩ := dropL_rd upto s.fs s.fi hw
  obtain ⟨h1, h2⟩ := is_iff.1 hi
  obtain ⟨m1, m2, m3⟩ := dropL_ok s.sz upto s.fs s.fi h2 (by intro e; rw [e] at h1; simp at h1)
  rw [drop_ok hi]
  refine ⟨is_iff.2 ⟨⟨h1.1, ⟨?_, ?_⟩, m2, ?_⟩, m1⟩, k, k1, k2, k3, k4⟩
  · simp only; rw [k2]; have := h1.2.1.1; omega
  · simp only
    rcases k5 with k5 | k5
    · exact k5
    · rw [k5]; exact h1.2.1.2
  · simp only; have := h1.2.2.2; omega
theorem drop_twice {s : Seg} (hi : is s = true) (hw : (rd s.fs s.fi).2 = true) (u v : Int) : drop (drop s u) v = drop s (max u v) := by
  have h := (drop_is hi hw u).1
  rw [drop_ok h, drop_ok hi, drop_ok hi]
  simp only
  have e := dropL_twice u v s.fs s.fi
  rw [e]
end Sg
end Go.Proofs.YtlnchfnmpamliaaGreat

namespace Go.Proofs.YtlnchfnmpamliaaGreat
set_option maxRecDepth 10000
open Go.RowKit

/-- A fact that stays true as long as nothing that is there is turned. -/
def Lasts (P : World → Prop) : Prop := ∀ w w', P w → Below w.heap.size w w' → P w'
structure Fact where
  on : World → Prop
  lasts : Lasts on
/-- From w0 we have come to w: the blocks L hold these cells, the facts M hold. -/
structure St (w0 w : World) (L : List (Nat × Array Value)) (M : List Fact) : Prop where
  live : ∀ x ∈ L, ∃ t, w.heap[x.1]? = some (.cells x.2 t (0, 0))
  facts : ∀ P ∈ M, P.on w
  below : Below w0.heap.size w0 w
theorem St.start (w : World) : St w w [] [] := ⟨(fun _ h => nomatch h), (fun _ h => nomatch h), Below.refl _ _⟩
theorem St.on {w0 w w' : World} {L : List (Nat × Array Value)} {M : List Fact} (h : St w0 w L M) (hb : Below w.heap.size w w') : St w0 w' L M :=
  ⟨fun x hx => by
    obtain ⟨t, ht⟩ := h.live x hx
    exact ⟨t, (hb.block x.1 (Array.getElem?_eq_some_iff.1 ht).1).trans ht⟩, fun P hP => P.lasts _ _ (h.facts P hP) hb, below2 h.below hb⟩
theorem St.drew {w0 w : World} {L : List (Nat × Array Value)} {M : List Fact} (h : St w0 w L M) : St w0 w.drew L M := h.on (below_drew (Below.refl _ _) 1)
theorem St.drewN {w0 w : World} {L : List (Nat × Array Value)} {M : List Fact} (h : St w0 w L M) (n : Nat) : St w0 (w.drewN n) L M := h.on (below_drew (Below.refl _ _) n)
theorem St.new {w0 w : World} {L : List (Nat × Array Value)} {M : List Fact} (h : St w0 w L M) (cs : Array Value) (t : TypeId) : St w0 (w.alloc (.cells cs t)) ((w.heap.size, cs) :: L) M := by
  have h' := h.on (below_new w (.cells cs t))
  refine ⟨fun x hx => ?_, h'.facts, h'.below⟩
  rcases List.mem_cons.1 hx with rfl | hx
  · exact ⟨t, heap_alloc_new _ _⟩
  · exact h'.live x hx
theorem St.more {w0 w : World} {L : List (Nat × Array Value)} {M : List Fact} (h : St w0 w L M) (P : Fact) (hP : P.on w) : St w0 w L (P :: M) :=
  ⟨h.live, fun Q hQ => by
    rcases List.mem_cons.1 hQ with rfl | hQ
    · exact hP
    · exact h.facts Q hQ, h.below⟩
theorem St.add {w0 w : World} {L : List (Nat × Array Value)} {M : List Fact} (h : St w0 w L M) {k : Nat} {cs : Array Value} (hk : ∃ t, w.heap[k]? = some (.cells cs t (0, 0))) : St w0 w ((k, cs) :: L) M :=
  ⟨fun x hx => by
    rcases List.mem_cons.1 hx with rfl | hx
    · exact hk
    · exact h.live x hx, h.facts, h.below⟩
theorem below_setCell {B : Nat} {w w' : World} (h : Below B w w') {k : Nat} (hk : B ≤ k) (j : Nat) (v : Value) : Below B w (w'.setCell ⟨k, j, none⟩ v) :=
  ⟨h.os, h.tape, h.output, by simp [World.setCell]; exact h.size, fun i hi => (heap_setCell_other w' ⟨k, j, none⟩ i v (fun e => by have : i = k := e; omega)).trans (h.block i hi)⟩
/-- One cell of the block that came last is another one. -/
theorem St.cellSet {w0 w w' : World} {L : List (Nat × Array Value)} {M : List Fact} (h : St w0 w L M) {k : Nat} {cs : Array Value} (hS : St w0 w' ((k, cs) :: L) M) (hb : Below w.heap.size w w') (hk : w.heap.size ≤ k) (j : Nat) (v : Value) :
    St w0 (w'.setCell ⟨k, j, none⟩ v) ((k, cs.setIfInBounds j v) :: L) M := by
  obtain ⟨t, ht⟩ := hS.live (k, cs) (by simp)
  exact (h.on (below_setCell hb hk j v)).add ⟨t, heap_setCell_same w' k j cs t v ht⟩
/-- The i-th fact. -/
theorem St.fact {w0 w : World} {L : List (Nat × Array Value)} {M : List Fact} (h : St w0 w L M) (i : Nat) {P : Fact} (hi : M[i]? = some P) : P.on w := h.facts P (List.mem_of_getElem? hi)
/-- A cell of the i-th block. -/
theorem St.cell {w0 w : World} {L : List (Nat × Array Value)} {M : List Fact} (h : St w0 w L M) (i : Nat) {k : Nat} {cs : Array Value} (hi : L[i]? = some (k, cs)) (j : Nat) {v : Value} (hj : cs[j]? = some v) : w.cell? ⟨k, j, none⟩ = some v := by
  obtain ⟨t, ht⟩ := h.live (k, cs) (List.mem_of_getElem? hi)
  simp only [World.cell?, ht]
  exact hj
theorem St.free {w0 w : World} {L : List (Nat × Array Value)} {M : List Fact} (h : St w0 w L M) (i : Nat) {k : Nat} {cs : Array Value} (hi : L[i]? = some (k, cs)) (j : Nat) : w.frozen? ⟨k, j, none⟩ = false := by
  obtain ⟨t, ht⟩ := h.live (k, cs) (List.mem_of_getElem? hi)
  exact frozen_of_row w k j _ _ ht
/-- A whole block is read. -/
theorem wpList_load_st {P : Program} {ops : Array Oper} {rest : List Oper} {o : Oper} {a : Act} {w : World} {Q : Exit → Act → World → Prop} (hgd : o.guard = none) (ty : TypeId) (x : Operand) (ho : o.op = .load ty x)
    {w0 : World} {L : List (Nat × Array Value)} {M : List Fact} (hS : St w0 w L M) (i k : Nat) (cs : Array Value) (hi : L[i]? = some (k, cs)) (hx : a.eval x = .pointer (some ⟨k, 0, none⟩)) (d : TypeDesc)
    (hu : P.underlying ty = some d) (hd : (match d with | .struct _ | .array _ _ => true | _ => false) = true) (hz : (P.info? ty).map (·.size) = some cs.size)
    (h : wpList P ops Q rest (a.put o.dst (.agg cs)) w) : wpList P ops Q (o :: rest) a w := by
  obtain ⟨t, ht⟩ := hS.live (k, cs) (List.mem_of_getElem? hi)
  exact wpList_load_row hgd ty x ho k hx t cs (0, 0) d ht hu hd hz h
/-- A whole new block is written. -/
theorem wpList_store_st {P : Program} {ops : Array Oper} {rest : List Oper} {o : Oper} {a : Act} {w : World} {Q : Exit → Act → World → Prop} (hgd : o.guard = none) (ty : TypeId) (x y : Operand) (ho : o.op = .store ty x y)
    {w0 : World} {L : List (Nat × Array Value)} {M : List Fact} (hS : St w0 w L M) (z cs : Array Value) (t : TypeId) (hx : a.eval x = .pointer (some ⟨w.heap.size, 0, none⟩)) (hy : a.eval y = .agg cs)
    (hz : (P.info? ty).map (·.size) = some z.size) (hsz : cs.size = z.size) (h1 : cs.all (·.oneCell') = true)
    (h : ∀ p w', p = w.heap.size → St w0 w' ((p, cs) :: L) M → Below w.heap.size w w' → wpList P ops Q rest (a.put o.dst undef) w') : wpList P ops Q (o :: rest) a (w.alloc (.cells z t)) := by
  refine wpList_store_row hgd ty x y ho w.heap.size cs hx hy t z (heap_alloc_new _ _) (by rw [hz, hsz]) (by rw [hsz]) h1 ?_
  have hb : Below w.heap.size w ((w.alloc (.cells z t)).setRow w.heap.size cs) := below_setRow (below_new w _) (Nat.le_refl _) cs
  refine h w.heap.size _ rfl ?_ hb
  have h' := hS.on hb
  refine ⟨fun u hu => ?_, h'.facts, h'.below⟩
  rcases List.mem_cons.1 hu with rfl | hu
  · exact ⟨t, setRow_heap _ _ _ _ _ _ (heap_alloc_new w (.cells z t))⟩
  · exact h'.live u hu

theorem run_storeVar_cell {P : Program} (w : World) (b j : Nat) (ty : TypeId) (v : Value) (hc : (w.cell? ⟨b, j, none⟩).isSome = true) (hf : w.frozen? ⟨b, j, none⟩ = false) (hi : (P.info? ty).map (·.size) = some 1) (h1 : v.oneCell' = true) :
    (storeVar ty ⟨b, j, none⟩ v).run P w = .ok () (w.setCell ⟨b, j, none⟩ v) := by
  have := run_storeCells_cells (P := P) b j [v] 0 w (fun i hi => by obtain rfl : i = 0 := (by simpa using hi); exact hc) (fun i hi => by obtain rfl : i = 0 := (by simpa using hi); exact hf) (fun x hx => by simp at hx; subst hx; exact h1)
  have hcs : v.cells = #[v] := by cases v <;> first | rfl | cases h1
  cases hq : P.info? ty with
  | none => simp [hq] at hi
  | some i =>
    have hs : i.size = 1 := by simpa [hq] using hi
    simp only [Nat.add_zero] at this
    simp [storeVar, sizeOf, typeInfo, hq, hcs, hs, this, World.setCells]
/-- One cell of the block that came last is written. -/
theorem wpList_storec_st {P : Program} {ops : Array Oper} {rest : List Oper} {o : Oper} {a : Act} {w u : World} {Q : Exit → Act → World → Prop} (hgd : o.guard = none) (ty : TypeId) (x y : Operand) (ho : o.op = .store ty x y)
    {w0 : World} {k : Nat} {cs : Array Value} {L : List (Nat × Array Value)} {M : List Fact} (h0 : St w0 u L M) (hS : St w0 w ((k, cs) :: L) M) (hb : Below u.heap.size u w) (hk : u.heap.size ≤ k) (j : Nat) (v old : Value) (hx : a.eval x = .pointer (some ⟨k, j, none⟩)) (hy : a.eval y = v)
    (hj : cs[j]? = some old) (hi : (P.info? ty).map (·.size) = some 1) (h1 : v.oneCell' = true)
    (h : ∀ w', St w0 w' ((k, cs.setIfInBounds j v) :: L) M → Below u.heap.size u w' → wpList P ops Q rest (a.put o.dst undef) w') : wpList P ops Q (o :: rest) a w := by
  refine wpList_plain hgd fun K hK => ?_
  have hc := hS.cell 0 rfl j hj
  have hf := hS.free 0 rfl j
  unfold Oper.wp execOp
  simp only [ho, hx, hy, Instr.storeAt, Instr.sureAddr, Sem.run_bind, Sem.run_pure, Result.andThen_ok, run_storeVar_cell w k j ty v (by rw [hc]; rfl) hf hi h1]
  exact hK _ _ (h _ (h0.cellSet hS hb hk j v) (below_setCell hb hk j v))
/-- Parameters in blocks of their own. -/
theorem St.box2 {w0 w : World} {L : List (Nat × Array Value)} {M : List Fact} (h : St w0 w L M) (c1 c2 : Array Value) (t1 t2 : TypeId) : St w0 ((w.alloc (.cells c1 t1)).alloc (.cells c2 t2)) ((w.heap.size + 1, c2) :: (w.heap.size, c1) :: L) M := by
  have k := (h.new c1 t1).new c2 t2
  rw [show (w.alloc (.cells c1 t1)).heap.size = w.heap.size + 1 by simp] at k
  exact k
theorem St.box3 {w0 w : World} {L : List (Nat × Array Value)} {M : List Fact} (h : St w0 w L M) (c1 c2 c3 : Array Value) (t1 t2 t3 : TypeId) : St w0 (((w.alloc (.cells c1 t1)).alloc (.cells c2 t2)).alloc (.cells c3 t3)) ((w.heap.size + 1 + 1, c3) :: (w.heap.size + 1, c2) :: (w.heap.size, c1) :: L) M := by
  have k := (h.box2 c1 c2 t1 t2).new c3 t3
  rw [show ((w.alloc (.cells c1 t1)).alloc (.cells c2 t2)).heap.size = w.heap.size + 1 + 1 by simp] at k
  exact k
end Go.Proofs.YtlnchfnmpamliaaGreat

namespace Go.Proofs.YtlnchfnmpamliaaGreat
set_option maxRecDepth 10000
open Go.RowKit

theorem Tryz.infoFi14 : (Tryz.prog.info? 47).map (fun i => (i.zero, i.size, i.bytes)) = some (some (.agg #[.int .i64 0, .string ByteArray.empty, .string ByteArray.empty]), 3, 40) := by kernel_rfl

/-- A file lies at a place of a block. -/
structure Fi3 (w : World) (b o : Nat) (a : Fil) : Prop where
  c0 : w.cell? ⟨b, o, none⟩ = some (.int .i64 a.most)
  c1 : w.cell? ⟨b, o + 1, none⟩ = some (.string a.kept)
  c2 : w.cell? ⟨b, o + 2, none⟩ = some (.string a.loose)
/-- The slice at A holds the wiles ls, in blocks below B. -/
def FilsAt (w : World) (B : Nat) (A : Option Addr) (ls : List Fil) : Prop :=
  ∀ i (h : i < ls.length), ∃ b off, A = some ⟨b, off, none⟩ ∧ b < B ∧ Fi3 w b (off + i * 3) ls[i]
theorem Fi3.below {w w' : World} {B b o : Nat} {a : Fil} (h : Fi3 w b o a) (hb : Below B w w') (hB : b < B) : Fi3 w' b o a := by
  have f : ∀ j, w'.cell? ⟨b, j, none⟩ = w.cell? ⟨b, j, none⟩ := fun j => hb.cell (p := ⟨b, j, none⟩) hB
  exact ⟨(f _).trans h.c0, (f _).trans h.c1, (f _).trans h.c2⟩
theorem FilsAt.below {w w' : World} {B B' : Nat} {A : Option Addr} {ls : List Fil} (h : FilsAt w B A ls) (hb : Below B' w w') (hB : B ≤ B') : FilsAt w' B A ls := fun i hi => by
  obtain ⟨b, off, e, hlt, h6⟩ := h i hi
  exact ⟨b, off, e, hlt, h6.below hb (by omega)⟩
theorem FilsAt.more {w : World} {B B' : Nat} {A : Option Addr} {ls : List Fil} (h : FilsAt w B A ls) (hB : B ≤ B') : FilsAt w B' A ls := fun i hi => by
  obtain ⟨b, off, e, hlt, h6⟩ := h i hi
  exact ⟨b, off, e, by omega, h6⟩
theorem FilsAt.on {w w' : World} {A : Option Addr} {ls : List Fil} (h : FilsAt w w.heap.size A ls) (hb : Below w.heap.size w w') : FilsAt w' w'.heap.size A ls := (h.below hb (Nat.le_refl _)).more hb.size
theorem FilsAt.nil (w : World) (B : Nat) (A : Option Addr) : FilsAt w B A [] := fun _ hi => absurd hi (Nat.not_lt_zero _)
theorem FilsAt.none_nil {w : World} {B : Nat} {ls : List Fil} (h : FilsAt w B none ls) : ls = [] := by
  cases ls with
  | nil => rfl
  | cons z zs => obtain ⟨b, off, h, _⟩ := h 0 (by simp); cases h
theorem FilsAt.take {w : World} {B : Nat} {A : Option Addr} {ls : List Fil} (h : FilsAt w B A ls) (k : Nat) : FilsAt w B A (ls.take k) := fun i hi => by
  have hi' : i < ls.length := by rw [List.length_take] at hi; omega
  obtain ⟨b, off, e, hlt, h6⟩ := h i hi'
  exact ⟨b, off, e, hlt, by rw [List.getElem_take]; exact h6⟩
theorem FilsAt.drop {w : World} {B b off : Nat} {ls : List Fil} (h : FilsAt w B (some ⟨b, off, none⟩) ls) (k : Nat) : FilsAt w B (some ⟨b, off + k * 3, none⟩) (ls.drop k) := fun i hi => by
  have hi' : k + i < ls.length := by rw [List.length_drop] at hi; omega
  obtain ⟨b', off', e, hlt, h6⟩ := h (k + i) hi'
  cases e
  refine ⟨b, off + k * 3, rfl, hlt, ?_⟩
  rw [List.getElem_drop]
  have e : off + (k + i) * 3 = off + k * 3 + i * 3 := by omega
  rw [← e]
  exact h6

/-- Wiles, cell by cell. -/
def flatF (ls : List Fil) : List Value := ls.flatMap (fun a => [.int .i64 a.most, .string a.kept, .string a.loose])
theorem flatF_cons (a : Fil) (ls : List Fil) : flatF (a :: ls) = .int .i64 a.most :: .string a.kept :: .string a.loose :: flatF ls := rfl
theorem flatF_app (ls ms : List Fil) : flatF (ls ++ ms) = flatF ls ++ flatF ms := by unfold flatF; exact List.flatMap_append
theorem flatF_len : ∀ ls : List Fil, (flatF ls).length = ls.length * 3
  | [] => rfl
  | a :: ls => by have := flatF_len ls; rw [flatF_cons]; simp only [List.length_cons, this]; omega
theorem flatF_one (ls : List Fil) : ∀ u ∈ flatF ls, u.oneCell' = true := by
  intro u hu
  simp only [flatF, List.mem_flatMap, List.mem_cons, List.not_mem_nil, or_false] at hu
  obtain ⟨p, _, rfl | rfl | rfl⟩ := hu <;> rfl
theorem flatF_get : ∀ (ls : List Fil) (i : Nat) (h : i < ls.length), (flatF ls)[i * 3]? = some (.int .i64 ls[i].most) ∧ (flatF ls)[i * 3 + 1]? = some (.string ls[i].kept) ∧ (flatF ls)[i * 3 + 2]? = some (.string ls[i].loose)
  | a :: ls, 0, _ => ⟨rfl, rfl, rfl⟩
  | a :: ls, i + 1, h => by
    have g := flatF_get ls i (by simpa using h)
    rw [flatF_cons]
    have e1 : (i + 1) * 3 = i * 3 + 1 + 1 + 1 := by omega
    rw [e1]
    refine ⟨?_, ?_, ?_⟩ <;> simp only [List.getElem_cons_succ]
    · simpa using g.1
    · have := g.2.1; simpa [Nat.add_right_comm] using this
    · have := g.2.2; simpa [Nat.add_right_comm] using this
theorem FilsAt.flat_cells {w : World} {B : Nat} {a : Addr} {ls : List Fil} (h : FilsAt w B (some a) ls) : ∀ j u, (flatF ls)[j]? = some u → w.cell? (a.add j) = some u := by
  intro j u hu
  have hj := (List.getElem?_eq_some_iff.1 hu).1
  rw [flatF_len] at hj
  obtain ⟨b, off, ha, _, h6⟩ := h (j / 3) (by omega)
  cases ha
  have g := flatF_get ls (j / 3) (by omega)
  rw [Go.WideShapes.add_plain]
  have hm : j % 3 = 0 ∨ j % 3 = 1 ∨ j % 3 = 2 := by omega
  have fin : ∀ (r : Nat) (v : Value), j / 3 * 3 + r = j → (flatF ls)[j / 3 * 3 + r]? = some v → w.cell? ⟨b, off + j / 3 * 3 + r, none⟩ = some v → w.cell? ⟨b, off + j, none⟩ = some u := by
    intro r v e h1 h2
    have e2 : off + j / 3 * 3 + r = off + j := by omega
    rw [e2] at h2
    rw [e] at h1
    rw [h2]
    exact h1.symm.trans hu
  rcases hm with hm | hm | hm
  · exact fin 0 _ (by omega) g.1 h6.c0
  · exact fin 1 _ (by omega) g.2.1 h6.c1
  · exact fin 2 _ (by omega) g.2.2 h6.c2

/-- A slice of wiles that is none has no room; it has room for its wiles. -/
def RoomyF (A : Option Addr) (ls : List Fil) (c : Nat) : Prop := (A = none → c = 0) ∧ ls.length ≤ c
theorem RoomyF.some (a : Addr) (ls : List Fil) (c : Nat) (h : ls.length ≤ c) : RoomyF (some a) ls c := ⟨(fun e => nomatch e), h⟩
/-- A row of wiles of one's own. -/
def OwnF (w : World) (base : Nat) (v : Value) (ls : List Fil) : Prop := w.ownsRow base 47 3 v ls.length (flatF ls)
theorem OwnF.slice {w : World} {base : Nat} {v : Value} {ls : List Fil} (h : OwnF w base v ls) : ∃ A cap, v = .slice A ls.length cap ∧ FilsAt w w.heap.size A ls ∧ (A = none → cap = 0) ∧ ls.length ≤ cap := by
  unfold OwnF at h
  rcases h.2 with ⟨hv, h0⟩ | ⟨g, cap, cur, hv, _, hg, hcap, _⟩
  · refine ⟨none, 0, by rw [hv, h0], ?_, fun _ => rfl, by omega⟩
    rw [List.length_eq_zero_iff] at h0
    rw [h0]
    exact FilsAt.nil _ _ _
  · refine ⟨some ⟨g, 0, none⟩, cap, hv, ?_, fun e => (by cases e), hcap⟩
    intro i hi
    have g6 := flatF_get ls i hi
    have hc := fun j u (hu : (flatF ls)[j]? = some u) => (by have := h.cells (g := g) (by rw [hv]; rfl) _ _ hu; rw [Go.WideShapes.add_plain] at this; exact this : w.cell? ⟨g, 0 + j, none⟩ = some u)
    exact ⟨g, 0, rfl, (Array.getElem?_eq_some_iff.1 hg).1, ⟨hc _ _ g6.1, hc _ _ g6.2.1, hc _ _ g6.2.2⟩⟩
theorem OwnF.below {w W : World} {base : Nat} {v : Value} {ls : List Fil} (h : OwnF w base v ls) (hb : Below w.heap.size w W) : OwnF W base v ls := owns_below h hb
theorem OwnF.lower {w : World} {base base' : Nat} {v : Value} {ls : List Fil} (h : OwnF w base v ls) (hb : base' ≤ base) : OwnF w base' v ls := owns_lower h hb
theorem OwnF.nil (w : World) (base : Nat) : OwnF w base (.slice none 0 0) [] := World.ownsRow_nil w base 47 3
theorem OwnF.ge {w : World} {base : Nat} {v : Value} {ls : List Fil} (h : OwnF w base v ls) : ∀ k, v.ownBlock = some k → base ≤ k := fun k hk => (World.ownsRow.lt h k hk).1
theorem OwnF.rows {w : World} {base : Nat} {A : Option Addr} {l c : Nat} {ls : List Fil} (h : OwnF w base (.slice A l c) ls) : FilsAt w w.heap.size A ls ∧ RoomyF A ls c := by
  obtain ⟨A', c', e, h1, h2, h3⟩ := h.slice
  cases e
  exact ⟨h1, h2, h3⟩

/-- What a call ends with that hands back wiles in memory of their own. -/
def OwnedF (w : World) (n : Nat) (ls : List Fil) (e : Ending) (w' : World) : Prop := ∃ A c, e = .returned (.slice A n c) ∧ OwnF w' w.heap.size (.slice A n c) ls ∧ Below w.heap.size w w'
/-- .. and an error. -/
def GivesF (w : World) (n : Nat) (ls : List Fil) (er : Int) (e : Ending) (w' : World) : Prop := ∃ A c, e = .returned (.tuple #[.slice A n c, .int .i64 er]) ∧ OwnF w' w.heap.size (.slice A n c) ls ∧ Below w.heap.size w w'
/-- Turns that lie there. -/
def filF (A : Option Addr) (ls : List Fil) : Fact := ⟨fun w => FilsAt w w.heap.size A ls, fun _ _ h hb => h.on hb⟩
/-- Turns of one's own. -/
def ownFF (base : Nat) (v : Value) (ls : List Fil) : Fact := ⟨fun w => OwnF w base v ls, fun _ _ h hb => h.below hb⟩

/-- Turns of one's own, with those of whatever slice behind them. -/
theorem wpList_append_fils {ops : Array Oper} {rest : List Oper} {o : Oper} {a : Act} {w : World} {Q : Exit → Act → World → Prop} (hgd : o.guard = none) (s x : Operand) (t1 : TypeId)
    (ho : o.op = .call { callee := .builtin .append, args := #[s, x], argTypes := #[t1, t1] }) (hu : Tryz.prog.underlying t1 = some (.slice 47))
    (base : Nat) (v : Value) (zs ms : List Fil) (hs : a.eval s = v) (hown : OwnF w base v zs)
    (A : Option Addr) (n cap : Nat) (hx : a.eval x = .slice A n cap) (hn : n = ms.length) (hA : FilsAt w w.heap.size A ms) (hnil : A = none → cap = 0) (hb : base ≤ w.heap.size) (hl : zs.length + ms.length ≤ 1000000)
    (h : ∀ v' w', OwnF w' base v' (zs ++ ms) → w.grownBy w' v.ownBlock → wpList Tryz.prog ops Q rest (a.put o.dst v') w') : wpList Tryz.prog ops Q (o :: rest) a w := by
  obtain ⟨i0, hi, hz0, hz1, hz2⟩ := info_parts Tryz.infoFi14
  subst hn
  cases A with
  | none =>
    obtain rfl : cap = 0 := hnil rfl
    obtain rfl : ms = [] := hA.none_nil
    refine wpList_append_own_none hgd s x t1 ho base 47 i0 3 hu hi v _ _ hs hown hx ?_
    exact h v w (by rw [List.append_nil]; exact hown) (grown_refl _ _)
  | some ad =>
    refine wpList_append_own _ hgd s x t1 ho base 47 i0 _ 3 40 hu hi hz0 hz1 hz2 rfl (by decide) v _ _ hs hown ad ms.length cap (flatF ms) hx (flatF_len ms) hA.flat_cells (flatF_one ms) (by unfold maxLen; omega) (by omega) hb ?_
    intro v' w' ho' hg _
    exact h v' w' (by unfold OwnF; rw [List.length_append, flatF_app]; exact ho') hg
end Go.Proofs.YtlnchfnmpamliaaGreat

namespace Go.Proofs.YtlnchfnmpamliaaGreat
set_option maxRecDepth 10000
open Go.RowKit

/-- What a law is told of a slice of texts that came in: nil, or len texts, ss. -/
def IsStrs (w : World) (a : Option Addr) (len cap : Nat) (ss : List ByteArray) : Prop :=
  (a = none ∧ len = 0 ∧ cap = 0 ∧ ss = []) ∨
  ∃ x, a = some x ∧ len ≤ cap ∧ cap ≤ maxLen ∧ ss.length = len ∧ (∀ i (h : i < ss.length), w.cell? (x.add i) = some (.string ss[i])) ∧ ∀ s ∈ ss, s.size ≤ maxLen

theorem IsStrs.strs {w : World} {a : Option Addr} {len cap : Nat} {ss : List ByteArray} (h : IsStrs w a len cap ss) : len = ss.length ∧ len ≤ maxLen ∧ StrsAt w w.heap.size a ss ∧ ∀ s ∈ ss, s.size ≤ maxLen := by
  rcases h with ⟨rfl, rfl, rfl, rfl⟩ | ⟨x, rfl, hl, hm, hz, hc, hw⟩
  · exact ⟨rfl, Nat.zero_le _, StrsAt.nil _ _ _, by simp⟩
  · refine ⟨hz.symm, by omega, fun i hi => ?_, hw⟩
    obtain ⟨b, off, spot⟩ := x
    have hspot : spot = none := by simpa [Addr.add] using World.cell?_spot (hc 0 (by omega))
    subst hspot
    have h1 := hc i hi
    rw [Go.WideShapes.add_plain] at h1
    exact ⟨b, off, rfl, World.block_lt_of_cell? w _ h1, h1⟩

theorem IsStrs.of_trod {H : Type} {enc : TypeId × Value → H} {P : Program} {w : World} {base : Nat} {t e : TypeId} {fuel : Nat} {a : Option Addr} {len cap : Nat} {x : DataW H × List MemPlace} (ht : P.underlying t = some (.slice e)) (he : P.underlying e = some .string) (hc : P.cellsOf e = 1)
    (h : DataW.trod enc P w base (fun _ => true) true fuel t (Value.slice a len cap).cells.toList = some x) : ∃ ss, IsStrs w a len cap ss := by
  rcases Go.Deep.open_strs ht he hc h with ⟨hcs, _⟩ | ⟨y, l, c, m, Sx, hcs, _, hl, hm, hmm, _, hcell⟩
  · simp [Value.cells] at hcs
    obtain ⟨rfl, rfl, rfl⟩ := hcs
    exact ⟨[], .inl ⟨rfl, rfl, rfl, rfl⟩⟩
  · simp [Value.cells] at hcs
    obtain ⟨rfl, rfl, rfl⟩ := hcs
    simp only [if_true] at hmm
    refine ⟨(List.range len).map Sx, .inr ⟨_, rfl, hl, hm, by simp, fun i hi => ?_, fun s hs => ?_⟩⟩
    · have : i < len := by simpa using hi
      rw [(hcell i (by omega)).1]; simp
    · obtain ⟨i, hi, rfl⟩ := List.mem_map.1 hs
      exact (hcell i (by have := List.mem_range.1 hi; omega)).2

/-- What a function with four results hands back. -/
theorem results_tmp4 {fn : Func} {t u v x : Tmp} (h : fn.results = #[.tmp t, .tmp u, .tmp v, .tmp x]) (tmps : Array Value) (P : Program) (w : World) :
    (results fn tmps).run P w = .ok (.tuple #[tmps.getD t undef, tmps.getD u undef, tmps.getD v undef, tmps.getD x undef]) w := by
  simp [results, h]

end Go.Proofs.YtlnchfnmpamliaaGreat
