/-
  Plain mathematics of layer 1 (wire): a number's digits, its bytes, and how bytes are read. No program, no memory.
  Plain mathematics of layer 1 (wire): how bytes are read as numbers and texts. No program, no memory.
  Plain mathematics of layer 2 (sum): a shift, a step, a sum, where a sum is found. No program, no memory.
  Plain mathematics of layer 3 (frame): a frame's bytes, how bytes begin with one, rows of texts. No program, no memory.
  Plain mathematics of layer 3 (frame): frames one behind the other, and what is cut within one. No program, no memory.
  Layer 13 (record): numbered texts: the mathematics.
  Small words for memory and texts, of no program: a text's bytes, slices of numbers and of texts that are read, what lies below.
  Layer 12 (file): the mathematics of a file.
  Layer 13 (record): records in a file: the mathematics.
  Layer 15 (slots): a text that is written anew: the mathematics.
  Layer 15 (slots): what is saved, and crashed, is loaded: the mathematics.
  What is known of the memory along a walk, in one word: blocks of one's own and what they hold, facts that last while nothing that is there is turned, and what was there at the start.
-/
import Derived.WalkKit
import Derived.WalkSpells
import Derived.WalkLawsBesides
import Derived.RangeFuncBox
import Derived.OpenShut
import Derived.Lib.Hide
import Derived.Deep.Draws
import Derived.Laws.Rows
import Derived.Laws.Tables
import Derived.Deep.WholeRow
import Derived.Laws.IdiomCopy
namespace Go.Proofs.Yteepemibmjpnfaa
set_option maxRecDepth 10000
namespace Wm

def maxN : Nat := 2147483647

/-- The digits of n, the lowest first. -/
def digs (n : Nat) : List UInt8 :=
  if _h : n = 0 then [] else UInt8.ofNat (n % 250) :: digs (n / 250)
termination_by n
decreasing_by omega

theorem digs_zero : digs 0 = [] := by unfold digs; simp
theorem digs_pos {n : Nat} (h : 0 < n) : digs n = UInt8.ofNat (n % 250) :: digs (n / 250) := by
  rw [digs]; simp [Nat.ne_of_gt h]

/-- A number's end byte. -/
def endB (n : Int) : UInt8 := if n < 0 then 254 else 255

def lay (n : Int) : List UInt8 := digs n.natAbs ++ [endB n]

def lays (l : List Int) : List UInt8 := l.flatMap lay

/-- Is a number one that has bytes? -/
def fits (n : Int) : Bool := decide (-2147483647 ≤ n) && decide (n ≤ 2147483647)

theorem fits_iff {n : Int} : fits n = true ↔ -2147483647 ≤ n ∧ n ≤ 2147483647 := by simp [fits]

/-- The number that digits make. -/
def val : List UInt8 → Nat
  | [] => 0
  | d :: ds => d.toNat + 250 * val ds

theorem val_digs (n : Nat) : val (digs n) = n := by
  induction n using Nat.strongRecOn with
  | _ n ih =>
    by_cases h : n = 0
    · subst h; rw [digs_zero]; rfl
    · rw [digs_pos (by omega)]
      have h1 : (UInt8.ofNat (n % 250)).toNat = n % 250 := by
        rw [UInt8.toNat_ofNat']; omega
      simp only [val, h1, ih (n / 250) (by omega)]
      omega

theorem digs_lt (n : Nat) : ∀ d ∈ digs n, d.toNat < 250 := by
  induction n using Nat.strongRecOn with
  | _ n ih =>
    by_cases h : n = 0
    · subst h; rw [digs_zero]; simp
    · rw [digs_pos (by omega)]
      intro d hd
      rcases List.mem_cons.1 hd with rfl | hd
      · rw [UInt8.toNat_ofNat']; omega
      · exact ih (n / 250) (by omega) d hd

theorem digs_nil {n : Nat} : digs n = [] ↔ n = 0 := by
  constructor
  · intro h
    by_cases h0 : n = 0
    · exact h0
    · rw [digs_pos (by omega)] at h; cases h
  · rintro rfl; exact digs_zero

theorem digs_last (n : Nat) : (digs n).getLast? ≠ some 0 := by
  induction n using Nat.strongRecOn with
  | _ n ih =>
    by_cases h : n = 0
    · subst h; rw [digs_zero]; simp
    · rw [digs_pos (by omega)]
      by_cases h2 : n / 250 = 0
      · rw [h2, digs_zero]
        simp only [List.getLast?_singleton, ne_eq, Option.some.injEq]
        intro hc
        have := congrArg UInt8.toNat hc
        rw [UInt8.toNat_ofNat'] at this
        simp at this
        omega
      · have := ih (n / 250) (by omega)
        rw [List.getLast?_cons]
        have hne : digs (n / 250) ≠ [] := fun hh => h2 (digs_nil.1 hh)
        rw [List.getLast?_eq_some_getLast hne] at this ⊢
        simpa using this

/-- Digits that are a number's: each below 250, the last not 0. -/
def proper (ds : List UInt8) : Prop := (∀ d ∈ ds, d.toNat < 250) ∧ ds.getLast? ≠ some 0

theorem proper_digs (n : Nat) : proper (digs n) := ⟨digs_lt n, digs_last n⟩

theorem val_pos {ds : List UInt8} (h : proper ds) (hne : ds ≠ []) : 0 < val ds := by
  induction ds with
  | nil => exact absurd rfl hne
  | cons d ds ih =>
    by_cases h2 : ds = []
    · subst h2
      have := h.2
      simp at this
      have : d.toNat ≠ 0 := fun hc => this (UInt8.toNat_inj.1 (by simpa using hc))
      simp [val]; omega
    · have hp : proper ds := ⟨fun x hx => h.1 x (List.mem_cons_of_mem _ hx), by
        have := h.2
        rw [List.getLast?_cons, List.getLast?_eq_some_getLast h2] at this
        rw [List.getLast?_eq_some_getLast h2]; simpa using this⟩
      have := ih hp h2
      simp [val]; omega

theorem digs_val {ds : List UInt8} (h : proper ds) : digs (val ds) = ds := by
  induction ds with
  | nil => exact digs_zero
  | cons d ds ih =>
    have hd : d.toNat < 250 := h.1 d (List.mem_cons_self ..)
    have hpos := val_pos h (by simp)
    rw [digs_pos hpos]
    have hp : proper ds := by
      by_cases h2 : ds = []
      · subst h2; exact ⟨by simp, by simp⟩
      · exact ⟨fun x hx => h.1 x (List.mem_cons_of_mem _ hx), by
          have := h.2
          rw [List.getLast?_cons, List.getLast?_eq_some_getLast h2] at this
          rw [List.getLast?_eq_some_getLast h2]; simpa using this⟩
    have e1 : val (d :: ds) % 250 = d.toNat := by simp only [val]; omega
    have e2 : val (d :: ds) / 250 = val ds := by simp only [val]; omega
    rw [e1, e2, ih hp]
    simp

end Wm
end Go.Proofs.Yteepemibmjpnfaa

namespace Go.Proofs.Yteepemibmjpnfaa
set_option maxRecDepth 10000
namespace Wm

/-- Is a byte an end byte? -/
def isEnd (c : UInt8) : Bool := decide (254 ≤ c.toNat)
/-- Where the first end byte stands. -/
def endAt (l : List UInt8) : Nat := l.findIdx isEnd

theorem endAt_le (l : List UInt8) : endAt l ≤ l.length := List.findIdx_le_length

theorem endAt_before {l : List UInt8} {j : Nat} (h : j < endAt l) (hj : j < l.length) : isEnd l[j] = false := by
  have := List.not_of_lt_findIdx h
  simpa using this

theorem endAt_at {l : List UInt8} (h : endAt l < l.length) : isEnd l[endAt l] = true := List.findIdx_getElem (w := h)

theorem endAt_eq {l : List UInt8} {k : Nat} (hk : k < l.length) (h1 : isEnd l[k] = true) (h2 : ∀ j (hj : j < k), isEnd (l[j]'(by omega)) = false) : endAt l = k := by
  unfold endAt
  rw [List.findIdx_eq hk]
  exact ⟨h1, fun j hj => by simpa using h2 j hj⟩

theorem endAt_none {l : List UInt8} (h : ∀ j (hj : j < l.length), isEnd l[j] = false) : endAt l = l.length := by
  unfold endAt
  rw [List.findIdx_eq_length]
  intro x hx
  obtain ⟨j, hj, rfl⟩ := List.getElem_of_mem hx
  simpa using h j hj

/-- Digits of a number within the bounds. -/
def sizeOk (l : List UInt8) : Bool := l.all (fun d => decide (d.toNat < 250)) && (l.getLast? != some 0) && decide (val l ≤ 2147483647)

theorem sizeOk_iff {l : List UInt8} : sizeOk l = true ↔ proper l ∧ val l ≤ 2147483647 := by
  simp [sizeOk, proper]

/-- May the digits ds with the end byte c be a number's? -/
def good (ds : List UInt8) (c : UInt8) : Bool := sizeOk ds && !(decide (c = 254) && decide (val ds = 0))
def sgn (ds : List UInt8) (c : UInt8) : Int := if c = 254 then -(val ds : Int) else (val ds : Int)

/-- The number that l begins with, what stands behind it, and the error. -/
def getInt (l : List UInt8) : Int × List UInt8 × Int :=
  if h : endAt l < l.length then
    if good (l.take (endAt l)) l[endAt l] = true then (sgn (l.take (endAt l)) l[endAt l], l.drop (endAt l + 1), 0) else (0, [], 20)
  else (0, [], 22)

theorem digs_notEnd {n : Nat} {c : UInt8} (h : c ∈ digs n) : isEnd c = false := by
  have := digs_lt n c h
  simp [isEnd]; omega

theorem endB_isEnd (n : Int) : isEnd (endB n) = true := by
  unfold endB isEnd; split <;> decide

theorem endAt_lay (n : Int) (r : List UInt8) : endAt (lay n ++ r) = (digs n.natAbs).length := by
  unfold endAt lay
  rw [List.append_assoc, List.findIdx_append]
  have h1 : (digs n.natAbs).findIdx isEnd = (digs n.natAbs).length := List.findIdx_eq_length.2 fun x hx => digs_notEnd hx
  rw [h1]
  simp [List.findIdx_cons, endB_isEnd]

theorem getInt_lay {n : Int} (h : fits n = true) (r : List UInt8) : getInt (lay n ++ r) = (n, r, 0) := by
  have hf := fits_iff.1 h
  have he := endAt_lay n r
  have hlt : endAt (lay n ++ r) < (lay n ++ r).length := by rw [he]; simp [lay]
  have htake : (lay n ++ r).take (endAt (lay n ++ r)) = digs n.natAbs := by rw [he]; simp [lay]
  have hdrop : (lay n ++ r).drop (endAt (lay n ++ r) + 1) = r := by
    rw [he]
    have : (lay n).length = (digs n.natAbs).length + 1 := by simp [lay]
    rw [← this]; simp
  have hget : (lay n ++ r)[endAt (lay n ++ r)] = endB n := by
    have h2 : (lay n ++ r)[endAt (lay n ++ r)]? = some (endB n) := by
      rw [he, lay, List.append_assoc, List.getElem?_append_right (Nat.le_refl _)]; simp
    rw [List.getElem?_eq_getElem hlt] at h2
    exact Option.some.inj h2
  unfold getInt
  rw [dif_pos hlt, htake, hdrop, hget]
  have hv := val_digs n.natAbs
  have hg : good (digs n.natAbs) (endB n) = true := by
    unfold good
    rw [sizeOk_iff.2 ⟨proper_digs _, by omega⟩, hv]
    simp only [endB]
    split <;> simp <;> omega
  rw [if_pos hg]
  unfold sgn
  rw [hv]
  simp only [endB]
  split
  · rename_i hc; simp; omega
  · rename_i hc; simp; omega

theorem isEnd_cases {c : UInt8} (h : isEnd c = true) : c = 254 ∨ c = 255 := by
  have h1 : 254 ≤ c.toNat := by simpa [isEnd] using h
  have h2 := c.toNat_lt
  have h3 : c.toNat = 254 ∨ c.toNat = 255 := by omega
  rcases h3 with h3 | h3
  · exact .inl (UInt8.toNat_inj.1 (by simpa using h3))
  · exact .inr (UInt8.toNat_inj.1 (by simpa using h3))

/-- What is read is laid as it was. -/
theorem getInt_ok {l : List UInt8} {n : Int} {r : List UInt8} (h : getInt l = (n, r, 0)) : fits n = true ∧ l = lay n ++ r := by
  unfold getInt at h
  split at h
  · rename_i hlt
    split at h
    · rename_i hg
      simp only [Prod.mk.injEq, and_true] at h
      obtain ⟨rfl, rfl⟩ := h
      have hg' := hg
      unfold good at hg'
      simp only [Bool.and_eq_true] at hg'
      obtain ⟨hs, hz⟩ := hg'
      obtain ⟨hp, hv⟩ := sizeOk_iff.1 hs
      have hd := digs_val hp
      have hsplit : l = l.take (endAt l) ++ ([l[endAt l]] ++ l.drop (endAt l + 1)) := by
        conv => lhs; rw [← List.take_append_drop (endAt l) l, List.drop_eq_getElem_cons hlt]
        rfl
      rcases isEnd_cases (endAt_at hlt) with hc | hc
      · have hpos : val (l.take (endAt l)) ≠ 0 := by
          intro h0; rw [hc, h0] at hz; simp at hz
        refine ⟨fits_iff.2 (by simp only [sgn, hc, if_true]; omega), ?_⟩
        have e1 : lay (sgn (l.take (endAt l)) l[endAt l]) = l.take (endAt l) ++ [l[endAt l]] := by
          simp only [sgn, hc, if_true, lay, Int.natAbs_neg, Int.natAbs_natCast, hd]
          congr 2
          simp only [endB]; rw [if_pos (by omega)]
        rw [e1, List.append_assoc]; exact hsplit
      · have hne : ¬ ((255 : UInt8) = 254) := by decide
        refine ⟨fits_iff.2 (by simp only [sgn, hc, if_neg hne]; omega), ?_⟩
        have e1 : lay (sgn (l.take (endAt l)) l[endAt l]) = l.take (endAt l) ++ [l[endAt l]] := by
          simp only [sgn, hc, if_neg hne, lay, Int.natAbs_natCast, hd]
          congr 2
        rw [e1, List.append_assoc]; exact hsplit
    · simp at h
  · simp at h

theorem getInt_err (l : List UInt8) : (∃ n r, getInt l = (n, r, 0)) ∨ getInt l = (0, [], 20) ∨ getInt l = (0, [], 22) := by
  unfold getInt
  split
  · split
    · exact .inl ⟨_, _, rfl⟩
    · exact .inr (.inl rfl)
  · exact .inr (.inr rfl)

/-- Some numbers, one behind the other. -/
def getInts : Nat → List UInt8 → List Int × List UInt8 × Int
  | 0, l => ([], l, 0)
  | m + 1, l =>
    if (getInt l).2.2 = 0 then
      if (getInts m (getInt l).2.1).2.2 = 0 then ((getInt l).1 :: (getInts m (getInt l).2.1).1, (getInts m (getInt l).2.1).2.1, 0) else ([], [], (getInts m (getInt l).2.1).2.2)
    else ([], [], (getInt l).2.2)

/-- What is read, behind numbers that were read ahead. -/
def glue (ns : List Int) (t : List Int × List UInt8 × Int) : List Int × List UInt8 × Int := if t.2.2 = 0 then (ns ++ t.1, t.2.1, 0) else ([], [], t.2.2)

theorem getInts_err (m : Nat) (l : List UInt8) : (∃ ns r, getInts m l = (ns, r, 0)) ∨ ∃ e, e ≠ 0 ∧ getInts m l = ([], [], e) := by
  induction m generalizing l with
  | zero => exact .inl ⟨[], l, rfl⟩
  | succ m ih =>
    unfold getInts
    by_cases h1 : (getInt l).2.2 = 0
    · rw [if_pos h1]
      by_cases h2 : (getInts m (getInt l).2.1).2.2 = 0
      · rw [if_pos h2]; exact .inl ⟨_, _, rfl⟩
      · rw [if_neg h2]; exact .inr ⟨_, h2, rfl⟩
    · rw [if_neg h1]; exact .inr ⟨_, h1, rfl⟩

theorem glue_nil (m : Nat) (l : List UInt8) : glue [] (getInts m l) = getInts m l := by
  rcases getInts_err m l with ⟨ns, r, h⟩ | ⟨e, he, h⟩
  · rw [h]; simp [glue]
  · rw [h]; simp [glue, he]

theorem glue_step {ns : List Int} {m : Nat} {l r : List UInt8} {n : Int} (h : getInt l = (n, r, 0)) : glue ns (getInts (m + 1) l) = glue (ns ++ [n]) (getInts m r) := by
  rw [getInts, h]
  simp only [if_true]
  rcases getInts_err m r with ⟨ns', r', h'⟩ | ⟨e, he, h'⟩
  · rw [h']; simp [glue]
  · rw [h']; simp [glue, he]

theorem glue_bad {ns : List Int} {m : Nat} {l : List UInt8} (h : (getInt l).2.2 ≠ 0) : glue ns (getInts (m + 1) l) = ([], [], (getInt l).2.2) := by
  rw [getInts, if_neg h]
  simp [glue, h]

theorem lays_cons (x : Int) (l : List Int) : lays (x :: l) = lay x ++ lays l := by simp [lays]

theorem getInts_lays (zs : List Int) (h : zs.all fits = true) (r : List UInt8) : getInts zs.length (lays zs ++ r) = (zs, r, 0) := by
  induction zs with
  | nil => simp [getInts, lays]
  | cons z zs ih =>
    simp only [List.all_cons, Bool.and_eq_true] at h
    have hg := getInt_lay h.1 (lays zs ++ r)
    rw [List.length_cons, lays_cons, List.append_assoc, getInts, hg]
    simp [ih h.2]

theorem getInts_ok {m : Nat} {l r : List UInt8} {ns : List Int} (h : getInts m l = (ns, r, 0)) : ns.length = m ∧ ns.all fits = true ∧ l = lays ns ++ r := by
  induction m generalizing l ns with
  | zero =>
    simp only [getInts, Prod.mk.injEq, and_true] at h
    obtain ⟨rfl, rfl⟩ := h
    simp [lays]
  | succ m ih =>
    rcases getInt_err l with ⟨n, r1, h1⟩ | h1 | h1
    · rw [getInts, h1] at h
      simp only [if_true] at h
      rcases getInts_err m r1 with ⟨ns', r', h'⟩ | ⟨e, he, h'⟩
      · rw [h'] at h
        simp only [if_true, Prod.mk.injEq, and_true] at h
        obtain ⟨rfl, rfl⟩ := h
        obtain ⟨a, b, c⟩ := ih h'
        obtain ⟨d, f⟩ := getInt_ok h1
        refine ⟨by simp [a], by simp only [List.all_cons, d, b, Bool.and_self], ?_⟩
        rw [f, c, lays_cons, List.append_assoc]
      · rw [h'] at h
        simp [he] at h
    · rw [getInts, h1] at h; simp at h
    · rw [getInts, h1] at h; simp at h

/-- The text that l begins with, what stands behind it, and the error. -/
def getText (l : List UInt8) : List UInt8 × List UInt8 × Int :=
  if (getInt l).2.2 = 0 then
    if (getInt l).1 < 0 ∨ 3000 < (getInt l).1 then ([], [], 20)
    else if ((getInt l).2.1.length : Int) < (getInt l).1 then ([], [], 22)
    else ((getInt l).2.1.take (getInt l).1.toNat, (getInt l).2.1.drop (getInt l).1.toNat, 0)
  else ([], [], (getInt l).2.2)

theorem getText_lay (t r : List UInt8) (h : t.length ≤ 3000) : getText (lay t.length ++ t ++ r) = (t, r, 0) := by
  have hg := getInt_lay (n := (t.length : Int)) (fits_iff.2 (by omega)) (t ++ r)
  unfold getText
  rw [List.append_assoc, hg]
  simp only [if_true]
  rw [if_neg (by omega), if_neg (by simp; omega)]
  simp

theorem getText_ok {l t r : List UInt8} (h : getText l = (t, r, 0)) : t.length ≤ 3000 ∧ l = lay t.length ++ t ++ r := by
  rcases getInt_err l with ⟨n, r1, h1⟩ | h1 | h1
  · unfold getText at h
    rw [h1] at h
    simp only [if_true] at h
    split at h
    · simp at h
    · rename_i hn
      split at h
      · simp at h
      · rename_i hl
        simp only [Prod.mk.injEq, and_true] at h
        obtain ⟨rfl, rfl⟩ := h
        obtain ⟨d, f⟩ := getInt_ok h1
        have hlen : (r1.take n.toNat).length = n.toNat := by rw [List.length_take]; omega
        refine ⟨by rw [hlen]; omega, ?_⟩
        rw [hlen, f, List.append_assoc, List.take_append_drop]
        congr 2
        omega
  · unfold getText at h; rw [h1] at h; simp at h
  · unfold getText at h; rw [h1] at h; simp at h

theorem getText_err (l : List UInt8) : (∃ t r, getText l = (t, r, 0)) ∨ ∃ e, e ≠ 0 ∧ getText l = ([], [], e) := by
  unfold getText
  split
  · split
    · exact .inr ⟨20, by decide, rfl⟩
    · split
      · exact .inr ⟨22, by decide, rfl⟩
      · exact .inl ⟨_, _, rfl⟩
  · rename_i h; exact .inr ⟨_, h, rfl⟩

end Wm
end Go.Proofs.Yteepemibmjpnfaa

namespace Go.Proofs.Yteepemibmjpnfaa
set_option maxRecDepth 10000
namespace Sm

/-- One shift. -/
def sh (c : Nat) : Nat := if 32768 ≤ c then (2 * c % 65536) ^^^ 4129 else 2 * c % 65536
/-- k shifts. -/
def it : Nat → Nat → Nat
  | 0, c => c
  | k + 1, c => sh (it k c)
/-- A step by one byte. -/
def st (c b : Nat) : Nat := it 8 (c ^^^ 256 * b)
/-- A sum that goes on by bytes. -/
def go (c : Nat) (l : List UInt8) : Nat := l.foldl (fun c b => st c b.toNat) c
/-- The sum of bytes. -/
def ofL (l : List UInt8) : Nat := go 65535 l

theorem xor_lt {a b : Nat} (ha : a < 65536) (hb : b < 65536) : a ^^^ b < 65536 := Nat.xor_lt_two_pow (n := 16) ha hb

theorem sh_lt (c : Nat) : sh c < 65536 := by
  unfold sh
  split
  · exact xor_lt (by omega) (by decide)
  · omega

theorem it_lt {k c : Nat} (h : c < 65536) : it k c < 65536 := by
  cases k with
  | zero => exact h
  | succ k => exact sh_lt _

theorem st_lt {c b : Nat} (h : c < 65536) (hb : b < 256) : st c b < 65536 := it_lt (xor_lt h (by omega))

theorem go_nil (c : Nat) : go c [] = c := rfl
theorem go_cons (c : Nat) (b : UInt8) (l : List UInt8) : go c (b :: l) = go (st c b.toNat) l := by unfold go; rw [List.foldl_cons]

theorem go_lt {c : Nat} (h : c < 65536) (l : List UInt8) : go c l < 65536 := by
  induction l generalizing c with
  | nil => exact h
  | cons b l ih => rw [go_cons]; exact ih (st_lt h b.toNat_lt)

theorem ofL_lt (l : List UInt8) : ofL l < 65536 := by unfold ofL; exact go_lt (by omega) l

theorem go_append (c : Nat) (l m : List UInt8) : go c (l ++ m) = go (go c l) m := by
  unfold go; rw [List.foldl_append]
theorem go_one (c : Nat) (b : UInt8) : go c [b] = st c b.toNat := by rw [go_cons, go_nil]
theorem ofL_snoc (l : List UInt8) (b : UInt8) : ofL (l ++ [b]) = st (ofL l) b.toNat := by
  unfold ofL; rw [go_append, go_one]

theorem hi_iff {c : Nat} (h : c < 65536) : (32768 ≤ c) ↔ c.testBit 15 = true := by
  rw [Nat.testBit_eq_decide_div_mod_eq, decide_eq_true_iff]; omega

theorem dbl_xor (a b : Nat) : 2 * (a ^^^ b) % 65536 = (2 * a % 65536) ^^^ (2 * b % 65536) := by
  have e : ∀ x : Nat, 2 * x = x <<< 1 := fun x => by rw [Nat.shiftLeft_eq]; omega
  rw [e, e, e, Nat.shiftLeft_xor_distrib]
  exact Nat.xor_mod_two_pow (n := 16)

theorem sh_xor {a b : Nat} (ha : a < 65536) (hb : b < 65536) : sh (a ^^^ b) = sh a ^^^ sh b := by
  have h := hi_iff (xor_lt ha hb)
  rw [Nat.testBit_xor] at h
  unfold sh
  by_cases h1 : 32768 ≤ a <;> by_cases h2 : 32768 ≤ b
  · have h3 : ¬ 32768 ≤ a ^^^ b := by rw [h, (hi_iff ha).1 h1, (hi_iff hb).1 h2]; simp
    rw [if_pos h1, if_pos h2, if_neg h3, dbl_xor, Nat.xor_assoc, Nat.xor_comm 4129, Nat.xor_assoc, Nat.xor_self, Nat.xor_zero]
  · have e2 : b.testBit 15 = false := by rw [← Bool.not_eq_true, ← hi_iff hb]; exact h2
    have h3 : 32768 ≤ a ^^^ b := by rw [h, (hi_iff ha).1 h1, e2]; rfl
    rw [if_pos h1, if_neg h2, if_pos h3, dbl_xor, Nat.xor_assoc, Nat.xor_assoc, Nat.xor_comm 4129]
  · have e1 : a.testBit 15 = false := by rw [← Bool.not_eq_true, ← hi_iff ha]; exact h1
    have h3 : 32768 ≤ a ^^^ b := by rw [h, (hi_iff hb).1 h2, e1]; rfl
    rw [if_neg h1, if_pos h2, if_pos h3, dbl_xor, Nat.xor_assoc]
  · have e1 : a.testBit 15 = false := by rw [← Bool.not_eq_true, ← hi_iff ha]; exact h1
    have e2 : b.testBit 15 = false := by rw [← Bool.not_eq_true, ← hi_iff hb]; exact h2
    have h3 : ¬ 32768 ≤ a ^^^ b := by rw [h, e1, e2]; simp
    rw [if_neg h1, if_neg h2, if_neg h3, dbl_xor]

theorem xor_zero_iff {a b : Nat} : a ^^^ b = 0 ↔ a = b := by
  constructor
  · intro h
    have := congrArg (· ^^^ b) h
    simpa [Nat.xor_assoc] using this
  · rintro rfl; exact Nat.xor_self _

theorem sh_zero {c : Nat} (h : c < 65536) (hs : sh c = 0) : c = 0 := by
  unfold sh at hs
  split at hs
  · have := xor_zero_iff.1 hs; omega
  · omega

theorem sh_inj {a b : Nat} (ha : a < 65536) (hb : b < 65536) (h : sh a = sh b) : a = b := by
  have := sh_xor ha hb
  rw [h, Nat.xor_self] at this
  exact xor_zero_iff.1 (sh_zero (xor_lt ha hb) this)

theorem it_inj {k a b : Nat} (ha : a < 65536) (hb : b < 65536) (h : it k a = it k b) : a = b := by
  induction k with
  | zero => exact h
  | succ k ih => exact ih (sh_inj (it_lt ha) (it_lt hb) h)

theorem it_xor {k a b : Nat} (ha : a < 65536) (hb : b < 65536) : it k (a ^^^ b) = it k a ^^^ it k b := by
  induction k with
  | zero => rfl
  | succ k ih => show sh (it k (a ^^^ b)) = _; rw [ih, sh_xor (it_lt ha) (it_lt hb)]; rfl

theorem xor_left {a b c : Nat} (h : a ^^^ b = a ^^^ c) : b = c := by
  have := congrArg (a ^^^ ·) h
  simpa [← Nat.xor_assoc] using this
theorem xor_right {a b c : Nat} (h : b ^^^ a = c ^^^ a) : b = c := xor_left (a := a) (by rw [Nat.xor_comm, h, Nat.xor_comm])

theorem st_inj {c d b : Nat} (hc : c < 65536) (hd : d < 65536) (hb : b < 256) (h : st c b = st d b) : c = d :=
  xor_right (it_inj (xor_lt hc (by omega)) (xor_lt hd (by omega)) h)
theorem st_byte {c a b : Nat} (hc : c < 65536) (ha : a < 256) (hb : b < 256) (h : st c a = st c b) : a = b := by
  have := xor_left (it_inj (xor_lt hc (by omega)) (xor_lt hc (by omega)) h)
  omega

theorem go_inj {c d : Nat} (hc : c < 65536) (hd : d < 65536) (l : List UInt8) (h : go c l = go d l) : c = d := by
  induction l generalizing c d with
  | nil => exact h
  | cons b l ih => rw [go_cons, go_cons] at h; exact st_inj hc hd b.toNat_lt (ih (st_lt hc b.toNat_lt) (st_lt hd b.toNat_lt) h)

theorem mul_xor (a b : Nat) : 256 * (a ^^^ b) = 256 * a ^^^ 256 * b := by
  have e : ∀ x : Nat, 256 * x = x <<< 8 := fun x => by rw [Nat.shiftLeft_eq]; omega
  rw [e, e, e, Nat.shiftLeft_xor_distrib]

theorem no_fix : ∀ x : Nat, x < 256 → it 8 (256 * x) = 256 * x → x = 0 := by decide +kernel

theorem xor4 {p q r s : Nat} (h : p ^^^ q = r ^^^ s) : p ^^^ r = s ^^^ q := by
  have h2 := congrArg (fun z => r ^^^ z ^^^ q) h
  simp only [Nat.xor_assoc] at h2
  rw [Nat.xor_self, Nat.xor_zero, ← Nat.xor_assoc r r, Nat.xor_self, Nat.zero_xor, Nat.xor_comm] at h2
  exact h2

theorem swap {c a b : Nat} (hc : c < 65536) (ha : a < 256) (hb : b < 256) (h : st (st c a) b = st (st c b) a) : a = b := by
  have hA : 256 * a < 65536 := by omega
  have hB : 256 * b < 65536 := by omega
  have h1 := it_inj (xor_lt (st_lt hc ha) hB) (xor_lt (st_lt hc hb) hA) h
  unfold st at h1
  rw [it_xor hc hA, it_xor hc hB, Nat.xor_assoc, Nat.xor_assoc] at h1
  have h2 := xor_left h1
  have h3 := xor4 h2
  rw [← it_xor hA hB, ← mul_xor] at h3
  exact xor_zero_iff.1 (no_fix _ (Nat.xor_lt_two_pow (n := 8) ha hb) h3)

/-- One byte that is another one. -/
theorem sees (p q : List UInt8) (x y : UInt8) : ofL (p ++ x :: q) = ofL (p ++ y :: q) ↔ x = y := by
  constructor
  · intro h
    unfold ofL at h
    rw [go_append, go_append, go_cons, go_cons] at h
    have hp : go 65535 p < 65536 := ofL_lt p
    generalize go 65535 p = c at *
    have h1 := go_inj (st_lt hp x.toNat_lt) (st_lt hp y.toNat_lt) q h
    exact UInt8.toNat_inj.1 (st_byte hp x.toNat_lt y.toNat_lt h1)
  · rintro rfl; rfl

/-- Two side by side that change places. -/
theorem sees2 (p q : List UInt8) (x y : UInt8) : ofL (p ++ y :: x :: q) = ofL (p ++ x :: y :: q) ↔ x = y := by
  constructor
  · intro h
    unfold ofL at h
    rw [go_append, go_append, go_cons, go_cons, go_cons, go_cons] at h
    have hp : go 65535 p < 65536 := ofL_lt p
    generalize go 65535 p = c at *
    have h1 := go_inj (st_lt (st_lt hp y.toNat_lt) x.toNat_lt) (st_lt (st_lt hp x.toNat_lt) y.toNat_lt) q h
    exact UInt8.toNat_inj.1 (swap hp y.toNat_lt x.toNat_lt h1).symm
  · rintro rfl; rfl

theorem ofL_more (l m r : List UInt8) : ofL (l ++ r) = ofL (m ++ r) ↔ ofL l = ofL m := by
  constructor
  · intro h
    unfold ofL at h
    rw [go_append, go_append] at h
    have hl : go 65535 l < 65536 := ofL_lt l
    have hm : go 65535 m < 65536 := ofL_lt m
    unfold ofL
    generalize go 65535 l = c at *
    generalize go 65535 m = d at *
    exact go_inj hl hm r h
  · intro h; unfold ofL at h ⊢; rw [go_append, go_append, h]

/-- Is c the sum of the first k bytes, and k at most most? -/
def isAt (l : List UInt8) (c most : Int) (k : Nat) : Bool := decide ((k : Int) ≤ most) && decide ((ofL (l.take k) : Int) = c)
def fnd (l : List UInt8) (c most : Int) : Option Nat := (List.range (l.length + 1)).find? (isAt l c most)
def fndK (l : List UInt8) (c most : Int) : Nat := (fnd l c most).getD 0
def fndB (l : List UInt8) (c most : Int) : Bool := (fnd l c most).isSome

theorem find_range {n k : Nat} {p : Nat → Bool} (hk : k < n) (h : p k = true) (hn : ∀ j, j < k → p j = false) : (List.range n).find? p = some k := by
  rw [List.find?_range_eq_some]
  exact ⟨h, by simpa using hk, fun j hj => by simp [hn j hj]⟩

theorem fnd_at {l : List UInt8} {c most : Int} {k : Nat} (hk : k ≤ l.length) (h : isAt l c most k = true) (hn : ∀ j, j < k → isAt l c most j = false) : fndK l c most = k ∧ fndB l c most = true := by
  have : fnd l c most = some k := find_range (by omega) h hn
  unfold fndK fndB
  rw [this]; exact ⟨rfl, rfl⟩

theorem fnd_none {l : List UInt8} {c most : Int} (hn : ∀ j, j ≤ l.length → isAt l c most j = false) : fndK l c most = 0 ∧ fndB l c most = false := by
  have : fnd l c most = none := by
    unfold fnd
    rw [List.find?_eq_none]
    intro j hj
    rw [List.mem_range] at hj
    simp [hn j (by omega)]
  unfold fndK fndB
  rw [this]; exact ⟨rfl, rfl⟩

theorem fnd_cases (l : List UInt8) (c most : Int) : (fndK l c most ≤ l.length ∧ fndB l c most = true ∧ isAt l c most (fndK l c most) = true ∧ ∀ j, j < fndK l c most → isAt l c most j = false) ∨
    (fndK l c most = 0 ∧ fndB l c most = false ∧ ∀ j, j ≤ l.length → isAt l c most j = false) := by
  unfold fndK fndB
  cases h : fnd l c most with
  | none =>
    right
    refine ⟨rfl, rfl, fun j hj => ?_⟩
    unfold fnd at h
    rw [List.find?_eq_none] at h
    simpa using h j (by rw [List.mem_range]; omega)
  | some k =>
    left
    unfold fnd at h
    rw [List.find?_range_eq_some] at h
    obtain ⟨h1, h2, h3⟩ := h
    rw [List.mem_range] at h2
    exact ⟨by simp; omega, rfl, h1, fun j hj => by simpa using h3 j hj⟩

/-- The bits in which two numbers are unlike, the first i of them. -/
theorem unlike_succ (a b i : Nat) : (a ^^^ b) % 2 ^ (i + 1) = (a ^^^ b) % 2 ^ i + (if a / 2 ^ i % 2 = b / 2 ^ i % 2 then 0 else 2 ^ i) := by
  have hb : (a ^^^ b) / 2 ^ i % 2 = ((a ^^^ b).testBit i).toNat := by
    rw [Nat.testBit_eq_decide_div_mod_eq]
    have := Nat.mod_lt ((a ^^^ b) / 2 ^ i) (show 0 < 2 by decide)
    by_cases h : (a ^^^ b) / 2 ^ i % 2 = 1
    · rw [h]; rfl
    · rw [show (a ^^^ b) / 2 ^ i % 2 = 0 by omega]; rfl
  rw [Nat.mod_pow_succ, hb, Nat.testBit_xor, Nat.testBit_eq_decide_div_mod_eq, Nat.testBit_eq_decide_div_mod_eq]
  clear hb
  have h1 : a / 2 ^ i % 2 < 2 := Nat.mod_lt _ (by decide)
  have h2 : b / 2 ^ i % 2 < 2 := Nat.mod_lt _ (by decide)
  generalize a / 2 ^ i % 2 = x at *
  generalize b / 2 ^ i % 2 = y at *
  generalize 2 ^ i = w
  have : (x = 0 ∨ x = 1) ∧ (y = 0 ∨ y = 1) := by omega
  rcases this with ⟨rfl | rfl, rfl | rfl⟩ <;> simp

end Sm
end Go.Proofs.Yteepemibmjpnfaa

namespace Go.Proofs.Yteepemibmjpnfaa
set_option maxRecDepth 10000
namespace Fm

def kindOk (k : Int) : Bool := decide (0 ≤ k) && decide (k ≤ 99)
theorem kindOk_iff {k : Int} : kindOk k = true ↔ 0 ≤ k ∧ k ≤ 99 := by simp [kindOk]
theorem kindOk_not {k : Int} : kindOk k = false ↔ k < 0 ∨ 99 < k := by
  rw [Bool.eq_false_iff, ne_eq, kindOk_iff]; omega

/-- A text's bytes. -/
def textL (t : List UInt8) : List UInt8 := Wm.lay (t.length : Int) ++ t
/-- What stands ahead of the sum. -/
def ahead (k : Int) (t : List UInt8) : List UInt8 := Wm.lay k ++ textL t
def frame (k : Int) (t : List UInt8) : List UInt8 := ahead k t ++ Wm.lay (Sm.ofL (ahead k t) : Int)

def putE (k : Int) (t : List UInt8) : Int := if kindOk k = true then if t.length ≤ 3000 then 0 else 2 else 1
def putS (k : Int) (t : List UInt8) : List UInt8 := if kindOk k = true then if t.length ≤ 3000 then frame k t else [] else []

theorem put_yes {k : Int} {t : List UInt8} (h : kindOk k = true) (h2 : t.length ≤ 3000) : putS k t = frame k t ∧ putE k t = 0 := by
  simp [putS, putE, h, h2]
theorem put_long {k : Int} {t : List UInt8} (h : kindOk k = true) (h2 : ¬ t.length ≤ 3000) : putS k t = [] ∧ putE k t = 2 := by
  simp [putS, putE, h, h2]
theorem put_kind {k : Int} {t : List UInt8} (h : kindOk k = false) : putS k t = [] ∧ putE k t = 1 := by
  simp [putS, putE, h]
theorem putE_zero {k : Int} {t : List UInt8} (h : putE k t = 0) : kindOk k = true ∧ t.length ≤ 3000 := by
  unfold putE at h
  split at h
  · rename_i h1
    split at h
    · rename_i h2; exact ⟨h1, h2⟩
    · cases h
  · cases h

/-- The frame that l begins with: its kind, its text, what stands behind, the error. -/
def get (l : List UInt8) : Int × List UInt8 × List UInt8 × Int :=
  if (Wm.getInt l).2.2 = 0 then
    if (Wm.getText (Wm.getInt l).2.1).2.2 = 0 then
      if (Wm.getInt (Wm.getText (Wm.getInt l).2.1).2.1).2.2 = 0 then
        if kindOk (Wm.getInt l).1 = true ∧ 0 ≤ (Wm.getInt (Wm.getText (Wm.getInt l).2.1).2.1).1 ∧ (Wm.getInt (Wm.getText (Wm.getInt l).2.1).2.1).1 ≤ 65535 then
          if (Wm.getInt (Wm.getText (Wm.getInt l).2.1).2.1).1 = (Sm.ofL (l.take (l.length - (Wm.getText (Wm.getInt l).2.1).2.1.length)) : Int) then
            ((Wm.getInt l).1, (Wm.getText (Wm.getInt l).2.1).1, (Wm.getInt (Wm.getText (Wm.getInt l).2.1).2.1).2.1, 0)
          else (0, [], [], 21)
        else (0, [], [], 20)
      else (0, [], [], (Wm.getInt (Wm.getText (Wm.getInt l).2.1).2.1).2.2)
    else (0, [], [], (Wm.getText (Wm.getInt l).2.1).2.2)
  else (0, [], [], (Wm.getInt l).2.2)

theorem get_e1 {l : List UInt8} {n : Int} {r : List UInt8} {e : Int} (h : Wm.getInt l = (n, r, e)) (he : e ≠ 0) : get l = (0, [], [], e) := by
  unfold get; rw [h]; simp [he]
theorem get_e2 {l a t r : List UInt8} {n e : Int} (h : Wm.getInt l = (n, a, 0)) (h2 : Wm.getText a = (t, r, e)) (he : e ≠ 0) : get l = (0, [], [], e) := by
  unfold get; rw [h]; simp only [if_true]; rw [h2]; simp [he]
theorem get_e3 {l a t b r : List UInt8} {n c e : Int} (h : Wm.getInt l = (n, a, 0)) (h2 : Wm.getText a = (t, b, 0)) (h3 : Wm.getInt b = (c, r, e)) (he : e ≠ 0) : get l = (0, [], [], e) := by
  unfold get; rw [h]; simp only [if_true]; rw [h2]; simp only [if_true]; rw [h3]; simp [he]
theorem get_form {l a t b r : List UInt8} {n c : Int} (h : Wm.getInt l = (n, a, 0)) (h2 : Wm.getText a = (t, b, 0)) (h3 : Wm.getInt b = (c, r, 0)) (hk : ¬ (kindOk n = true ∧ 0 ≤ c ∧ c ≤ 65535)) : get l = (0, [], [], 20) := by
  unfold get; rw [h]; simp only [if_true]; rw [h2]; simp only [if_true]; rw [h3]; simp only [if_true]; rw [if_neg hk]
theorem get_sum {l a t b r : List UInt8} {n c : Int} (h : Wm.getInt l = (n, a, 0)) (h2 : Wm.getText a = (t, b, 0)) (h3 : Wm.getInt b = (c, r, 0)) (hk : kindOk n = true ∧ 0 ≤ c ∧ c ≤ 65535) (hs : ¬ c = (Sm.ofL (l.take (l.length - b.length)) : Int)) : get l = (0, [], [], 21) := by
  unfold get; rw [h]; simp only [if_true]; rw [h2]; simp only [if_true]; rw [h3]; simp only [if_true]; rw [if_pos hk, if_neg hs]
theorem get_yes {l a t b r : List UInt8} {n c : Int} (h : Wm.getInt l = (n, a, 0)) (h2 : Wm.getText a = (t, b, 0)) (h3 : Wm.getInt b = (c, r, 0)) (hk : kindOk n = true ∧ 0 ≤ c ∧ c ≤ 65535) (hs : c = (Sm.ofL (l.take (l.length - b.length)) : Int)) : get l = (n, t, r, 0) := by
  unfold get; rw [h]; simp only [if_true]; rw [h2]; simp only [if_true]; rw [h3]; simp only [if_true]; rw [if_pos hk, if_pos hs]

theorem getInt_cases (l : List UInt8) : (∃ n r, Wm.getInt l = (n, r, 0)) ∨ ∃ e, e ≠ 0 ∧ Wm.getInt l = (0, [], e) := by
  rcases Wm.getInt_err l with h | h | h
  · exact .inl h
  · exact .inr ⟨20, by decide, h⟩
  · exact .inr ⟨22, by decide, h⟩

theorem get_cases (l : List UInt8) : (∃ k t r, get l = (k, t, r, 0)) ∨ ∃ e, e ≠ 0 ∧ get l = (0, [], [], e) := by
  rcases getInt_cases l with ⟨n, a, h⟩ | ⟨e, he, h⟩
  · rcases Wm.getText_err a with ⟨t, b, h2⟩ | ⟨e, he, h2⟩
    · rcases getInt_cases b with ⟨c, r, h3⟩ | ⟨e, he, h3⟩
      · by_cases hk : kindOk n = true ∧ 0 ≤ c ∧ c ≤ 65535
        · by_cases hs : c = (Sm.ofL (l.take (l.length - b.length)) : Int)
          · exact .inl ⟨_, _, _, get_yes h h2 h3 hk hs⟩
          · exact .inr ⟨21, by decide, get_sum h h2 h3 hk hs⟩
        · exact .inr ⟨20, by decide, get_form h h2 h3 hk⟩
      · exact .inr ⟨e, he, get_e3 h h2 h3 he⟩
    · exact .inr ⟨e, he, get_e2 h h2 he⟩
  · exact .inr ⟨e, he, get_e1 h he⟩

theorem fits_kind {k : Int} (h : kindOk k = true) : Wm.fits k = true := Wm.fits_iff.2 (by have := kindOk_iff.1 h; omega)
theorem fits_sum (l : List UInt8) : Wm.fits (Sm.ofL l : Int) = true := Wm.fits_iff.2 (by have := Sm.ofL_lt l; omega)

/-- What is put is got, whatever stands behind. -/
theorem get_frame {k : Int} {t : List UInt8} (h : kindOk k = true) (h2 : t.length ≤ 3000) (r : List UInt8) : get (frame k t ++ r) = (k, t, r, 0) := by
  have e : frame k t ++ r = Wm.lay k ++ (Wm.lay (t.length : Int) ++ t ++ (Wm.lay (Sm.ofL (ahead k t) : Int) ++ r)) := by
    simp [frame, ahead, textL, List.append_assoc]
  have g1 := Wm.getInt_lay (fits_kind h) (Wm.lay (t.length : Int) ++ t ++ (Wm.lay (Sm.ofL (ahead k t) : Int) ++ r))
  have g2 := Wm.getText_lay t (Wm.lay (Sm.ofL (ahead k t) : Int) ++ r) h2
  have g3 := Wm.getInt_lay (fits_sum (ahead k t)) r
  rw [← e] at g1
  have hlt := Sm.ofL_lt (ahead k t)
  refine get_yes g1 g2 g3 ⟨h, by omega, by omega⟩ ?_
  have : (frame k t ++ r).take ((frame k t ++ r).length - (Wm.lay (Sm.ofL (ahead k t) : Int) ++ r).length) = ahead k t := by
    have e2 : frame k t ++ r = ahead k t ++ (Wm.lay (Sm.ofL (ahead k t) : Int) ++ r) := by simp [frame, List.append_assoc]
    rw [e2, List.length_append, Nat.add_sub_cancel]
    exact List.take_left
  rw [this]

/-- What is got is put as it was. -/
theorem get_ok {l t r : List UInt8} {k : Int} (h : get l = (k, t, r, 0)) : kindOk k = true ∧ t.length ≤ 3000 ∧ l = frame k t ++ r := by
  rcases getInt_cases l with ⟨n, a, h1⟩ | ⟨e, he, h1⟩
  · rcases Wm.getText_err a with ⟨t', b, h2⟩ | ⟨e, he, h2⟩
    · rcases getInt_cases b with ⟨c, r', h3⟩ | ⟨e, he, h3⟩
      · by_cases hk : kindOk n = true ∧ 0 ≤ c ∧ c ≤ 65535
        · by_cases hs : c = (Sm.ofL (l.take (l.length - b.length)) : Int)
          · rw [get_yes h1 h2 h3 hk hs] at h
            simp only [Prod.mk.injEq, and_true] at h
            obtain ⟨rfl, rfl, rfl⟩ := h
            obtain ⟨hf1, e1⟩ := Wm.getInt_ok h1
            obtain ⟨hf2, e2⟩ := Wm.getText_ok h2
            obtain ⟨hf3, e3⟩ := Wm.getInt_ok h3
            refine ⟨hk.1, hf2, ?_⟩
            have el : l = ahead n t' ++ b := by rw [e1, e2]; simp [ahead, textL, List.append_assoc]
            have : l.take (l.length - b.length) = ahead n t' := by
              rw [el, List.length_append, Nat.add_sub_cancel]; exact List.take_left
            rw [this] at hs
            rw [el, frame, e3, hs, List.append_assoc]
          · rw [get_sum h1 h2 h3 hk hs] at h; simp at h
        · rw [get_form h1 h2 h3 hk] at h; simp at h
      · rw [get_e3 h1 h2 h3 he] at h; simp at h; exact absurd h.2.2.2 he
    · rw [get_e2 h1 h2 he] at h; simp at h; exact absurd h.2.2.2 he
  · rw [get_e1 h1 he] at h; simp at h; exact absurd h.2.2.2 he

theorem lay_pos (n : Int) : 0 < (Wm.lay n).length := by simp [Wm.lay]
theorem frame_pos (k : Int) (t : List UInt8) : 0 < (frame k t).length := by
  have := lay_pos k
  simp [frame, ahead]; omega
theorem get_less {l t r : List UInt8} {k : Int} (h : get l = (k, t, r, 0)) : r.length < l.length := by
  have := (get_ok h).2.2
  rw [this, List.length_append]
  have := frame_pos k t
  omega
theorem get_nil : get [] = (0, [], [], 22) := get_e1 (n := 0) (r := []) (by simp [Wm.getInt]) (by decide)

/-- All frames that l begins with: their texts, how many bytes they take, and the error of what stands behind. -/
def all (l : List UInt8) : List (List UInt8) × Nat × Int :=
  if l = [] then ([], 0, 0)
  else if _h : (get l).2.2.2 = 0 ∧ (get l).2.2.1.length < l.length then
    ((get l).2.1 :: (all (get l).2.2.1).1, (l.length - (get l).2.2.1.length) + (all (get l).2.2.1).2.1, (all (get l).2.2.1).2.2)
  else ([], 0, (get l).2.2.2)
termination_by l.length
decreasing_by exact _h.2

theorem all_nil : all [] = ([], 0, 0) := by rw [all]; simp
theorem all_ok {l t r : List UInt8} {k : Int} (h : get l = (k, t, r, 0)) : all l = (t :: (all r).1, (l.length - r.length) + (all r).2.1, (all r).2.2) := by
  have hl := get_less h
  rw [all, if_neg (by rintro rfl; simp at hl), dif_pos (by rw [h]; exact ⟨rfl, hl⟩), h]
theorem all_bad {l : List UInt8} {e : Int} (hl : l ≠ []) (h : get l = (0, [], [], e)) (he : e ≠ 0) : all l = ([], 0, e) := by
  rw [all, if_neg hl, dif_neg (by rw [h]; exact fun x => he x.1), h]

/-- What was told ahead, and what is told behind. -/
def allGlue (ts : List (List UInt8)) (n : Nat) (x : List (List UInt8) × Nat × Int) : List (List UInt8) × Nat × Int := (ts ++ x.1, n + x.2.1, x.2.2)
theorem allGlue_zero (x : List (List UInt8) × Nat × Int) : allGlue [] 0 x = x := by simp [allGlue]
theorem allGlue_step {ts : List (List UInt8)} {n : Nat} {l t r : List UInt8} {k : Int} (h : get l = (k, t, r, 0)) : allGlue ts n (all l) = allGlue (ts ++ [t]) (n + (l.length - r.length)) (all r) := by
  rw [all_ok h]; simp [allGlue, Nat.add_assoc]
theorem allGlue_end (ts : List (List UInt8)) (n : Nat) : allGlue ts n (all []) = (ts, n, 0) := by rw [all_nil]; simp [allGlue]
theorem allGlue_bad {ts : List (List UInt8)} {n : Nat} {l : List UInt8} {e : Int} (hl : l ≠ []) (h : get l = (0, [], [], e)) (he : e ≠ 0) : allGlue ts n (all l) = (ts, n, e) := by
  rw [all_bad hl h he]; simp [allGlue]

/-- Texts, one behind the other. -/
def textsL (ls : List (List UInt8)) : List UInt8 := ls.flatMap textL
/-- A row's bytes. -/
def rowL (ls : List (List UInt8)) : List UInt8 := Wm.lay (ls.length : Int) ++ textsL ls
def layOk (ls : List (List UInt8)) : Bool := decide (ls.length ≤ 100) && ls.all (fun t => decide (t.length ≤ 3000))
theorem layOk_iff {ls : List (List UInt8)} : layOk ls = true ↔ ls.length ≤ 100 ∧ ∀ t ∈ ls, t.length ≤ 3000 := by simp [layOk]
theorem layOk_many {ls : List (List UInt8)} (h : 100 < ls.length) : layOk ls = false := by
  rw [Bool.eq_false_iff]; intro hh; have := (layOk_iff.1 hh).1; omega
theorem layOk_long {ls : List (List UInt8)} {k : Nat} (hk : k < ls.length) (h : 3000 < ls[k].length) : layOk ls = false := by
  rw [Bool.eq_false_iff]; intro hh; have := (layOk_iff.1 hh).2 _ (List.getElem_mem hk); omega
def layE (ls : List (List UInt8)) : Int := if layOk ls = true then 0 else 2
def layS (ls : List (List UInt8)) : List UInt8 := if layOk ls = true then rowL ls else []
def rowE (k : Int) (ls : List (List UInt8)) : Int := if kindOk k = true then if layOk ls = true then putE k (rowL ls) else 2 else 1
def rowS (k : Int) (ls : List (List UInt8)) : List UInt8 := if kindOk k = true then if layOk ls = true then putS k (rowL ls) else [] else []
theorem rowE_zero {k : Int} {ls : List (List UInt8)} (h : rowE k ls = 0) : kindOk k = true ∧ layOk ls = true ∧ (rowL ls).length ≤ 3000 ∧ rowS k ls = frame k (rowL ls) := by
  unfold rowE at h
  split at h
  · rename_i h1
    split at h
    · rename_i h2
      have h3 := (putE_zero h).2
      exact ⟨h1, h2, h3, by simp [rowS, h1, h2, put_yes h1 h3]⟩
    · cases h
  · cases h

theorem textsL_snoc (ls : List (List UInt8)) (t : List UInt8) : textsL (ls ++ [t]) = textsL ls ++ textL t := by simp [textsL]
theorem textsL_cons (t : List UInt8) (ls : List (List UInt8)) : textsL (t :: ls) = textL t ++ textsL ls := by simp [textsL]

/-- As many texts as m, read one behind the other. -/
def getTs : Nat → List UInt8 → List (List UInt8) × List UInt8 × Int
  | 0, l => ([], l, 0)
  | m + 1, l =>
    if (Wm.getText l).2.2 = 0 then
      if (getTs m (Wm.getText l).2.1).2.2 = 0 then ((Wm.getText l).1 :: (getTs m (Wm.getText l).2.1).1, (getTs m (Wm.getText l).2.1).2.1, 0) else ([], [], (getTs m (Wm.getText l).2.1).2.2)
    else ([], [], (Wm.getText l).2.2)

def glueT (ts : List (List UInt8)) (x : List (List UInt8) × List UInt8 × Int) : List (List UInt8) × List UInt8 × Int := if x.2.2 = 0 then (ts ++ x.1, x.2.1, 0) else ([], [], x.2.2)

theorem getTs_err (m : Nat) (l : List UInt8) : (∃ ts r, getTs m l = (ts, r, 0)) ∨ ∃ e, e ≠ 0 ∧ getTs m l = ([], [], e) := by
  induction m generalizing l with
  | zero => exact .inl ⟨[], l, rfl⟩
  | succ m ih =>
    unfold getTs
    by_cases h1 : (Wm.getText l).2.2 = 0
    · rw [if_pos h1]
      rcases ih (Wm.getText l).2.1 with ⟨ts, r, h⟩ | ⟨e, he, h⟩
      · rw [h]; exact .inl ⟨_, _, rfl⟩
      · rw [h, if_neg he]; exact .inr ⟨e, he, rfl⟩
    · rw [if_neg h1]; exact .inr ⟨_, h1, rfl⟩

theorem glueT_nil (m : Nat) (l : List UInt8) : glueT [] (getTs m l) = getTs m l := by
  rcases getTs_err m l with ⟨ts, r, h⟩ | ⟨e, he, h⟩
  · rw [h]; simp [glueT]
  · rw [h]; simp [glueT, he]

theorem glueT_step {ts : List (List UInt8)} {m : Nat} {l r t : List UInt8} (h : Wm.getText l = (t, r, 0)) : glueT ts (getTs (m + 1) l) = glueT (ts ++ [t]) (getTs m r) := by
  rw [getTs, h]
  simp only [if_true]
  rcases getTs_err m r with ⟨ts', r', h'⟩ | ⟨e, he, h'⟩
  · rw [h']; simp [glueT]
  · rw [h']; simp [glueT, he]

theorem glueT_bad {ts : List (List UInt8)} {m : Nat} {l t r : List UInt8} {e : Int} (h : Wm.getText l = (t, r, e)) (he : e ≠ 0) : glueT ts (getTs (m + 1) l) = ([], [], e) := by
  rw [getTs, h]
  simp only
  rw [if_neg he]
  simp [glueT, he]

theorem glueT_end (ts : List (List UInt8)) (l : List UInt8) : glueT ts (getTs 0 l) = (ts, l, 0) := by simp [getTs, glueT]

theorem getTs_texts (ls : List (List UInt8)) (h : ∀ t ∈ ls, t.length ≤ 3000) (r : List UInt8) : getTs ls.length (textsL ls ++ r) = (ls, r, 0) := by
  induction ls with
  | nil => simp [getTs, textsL]
  | cons t ls ih =>
    have hg := Wm.getText_lay t (textsL ls ++ r) (h t (List.mem_cons_self ..))
    rw [List.length_cons, textsL_cons, List.append_assoc, textL, getTs, hg]
    simp only [if_true]
    rw [ih fun x hx => h x (List.mem_cons_of_mem _ hx)]
    simp

theorem getTs_ok {m : Nat} {l r : List UInt8} {ts : List (List UInt8)} (h : getTs m l = (ts, r, 0)) : ts.length = m ∧ (∀ t ∈ ts, t.length ≤ 3000) ∧ l = textsL ts ++ r := by
  induction m generalizing l ts with
  | zero =>
    simp only [getTs, Prod.mk.injEq, and_true] at h
    obtain ⟨rfl, rfl⟩ := h
    simp [textsL]
  | succ m ih =>
    rcases Wm.getText_err l with ⟨t, r1, h1⟩ | ⟨e, he, h1⟩
    · rw [getTs, h1] at h
      simp only [if_true] at h
      rcases getTs_err m r1 with ⟨ts', r', h'⟩ | ⟨e, he, h'⟩
      · rw [h'] at h
        simp only [if_true, Prod.mk.injEq, and_true] at h
        obtain ⟨rfl, rfl⟩ := h
        obtain ⟨i1, i2, i3⟩ := ih h'
        obtain ⟨j1, j2⟩ := Wm.getText_ok h1
        refine ⟨by simp [i1], ?_, ?_⟩
        · intro x hx
          rcases List.mem_cons.1 hx with rfl | hx
          · exact j1
          · exact i2 x hx
        · rw [j2, i3, textsL_cons, textL]; simp [List.append_assoc]
      · rw [h', if_neg he] at h; simp at h; exact absurd h.2.2 he
    · rw [getTs, h1] at h
      simp only at h
      rw [if_neg he] at h
      simp at h; exact absurd h.2.2 he

/-- The texts whose row's bytes t is. -/
def rowOf (t : List UInt8) : Option (List (List UInt8)) :=
  if (Wm.getInt t).2.2 = 0 ∧ 0 ≤ (Wm.getInt t).1 ∧ (Wm.getInt t).1 ≤ 100 then
    if (getTs (Wm.getInt t).1.toNat (Wm.getInt t).2.1).2.2 = 0 ∧ (getTs (Wm.getInt t).1.toNat (Wm.getInt t).2.1).2.1 = [] then some (getTs (Wm.getInt t).1.toNat (Wm.getInt t).2.1).1 else none
  else none

theorem rowOf_e1 {l r : List UInt8} {n e : Int} (h : Wm.getInt l = (n, r, e)) (he : ¬ (e = 0 ∧ 0 ≤ n ∧ n ≤ 100)) : rowOf l = none := by
  unfold rowOf; rw [h]; exact if_neg he
theorem rowOf_e2 {l r r' : List UInt8} {n e : Int} {ts : List (List UInt8)} (h : Wm.getInt l = (n, r, 0)) (h0 : 0 ≤ n ∧ n ≤ 100) (h2 : getTs n.toNat r = (ts, r', e)) (he : ¬ (e = 0 ∧ r' = [])) : rowOf l = none := by
  unfold rowOf; rw [h, if_pos ⟨rfl, h0⟩]
  show (if (getTs n.toNat r).2.2 = 0 ∧ (getTs n.toNat r).2.1 = [] then some (getTs n.toNat r).1 else none) = none
  rw [h2]; exact if_neg he
theorem rowOf_yes {l r : List UInt8} {n : Int} {ts : List (List UInt8)} (h : Wm.getInt l = (n, r, 0)) (h0 : 0 ≤ n ∧ n ≤ 100) (h2 : getTs n.toNat r = (ts, [], 0)) : rowOf l = some ts := by
  unfold rowOf; rw [h, if_pos ⟨rfl, h0⟩]
  show (if (getTs n.toNat r).2.2 = 0 ∧ (getTs n.toNat r).2.1 = [] then some (getTs n.toNat r).1 else none) = some ts
  rw [h2]; exact if_pos ⟨rfl, rfl⟩

theorem rowOf_row {ls : List (List UInt8)} (h : layOk ls = true) : rowOf (rowL ls) = some ls := by
  obtain ⟨h1, h2⟩ := layOk_iff.1 h
  refine rowOf_yes (n := (ls.length : Int)) (r := textsL ls) (Wm.getInt_lay (Wm.fits_iff.2 (by omega)) _) (by omega) ?_
  have := getTs_texts ls h2 []
  simpa using this

theorem rowOf_ok {t : List UInt8} {ls : List (List UInt8)} (h : rowOf t = some ls) : layOk ls = true ∧ t = rowL ls := by
  rcases getInt_cases t with ⟨n, r, h1⟩ | ⟨e, he, h1⟩
  · by_cases h0 : 0 ≤ n ∧ n ≤ 100
    · rcases getTs_err n.toNat r with ⟨ts, r', h2⟩ | ⟨e, he, h2⟩
      · by_cases hr : r' = []
        · subst hr
          rw [rowOf_yes h1 h0 h2] at h
          obtain rfl := Option.some.inj h
          obtain ⟨i1, i2, i3⟩ := getTs_ok h2
          refine ⟨layOk_iff.2 ⟨by omega, i2⟩, ?_⟩
          rw [rowL, (Wm.getInt_ok h1).2, i3, List.append_nil, i1]
          congr 2
          omega
        · rw [rowOf_e2 h1 h0 h2 (fun x => hr x.2)] at h; cases h
      · rw [rowOf_e2 h1 h0 h2 (fun x => he x.1)] at h; cases h
    · rw [rowOf_e1 h1 (fun x => h0 x.2)] at h; cases h
  · rw [rowOf_e1 h1 (fun x => he x.1)] at h; cases h

/-- The row that l begins with: its kind, its texts, what stands behind, the error. -/
def getRow (l : List UInt8) : Int × List (List UInt8) × List UInt8 × Int :=
  if (get l).2.2.2 = 0 then
    match rowOf (get l).2.1 with
    | some ts => ((get l).1, ts, (get l).2.2.1, 0)
    | none => (0, [], [], 20)
  else (0, [], [], (get l).2.2.2)

theorem getRow_e {l : List UInt8} {k : Int} {t r : List UInt8} {e : Int} (h : get l = (k, t, r, e)) (he : e ≠ 0) : getRow l = (0, [], [], e) := by
  unfold getRow; rw [h]; exact if_neg he
theorem getRow_no {l t r : List UInt8} {k : Int} (h : get l = (k, t, r, 0)) (h2 : rowOf t = none) : getRow l = (0, [], [], 20) := by
  unfold getRow; rw [h]; simp only [if_true, h2]
theorem getRow_yes {l t r : List UInt8} {k : Int} {ts : List (List UInt8)} (h : get l = (k, t, r, 0)) (h2 : rowOf t = some ts) : getRow l = (k, ts, r, 0) := by
  unfold getRow; rw [h]; simp only [if_true, h2]

theorem getRow_row {k : Int} {ls : List (List UInt8)} (h : rowE k ls = 0) (r : List UInt8) : getRow (rowS k ls ++ r) = (k, ls, r, 0) := by
  obtain ⟨h1, h2, h3, h4⟩ := rowE_zero h
  rw [h4]
  exact getRow_yes (get_frame h1 h3 r) (rowOf_row h2)

theorem getRow_ok {l r : List UInt8} {k : Int} {ls : List (List UInt8)} (h : getRow l = (k, ls, r, 0)) : rowE k ls = 0 ∧ l = rowS k ls ++ r := by
  rcases get_cases l with ⟨k', t, r', h1⟩ | ⟨e, he, h1⟩
  · rcases hr : rowOf t with _ | ts
    · rw [getRow_no h1 hr] at h; simp at h
    · rw [getRow_yes h1 hr] at h
      simp only [Prod.mk.injEq, and_true] at h
      obtain ⟨rfl, rfl, rfl⟩ := h
      obtain ⟨i1, i2⟩ := rowOf_ok hr
      obtain ⟨j1, j2, j3⟩ := get_ok h1
      subst i2
      have hp := put_yes j1 j2
      refine ⟨by simp [rowE, j1, i1, hp.2], ?_⟩
      rw [rowS, if_pos j1, if_pos i1, hp.1]; exact j3
  · rw [getRow_e h1 he] at h; simp at h; exact absurd h.2.2.2 he

theorem getRow_cases (l : List UInt8) : (∃ k ts r, getRow l = (k, ts, r, 0)) ∨ ∃ e, e ≠ 0 ∧ getRow l = (0, [], [], e) := by
  rcases get_cases l with ⟨k, t, r, h⟩ | ⟨e, he, h⟩
  · rcases hr : rowOf t with _ | ts
    · exact .inr ⟨20, by decide, getRow_no h hr⟩
    · exact .inl ⟨_, _, _, getRow_yes h hr⟩
  · exact .inr ⟨e, he, getRow_e h he⟩

end Fm
end Go.Proofs.Yteepemibmjpnfaa

namespace Go.Proofs.Yteepemibmjpnfaa
set_option maxRecDepth 10000
namespace Fm

theorem take_cut {a b : List UInt8} {m : Nat} (h : a.length ≤ m) : (a ++ b).take m = a ++ b.take (m - a.length) := by
  rw [List.take_append, List.take_of_length_le h]

/-- A number's bytes, cut ahead of its end, are none yet. -/
theorem getInt_cut (n : Int) (r : List UInt8) {m : Nat} (h : m < (Wm.lay n).length) : Wm.getInt ((Wm.lay n ++ r).take m) = (0, [], 22) := by
  have h1 : (Wm.lay n ++ r).take m = (Wm.digs n.natAbs).take m := by
    have h2 : m ≤ (Wm.digs n.natAbs).length := by simp [Wm.lay] at h; omega
    unfold Wm.lay
    rw [List.append_assoc, List.take_append_of_le_length h2]
  have h3 : Wm.endAt ((Wm.digs n.natAbs).take m) = ((Wm.digs n.natAbs).take m).length := Wm.endAt_none (by
    intro j hj
    exact Wm.digs_notEnd (List.mem_of_mem_take (List.getElem_mem hj)))
  rw [h1]
  unfold Wm.getInt
  rw [dif_neg (by omega)]

theorem getText_cut (t r : List UInt8) (ht : t.length ≤ 3000) {m : Nat} (h : m < (textL t).length) : Wm.getText ((textL t ++ r).take m) = ([], [], 22) := by
  unfold textL at h ⊢
  rw [List.append_assoc]
  by_cases hm : m < (Wm.lay (t.length : Int)).length
  · have h1 := getInt_cut (t.length : Int) (t ++ r) hm
    unfold Wm.getText
    rw [h1]; rfl
  · rw [List.length_append] at h
    have h1 := Wm.getInt_lay (n := (t.length : Int)) (Wm.fits_iff.2 (by omega)) ((t ++ r).take (m - (Wm.lay (t.length : Int)).length))
    rw [take_cut (by omega)]
    unfold Wm.getText
    rw [h1]
    simp only [if_true]
    rw [if_neg (by omega), if_pos]
    rw [List.length_take]
    omega

/-- What is cut within a frame asks for more. -/
theorem get_cut {k : Int} {t : List UInt8} (hk : kindOk k = true) (ht : t.length ≤ 3000) {m : Nat} (h : m < (frame k t).length) (r : List UInt8) : get ((frame k t ++ r).take m) = (0, [], [], 22) := by
  have e : frame k t ++ r = Wm.lay k ++ (textL t ++ (Wm.lay (Sm.ofL (ahead k t) : Int) ++ r)) := by simp [frame, ahead, List.append_assoc]
  have hlen : (frame k t).length = (Wm.lay k).length + ((textL t).length + (Wm.lay (Sm.ofL (ahead k t) : Int)).length) := by simp [frame, ahead]
  rw [e]
  by_cases h1 : m < (Wm.lay k).length
  · exact get_e1 (getInt_cut k _ h1) (by decide)
  · rw [take_cut (by omega)]
    have g1 := Wm.getInt_lay (fits_kind hk) ((textL t ++ (Wm.lay (Sm.ofL (ahead k t) : Int) ++ r)).take (m - (Wm.lay k).length))
    by_cases h2 : m - (Wm.lay k).length < (textL t).length
    · exact get_e2 g1 (getText_cut t _ ht h2) (by decide)
    · rw [take_cut (by omega)] at g1 ⊢
      have g2 := Wm.getText_lay t ((Wm.lay (Sm.ofL (ahead k t) : Int) ++ r).take (m - (Wm.lay k).length - (textL t).length)) ht
      exact get_e3 g1 g2 (getInt_cut _ r (by omega)) (by decide)

/-- Frames one behind the other. -/
def frames (k : Int) (ls : List (List UInt8)) : List UInt8 := ls.flatMap (frame k)
theorem frames_nil (k : Int) : frames k [] = [] := rfl
theorem frames_cons (k : Int) (t : List UInt8) (ls : List (List UInt8)) : frames k (t :: ls) = frame k t ++ frames k ls := by simp [frames]
theorem frames_append (k : Int) (a b : List (List UInt8)) : frames k (a ++ b) = frames k a ++ frames k b := by simp [frames]
theorem frames_succ (k : Int) {ls : List (List UInt8)} {i : Nat} (h : i < ls.length) : frames k (ls.take (i + 1)) = frames k (ls.take i) ++ frame k ls[i] := by
  rw [List.take_succ_eq_append_getElem h, frames_append, frames_cons, frames_nil, List.append_nil]
theorem frames_mono (k : Int) (ls : List (List UInt8)) {i j : Nat} (h : i ≤ j) : (frames k (ls.take i)).length ≤ (frames k (ls.take j)).length := by
  have e : ls.take j = ls.take i ++ (ls.take j).drop i := by
    have h1 := List.take_append_drop i (ls.take j)
    rw [List.take_take, Nat.min_eq_left h] at h1
    exact h1.symm
  rw [e, frames_append, List.length_append]; omega

theorem all_frames {k : Int} (hk : kindOk k = true) {ls : List (List UInt8)} (h : ∀ t ∈ ls, t.length ≤ 3000) (r : List UInt8) : all (frames k ls ++ r) = allGlue ls (frames k ls).length (all r) := by
  induction ls with
  | nil => rw [frames_nil, List.nil_append, List.length_nil, allGlue_zero]
  | cons t ls ih =>
    have h1 := get_frame hk (h t (List.mem_cons_self ..)) (frames k ls ++ r)
    rw [frames_cons, List.append_assoc, all_ok h1, ih fun x hx => h x (List.mem_cons_of_mem _ hx)]
    simp only [allGlue, List.length_append, List.cons_append]
    refine Prod.ext rfl (Prod.ext ?_ rfl)
    show _ = _
    simp only
    omega

theorem all_whole {k : Int} (hk : kindOk k = true) {ls : List (List UInt8)} (h : ∀ t ∈ ls, t.length ≤ 3000) : all (frames k ls) = (ls, (frames k ls).length, 0) := by
  have := all_frames hk h []
  rw [List.append_nil, allGlue_end] at this; exact this

/-- Frames cut at m: j of them are whole; at their end, or within the next one. -/
theorem all_cut {k : Int} (hk : kindOk k = true) {ls : List (List UInt8)} (h : ∀ t ∈ ls, t.length ≤ 3000) {m j : Nat} (hm : m ≤ (frames k ls).length) (hj : j ≤ ls.length)
    (h1 : (frames k (ls.take j)).length ≤ m) (h2 : j < ls.length → m < (frames k (ls.take (j + 1))).length) :
    all ((frames k ls).take m) = (ls.take j, (frames k (ls.take j)).length, if (frames k (ls.take j)).length = m then 0 else 22) := by
  have e : frames k ls = frames k (ls.take j) ++ frames k (ls.drop j) := by rw [← frames_append, List.take_append_drop]
  have hshort : ∀ t ∈ ls.take j, t.length ≤ 3000 := fun t ht => h t (List.mem_of_mem_take ht)
  rw [e, take_cut h1, all_frames hk hshort]
  by_cases heq : (frames k (ls.take j)).length = m
  · rw [if_pos heq, heq, Nat.sub_self, List.take_zero, allGlue_end, ← heq]
  · rw [if_neg heq]
    have hlt : j < ls.length := by
      refine Nat.lt_of_le_of_ne hj fun hh => heq ?_
      rw [hh, List.take_length] at h1 ⊢
      omega
    have h3 := h2 hlt
    rw [frames_succ k hlt, List.length_append] at h3
    have hd : frames k (ls.drop j) = frame k ls[j] ++ frames k (ls.drop (j + 1)) := by rw [List.drop_eq_getElem_cons hlt, frames_cons]
    rw [hd]
    refine allGlue_bad ?_ (get_cut hk (h _ (List.getElem_mem hlt)) (by omega) _) (by decide)
    intro hh
    have := congrArg List.length hh
    rw [List.length_take, List.length_append, List.length_nil] at this
    have := frame_pos k ls[j]
    omega

end Fm
end Go.Proofs.Yteepemibmjpnfaa

namespace Go.Proofs.Yteepemibmjpnfaa
set_option maxRecDepth 10000
namespace Rc

def nOk (n : Int) : Bool := decide (0 ≤ n ∧ n ≤ 1000000000)
theorem nOk_iff {n : Int} : nOk n = true ↔ 0 ≤ n ∧ n ≤ 1000000000 := by unfold nOk; exact decide_eq_true_iff
/-- A record of a number and a text. -/
def rec1 (n : Int) (t : List UInt8) : List UInt8 := Fm.frame 1 (Wm.lay n ++ t)
def putE (n : Int) (t : List UInt8) : Int := if nOk n = true then if t.length ≤ 1000 then 0 else 2 else 1
def putS (n : Int) (t : List UInt8) : List UInt8 := if nOk n = true then if t.length ≤ 1000 then rec1 n t else [] else []
theorem putE_zero {n : Int} {t : List UInt8} : putE n t = 0 ↔ nOk n = true ∧ t.length ≤ 1000 := by
  unfold putE
  constructor
  · intro h
    split at h
    · rename_i h1
      split at h
      · rename_i h2; exact ⟨h1, h2⟩
      · cases h
    · cases h
  · rintro ⟨h1, h2⟩; rw [if_pos h1, if_pos h2]
theorem putS_yes {n : Int} {t : List UInt8} (h : putE n t = 0) : putS n t = rec1 n t := by
  obtain ⟨h1, h2⟩ := putE_zero.1 h
  unfold putS; rw [if_pos h1, if_pos h2]
theorem putS_no {n : Int} {t : List UInt8} (h : putE n t ≠ 0) : putS n t = [] := by
  unfold putS
  by_cases h1 : nOk n = true
  · rw [if_pos h1]
    by_cases h2 : t.length ≤ 1000
    · exact absurd (putE_zero.2 ⟨h1, h2⟩) h
    · rw [if_neg h2]
  · rw [if_neg h1]
theorem digs_short (k : Nat) : ∀ n : Nat, n < 250 ^ k → (Wm.digs n).length ≤ k := by
  induction k with
  | zero => intro n h; have : n = 0 := by simpa using h
            subst this; rw [Wm.digs_zero]; exact Nat.le_refl _
  | succ k ih =>
    intro n h
    by_cases h0 : n = 0
    · subst h0; rw [Wm.digs_zero]; exact Nat.zero_le _
    · rw [Wm.digs_pos (by omega), List.length_cons]
      have := ih (n / 250) (Nat.div_lt_of_lt_mul (by rw [Nat.pow_succ] at h; omega))
      omega
theorem lay_short {n : Int} (h : nOk n = true) : (Wm.lay n).length ≤ 5 := by
  have h1 := nOk_iff.1 h
  unfold Wm.lay
  rw [List.length_append]
  have := digs_short 4 n.natAbs (by omega)
  simp; omega
theorem body_short {n : Int} (h : nOk n = true) {t : List UInt8} (h2 : t.length ≤ 1000) : (Wm.lay n ++ t).length ≤ 3000 := by
  have := lay_short h
  rw [List.length_append]; omega
theorem fits_n {n : Int} (h : nOk n = true) : Wm.fits n = true := Wm.fits_iff.2 (by have := nOk_iff.1 h; omega)
theorem kind1 : Fm.kindOk 1 = true := by decide
theorem rec_pos (n : Int) (t : List UInt8) : 0 < (rec1 n t).length := Fm.frame_pos _ _
theorem get_rec {n : Int} {t : List UInt8} (h : nOk n = true) (h2 : t.length ≤ 1000) (r : List UInt8) : Fm.get (rec1 n t ++ r) = (1, Wm.lay n ++ t, r, 0) := Fm.get_frame kind1 (body_short h h2) r

/-- The record of that number that l begins with: its text, and what stands behind. -/
def one (l : List UInt8) (n : Int) : Option (List UInt8 × List UInt8) :=
  if (Fm.get l).2.2.2 = 0 ∧ (Wm.getInt (Fm.get l).2.1).2.2 = 0 ∧ putE n (Wm.getInt (Fm.get l).2.1).2.1 = 0 ∧ rec1 n (Wm.getInt (Fm.get l).2.1).2.1 = l.take (l.length - (Fm.get l).2.2.1.length)
  then some ((Wm.getInt (Fm.get l).2.1).2.1, (Fm.get l).2.2.1) else none

theorem one_rec {n : Int} {t : List UInt8} (h : nOk n = true) (h2 : t.length ≤ 1000) (r : List UInt8) : one (rec1 n t ++ r) n = some (t, r) := by
  have g := get_rec h h2 r
  have gi := Wm.getInt_lay (fits_n h) t
  unfold one
  rw [g]; simp only
  rw [gi]; simp only
  rw [if_pos ⟨trivial, trivial, putE_zero.2 ⟨h, h2⟩, by rw [List.length_append, Nat.add_sub_cancel, List.take_left]⟩]
theorem one_ok {l : List UInt8} {n : Int} {t r : List UInt8} (h : one l n = some (t, r)) : nOk n = true ∧ t.length ≤ 1000 ∧ l = rec1 n t ++ r := by
  unfold one at h
  split at h
  · rename_i hc
    obtain ⟨h1, h2, h3, h4⟩ := hc
    cases h
    have hp := putE_zero.1 h3
    refine ⟨hp.1, hp.2, ?_⟩
    rcases Fm.get_cases l with ⟨k, t', r', hg⟩ | ⟨e, he, hg⟩
    · have hl := (Fm.get_ok hg).2.2
      rw [hg] at h4 ⊢
      simp only at h4 ⊢
      rw [h4, hl, List.length_append, Nat.add_sub_cancel, List.take_left]
    · rw [hg] at h1; exact absurd h1 he
  · cases h
theorem one_iff {l : List UInt8} {n : Int} {t r : List UInt8} : one l n = some (t, r) ↔ nOk n = true ∧ t.length ≤ 1000 ∧ l = rec1 n t ++ r :=
  ⟨one_ok, fun ⟨h1, h2, h3⟩ => by rw [h3]; exact one_rec h1 h2 r⟩
theorem one_less {l : List UInt8} {n : Int} {t r : List UInt8} (h : one l n = some (t, r)) : r.length < l.length := by
  have := (one_ok h).2.2
  rw [this, List.length_append]
  have := rec_pos n t
  omega
theorem one_nil (n : Int) : one [] n = none := by
  cases h : one [] n with
  | none => rfl
  | some x => obtain ⟨t, r⟩ := x; have := one_less h; simp at this
theorem one_get {l : List UInt8} {n e : Int} (h : Fm.get l = (0, [], [], e)) (he : e ≠ 0) : one l n = none := by
  unfold one; rw [h]; rw [if_neg (fun hh => he hh.1)]

/-- The texts of the records that l begins with, and how many bytes they take. -/
def scan (l : List UInt8) (n : Int) : List (List UInt8) × Nat :=
  match _h : one l n with
  | none => ([], 0)
  | some x => if _h2 : x.2.length < l.length then (x.1 :: (scan x.2 (n + 1)).1, (l.length - x.2.length) + (scan x.2 (n + 1)).2) else ([], 0)
termination_by l.length
theorem scan_no {l : List UInt8} {n : Int} (h : one l n = none) : scan l n = ([], 0) := by
  rw [scan]; split
  · rfl
  · rename_i x hx; rw [h] at hx; cases hx
theorem scan_ok {l t r : List UInt8} {n : Int} (h : one l n = some (t, r)) : scan l n = (t :: (scan r (n + 1)).1, (l.length - r.length) + (scan r (n + 1)).2) := by
  have hl := one_less h
  rw [scan]; split
  · rename_i hx; rw [h] at hx; cases hx
  · rename_i x hx
    rw [h] at hx
    obtain rfl := Option.some.inj hx
    rw [dif_pos hl]
theorem scan_nil (n : Int) : scan [] n = ([], 0) := scan_no (one_nil n)
theorem scan_rec {n : Int} {t : List UInt8} (h : nOk n = true) (h2 : t.length ≤ 1000) (r : List UInt8) : scan (rec1 n t ++ r) n = (t :: (scan r (n + 1)).1, (rec1 n t).length + (scan r (n + 1)).2) := by
  rw [scan_ok (one_rec h h2 r), List.length_append, Nat.add_sub_cancel]
/-- What was told ahead, and what is told behind. -/
def glue (ts : List (List UInt8)) (k : Nat) (x : List (List UInt8) × Nat) : List (List UInt8) × Nat := (ts ++ x.1, k + x.2)
theorem glue_zero (x : List (List UInt8) × Nat) : glue [] 0 x = x := by simp [glue]
theorem glue_step {ts : List (List UInt8)} {k : Nat} {l t r : List UInt8} {n : Int} (h : one l n = some (t, r)) : glue ts k (scan l n) = glue (ts ++ [t]) (k + (l.length - r.length)) (scan r (n + 1)) := by
  rw [scan_ok h]; simp [glue, Nat.add_assoc]
theorem glue_no {ts : List (List UInt8)} {k : Nat} {l : List UInt8} {n : Int} (h : one l n = none) : glue ts k (scan l n) = (ts, k) := by
  rw [scan_no h]; simp [glue]

/-- Records one behind the other. -/
def recs : Int → List (List UInt8) → List UInt8
  | _, [] => []
  | n, t :: ls => rec1 n t ++ recs (n + 1) ls
/-- Have all their numbers, and are none too long? -/
def okAll : Int → List (List UInt8) → Prop
  | _, [] => True
  | n, t :: ls => (nOk n = true ∧ t.length ≤ 1000) ∧ okAll (n + 1) ls
theorem recs_append (n : Int) (a b : List (List UInt8)) : recs n (a ++ b) = recs n a ++ recs (n + a.length) b := by
  induction a generalizing n with
  | nil => simp [recs]
  | cons t a ih =>
    simp only [List.cons_append, recs, ih, List.append_assoc, List.length_cons]
    congr 3; omega
theorem okAll_append (n : Int) (a b : List (List UInt8)) : okAll n (a ++ b) ↔ okAll n a ∧ okAll (n + a.length) b := by
  induction a generalizing n with
  | nil => simp [okAll]
  | cons t a ih =>
    simp only [List.cons_append, okAll, ih, List.length_cons, and_assoc]
    have e : n + 1 + (a.length : Int) = n + ((a.length + 1 : Nat) : Int) := by omega
    rw [e]
theorem okAll_iff (n : Int) (ls : List (List UInt8)) : okAll n ls ↔ (ls = [] ∨ (0 ≤ n ∧ n + ls.length ≤ 1000000001)) ∧ ∀ t ∈ ls, t.length ≤ 1000 := by
  induction ls generalizing n with
  | nil => simp [okAll]
  | cons t ls ih =>
    simp only [okAll, ih, nOk_iff, List.length_cons, List.mem_cons, forall_eq_or_imp, reduceCtorEq, false_or]
    constructor
    · rintro ⟨⟨⟨h1, h2⟩, h3⟩, h4, h5⟩
      refine ⟨⟨h1, ?_⟩, h3, h5⟩
      rcases h4 with rfl | ⟨_, h4⟩
      · simp; omega
      · omega
    · rintro ⟨⟨h1, h2⟩, h3, h5⟩
      refine ⟨⟨⟨h1, by omega⟩, h3⟩, ?_, h5⟩
      by_cases h0 : ls = []
      · exact .inl h0
      · exact .inr ⟨by omega, by omega⟩
theorem scan_recs {n : Int} {ls : List (List UInt8)} (h : okAll n ls) (r : List UInt8) : scan (recs n ls ++ r) n = (ls ++ (scan r (n + ls.length)).1, (recs n ls).length + (scan r (n + ls.length)).2) := by
  induction ls generalizing n with
  | nil => simp [recs]
  | cons t ls ih =>
    have e : n + 1 + (ls.length : Int) = n + ((ls.length + 1 : Nat) : Int) := by omega
    rw [recs, List.append_assoc, scan_rec h.1.1 h.1.2, ih h.2, List.length_cons, e]
    simp [Nat.add_assoc]
theorem scan_whole {n : Int} {ls : List (List UInt8)} (h : okAll n ls) : scan (recs n ls) n = (ls, (recs n ls).length) := by
  have := scan_recs h []
  rw [List.append_nil, scan_nil] at this; simpa using this
/-- What is told is there. -/
theorem scan_split (l : List UInt8) (n : Int) : okAll n (scan l n).1 ∧ (scan l n).2 = (recs n (scan l n).1).length ∧ ∃ r, l = recs n (scan l n).1 ++ r := by
  generalize hk : l.length = k
  induction k using Nat.strongRecOn generalizing l n with
  | _ k ih =>
    cases h : one l n with
    | none => rw [scan_no h]; exact ⟨trivial, rfl, l, rfl⟩
    | some x =>
      obtain ⟨t, r⟩ := x
      have hl := one_less h
      obtain ⟨h1, h2, h3⟩ := one_ok h
      obtain ⟨i1, i2, r', i3⟩ := ih r.length (by omega) r (n + 1) rfl
      rw [scan_ok h]
      refine ⟨⟨⟨h1, h2⟩, i1⟩, ?_, r', ?_⟩
      · simp only [recs, List.length_append, i2]
        have := congrArg List.length h3
        rw [List.length_append] at this
        omega
      · simp only [recs]
        rw [List.append_assoc, ← i3, ← h3]
theorem scan_le (l : List UInt8) (n : Int) : (scan l n).2 ≤ l.length := by
  obtain ⟨_, h2, r, h3⟩ := scan_split l n
  have := congrArg List.length h3
  rw [List.length_append] at this
  omega
theorem scan_take (l : List UInt8) (n : Int) : l.take (scan l n).2 = recs n (scan l n).1 := by
  obtain ⟨_, h2, r, h3⟩ := scan_split l n
  rw [h2]
  generalize (scan l n).1 = ls at h3 ⊢
  rw [h3]
  exact List.take_left
/-- What is mended is read as it was. -/
theorem scan_mended (l : List UInt8) (n : Int) : scan (l.take (scan l n).2) n = scan l n := by
  obtain ⟨h1, h2, _⟩ := scan_split l n
  rw [scan_take, scan_whole h1, ← h2]
/-- Records cut at m: a beginning of them. -/
theorem scan_cut {n : Int} {ls : List (List UInt8)} (h : okAll n ls) (m : Nat) : ∃ j, j ≤ ls.length ∧ scan ((recs n ls).take m) n = (ls.take j, (recs n (ls.take j)).length) ∧ ∀ i, i ≤ ls.length → (recs n (ls.take i)).length ≤ m → i ≤ j := by
  induction ls generalizing n m with
  | nil => exact ⟨0, Nat.le_refl _, by simp [recs, scan_nil], fun i hi _ => hi⟩
  | cons t ls ih =>
    by_cases hm : (rec1 n t).length ≤ m
    · obtain ⟨j, hj, hs, hi⟩ := ih h.2 (m - (rec1 n t).length)
      refine ⟨j + 1, by simp; omega, ?_, ?_⟩
      · rw [recs, Fm.take_cut hm, scan_rec h.1.1 h.1.2, hs]
        simp [recs]
      · intro i hi1 hi2
        cases i with
        | zero => omega
        | succ i =>
          rw [List.take_succ_cons, recs, List.length_append] at hi2
          have := hi i (by simpa using hi1) (by omega)
          omega
    · refine ⟨0, Nat.zero_le _, ?_, ?_⟩
      · have g := Fm.get_cut kind1 (body_short h.1.1 h.1.2) (m := m) (by unfold rec1 at hm; omega) (recs (n + 1) ls)
        rw [recs, scan_no]
        · simp [recs]
        · exact one_get g (by decide)
      · intro i hi1 hi2
        cases i with
        | zero => omega
        | succ i =>
          rw [List.take_succ_cons, recs, List.length_append] at hi2
          omega
theorem recs_mono (n : Int) (ls : List (List UInt8)) (i : Nat) : (recs n (ls.take i)).length ≤ (recs n ls).length := by
  conv => rhs; rw [← List.take_append_drop i ls]
  rw [recs_append, List.length_append]; omega
end Rc
end Go.Proofs.Yteepemibmjpnfaa

namespace Go.Proofs.Yteepemibmjpnfaa
set_option maxRecDepth 10000
open Go.RowKit

/-- A byte, as a cell holds it. -/
def byteV (x : UInt8) : Value := .int .u8 (x.toNat : Int)

theorem ownsRow_slice {w : World} {base : Nat} {e : TypeId} {size : Nat} {v : Value} {n : Nat} {xs : List Value} (h : w.ownsRow base e size v n xs) : ∃ A c, v = .slice A n c := by
  rcases h.2 with ⟨rfl, rfl⟩ | ⟨g, cap, _, rfl, _⟩
  · exact ⟨_, _, rfl⟩
  · exact ⟨_, _, rfl⟩

/-- A text of these bytes. -/
def strOf (l : List UInt8) : ByteArray := ⟨l.toArray⟩
/-- The bytes of a text. -/
def bl (s : ByteArray) : List UInt8 := s.data.toList
theorem bl_strOf (l : List UInt8) : bl (strOf l) = l := rfl
theorem strOf_bl (s : ByteArray) : strOf (bl s) = s := rfl
theorem strOf_size (l : List UInt8) : (strOf l).size = l.length := rfl
theorem bl_length (s : ByteArray) : (bl s).length = s.size := rfl
theorem bl_append (s t : ByteArray) : bl (s ++ t) = bl s ++ bl t := by unfold bl; rw [ByteArray.data_append]; simp
theorem strOf_append (l : List UInt8) (s : ByteArray) : strOf l ++ s = strOf (l ++ bl s) := by
  rw [← strOf_bl (strOf l ++ s), bl_append, bl_strOf]
theorem bl_inj {s t : ByteArray} (h : bl s = bl t) : s = t := by rw [← strOf_bl s, ← strOf_bl t, h]

/-- The slice at A holds the numbers zs, in blocks below B. -/
def IntsAt (w : World) (B : Nat) (A : Option Addr) (zs : List Int) : Prop :=
  ∀ i (h : i < zs.length), ∃ b off, A = some ⟨b, off, none⟩ ∧ b < B ∧ w.cell? ⟨b, off + i, none⟩ = some (.int .i64 zs[i])

theorem IntsAt.below {w w' : World} {B B' : Nat} {A : Option Addr} {zs : List Int} (h : IntsAt w B A zs) (hb : Below B' w w') (hB : B ≤ B') : IntsAt w' B A zs := fun i hi => by
  obtain ⟨b, off, e, hlt, hc⟩ := h i hi
  exact ⟨b, off, e, hlt, (hb.cell (p := ⟨b, off + i, none⟩) (by show b < B'; omega)).trans hc⟩

theorem IntsAt.more {w : World} {B B' : Nat} {A : Option Addr} {zs : List Int} (h : IntsAt w B A zs) (hB : B ≤ B') : IntsAt w B' A zs := fun i hi => by
  obtain ⟨b, off, e, hlt, hc⟩ := h i hi
  exact ⟨b, off, e, by omega, hc⟩

theorem IntsAt.nil (w : World) (B : Nat) (A : Option Addr) : IntsAt w B A [] := fun _ hi => absurd hi (Nat.not_lt_zero _)

/-- One number, as a slice of one's own holds it. -/
theorem IntsAt.one (w : World) (x : Int) (t : TypeId) : IntsAt (w.alloc (.cells #[.int .i64 x] t)) (w.alloc (.cells #[.int .i64 x] t)).heap.size (some ⟨w.heap.size, 0, none⟩) [x] := fun i hi => by
  obtain rfl : i = 0 := by simpa using hi
  exact ⟨w.heap.size, 0, rfl, by simp, (Boxed.new w t (.int .i64 x)).cell⟩

theorem below_drew {B : Nat} {a w : World} (h : Below B a w) (n : Nat) : Below B a (w.drewN n) := ⟨h.os, h.tape, h.output, h.size, h.block⟩

theorem bl_get (s : ByteArray) (k : Nat) (h : k < s.size) : (bl s)[k]'h = s[k] := rfl
theorem bl_extract_to (s : ByteArray) (k : Nat) (_h : k ≤ s.size) : bl (s.extract 0 k) = (bl s).take k := by
  unfold bl; simp [ByteArray.data_extract]
theorem bl_extract_from (s : ByteArray) (k : Nat) : bl (s.extract k s.size) = (bl s).drop k := by
  unfold bl
  rw [ByteArray.data_extract, Array.toList_extract, List.extract_eq_take_drop]
  rw [List.take_of_length_le (by simp)]

theorem strOf_toList (l : List UInt8) : (strOf l).toList = l := by
  rw [ByteArray.toList_eq]; rfl

/-- Four numbers, as a slice of one's own holds them. -/
theorem IntsAt.four (w : World) (a b c d : Int) (t : TypeId) : IntsAt (w.alloc (.cells #[.int .i64 a, .int .i64 b, .int .i64 c, .int .i64 d] t)) (w.heap.size + 1) (some ⟨w.heap.size, 0, none⟩) [a, b, c, d] := fun i hi => by
  have hb := World.alloc_heap_new w (.cells #[.int .i64 a, .int .i64 b, .int .i64 c, .int .i64 d] t)
  refine ⟨w.heap.size, 0, rfl, by omega, ?_⟩
  simp only [World.cell?, hb]
  match i, hi with
  | 0, _ => rfl
  | 1, _ => rfl
  | 2, _ => rfl
  | 3, _ => rfl

theorem IntsAt.of_own {w : World} {base : Nat} {e : TypeId} {A : Option Addr} {cap : Nat} {zs : List Int} (h : w.ownsRow base e 1 (.slice A zs.length cap) zs.length (zs.map (Value.int .i64))) : IntsAt w w.heap.size A zs := fun i hi => by
  rcases h.2 with ⟨_, h0⟩ | ⟨g, cap', cur, hv, _, hg, _⟩
  · omega
  · have hA : A = some ⟨g, 0, none⟩ := by injection hv
    subst hA
    have hc := h.cells (g := g) rfl i (.int .i64 zs[i]) (by simp [List.getElem?_eq_getElem hi])
    have hadd : (⟨g, 0, none⟩ : Addr).add i = ⟨g, 0 + i, none⟩ := by unfold Addr.add; split <;> simp_all
    rw [hadd] at hc
    exact ⟨g, 0, rfl, (Array.getElem?_eq_some_iff.1 hg).1, hc⟩

theorem strs_append (a b : List UInt8) : strOf a ++ strOf b = strOf (a ++ b) := strOf_append a (strOf b)

theorem below2 {a b c : World} (h : Below a.heap.size a b) (k : Below b.heap.size b c) : Below a.heap.size a c := h.trans (k.mono h.size)

/-- What a law is told of a slice of integers that came in: nil, or a row of cap cells, zs; its elements are the first len. -/
def IsRow (k : IntKind) (w : World) (a : Option Addr) (len cap : Nat) (zs : List Int) : Prop :=
  (a = none ∧ len = 0 ∧ cap = 0 ∧ zs = []) ∨
  ∃ x, a = some x ∧ len ≤ cap ∧ cap ≤ maxLen ∧ zs.length = cap ∧ (∀ i, i < zs.length → w.cell? (x.add i) = some (.int k (zs.getD i 0))) ∧ ∀ n ∈ zs, (Lit.int k n).wf = true

theorem IsRow.ints {w : World} {a : Option Addr} {len cap : Nat} {zs : List Int} (h : IsRow .i64 w a len cap zs) : len = (zs.take len).length ∧ len ≤ maxLen ∧ IntsAt w w.heap.size a (zs.take len) ∧ ∀ n ∈ zs.take len, (Lit.int .i64 n).wf = true := by
  rcases h with ⟨rfl, rfl, rfl, rfl⟩ | ⟨x, rfl, hl, hm, hz, hc, hw⟩
  · exact ⟨rfl, Nat.zero_le _, IntsAt.nil _ _ _, by simp⟩
  · have e : len = (zs.take len).length := by rw [List.length_take]; omega
    refine ⟨e, by omega, fun i hi => ?_, fun n hn => hw n (List.mem_of_mem_take hn)⟩
    have hi2 : i < zs.length := by omega
    obtain ⟨b, off, rfl, hcc⟩ := ints_at hc (by omega)
    have h1 := hcc i hi2
    refine ⟨b, off, rfl, World.block_lt_of_cell? w _ h1, h1.trans ?_⟩
    simp [List.getD, List.getElem?_eq_getElem hi2]

/-- The slice at A holds the texts ss, in blocks below B. -/
def StrsAt (w : World) (B : Nat) (A : Option Addr) (ss : List ByteArray) : Prop :=
  ∀ i (h : i < ss.length), ∃ b off, A = some ⟨b, off, none⟩ ∧ b < B ∧ w.cell? ⟨b, off + i, none⟩ = some (.string ss[i])

theorem StrsAt.below {w w' : World} {B B' : Nat} {A : Option Addr} {ss : List ByteArray} (h : StrsAt w B A ss) (hb : Below B' w w') (hB : B ≤ B') : StrsAt w' B A ss := fun i hi => by
  obtain ⟨b, off, e, hlt, hc⟩ := h i hi
  exact ⟨b, off, e, hlt, (hb.cell (p := ⟨b, off + i, none⟩) (by show b < B'; omega)).trans hc⟩

theorem StrsAt.more {w : World} {B B' : Nat} {A : Option Addr} {ss : List ByteArray} (h : StrsAt w B A ss) (hB : B ≤ B') : StrsAt w B' A ss := fun i hi => by
  obtain ⟨b, off, e, hlt, hc⟩ := h i hi
  exact ⟨b, off, e, by omega, hc⟩

theorem StrsAt.nil (w : World) (B : Nat) (A : Option Addr) : StrsAt w B A [] := fun _ hi => absurd hi (Nat.not_lt_zero _)

theorem StrsAt.new (w : World) (ss : List ByteArray) (t : TypeId) : StrsAt (w.alloc (.cells (ss.map Value.string).toArray t)) (w.heap.size + 1) (some ⟨w.heap.size, 0, none⟩) ss := fun i hi => by
  have hb := World.alloc_heap_new w (.cells (ss.map Value.string).toArray t)
  refine ⟨w.heap.size, 0, rfl, by omega, ?_⟩
  simp only [World.cell?, hb]
  simp [hi]

theorem gets_below {w W w1 : World} {e : TypeId} {v : Value} {k : Nat} {xs : List Value} {tmp : Obj} (hB : Below w.heap.size w W) (hown : W.ownsRow w.heap.size e 1 v k xs) (hg : (W.alloc tmp).grownBy w1 v.ownBlock) : Below w.heap.size w w1 :=
  (hB.alloc hB.size tmp).grown hg (by have := hB.size; simp; omega) (fun j ej => (hown.lt j ej).1)

theorem owns_below {w W : World} {base : Nat} {e : TypeId} {size : Nat} {v : Value} {k : Nat} {xs : List Value} (h : w.ownsRow base e size v k xs) (hb : Below w.heap.size w W) : W.ownsRow base e size v k xs :=
  h.kept (row := none) ⟨hb.os, hb.tape, hb.output, hb.size, fun i hi _ => hb.block i hi⟩ (by cases v.ownBlock <;> simp)

theorem retb {a b : Bool} (h : a = b) : Ending.returned (.bool a) = .returned (.bool b) := by rw [h]
theorem below_new (w : World) (o : Obj) : Below w.heap.size w (w.alloc o) := (Below.refl _ _).alloc (Nat.le_refl _) _
theorem below_new2 (w : World) (o o' : Obj) : Below w.heap.size w ((w.alloc o).alloc o') := (below_new w o).alloc (by simp) _
theorem below_new3 (w : World) (o o' o2 : Obj) : Below w.heap.size w (((w.alloc o).alloc o').alloc o2) := (below_new2 w o o').alloc (by simp; omega) _
theorem below_undrew {a b : World} (h : Below a.drew.heap.size a.drew b) : Below a.heap.size a b := ⟨h.os, h.tape, h.output, h.size, h.block⟩
theorem IntsAt.two (w : World) (a b : Int) (t : TypeId) : IntsAt (w.alloc (.cells #[.int .i64 a, .int .i64 b] t)) (w.heap.size + 1) (some ⟨w.heap.size, 0, none⟩) [a, b] := fun i hi => by
  have hb := World.alloc_heap_new w (.cells #[.int .i64 a, .int .i64 b] t)
  refine ⟨w.heap.size, 0, rfl, by omega, ?_⟩
  simp only [World.cell?, hb]
  match i, hi with
  | 0, _ => rfl
  | 1, _ => rfl
theorem IntsAt.on {w w' : World} {A : Option Addr} {zs : List Int} (h : IntsAt w w.heap.size A zs) (hb : Below w.heap.size w w') : IntsAt w' w'.heap.size A zs := (h.below hb (Nat.le_refl _)).more hb.size
theorem grown_refl (w : World) (row : Option Nat) : w.grownBy w row := ⟨rfl, rfl, rfl, Nat.le_refl _, fun _ _ _ => rfl⟩
theorem ownsRow_some {w : World} {base n : Nat} {e : TypeId} {size : Nat} {v : Value} {xs : List Value} (h : w.ownsRow base e size v n xs) (hn : 1 ≤ n) : ∃ g cap, v = .slice (some ⟨g, 0, none⟩) n cap := by
  rcases h.2 with ⟨_, h0⟩ | ⟨g, cap, cur, hv, _⟩
  · omega
  · exact ⟨g, cap, hv⟩
theorem owns_lower {w : World} {base base' : Nat} {e : TypeId} {size : Nat} {v : Value} {n : Nat} {xs : List Value} (h : w.ownsRow base e size v n xs) (hb : base' ≤ base) : w.ownsRow base' e size v n xs := by
  refine ⟨h.1, ?_⟩
  rcases h.2 with h0 | ⟨g, cap, cur, h1, h2, h3⟩
  · exact Or.inl h0
  · exact Or.inr ⟨g, cap, cur, h1, Nat.le_trans hb h2, h3⟩

theorem below_setRow {B : Nat} {w w' : World} (h : Below B w w') {g : Nat} (hg : B ≤ g) (cs : Array Value) : Below B w (w'.setRow g cs) :=
  ⟨h.os, h.tape, h.output, by simp; exact h.size, fun i hi => (setRow_other w' g i cs (by omega)).trans (h.block i hi)⟩
theorem grown_setRow (w : World) (g : Nat) (cs : Array Value) : w.grownBy (w.setRow g cs) (some g) :=
  ⟨rfl, rfl, rfl, by simp, fun k _ hne => setRow_other w g k cs (fun e => hne (by rw [e]))⟩

end Go.Proofs.Yteepemibmjpnfaa

namespace Go.Proofs.Yteepemibmjpnfaa
set_option maxRecDepth 10000
open Go.RowKit

/-- A file: how many bytes at most, the kept ones, the loose ones. -/
structure Fil where
  most : Int
  kept : ByteArray
  loose : ByteArray

/-- A file's cells. -/
def filV (f : Fil) : Array Value := #[.int .i64 f.most, .string f.kept, .string f.loose]
def Fil.v (f : Fil) : Value := .agg (filV f)
theorem fil_one (f : Fil) : (filV f).all (·.oneCell') = true := by simp [filV, Value.oneCell']
/-- No file. -/
def Fi.no : Fil := ⟨0, ⟨#[]⟩, ⟨#[]⟩⟩
def Fi.is (f : Fil) : Bool := decide (1 ≤ f.most ∧ f.most ≤ 4000 ∧ (f.kept.size : Int) + f.loose.size ≤ f.most)
def Fi.read (f : Fil) : ByteArray := f.kept ++ f.loose
def Fi.newE (n : Int) : Int := if 1 ≤ n ∧ n ≤ 4000 then 0 else 1
def Fi.new (n : Int) : Fil := if 1 ≤ n ∧ n ≤ 4000 then ⟨n, ⟨#[]⟩, ⟨#[]⟩⟩ else Fi.no
def Fi.badE (f : Fil) : Int := if Fi.is f then 0 else 1
def Fi.sync (f : Fil) : Fil := if Fi.is f then ⟨f.most, Fi.read f, ⟨#[]⟩⟩ else Fi.no
/-- How many loose bytes a crash leaves. -/
def Fi.many (f : Fil) (n : Int) : Nat := min n.toNat f.loose.size
def Fi.crash (f : Fil) (n : Int) : Fil := if Fi.is f then ⟨f.most, f.kept ++ f.loose.extract 0 (Fi.many f n), ⟨#[]⟩⟩ else Fi.no
def Fi.cutOk (f : Fil) (n : Int) : Bool := Fi.is f && decide (0 ≤ n ∧ n ≤ (f.kept.size : Int) + f.loose.size)
def Fi.cut (f : Fil) (n : Int) : Fil := if Fi.cutOk f n then ⟨f.most, (Fi.read f).extract 0 n.toNat, ⟨#[]⟩⟩ else Fi.no
def Fi.cutE (f : Fil) (n : Int) : Int := if Fi.cutOk f n then 0 else 1
/-- All parts, one behind the other. -/
def Fi.all (ss : List ByteArray) : ByteArray := strOf (ss.map bl).flatten
def Fi.addE (f : Fil) (ss : List ByteArray) : Int := if Fi.is f then (if (f.kept.size : Int) + f.loose.size + (Fi.all ss).size ≤ f.most then 0 else 81) else 1
def Fi.add (f : Fil) (ss : List ByteArray) : Fil := if Fi.addE f ss = 0 then ⟨f.most, f.kept, f.loose ++ Fi.all ss⟩ else Fi.no
/-- As many bytes as are looked at. -/
def Fi.small (f : Fil) : Prop := f.kept.size ≤ 9000 ∧ f.loose.size ≤ 9000

theorem Fi.read_size (f : Fil) : (Fi.read f).size = f.kept.size + f.loose.size := by unfold Fi.read; exact ByteArray.size_append
theorem Fi.all_nil : Fi.all [] = ⟨#[]⟩ := rfl
theorem Fi.all_snoc (ss : List ByteArray) (s : ByteArray) : Fi.all (ss ++ [s]) = Fi.all ss ++ s := by
  unfold Fi.all; rw [List.map_append, List.flatten_append, strOf_append]; simp
theorem Fi.all_append (ss ts : List ByteArray) : Fi.all (ss ++ ts) = Fi.all ss ++ Fi.all ts := by
  unfold Fi.all; rw [List.map_append, List.flatten_append, strs_append]
theorem Fi.all_size_snoc (ss : List ByteArray) (s : ByteArray) : (Fi.all (ss ++ [s])).size = (Fi.all ss).size + s.size := by rw [Fi.all_snoc, ByteArray.size_append]
theorem Fi.all_take_le (ss : List ByteArray) (k : Nat) : (Fi.all (ss.take k)).size ≤ (Fi.all ss).size := by
  conv => rhs; rw [← List.take_append_drop k ss]
  rw [Fi.all_append, ByteArray.size_append]; omega
theorem ba_nil (s : ByteArray) : s ++ (⟨#[]⟩ : ByteArray) = s := by apply bl_inj; rw [bl_append]; show bl s ++ [] = _; simp
theorem ba_assoc (a b c : ByteArray) : a ++ b ++ c = a ++ (b ++ c) := by apply bl_inj; simp [bl_append]
theorem ba_extract0 (s : ByteArray) : s.extract 0 0 = ⟨#[]⟩ := by apply bl_inj; rw [bl_extract_to _ _ (Nat.zero_le _)]; rfl
theorem ba_extract_all (s : ByteArray) : s.extract 0 s.size = s := by apply bl_inj; rw [bl_extract_to _ _ (Nat.le_refl _)]; show (bl s).take (bl s).length = _; simp
theorem Fi.no_read : Fi.read Fi.no = ⟨#[]⟩ := by unfold Fi.read Fi.no; exact ba_nil _
theorem Fi.is_small {f : Fil} (h : Fi.is f = true) : 1 ≤ f.most ∧ f.most ≤ 4000 ∧ (f.kept.size : Int) + f.loose.size ≤ f.most := of_decide_eq_true h
end Go.Proofs.Yteepemibmjpnfaa

namespace Go.Proofs.Yteepemibmjpnfaa
set_option maxRecDepth 10000
open Go.RowKit
namespace Rc

def numsOk (n : Int) (k : Nat) : Bool := decide (k = 0 ∨ (0 ≤ n ∧ n + k ≤ 1000000001))
def shorts (ss : List ByteArray) : Bool := ss.all (fun s => decide (s.size ≤ 1000))
def addE (f : Fil) (n : Int) (ss : List ByteArray) : Int :=
  if Fi.is f = true then if numsOk n ss.length = true then if shorts ss = true then (if (f.kept.size : Int) + f.loose.size + ((recs n (ss.map bl)).length : Nat) ≤ f.most then 0 else 81) else 2 else 1 else 1
def add (f : Fil) (n : Int) (ss : List ByteArray) : Fil := if addE f n ss = 0 then ⟨f.most, f.kept, f.loose ++ strOf (recs n (ss.map bl))⟩ else Fi.no
def sc (f : Fil) (n : Int) : List (List UInt8) × Nat := scan (bl (Fi.read f)) n
def texts (f : Fil) (n : Int) : List ByteArray := if Fi.is f = true then (sc f n).1.map strOf else []
def mend (f : Fil) (n : Int) : Fil := if Fi.is f = true then ⟨f.most, strOf (recs n (sc f n).1), ⟨#[]⟩⟩ else Fi.no

theorem ok_iff (n : Int) (ss : List ByteArray) : okAll n (ss.map bl) ↔ numsOk n ss.length = true ∧ shorts ss = true := by
  rw [okAll_iff]
  unfold numsOk shorts
  rw [decide_eq_true_iff, List.all_eq_true]
  constructor
  · rintro ⟨h1, h2⟩
    refine ⟨?_, fun s hs => decide_eq_true (by have := h2 (bl s) (List.mem_map_of_mem hs); rw [bl_length] at this; exact this)⟩
    rcases h1 with h1 | h1
    · exact .inl (by simpa using h1)
    · exact .inr (by simpa using h1)
  · rintro ⟨h1, h2⟩
    refine ⟨?_, fun t ht => ?_⟩
    · rcases h1 with h1 | h1
      · exact .inl (by simpa using h1)
      · exact .inr (by simpa using h1)
    · obtain ⟨s, hs, rfl⟩ := List.mem_map.1 ht
      rw [bl_length]; exact of_decide_eq_true (h2 s hs)
theorem addE_zero {f : Fil} {n : Int} {ss : List ByteArray} : addE f n ss = 0 ↔ Fi.is f = true ∧ okAll n (ss.map bl) ∧ (f.kept.size : Int) + f.loose.size + ((recs n (ss.map bl)).length : Nat) ≤ f.most := by
  rw [ok_iff]
  unfold addE
  constructor
  · intro h
    split at h
    · rename_i h1
      split at h
      · rename_i h2
        split at h
        · rename_i h3
          split at h
          · rename_i h4; exact ⟨h1, ⟨h2, h3⟩, h4⟩
          · cases h
        · cases h
      · cases h
    · cases h
  · rintro ⟨h1, ⟨h2, h3⟩, h4⟩; rw [if_pos h1, if_pos h2, if_pos h3, if_pos h4]
theorem add_ok {f : Fil} {n : Int} {ss : List ByteArray} (h : addE f n ss = 0) : add f n ss = ⟨f.most, f.kept, f.loose ++ strOf (recs n (ss.map bl))⟩ := by unfold add; rw [if_pos h]
theorem add_bad {f : Fil} {n : Int} {ss : List ByteArray} (h : addE f n ss ≠ 0) : add f n ss = Fi.no := by unfold add; rw [if_neg h]
theorem strOf_size (t : List UInt8) : (strOf t).size = t.length := by rw [← bl_length, bl_strOf]
theorem add_read {f : Fil} {n : Int} {ss : List ByteArray} (h : addE f n ss = 0) : bl (Fi.read (add f n ss)) = bl (Fi.read f) ++ recs n (ss.map bl) := by
  rw [add_ok h]; unfold Fi.read; simp only; rw [bl_append, bl_append, bl_append, bl_strOf, List.append_assoc]
theorem add_is {f : Fil} {n : Int} {ss : List ByteArray} (h : addE f n ss = 0) : Fi.is (add f n ss) = true := by
  obtain ⟨h1, _, h3⟩ := addE_zero.1 h
  have := Fi.is_small h1
  rw [add_ok h]; unfold Fi.is; rw [decide_eq_true_iff]; simp only
  rw [ByteArray.size_append, strOf_size]; omega
theorem no_small : Fi.small Fi.no := ⟨Nat.zero_le _, Nat.zero_le _⟩
theorem is_small9 {f : Fil} (h : Fi.is f = true) : Fi.small f := by have := Fi.is_small h; unfold Fi.small; omega
theorem add_small (f : Fil) (n : Int) (ss : List ByteArray) : Fi.small (add f n ss) := by
  by_cases h : addE f n ss = 0
  · exact is_small9 (add_is h)
  · rw [add_bad h]; exact no_small
theorem mend_yes {f : Fil} (h : Fi.is f = true) (n : Int) : mend f n = ⟨f.most, strOf (recs n (sc f n).1), ⟨#[]⟩⟩ := by unfold mend; rw [if_pos h]
theorem sc_le (f : Fil) (n : Int) : (sc f n).2 ≤ f.kept.size + f.loose.size := by
  have := scan_le (bl (Fi.read f)) n
  rw [bl_length, Fi.read_size] at this; exact this
theorem sc_len (f : Fil) (n : Int) : (sc f n).2 = (recs n (sc f n).1).length := (scan_split (bl (Fi.read f)) n).2.1
theorem mend_cut {f : Fil} (h : Fi.is f = true) (n : Int) : mend f n = Fi.cut f ((sc f n).2 : Nat) ∧ Fi.cutE f ((sc f n).2 : Nat) = 0 := by
  have hl := sc_le f n
  have hc : Fi.cutOk f ((sc f n).2 : Nat) = true := by unfold Fi.cutOk; rw [h, Bool.true_and, decide_eq_true_iff]; omega
  unfold Fi.cut Fi.cutE
  rw [if_pos hc, if_pos hc, mend_yes h]
  refine ⟨?_, rfl⟩
  congr 1
  apply bl_inj
  have h1 : (sc f n).2 ≤ (Fi.read f).size := by rw [Fi.read_size]; exact hl
  rw [bl_strOf, Int.toNat_natCast, bl_extract_to _ _ h1]
  exact (scan_take (bl (Fi.read f)) n).symm
theorem mend_is {f : Fil} (h : Fi.is f = true) (n : Int) : Fi.is (mend f n) = true := by
  have h1 := Fi.is_small h
  have h2 := sc_le f n
  have h3 := sc_len f n
  rw [mend_yes h]; unfold Fi.is; rw [decide_eq_true_iff]; simp only
  rw [strOf_size]; show 1 ≤ f.most ∧ f.most ≤ 4000 ∧ ((recs n (sc f n).1).length : Int) + (0 : Nat) ≤ f.most
  omega
theorem mend_read {f : Fil} (h : Fi.is f = true) (n : Int) : Fi.read (mend f n) = strOf (recs n (sc f n).1) := by
  rw [mend_yes h]; unfold Fi.read; exact ba_nil _
/-- What is mended is read as it was. -/
theorem mend_sc {f : Fil} (h : Fi.is f = true) (n : Int) : sc (mend f n) n = sc f n := by
  have h1 := scan_mended (bl (Fi.read f)) n
  rw [scan_take] at h1
  unfold sc
  rw [mend_read h, bl_strOf]
  exact h1
theorem mend_texts {f : Fil} (h : Fi.is f = true) (n : Int) : texts (mend f n) n = texts f n := by
  unfold texts; rw [if_pos (mend_is h n), if_pos h, mend_sc h]
theorem mend_again {f : Fil} (h : Fi.is f = true) (n : Int) : mend (mend f n) n = mend f n := by
  rw [mend_yes (mend_is h n), mend_sc h, mend_yes h]
theorem mend_small (f : Fil) (n : Int) : Fi.small (mend f n) := by
  by_cases h : Fi.is f = true
  · exact is_small9 (mend_is h n)
  · unfold mend; rw [if_neg h]; exact no_small
theorem texts_no {f : Fil} (h : Fi.is f = false) (n : Int) : texts f n = [] := by unfold texts; rw [h]; rfl
theorem texts_yes {f : Fil} (h : Fi.is f = true) (n : Int) : texts f n = (sc f n).1.map strOf := by unfold texts; rw [if_pos h]
theorem map_back (ss : List ByteArray) : (ss.map bl).map strOf = ss := by
  rw [List.map_map]
  conv => rhs; rw [← List.map_id ss]
  apply List.map_congr_left
  intro s _; exact strOf_bl s

/-- Another number's record is none. -/
theorem one_other {n first : Int} {t : List UInt8} (h : nOk n = true) (h2 : t.length ≤ 1000) (hne : first ≠ n) (r : List UInt8) : one (rec1 n t ++ r) first = none := by
  cases hh : one (rec1 n t ++ r) first with
  | none => rfl
  | some x =>
    obtain ⟨t', r'⟩ := x
    obtain ⟨g1, g2, g3⟩ := one_ok hh
    have e1 := get_rec h h2 r
    have e2 := get_rec g1 g2 r'
    rw [g3, e2] at e1
    have e3 : Wm.lay first ++ t' = Wm.lay n ++ t := by simp only [Prod.mk.injEq] at e1; exact e1.2.1
    have e4 := Wm.getInt_lay (fits_n g1) t'
    have e5 := Wm.getInt_lay (fits_n h) t
    rw [e3, e5] at e4
    simp only [Prod.mk.injEq] at e4
    exact absurd e4.1.symm hne
theorem scan_other {n first : Int} {t : List UInt8} (h : nOk n = true) (h2 : t.length ≤ 1000) (hne : first ≠ n) (r : List UInt8) : scan (rec1 n t ++ r) first = ([], 0) := scan_no (one_other h h2 hne r)

/-! ### the document's rows, reckoned -/
def ab : List ByteArray := [⟨#[97]⟩, ⟨#[98]⟩]
def r0 : Fil := ⟨100, ⟨#[]⟩, ⟨#[]⟩⟩
def r1 : Fil := add r0 5 ab
def r2 : Fil := Fi.crash r1 (((Fi.read r1).size : Int) - 1)
def r3 : Fil := mend r2 5
theorem ok_ab : okAll 5 (ab.map bl) := (ok_iff 5 ab).2 ⟨by decide, by decide⟩
theorem rec1_le {n : Int} (h : nOk n = true) {t : List UInt8} (h2 : t.length ≤ 1000) : (rec1 n t).length ≤ t.length + 20 := by
  have h3 := lay_short h
  have h4 : (Wm.lay 1).length ≤ 5 := lay_short (by decide)
  have h5 : (Wm.lay ((Wm.lay n ++ t).length : Int)).length ≤ 5 := lay_short (nOk_iff.2 (by have := body_short h h2; omega))
  have h6 : (Wm.lay ((Sm.ofL (Fm.ahead 1 (Wm.lay n ++ t)) : Nat) : Int)).length ≤ 5 := lay_short (nOk_iff.2 (by have := Sm.ofL_lt (Fm.ahead 1 (Wm.lay n ++ t)); omega))
  unfold rec1 Fm.frame Fm.ahead Fm.textL
  unfold Fm.ahead Fm.textL at h6
  simp only [List.length_append] at h3 h4 h5 h6 ⊢
  omega
theorem len_ab : (recs 5 (ab.map bl)).length ≤ 42 := by
  have h1 := rec1_le (n := 5) (by decide) (t := [97]) (by decide)
  have h2 := rec1_le (n := 6) (by decide) (t := [98]) (by decide)
  show (rec1 5 [97] ++ (rec1 6 [98] ++ [])).length ≤ 42
  simp only [List.length_append, List.length_nil] at *
  simp only [List.length_cons, List.length_nil] at h1 h2
  omega
theorem r1_ok : addE r0 5 ab = 0 := addE_zero.2 ⟨by decide, ok_ab, by
  have := len_ab
  show (0 : Int) + 0 + ((recs 5 (ab.map bl)).length : Nat) ≤ 100
  omega⟩
theorem r1_is : Fi.is r1 = true := add_is r1_ok
theorem r1_read : bl (Fi.read r1) = recs 5 (ab.map bl) := add_read r1_ok
theorem r1_size : (Fi.read r1).size = (recs 5 (ab.map bl)).length := by rw [← bl_length, r1_read]
theorem r1_texts5 : texts r1 5 = ab := by
  rw [texts_yes r1_is]; unfold sc; rw [r1_read, scan_whole ok_ab]; exact map_back ab
theorem r1_texts4 : texts r1 4 = [] := by
  rw [texts_yes r1_is]; unfold sc; rw [r1_read]
  show (scan (rec1 5 [97] ++ (rec1 6 [98] ++ [])) 4).1.map strOf = []
  rw [scan_other (by decide) (by decide) (by decide)]; rfl
theorem r2_is : Fi.is r2 = true := by
  have h := Fi.is_small r1_is
  have hq : Fi.many r1 (((Fi.read r1).size : Int) - 1) ≤ r1.loose.size := by unfold Fi.many; exact Nat.min_le_right _ _
  unfold r2 Fi.crash
  rw [if_pos r1_is]
  unfold Fi.is
  rw [decide_eq_true_iff]
  simp only
  rw [ByteArray.size_append, ByteArray.size_extract]
  show 1 ≤ r1.most ∧ r1.most ≤ 4000 ∧ ((r1.kept.size + (min (Fi.many r1 (((Fi.read r1).size : Int) - 1)) r1.loose.size - 0) : Nat) : Int) + (0 : Nat) ≤ r1.most
  omega
theorem r2_read : bl (Fi.read r2) = (recs 5 (ab.map bl)).take ((recs 5 (ab.map bl)).length - 1) := by
  have e1 : r1 = ⟨100, ⟨#[]⟩, ⟨#[]⟩ ++ strOf (recs 5 (ab.map bl))⟩ := add_ok r1_ok
  have e0 : (⟨#[]⟩ : ByteArray) ++ strOf (recs 5 (ab.map bl)) = strOf (recs 5 (ab.map bl)) := by apply bl_inj; rw [bl_append]; rfl
  rw [e0] at e1
  have hs := r1_size
  have hm : Fi.many r1 (((Fi.read r1).size : Int) - 1) = (recs 5 (ab.map bl)).length - 1 := by
    unfold Fi.many; rw [hs]
    have : r1.loose.size = (recs 5 (ab.map bl)).length := by rw [e1]; exact strOf_size _
    rw [this]; omega
  unfold r2 Fi.crash
  rw [if_pos r1_is, hm]
  unfold Fi.read
  simp only
  rw [bl_append, bl_append, e1]
  simp only
  rw [bl_extract_to _ _ (by rw [strOf_size]; omega), bl_strOf]
  show [] ++ _ ++ [] = _
  simp
theorem r2_sc : sc r2 5 = ([[97]], (rec1 5 [97]).length) := by
  have hp := rec_pos 6 [98]
  obtain ⟨j, hj, hs, hi⟩ := scan_cut ok_ab ((recs 5 (ab.map bl)).length - 1)
  unfold sc
  rw [r2_read, hs]
  have e : recs 5 (ab.map bl) = rec1 5 [97] ++ (rec1 6 [98] ++ []) := rfl
  have hl : (recs 5 (ab.map bl)).length = (rec1 5 [97]).length + (rec1 6 [98]).length := by rw [e]; simp
  have h1 : 1 ≤ j := hi 1 (by decide) (by
    show (rec1 5 [97] ++ []).length ≤ _
    rw [List.append_nil, hl]; omega)
  have h2 : j < 2 := by
    refine Nat.lt_of_not_le fun h2 => ?_
    have h3 : j = 2 := by have : (ab.map bl).length = 2 := rfl; omega
    subst h3
    have h4 := scan_le ((recs 5 (ab.map bl)).take ((recs 5 (ab.map bl)).length - 1)) 5
    rw [hs, List.length_take] at h4
    have h5 : (recs 5 ((ab.map bl).take 2)).length = (recs 5 (ab.map bl)).length := rfl
    simp only at h4
    omega
  obtain rfl : j = 1 := by omega
  have e1 : (ab.map bl).take 1 = [[97]] := rfl
  rw [e1]
  have e2 : recs 5 [[97]] = rec1 5 [97] := List.append_nil _
  rw [e2]
theorem r2_texts : texts r2 5 = [⟨#[97]⟩] := by rw [texts_yes r2_is, r2_sc]; rfl
theorem r3_less : (Fi.read r3).size < (Fi.read r2).size := by
  have hp := rec_pos 6 [98]
  have hl : (recs 5 (ab.map bl)).length = (rec1 5 [97]).length + (rec1 6 [98]).length := by
    have e : recs 5 (ab.map bl) = rec1 5 [97] ++ (rec1 6 [98] ++ []) := rfl
    rw [e]; simp
  have h1 : (Fi.read r3).size = (rec1 5 [97]).length := by
    unfold r3; rw [mend_read r2_is, r2_sc, strOf_size]
    show (rec1 5 [97] ++ []).length = _
    rw [List.append_nil]
  have h2 : (Fi.read r2).size = (recs 5 (ab.map bl)).length - 1 := by
    rw [← bl_length, r2_read, List.length_take]; omega
  have h3 : 1 < (rec1 6 [98]).length := by
    have := Fm.lay_pos 1
    unfold rec1 Fm.frame Fm.ahead Fm.textL
    simp only [List.length_append, List.length_cons]
    have := Fm.lay_pos 6
    omega
  rw [h1, h2]; omega
end Rc
end Go.Proofs.Yteepemibmjpnfaa

namespace Go.Proofs.Yteepemibmjpnfaa
set_option maxRecDepth 10000
open Go.RowKit

/-- Two files. -/
structure Slo where
  a : Fil
  b : Fil
namespace Sl
def v (s : Slo) : Array Value := #[.int .i64 s.a.most, .string s.a.kept, .string s.a.loose, .int .i64 s.b.most, .string s.b.kept, .string s.b.loose]
theorem v_one (s : Slo) : (v s).all (·.oneCell') = true := by simp [v, Value.oneCell']
def no : Slo := ⟨Fi.no, Fi.no⟩
def is (s : Slo) : Bool := (Fi.is s.a && Fi.is s.b) && decide (s.a.most = s.b.most)
def nOk (n : Int) : Bool := decide (1 ≤ n) && decide (n ≤ 1000000000)
theorem nOk_iff {n : Int} : nOk n = true ↔ 1 ≤ n ∧ n ≤ 1000000000 := by simp [nOk]
/-- The note of a number and a text. -/
def noteB (n : Int) (t : List UInt8) : List UInt8 := Fm.frame 2 (Wm.lay n ++ t)
/-- What a file's bytes say: number, text, whether they are a note. -/
def raw (l : List UInt8) : Int × List UInt8 × Bool :=
  if (Fm.get l).2.2.2 = 0 ∧ (Fm.get l).2.2.1 = [] ∧ (Fm.get l).1 = 2 then ((Wm.getInt (Fm.get l).2.1).1, (Wm.getInt (Fm.get l).2.1).2.1, decide ((Wm.getInt (Fm.get l).2.1).2.2 = 0) && nOk (Wm.getInt (Fm.get l).2.1).1) else (0, [], false)
def better (a b : List UInt8) : List UInt8 × Int × Int :=
  if (raw a).2.2 = true ∧ ((raw b).2.2 = false ∨ (raw b).1 ≤ (raw a).1) then ((raw a).2.1, (raw a).1, 0) else if (raw b).2.2 = true then ((raw b).2.1, (raw b).1, 1) else ([], 0, -1)
def best (s : Slo) : List UInt8 × Int × Int := better (bl (Fi.read s.a)) (bl (Fi.read s.b))
def badE (s : Slo) : Int := if is s = true then 0 else 1
def loadT (s : Slo) : List UInt8 := if is s = true then (best s).1 else []
def loadN (s : Slo) : Int := if is s = true then (best s).2.1 else 0
def newS (n : Int) : Slo := ⟨Fi.new n, Fi.new n⟩
def saveE (s : Slo) (t : List UInt8) : Int :=
  if is s = true then if 1000 < t.length ∨ 1000000000 ≤ (best s).2.1 then 2 else if s.a.most < ((noteB ((best s).2.1 + 1) t).length : Int) then 81 else 0 else 1
/-- The file that is written. -/
def wr (s : Slo) (t : List UInt8) (deeds : Int) : Fil := if deeds = 1 then ⟨s.a.most, ⟨#[]⟩, strOf (noteB ((best s).2.1 + 1) t)⟩ else ⟨s.a.most, strOf (noteB ((best s).2.1 + 1) t), ⟨#[]⟩⟩
def put (s : Slo) (f : Fil) : Slo := if (best s).2.2 = 0 then ⟨s.a, f⟩ else ⟨f, s.b⟩
def save (s : Slo) (t : List UInt8) (deeds : Int) : Slo := if saveE s t = 0 then if deeds = 0 then s else put s (wr s t deeds) else no
def done (s : Slo) (t : List UInt8) (deeds : Int) : Bool := decide (saveE s t = 0) && (decide (deeds ≠ 0) && decide (deeds ≠ 1))
def crash (s : Slo) (n : Int) : Slo := if is s = true then ⟨Fi.crash s.a n, Fi.crash s.b n⟩ else no

theorem fits_n {n : Int} (h : nOk n = true) : Wm.fits n = true := Rc.fits_n (Rc.nOk_iff.2 (by have := nOk_iff.1 h; omega))
theorem lay_le {n : Int} (h : nOk n = true) : (Wm.lay n).length ≤ 5 := Rc.lay_short (Rc.nOk_iff.2 (by have := nOk_iff.1 h; omega))
theorem kind2 : Fm.kindOk 2 = true := by decide
theorem raw_note {n : Int} {t : List UInt8} (h : nOk n = true) (h2 : t.length ≤ 1000) : raw (noteB n t) = (n, t, true) := by
  have hl := lay_le h
  have g := Fm.get_frame kind2 (t := Wm.lay n ++ t) (by rw [List.length_append]; omega) []
  rw [List.append_nil] at g
  have gi := Wm.getInt_lay (fits_n h) t
  unfold raw noteB
  rw [g]; simp only
  rw [gi]; simp only
  rw [if_pos ⟨trivial, trivial, trivial⟩, h]; rfl
theorem raw_ok {l : List UInt8} (h : (raw l).2.2 = true) : nOk (raw l).1 = true := by
  unfold raw at h ⊢
  split at h
  · rename_i hc
    rw [if_pos hc]
    rw [Bool.and_eq_true] at h
    exact h.2
  · cases h
theorem raw_nil : raw [] = (0, [], false) := by
  have g : ∃ e, e ≠ 0 ∧ Fm.get [] = (0, [], [], e) := by
    rcases Fm.get_cases [] with ⟨k, t, r, h⟩ | h
    · have h1 := (Fm.get_ok h).2.2
      have := Fm.frame_pos k t
      have h2 := congrArg List.length h1
      rw [List.length_append] at h2
      simp only [List.length_nil] at h2; omega
    · exact h
  obtain ⟨e, he, g⟩ := g
  unfold raw; rw [g]
  rw [if_neg (fun h => he h.1)]
/-- A note that is cut is none. -/
theorem raw_cut {n : Int} {t : List UInt8} (h : nOk n = true) (h2 : t.length ≤ 1000) {m : Nat} (hm : m < (noteB n t).length) : raw ((noteB n t).take m) = (0, [], false) := by
  have hl := lay_le h
  have g := Fm.get_cut kind2 (t := Wm.lay n ++ t) (by rw [List.length_append]; omega) (m := m) hm []
  rw [List.append_nil] at g
  unfold raw noteB
  rw [g]
  rw [if_neg (fun h => by have := h.1; simp only at this; exact absurd this (by decide))]
theorem raw_num {l : List UInt8} (h : (raw l).2.2 = true) : 1 ≤ (raw l).1 ∧ (raw l).1 ≤ 1000000000 := nOk_iff.1 (raw_ok h)
theorem better_num (a b : List UInt8) : 0 ≤ (better a b).2.1 ∧ (better a b).2.1 ≤ 1000000000 := by
  unfold better
  split
  · rename_i h; have := raw_num h.1; simp only; omega
  · split
    · rename_i h; have := raw_num h; simp only; omega
    · simp only; omega
/-! ### what is saved is loaded -/
/-- The place that is named, and what stands there. -/
theorem better_zero {a b : List UInt8} (h : (better a b).2.2 = 0) : (raw a).2.2 = true ∧ (better a b).2.1 = (raw a).1 ∧ (better a b).1 = (raw a).2.1 ∧ ((raw b).2.2 = false ∨ (raw b).1 ≤ (raw a).1) := by
  unfold better at h ⊢
  split at h
  · rename_i hc; rw [if_pos hc]; exact ⟨hc.1, rfl, rfl, hc.2⟩
  · split at h
    · simp only at h; exact absurd h (by decide)
    · simp only at h; exact absurd h (by decide)
theorem better_pos {a b : List UInt8} (h : (better a b).2.2 ≠ 0) : (∀ c, (raw c).2.2 = true → (better a b).2.1 < (raw c).1 → better c b = ((raw c).2.1, (raw c).1, 0)) ∧ ((raw a).2.2 = true → (raw a).1 < (better a b).2.1) ∧ ∀ c, (raw c).2.2 = false → better c b = better a b := by
  unfold better at h ⊢
  split at h
  · simp only at h; exact absurd rfl h
  · rename_i hc
    rw [if_neg hc]
    by_cases hb : (raw b).2.2 = true
    · rw [if_pos hb]
      refine ⟨fun c h1 h2 => if_pos ⟨h1, Or.inr (by simp only at h2; omega)⟩, fun ha => ?_, fun c h1 => ?_⟩
      · simp only
        refine Classical.byContradiction (fun hn => hc ⟨ha, Or.inr (by omega)⟩)
      · rw [if_neg (fun h => by rw [h1] at h; cases h.1)]
    · rw [if_neg hb]
      refine ⟨fun c h1 h2 => if_pos ⟨h1, Or.inl (by simpa using hb)⟩, fun ha => ?_, fun c h1 => ?_⟩
      · exact absurd ⟨ha, Or.inl (by simpa using hb)⟩ hc
      · rw [if_neg (fun h => by rw [h1] at h; cases h.1)]
theorem better_right {a b : List UInt8} (h : (better a b).2.2 = 0) : (∀ c, (raw c).2.2 = true → (better a b).2.1 < (raw c).1 → better a c = ((raw c).2.1, (raw c).1, 1)) ∧ ∀ c, (raw c).2.2 = false → better a c = better a b := by
  obtain ⟨h1, h2, h3, h4⟩ := better_zero h
  refine ⟨fun c k1 k2 => ?_, fun c k1 => ?_⟩
  · unfold better
    rw [if_neg, if_pos k1]
    rintro ⟨_, g | g⟩
    · rw [k1] at g; cases g
    · rw [h2] at k2; omega
  · have e : better a c = ((raw a).2.1, (raw a).1, 0) := by unfold better; exact if_pos ⟨h1, Or.inl k1⟩
    have e2 : better a b = ((raw a).2.1, (raw a).1, 0) := by unfold better; exact if_pos ⟨h1, h4⟩
    rw [e, e2]
end Sl
end Go.Proofs.Yteepemibmjpnfaa

namespace Go.Proofs.Yteepemibmjpnfaa
set_option maxRecDepth 10000
open Go.RowKit
namespace Sl

theorem is_iff {s : Slo} : is s = true ↔ Fi.is s.a = true ∧ Fi.is s.b = true ∧ s.a.most = s.b.most := by
  unfold is; rw [Bool.and_eq_true, Bool.and_eq_true, decide_eq_true_iff, and_assoc]
theorem best_num (s : Slo) : 0 ≤ (best s).2.1 ∧ (best s).2.1 ≤ 1000000000 := better_num _ _
theorem saveE_zero {s : Slo} {t : List UInt8} : saveE s t = 0 ↔ is s = true ∧ t.length ≤ 1000 ∧ (best s).2.1 < 1000000000 ∧ ((noteB ((best s).2.1 + 1) t).length : Int) ≤ s.a.most := by
  unfold saveE
  constructor
  · intro h
    split at h
    · rename_i h1
      split at h
      · cases h
      · rename_i h2
        split at h
        · cases h
        · rename_i h3; exact ⟨h1, by omega, by omega, by omega⟩
    · cases h
  · rintro ⟨h1, h2, h3, h4⟩
    rw [if_pos h1, if_neg (by omega), if_neg (by omega)]
theorem saveE_cases (s : Slo) (t : List UInt8) : saveE s t = 0 ∨ saveE s t = 1 ∨ saveE s t = 2 ∨ saveE s t = 81 := by
  unfold saveE; split
  · split
    · exact .inr (.inr (.inl rfl))
    · split
      · exact .inr (.inr (.inr rfl))
      · exact .inl rfl
  · exact .inr (.inl rfl)
theorem next_ok {s : Slo} {t : List UInt8} (h : saveE s t = 0) : nOk ((best s).2.1 + 1) = true := by
  have h1 := saveE_zero.1 h
  have h2 := best_num s
  exact nOk_iff.2 ⟨by omega, by omega⟩
theorem wr_read (s : Slo) (t : List UInt8) (d : Int) : bl (Fi.read (wr s t d)) = noteB ((best s).2.1 + 1) t := by
  unfold wr Fi.read
  split
  · simp only; rw [bl_append, bl_strOf]; rfl
  · simp only; rw [ba_nil, bl_strOf]
theorem wr_is {s : Slo} {t : List UInt8} (h : saveE s t = 0) (d : Int) : Fi.is (wr s t d) = true ∧ (wr s t d).most = s.a.most := by
  obtain ⟨h1, h2, h3, h4⟩ := saveE_zero.1 h
  have h5 := Fi.is_small (is_iff.1 h1).1
  unfold wr Fi.is
  split
  · refine ⟨?_, rfl⟩
    rw [decide_eq_true_iff]; simp only; rw [strOf_size]
    show 1 ≤ s.a.most ∧ s.a.most ≤ 4000 ∧ ((0 : Nat) : Int) + _ ≤ s.a.most
    omega
  · refine ⟨?_, rfl⟩
    rw [decide_eq_true_iff]; simp only; rw [strOf_size]
    show 1 ≤ s.a.most ∧ s.a.most ≤ 4000 ∧ _ + ((0 : Nat) : Int) ≤ s.a.most
    omega
theorem put_is {s : Slo} {f : Fil} (h : is s = true) (hf : Fi.is f = true) (hm : f.most = s.a.most) : is (put s f) = true := by
  obtain ⟨h1, h2, h3⟩ := is_iff.1 h
  unfold put
  split
  · exact is_iff.2 ⟨h1, hf, hm.symm⟩
  · exact is_iff.2 ⟨hf, h2, hm.trans h3⟩
/-- A file that says the next note is put beside the better one. -/
theorem put_best {s : Slo} {f : Fil} {n : Int} {t : List UInt8} (hn : (best s).2.1 < n) (hr : raw (bl (Fi.read f)) = (n, t, true)) : ((best (put s f)).1, (best (put s f)).2.1) = (t, n) := by
  by_cases h : (best s).2.2 = 0
  · have h1 := (better_right h).1 (bl (Fi.read f)) (by rw [hr]) (by rw [hr]; exact hn)
    have e : best (put s f) = better (bl (Fi.read s.a)) (bl (Fi.read f)) := by unfold put; rw [if_pos h]; rfl
    rw [e, h1, hr]
  · have h1 := (better_pos h).1 (bl (Fi.read f)) (by rw [hr]) (by rw [hr]; exact hn)
    have e : best (put s f) = better (bl (Fi.read f)) (bl (Fi.read s.b)) := by unfold put; rw [if_neg h]; rfl
    rw [e, h1, hr]
/-- A file that says none is put beside the better one. -/
theorem put_none {s : Slo} {f : Fil} (hr : (raw (bl (Fi.read f))).2.2 = false) : best (put s f) = best s := by
  by_cases h : (best s).2.2 = 0
  · have h1 := (better_right h).2 (bl (Fi.read f)) hr
    have e : best (put s f) = better (bl (Fi.read s.a)) (bl (Fi.read f)) := by unfold put; rw [if_pos h]; rfl
    rw [e, h1]; rfl
  · have h1 := (better_pos h).2.2 (bl (Fi.read f)) hr
    have e : best (put s f) = better (bl (Fi.read f)) (bl (Fi.read s.b)) := by unfold put; rw [if_neg h]; rfl
    rw [e, h1]; rfl
theorem save_yes {s : Slo} {t : List UInt8} {d : Int} (h : saveE s t = 0) (hd : d ≠ 0) : save s t d = put s (wr s t d) := by unfold save; rw [if_pos h, if_neg hd]
theorem save_zero {s : Slo} {t : List UInt8} (h : saveE s t = 0) : save s t 0 = s := by unfold save; rw [if_pos h, if_pos rfl]
theorem save_no {s : Slo} {t : List UInt8} {d : Int} (h : saveE s t ≠ 0) : save s t d = no ∧ done s t d = false := by
  unfold save done; rw [if_neg h, decide_eq_false h]; exact ⟨rfl, rfl⟩
theorem done_iff {s : Slo} {t : List UInt8} {d : Int} (h : saveE s t = 0) : done s t d = decide (d ≠ 0 ∧ d ≠ 1) := by
  unfold done; rw [decide_eq_true h, Bool.true_and, Bool.decide_and]
/-- What is saved is loaded. -/
theorem save_load {s : Slo} {t : List UInt8} {d : Int} (h : saveE s t = 0) (hd : d ≠ 0) : is (save s t d) = true ∧ loadT (save s t d) = t ∧ loadN (save s t d) = (best s).2.1 + 1 := by
  obtain ⟨h1, h2, h3, h4⟩ := saveE_zero.1 h
  have w := wr_is h d
  have hi := put_is h1 w.1 w.2
  have hb := put_best (s := s) (f := wr s t d) (n := (best s).2.1 + 1) (t := t) (by omega) (by rw [wr_read]; exact raw_note (next_ok h) h2)
  rw [save_yes h hd]
  simp only [Prod.mk.injEq] at hb
  refine ⟨hi, ?_, ?_⟩
  · unfold loadT; rw [if_pos hi]; exact hb.1
  · unfold loadN; rw [if_pos hi]; exact hb.2
theorem save_good {s : Slo} {t : List UInt8} {d : Int} (h : saveE s t = 0) : is (save s t d) = true := by
  by_cases hd : d = 0
  · subst hd; rw [save_zero h]; exact (saveE_zero.1 h).1
  · exact (save_load h hd).1
theorem save_side {s : Slo} {t : List UInt8} {d : Int} (h : saveE s t = 0) (hd : d ≠ 0) : (save s t d).a = s.a ∨ (save s t d).b = s.b := by
  rw [save_yes h hd]; unfold put; split
  · exact Or.inl rfl
  · exact Or.inr rfl
/-! ### crashes -/
def calm (s : Slo) : Prop := is s = true ∧ s.a.loose.size = 0 ∧ s.b.loose.size = 0
theorem crash_calm {f : Fil} (hi : Fi.is f = true) (hl : f.loose.size = 0) (n : Int) : Fi.crash f n = f := by
  obtain ⟨m, k, l⟩ := f
  have e : l = ⟨#[]⟩ := by
    have : (bl l).length = 0 := by rw [bl_length]; exact hl
    apply bl_inj; rw [List.eq_nil_of_length_eq_zero this]; rfl
  subst e
  unfold Fi.crash; rw [if_pos hi]
  have h0 : Fi.many ⟨m, k, ⟨#[]⟩⟩ n = 0 := by unfold Fi.many; exact Nat.min_zero _
  rw [h0]; simp only
  rw [ba_extract0, ba_nil]
theorem crash_file {f : Fil} (hi : Fi.is f = true) (n : Int) : Fi.is (Fi.crash f n) = true ∧ (Fi.crash f n).most = f.most ∧ (Fi.crash f n).loose.size = 0 := by
  have h2 := Fi.is_small hi
  have e : Fi.crash f n = ⟨f.most, f.kept ++ f.loose.extract 0 (Fi.many f n), ⟨#[]⟩⟩ := by unfold Fi.crash; rw [if_pos hi]
  have hm : Fi.many f n ≤ f.loose.size := by unfold Fi.many; exact Nat.min_le_right _ _
  rw [e]
  refine ⟨?_, rfl, rfl⟩
  unfold Fi.is; rw [decide_eq_true_iff]; simp only
  rw [ByteArray.size_append]
  have hx : (f.loose.extract 0 (Fi.many f n)).size ≤ f.loose.size := by
    rw [← bl_length, bl_extract_to _ _ hm, List.length_take, bl_length]; omega
  show 1 ≤ f.most ∧ f.most ≤ 4000 ∧ _ + ((0 : Nat) : Int) ≤ f.most
  omega
theorem crash_is {s : Slo} (h : is s = true) (n : Int) : calm (crash s n) := by
  obtain ⟨h1, h2, h3⟩ := is_iff.1 h
  have c1 := crash_file h1 n
  have c2 := crash_file h2 n
  have e : crash s n = ⟨Fi.crash s.a n, Fi.crash s.b n⟩ := by unfold crash; rw [if_pos h]
  rw [e]
  exact ⟨is_iff.2 ⟨c1.1, c2.1, by rw [c1.2.1, c2.2.1]; exact h3⟩, c1.2.2, c2.2.2⟩
/-- Behind a Save that was stopped, and a crash. -/
theorem crash_load {s : Slo} {t : List UInt8} (d n : Int) (hc : calm s) (h : saveE s t = 0) :
    calm (crash (save s t d) n) ∧ ((loadN (crash (save s t d) n) = loadN s + 1 ∧ loadT (crash (save s t d) n) = t) ∨ (done s t d = false ∧ loadN (crash (save s t d) n) = loadN s ∧ loadT (crash (save s t d) n) = loadT s)) := by
  obtain ⟨hi, l1, l2⟩ := hc
  obtain ⟨h1, h2, h3, h4⟩ := saveE_zero.1 h
  obtain ⟨i1, i2, i3⟩ := is_iff.1 hi
  have eN : loadN s = (best s).2.1 := by unfold loadN; rw [if_pos hi]
  have eT : loadT s = (best s).1 := by unfold loadT; rw [if_pos hi]
  by_cases hd : d = 0
  · subst hd
    have e : crash (save s t 0) n = s := by
      rw [save_zero h]; unfold crash; rw [if_pos hi, crash_calm i1 l1, crash_calm i2 l2]
    rw [e]
    exact ⟨⟨hi, l1, l2⟩, Or.inr ⟨by rw [done_iff h]; exact decide_eq_false (fun hh => hh.1 rfl), rfl, rfl⟩⟩
  have w := wr_is h d
  have hx := put_is hi w.1 w.2
  have e : crash (save s t d) n = put s (Fi.crash (wr s t d) n) := by
    rw [save_yes h hd]; unfold crash; rw [if_pos hx]
    unfold put
    split
    · simp only; rw [crash_calm i1 l1]
    · simp only; rw [crash_calm i2 l2]
  have hy := crash_is hx n
  have e0 : crash (put s (wr s t d)) n = put s (Fi.crash (wr s t d) n) := by rw [← e, save_yes h hd]
  rw [e0] at hy
  rw [e]
  refine ⟨hy, ?_⟩
  have fN : loadN (put s (Fi.crash (wr s t d) n)) = (best (put s (Fi.crash (wr s t d) n))).2.1 := by unfold loadN; rw [if_pos hy.1]
  have fT : loadT (put s (Fi.crash (wr s t d) n)) = (best (put s (Fi.crash (wr s t d) n))).1 := by unfold loadT; rw [if_pos hy.1]
  rw [fN, fT, eN, eT]
  have hraw := raw_note (next_ok h) h2
  by_cases hd1 : d = 1
  · subst hd1
    have ew : wr s t 1 = ⟨s.a.most, ⟨#[]⟩, strOf (noteB ((best s).2.1 + 1) t)⟩ := by unfold wr; rw [if_pos rfl]
    have er : bl (Fi.read (Fi.crash (wr s t 1) n)) = (noteB ((best s).2.1 + 1) t).take (Fi.many (wr s t 1) n) := by
      have hm : Fi.many (wr s t 1) n ≤ (wr s t 1).loose.size := by unfold Fi.many; exact Nat.min_le_right _ _
      have e9 : Fi.crash (wr s t 1) n = ⟨(wr s t 1).most, (wr s t 1).kept ++ (wr s t 1).loose.extract 0 (Fi.many (wr s t 1) n), ⟨#[]⟩⟩ := by unfold Fi.crash; rw [if_pos w.1]
      rw [e9]; unfold Fi.read; simp only
      rw [ba_nil, bl_append, bl_extract_to _ _ hm, ew]
      simp only; rw [bl_strOf]; rfl
    by_cases hm : Fi.many (wr s t 1) n < (noteB ((best s).2.1 + 1) t).length
    · right
      have hn := raw_cut (next_ok h) h2 hm
      rw [put_none (by rw [er, hn])]
      exact ⟨by rw [done_iff h]; exact decide_eq_false (fun hh => hh.2 rfl), rfl, rfl⟩
    · left
      have hn : raw (bl (Fi.read (Fi.crash (wr s t 1) n))) = ((best s).2.1 + 1, t, true) := by
        rw [er, List.take_of_length_le (by omega)]; exact hraw
      have hb := put_best (s := s) (by omega) hn
      simp only [Prod.mk.injEq] at hb
      exact ⟨hb.2, hb.1⟩
  · left
    have ew : wr s t d = ⟨s.a.most, strOf (noteB ((best s).2.1 + 1) t), ⟨#[]⟩⟩ := by unfold wr; rw [if_neg hd1]
    have ec : Fi.crash (wr s t d) n = wr s t d := crash_calm w.1 (by rw [ew]; rfl) n
    rw [ec]
    have hb := put_best (s := s) (f := wr s t d) (n := (best s).2.1 + 1) (t := t) (by omega) (by rw [wr_read]; exact hraw)
    simp only [Prod.mk.injEq] at hb
    exact ⟨hb.2, hb.1⟩
theorem new_calm {n : Int} (h : Fi.newE n = 0) : calm (newS n) ∧ loadT (newS n) = [] ∧ loadN (newS n) = 0 := by
  have h1 : 1 ≤ n ∧ n ≤ 4000 := by
    unfold Fi.newE at h; split at h
    · assumption
    · cases h
  have e : newS n = ⟨⟨n, ⟨#[]⟩, ⟨#[]⟩⟩, ⟨n, ⟨#[]⟩, ⟨#[]⟩⟩⟩ := by unfold newS Fi.new; rw [if_pos h1]
  have hf : Fi.is ⟨n, ⟨#[]⟩, ⟨#[]⟩⟩ = true := decide_eq_true ⟨h1.1, h1.2, by show (0 : Int) + 0 ≤ n; omega⟩
  have hi : is (newS n) = true := by rw [e]; exact is_iff.2 ⟨hf, hf, rfl⟩
  have hb : best (newS n) = ([], 0, -1) := by
    rw [e]; unfold best better
    have : bl (Fi.read ⟨n, ⟨#[]⟩, ⟨#[]⟩⟩) = [] := rfl
    simp only [this, raw_nil]; rfl
  refine ⟨⟨hi, by rw [e]; rfl, by rw [e]; rfl⟩, ?_, ?_⟩
  · unfold loadT; rw [if_pos hi, hb]
  · unfold loadN; rw [if_pos hi, hb]
/-! ### sides -/
theorem better_alone (a : List UInt8) : (better a []).2 = if (raw a).2.2 = true then ((raw a).1, 0) else (0, -1) := by
  unfold better; rw [raw_nil]
  by_cases h : (raw a).2.2 = true
  · rw [if_pos ⟨h, Or.inl rfl⟩, if_pos h]
  · rw [if_neg (fun hh => h hh.1), if_neg h]; rfl
theorem better_alone2 (b : List UInt8) : (better [] b).2 = if (raw b).2.2 = true then ((raw b).1, 1) else (0, -1) := by
  unfold better; rw [raw_nil]
  by_cases h : (raw b).2.2 = true
  · rw [if_neg (fun hh => by cases hh.1), if_pos h, if_pos h]
  · rw [if_neg (fun hh => by cases hh.1), if_neg h, if_neg h]
theorem better_sides (a b : List UInt8) : (better a b).2.1 = (better b a).2.1 ∧ ((better a b).2.2 < 0 ↔ (better b a).2.2 < 0) ∧ (better a b).2.1 = max (better a []).2.1 (better [] b).2.1 ∧ ¬ 0 < (better a []).2.2 ∧ ¬ (better [] b).2.2 = 0 ∧
    ((better a []).2.1 = (better [] b).2.1 ∨ ((better a b).1 = (better b a).1 ∧ (better a b).2.2 + (better b a).2.2 = 1)) ∧ (0 < (better a b).2.1 ↔ 0 ≤ (better a b).2.2) := by
  have e1 := better_alone a
  have e2 := better_alone2 b
  rw [show (better a []).2.1 = ((better a []).2).1 from rfl, show (better a []).2.2 = ((better a []).2).2 from rfl, e1, show (better [] b).2.1 = ((better [] b).2).1 from rfl, show (better [] b).2.2 = ((better [] b).2).2 from rfl, e2]
  have ka := @raw_num a
  have kb := @raw_num b
  unfold better
  obtain ⟨xa, hxa⟩ : ∃ x, x = raw a := ⟨_, rfl⟩
  obtain ⟨xb, hxb⟩ : ∃ x, x = raw b := ⟨_, rfl⟩
  rw [← hxa] at ka ⊢
  rw [← hxb] at kb ⊢
  clear hxa hxb
  obtain ⟨na, ta, oa⟩ := xa
  obtain ⟨nb, tb, ob⟩ := xb
  simp only at ka kb ⊢
  cases oa <;> cases ob <;> simp only [Bool.false_eq_true, false_and, true_and, if_false, if_true, reduceCtorEq, false_or, true_or]
  · simp
  · have := kb rfl; simp; omega
  · have := ka rfl; simp; omega
  · have h1 := ka rfl
    have h2 := kb rfl
    by_cases h3 : nb ≤ na
    · by_cases h4 : na ≤ nb
      · have : na = nb := by omega
        subst this
        simp; omega
      · rw [if_pos h3, if_neg h4]; simp; omega
    · have h4 : na ≤ nb := by omega
      rw [if_neg h3, if_pos h4]; simp; omega
end Sl
end Go.Proofs.Yteepemibmjpnfaa

namespace Go.Proofs.Yteepemibmjpnfaa
set_option maxRecDepth 10000
open Go.RowKit

/-- A fact that stays true as long as nothing that is there is turned. -/
def Lasts (P : World → Prop) : Prop := ∀ w w', P w → Below w.heap.size w w' → P w'
structure Fact where
  on : World → Prop
  lasts : Lasts on
/-- From w0 we have come to w: the blocks L hold these cells, the facts M hold. -/
structure St (w0 w : World) (L : List (Nat × Array Value)) (M : List Fact) : Prop where
  live : ∀ x ∈ L, ∃ t, w.heap[x.1]? = some (.cells x.2 t (0, 0))
  facts : ∀ P ∈ M, P.on w
  below : Below w0.heap.size w0 w
theorem St.start (w : World) : St w w [] [] := ⟨(fun _ h => nomatch h), (fun _ h => nomatch h), Below.refl _ _⟩
theorem St.on {w0 w w' : World} {L : List (Nat × Array Value)} {M : List Fact} (h : St w0 w L M) (hb : Below w.heap.size w w') : St w0 w' L M :=
  ⟨fun x hx => by
    obtain ⟨t, ht⟩ := h.live x hx
    exact ⟨t, (hb.block x.1 (Array.getElem?_eq_some_iff.1 ht).1).trans ht⟩, fun P hP => P.lasts _ _ (h.facts P hP) hb, below2 h.below hb⟩
theorem St.drew {w0 w : World} {L : List (Nat × Array Value)} {M : List Fact} (h : St w0 w L M) : St w0 w.drew L M := h.on (below_drew (Below.refl _ _) 1)
theorem St.drewN {w0 w : World} {L : List (Nat × Array Value)} {M : List Fact} (h : St w0 w L M) (n : Nat) : St w0 (w.drewN n) L M := h.on (below_drew (Below.refl _ _) n)
theorem St.new {w0 w : World} {L : List (Nat × Array Value)} {M : List Fact} (h : St w0 w L M) (cs : Array Value) (t : TypeId) : St w0 (w.alloc (.cells cs t)) ((w.heap.size, cs) :: L) M := by
  have h' := h.on (below_new w (.cells cs t))
  refine ⟨fun x hx => ?_, h'.facts, h'.below⟩
  rcases List.mem_cons.1 hx with rfl | hx
  · exact ⟨t, heap_alloc_new _ _⟩
  · exact h'.live x hx
theorem St.more {w0 w : World} {L : List (Nat × Array Value)} {M : List Fact} (h : St w0 w L M) (P : Fact) (hP : P.on w) : St w0 w L (P :: M) :=
  ⟨h.live, fun Q hQ => by
    rcases List.mem_cons.1 hQ with rfl | hQ
    · exact hP
    · exact h.facts Q hQ, h.below⟩
theorem St.add {w0 w : World} {L : List (Nat × Array Value)} {M : List Fact} (h : St w0 w L M) {k : Nat} {cs : Array Value} (hk : ∃ t, w.heap[k]? = some (.cells cs t (0, 0))) : St w0 w ((k, cs) :: L) M :=
  ⟨fun x hx => by
    rcases List.mem_cons.1 hx with rfl | hx
    · exact hk
    · exact h.live x hx, h.facts, h.below⟩
theorem below_setCell {B : Nat} {w w' : World} (h : Below B w w') {k : Nat} (hk : B ≤ k) (j : Nat) (v : Value) : Below B w (w'.setCell ⟨k, j, none⟩ v) :=
  ⟨h.os, h.tape, h.output, by simp [World.setCell]; exact h.size, fun i hi => (heap_setCell_other w' ⟨k, j, none⟩ i v (fun e => by have : i = k := e; omega)).trans (h.block i hi)⟩
/-- One cell of the block that came last is another one. -/
theorem St.cellSet {w0 w w' : World} {L : List (Nat × Array Value)} {M : List Fact} (h : St w0 w L M) {k : Nat} {cs : Array Value} (hS : St w0 w' ((k, cs) :: L) M) (hb : Below w.heap.size w w') (hk : w.heap.size ≤ k) (j : Nat) (v : Value) :
    St w0 (w'.setCell ⟨k, j, none⟩ v) ((k, cs.setIfInBounds j v) :: L) M := by
  obtain ⟨t, ht⟩ := hS.live (k, cs) (by simp)
  exact (h.on (below_setCell hb hk j v)).add ⟨t, heap_setCell_same w' k j cs t v ht⟩
/-- The i-th fact. -/
theorem St.fact {w0 w : World} {L : List (Nat × Array Value)} {M : List Fact} (h : St w0 w L M) (i : Nat) {P : Fact} (hi : M[i]? = some P) : P.on w := h.facts P (List.mem_of_getElem? hi)
/-- A cell of the i-th block. -/
theorem St.cell {w0 w : World} {L : List (Nat × Array Value)} {M : List Fact} (h : St w0 w L M) (i : Nat) {k : Nat} {cs : Array Value} (hi : L[i]? = some (k, cs)) (j : Nat) {v : Value} (hj : cs[j]? = some v) : w.cell? ⟨k, j, none⟩ = some v := by
  obtain ⟨t, ht⟩ := h.live (k, cs) (List.mem_of_getElem? hi)
  simp only [World.cell?, ht]
  exact hj
theorem St.free {w0 w : World} {L : List (Nat × Array Value)} {M : List Fact} (h : St w0 w L M) (i : Nat) {k : Nat} {cs : Array Value} (hi : L[i]? = some (k, cs)) (j : Nat) : w.frozen? ⟨k, j, none⟩ = false := by
  obtain ⟨t, ht⟩ := h.live (k, cs) (List.mem_of_getElem? hi)
  exact frozen_of_row w k j _ _ ht
/-- A whole block is read. -/
theorem wpList_load_st {P : Program} {ops : Array Oper} {rest : List Oper} {o : Oper} {a : Act} {w : World} {Q : Exit → Act → World → Prop} (hgd : o.guard = none) (ty : TypeId) (x : Operand) (ho : o.op = .load ty x)
    {w0 : World} {L : List (Nat × Array Value)} {M : List Fact} (hS : St w0 w L M) (i k : Nat) (cs : Array Value) (hi : L[i]? = some (k, cs)) (hx : a.eval x = .pointer (some ⟨k, 0, none⟩)) (d : TypeDesc)
    (hu : P.underlying ty = some d) (hd : (match d with | .struct _ | .array _ _ => true | _ => false) = true) (hz : (P.info? ty).map (·.size) = some cs.size)
    (h : wpList P ops Q rest (a.put o.dst (.agg cs)) w) : wpList P ops Q (o :: rest) a w := by
  obtain ⟨t, ht⟩ := hS.live (k, cs) (List.mem_of_getElem? hi)
  exact wpList_load_row hgd ty x ho k hx t cs (0, 0) d ht hu hd hz h
/-- A whole new block is written. -/
theorem wpList_store_st {P : Program} {ops : Array Oper} {rest : List Oper} {o : Oper} {a : Act} {w : World} {Q : Exit → Act → World → Prop} (hgd : o.guard = none) (ty : TypeId) (x y : Operand) (ho : o.op = .store ty x y)
    {w0 : World} {L : List (Nat × Array Value)} {M : List Fact} (hS : St w0 w L M) (z cs : Array Value) (t : TypeId) (hx : a.eval x = .pointer (some ⟨w.heap.size, 0, none⟩)) (hy : a.eval y = .agg cs)
    (hz : (P.info? ty).map (·.size) = some z.size) (hsz : cs.size = z.size) (h1 : cs.all (·.oneCell') = true)
    (h : ∀ p w', p = w.heap.size → St w0 w' ((p, cs) :: L) M → Below w.heap.size w w' → wpList P ops Q rest (a.put o.dst undef) w') : wpList P ops Q (o :: rest) a (w.alloc (.cells z t)) := by
  refine wpList_store_row hgd ty x y ho w.heap.size cs hx hy t z (heap_alloc_new _ _) (by rw [hz, hsz]) (by rw [hsz]) h1 ?_
  have hb : Below w.heap.size w ((w.alloc (.cells z t)).setRow w.heap.size cs) := below_setRow (below_new w _) (Nat.le_refl _) cs
  refine h w.heap.size _ rfl ?_ hb
  have h' := hS.on hb
  refine ⟨fun u hu => ?_, h'.facts, h'.below⟩
  rcases List.mem_cons.1 hu with rfl | hu
  · exact ⟨t, setRow_heap _ _ _ _ _ _ (heap_alloc_new w (.cells z t))⟩
  · exact h'.live u hu

theorem run_storeVar_cell {P : Program} (w : World) (b j : Nat) (ty : TypeId) (v : Value) (hc : (w.cell? ⟨b, j, none⟩).isSome = true) (hf : w.frozen? ⟨b, j, none⟩ = false) (hi : (P.info? ty).map (·.size) = some 1) (h1 : v.oneCell' = true) :
    (storeVar ty ⟨b, j, none⟩ v).run P w = .ok () (w.setCell ⟨b, j, none⟩ v) := by
  have := run_storeCells_cells (P := P) b j [v] 0 w (fun i hi => by obtain rfl : i = 0 := (by simpa using hi); exact hc) (fun i hi => by obtain rfl : i = 0 := (by simpa using hi); exact hf) (fun x hx => by simp at hx; subst hx; exact h1)
  have hcs : v.cells = #[v] := by cases v <;> first | rfl | cases h1
  cases hq : P.info? ty with
  | none => simp [hq] at hi
  | some i =>
    have hs : i.size = 1 := by simpa [hq] using hi
    simp only [Nat.add_zero] at this
    simp [storeVar, sizeOf, typeInfo, hq, hcs, hs, this, World.setCells]
/-- One cell of the block that came last is written. -/
theorem wpList_storec_st {P : Program} {ops : Array Oper} {rest : List Oper} {o : Oper} {a : Act} {w u : World} {Q : Exit → Act → World → Prop} (hgd : o.guard = none) (ty : TypeId) (x y : Operand) (ho : o.op = .store ty x y)
    {w0 : World} {k : Nat} {cs : Array Value} {L : List (Nat × Array Value)} {M : List Fact} (h0 : St w0 u L M) (hS : St w0 w ((k, cs) :: L) M) (hb : Below u.heap.size u w) (hk : u.heap.size ≤ k) (j : Nat) (v old : Value) (hx : a.eval x = .pointer (some ⟨k, j, none⟩)) (hy : a.eval y = v)
    (hj : cs[j]? = some old) (hi : (P.info? ty).map (·.size) = some 1) (h1 : v.oneCell' = true)
    (h : ∀ w', St w0 w' ((k, cs.setIfInBounds j v) :: L) M → Below u.heap.size u w' → wpList P ops Q rest (a.put o.dst undef) w') : wpList P ops Q (o :: rest) a w := by
  refine wpList_plain hgd fun K hK => ?_
  have hc := hS.cell 0 rfl j hj
  have hf := hS.free 0 rfl j
  unfold Oper.wp execOp
  simp only [ho, hx, hy, Instr.storeAt, Instr.sureAddr, Sem.run_bind, Sem.run_pure, Result.andThen_ok, run_storeVar_cell w k j ty v (by rw [hc]; rfl) hf hi h1]
  exact hK _ _ (h _ (h0.cellSet hS hb hk j v) (below_setCell hb hk j v))
/-- Parameters in blocks of their own. -/
theorem St.box2 {w0 w : World} {L : List (Nat × Array Value)} {M : List Fact} (h : St w0 w L M) (c1 c2 : Array Value) (t1 t2 : TypeId) : St w0 ((w.alloc (.cells c1 t1)).alloc (.cells c2 t2)) ((w.heap.size + 1, c2) :: (w.heap.size, c1) :: L) M := by
  have k := (h.new c1 t1).new c2 t2
  rw [show (w.alloc (.cells c1 t1)).heap.size = w.heap.size + 1 by simp] at k
  exact k
theorem St.box3 {w0 w : World} {L : List (Nat × Array Value)} {M : List Fact} (h : St w0 w L M) (c1 c2 c3 : Array Value) (t1 t2 t3 : TypeId) : St w0 (((w.alloc (.cells c1 t1)).alloc (.cells c2 t2)).alloc (.cells c3 t3)) ((w.heap.size + 1 + 1, c3) :: (w.heap.size + 1, c2) :: (w.heap.size, c1) :: L) M := by
  have k := (h.box2 c1 c2 t1 t2).new c3 t3
  rw [show ((w.alloc (.cells c1 t1)).alloc (.cells c2 t2)).heap.size = w.heap.size + 1 + 1 by simp] at k
  exact k
end Go.Proofs.Yteepemibmjpnfaa
