/-
  Plain mathematics of layer 1 (wire): how bytes are read as numbers and texts. No program, no memory.
-/
import Derived.Test.YteepemibmjpnfaaWireM
namespace Go.Proofs.Yteepemibmjpnfaa
set_option maxRecDepth 10000
namespace Wm

/-- Is a byte an end byte? -/
def isEnd (c : UInt8) : Bool := decide (254 ≤ c.toNat)
/-- Where the first end byte stands. -/
def endAt (l : List UInt8) : Nat := l.findIdx isEnd

theorem endAt_le (l : List UInt8) : endAt l ≤ l.length := List.findIdx_le_length

theorem endAt_before {l : List UInt8} {j : Nat} (h : j < endAt l) (hj : j < l.length) : isEnd l[j] = false := by
  have := List.not_of_lt_findIdx h
  simpa using this

theorem endAt_at {l : List UInt8} (h : endAt l < l.length) : isEnd l[endAt l] = true := List.findIdx_getElem (w := h)

theorem endAt_eq {l : List UInt8} {k : Nat} (hk : k < l.length) (h1 : isEnd l[k] = true) (h2 : ∀ j (hj : j < k), isEnd (l[j]'(by omega)) = false) : endAt l = k := by
  unfold endAt
  rw [List.findIdx_eq hk]
  exact ⟨h1, fun j hj => by simpa using h2 j hj⟩

theorem endAt_none {l : List UInt8} (h : ∀ j (hj : j < l.length), isEnd l[j] = false) : endAt l = l.length := by
  unfold endAt
  rw [List.findIdx_eq_length]
  intro x hx
  obtain ⟨j, hj, rfl⟩ := List.getElem_of_mem hx
  simpa using h j hj

/-- Digits of a number within the bounds. -/
def sizeOk (l : List UInt8) : Bool := l.all (fun d => decide (d.toNat < 250)) && (l.getLast? != some 0) && decide (val l ≤ 2147483647)

theorem sizeOk_iff {l : List UInt8} : sizeOk l = true ↔ proper l ∧ val l ≤ 2147483647 := by
  simp [sizeOk, proper]

/-- May the digits ds with the end byte c be a number's? -/
def good (ds : List UInt8) (c : UInt8) : Bool := sizeOk ds && !(decide (c = 254) && decide (val ds = 0))
def sgn (ds : List UInt8) (c : UInt8) : Int := if c = 254 then -(val ds : Int) else (val ds : Int)

/-- The number that l begins with, what stands behind it, and the error. -/
def getInt (l : List UInt8) : Int × List UInt8 × Int :=
  if h : endAt l < l.length then
    if good (l.take (endAt l)) l[endAt l] = true then (sgn (l.take (endAt l)) l[endAt l], l.drop (endAt l + 1), 0) else (0, [], 20)
  else (0, [], 22)

theorem digs_notEnd {n : Nat} {c : UInt8} (h : c ∈ digs n) : isEnd c = false := by
  have := digs_lt n c h
  simp [isEnd]; omega

theorem endB_isEnd (n : Int) : isEnd (endB n) = true := by
  unfold endB isEnd; split <;> decide

theorem endAt_lay (n : Int) (r : List UInt8) : endAt (lay n ++ r) = (digs n.natAbs).length := by
  unfold endAt lay
  rw [List.append_assoc, List.findIdx_append]
  have h1 : (digs n.natAbs).findIdx isEnd = (digs n.natAbs).length := List.findIdx_eq_length.2 fun x hx => digs_notEnd hx
  rw [h1]
  simp [List.findIdx_cons, endB_isEnd]

theorem getInt_lay {n : Int} (h : fits n = true) (r : List UInt8) : getInt (lay n ++ r) = (n, r, 0) := by
  have hf := fits_iff.1 h
  have he := endAt_lay n r
  have hlt : endAt (lay n ++ r) < (lay n ++ r).length := by rw [he]; simp [lay]
  have htake : (lay n ++ r).take (endAt (lay n ++ r)) = digs n.natAbs := by rw [he]; simp [lay]
  have hdrop : (lay n ++ r).drop (endAt (lay n ++ r) + 1) = r := by
    rw [he]
    have : (lay n).length = (digs n.natAbs).length + 1 := by simp [lay]
    rw [← this]; simp
  have hget : (lay n ++ r)[endAt (lay n ++ r)] = endB n := by
    have h2 : (lay n ++ r)[endAt (lay n ++ r)]? = some (endB n) := by
      rw [he, lay, List.append_assoc, List.getElem?_append_right (Nat.le_refl _)]; simp
    rw [List.getElem?_eq_getElem hlt] at h2
    exact Option.some.inj h2
  unfold getInt
  rw [dif_pos hlt, htake, hdrop, hget]
  have hv := val_digs n.natAbs
  have hg : good (digs n.natAbs) (endB n) = true := by
    unfold good
    rw [sizeOk_iff.2 ⟨proper_digs _, by omega⟩, hv]
    simp only [endB]
    split <;> simp <;> omega
  rw [if_pos hg]
  unfold sgn
  rw [hv]
  simp only [endB]
  split
  · rename_i hc; simp; omega
  · rename_i hc; simp; omega

theorem isEnd_cases {c : UInt8} (h : isEnd c = true) : c = 254 ∨ c = 255 := by
  have h1 : 254 ≤ c.toNat := by simpa [isEnd] using h
  have h2 := c.toNat_lt
  have h3 : c.toNat = 254 ∨ c.toNat = 255 := by omega
  rcases h3 with h3 | h3
  · exact .inl (UInt8.toNat_inj.1 (by simpa using h3))
  · exact .inr (UInt8.toNat_inj.1 (by simpa using h3))

/-- What is read is laid as it was. -/
theorem getInt_ok {l : List UInt8} {n : Int} {r : List UInt8} (h : getInt l = (n, r, 0)) : fits n = true ∧ l = lay n ++ r := by
  unfold getInt at h
  split at h
  · rename_i hlt
    split at h
    · rename_i hg
      simp only [Prod.mk.injEq, and_true] at h
      obtain ⟨rfl, rfl⟩ := h
      have hg' := hg
      unfold good at hg'
      simp only [Bool.and_eq_true] at hg'
      obtain ⟨hs, hz⟩ := hg'
      obtain ⟨hp, hv⟩ := sizeOk_iff.1 hs
      have hd := digs_val hp
      have hsplit : l = l.take (endAt l) ++ ([l[endAt l]] ++ l.drop (endAt l + 1)) := by
        conv => lhs; rw [← List.take_append_drop (endAt l) l, List.drop_eq_getElem_cons hlt]
        rfl
      rcases isEnd_cases (endAt_at hlt) with hc | hc
      · have hpos : val (l.take (endAt l)) ≠ 0 := by
          intro h0; rw [hc, h0] at hz; simp at hz
        refine ⟨fits_iff.2 (by simp only [sgn, hc, if_true]; omega), ?_⟩
        have e1 : lay (sgn (l.take (endAt l)) l[endAt l]) = l.take (endAt l) ++ [l[endAt l]] := by
          simp only [sgn, hc, if_true, lay, Int.natAbs_neg, Int.natAbs_natCast, hd]
          congr 2
          simp only [endB]; rw [if_pos (by omega)]
        rw [e1, List.append_assoc]; exact hsplit
      · have hne : ¬ ((255 : UInt8) = 254) := by decide
        refine ⟨fits_iff.2 (by simp only [sgn, hc, if_neg hne]; omega), ?_⟩
        have e1 : lay (sgn (l.take (endAt l)) l[endAt l]) = l.take (endAt l) ++ [l[endAt l]] := by
          simp only [sgn, hc, if_neg hne, lay, Int.natAbs_natCast, hd]
          congr 2
        rw [e1, List.append_assoc]; exact hsplit
    · simp at h
  · simp at h

theorem getInt_err (l : List UInt8) : (∃ n r, getInt l = (n, r, 0)) ∨ getInt l = (0, [], 20) ∨ getInt l = (0, [], 22) := by
  unfold getInt
  split
  · split
    · exact .inl ⟨_, _, rfl⟩
    · exact .inr (.inl rfl)
  · exact .inr (.inr rfl)

/-- Some numbers, one behind the other. -/
def getInts : Nat → List UInt8 → List Int × List UInt8 × Int
  | 0, l => ([], l, 0)
  | m + 1, l =>
    if (getInt l).2.2 = 0 then
      if (getInts m (getInt l).2.1).2.2 = 0 then ((getInt l).1 :: (getInts m (getInt l).2.1).1, (getInts m (getInt l).2.1).2.1, 0) else ([], [], (getInts m (getInt l).2.1).2.2)
    else ([], [], (getInt l).2.2)

/-- What is read, behind numbers that were read ahead. -/
def glue (ns : List Int) (t : List Int × List UInt8 × Int) : List Int × List UInt8 × Int := if t.2.2 = 0 then (ns ++ t.1, t.2.1, 0) else ([], [], t.2.2)

theorem getInts_err (m : Nat) (l : List UInt8) : (∃ ns r, getInts m l = (ns, r, 0)) ∨ ∃ e, e ≠ 0 ∧ getInts m l = ([], [], e) := by
  induction m generalizing l with
  | zero => exact .inl ⟨[], l, rfl⟩
  | succ m ih =>
    unfold getInts
    by_cases h1 : (getInt l).2.2 = 0
    · rw [if_pos h1]
      by_cases h2 : (getInts m (getInt l).2.1).2.2 = 0
      · rw [if_pos h2]; exact .inl ⟨_, _, rfl⟩
      · rw [if_neg h2]; exact .inr ⟨_, h2, rfl⟩
    · rw [if_neg h1]; exact .inr ⟨_, h1, rfl⟩

theorem glue_nil (m : Nat) (l : List UInt8) : glue [] (getInts m l) = getInts m l := by
  rcases getInts_err m l with ⟨ns, r, h⟩ | ⟨e, he, h⟩
  · rw [h]; simp [glue]
  · rw [h]; simp [glue, he]

theorem glue_step {ns : List Int} {m : Nat} {l r : List UInt8} {n : Int} (h : getInt l = (n, r, 0)) : glue ns (getInts (m + 1) l) = glue (ns ++ [n]) (getInts m r) := by
  rw [getInts, h]
  simp only [if_true]
  rcases getInts_err m r with ⟨ns', r', h'⟩ | ⟨e, he, h'⟩
  · rw [h']; simp [glue]
  · rw [h']; simp [glue, he]

theorem glue_bad {ns : List Int} {m : Nat} {l : List UInt8} (h : (getInt l).2.2 ≠ 0) : glue ns (getInts (m + 1) l) = ([], [], (getInt l).2.2) := by
  rw [getInts, if_neg h]
  simp [glue, h]

theorem lays_cons (x : Int) (l : List Int) : lays (x :: l) = lay x ++ lays l := by simp [lays]

theorem getInts_lays (zs : List Int) (h : zs.all fits = true) (r : List UInt8) : getInts zs.length (lays zs ++ r) = (zs, r, 0) := by
  induction zs with
  | nil => simp [getInts, lays]
  | cons z zs ih =>
    simp only [List.all_cons, Bool.and_eq_true] at h
    have hg := getInt_lay h.1 (lays zs ++ r)
    rw [List.length_cons, lays_cons, List.append_assoc, getInts, hg]
    simp [ih h.2]

theorem getInts_ok {m : Nat} {l r : List UInt8} {ns : List Int} (h : getInts m l = (ns, r, 0)) : ns.length = m ∧ ns.all fits = true ∧ l = lays ns ++ r := by
  induction m generalizing l ns with
  | zero =>
    simp only [getInts, Prod.mk.injEq, and_true] at h
    obtain ⟨rfl, rfl⟩ := h
    simp [lays]
  | succ m ih =>
    rcases getInt_err l with ⟨n, r1, h1⟩ | h1 | h1
    · rw [getInts, h1] at h
      simp only [if_true] at h
      rcases getInts_err m r1 with ⟨ns', r', h'⟩ | ⟨e, he, h'⟩
      · rw [h'] at h
        simp only [if_true, Prod.mk.injEq, and_true] at h
        obtain ⟨rfl, rfl⟩ := h
        obtain ⟨a, b, c⟩ := ih h'
        obtain ⟨d, f⟩ := getInt_ok h1
        refine ⟨by simp [a], by simp only [List.all_cons, d, b, Bool.and_self], ?_⟩
        rw [f, c, lays_cons, List.append_assoc]
      · rw [h'] at h
        simp [he] at h
    · rw [getInts, h1] at h; simp at h
    · rw [getInts, h1] at h; simp at h

/-- The text that l begins with, what stands behind it, and the error. -/
def getText (l : List UInt8) : List UInt8 × List UInt8 × Int :=
  if (getInt l).2.2 = 0 then
    if (getInt l).1 < 0 ∨ 3000 < (getInt l).1 then ([], [], 20)
    else if ((getInt l).2.1.length : Int) < (getInt l).1 then ([], [], 22)
    else ((getInt l).2.1.take (getInt l).1.toNat, (getInt l).2.1.drop (getInt l).1.toNat, 0)
  else ([], [], (getInt l).2.2)

theorem getText_lay (t r : List UInt8) (h : t.length ≤ 3000) : getText (lay t.length ++ t ++ r) = (t, r, 0) := by
  have hg := getInt_lay (n := (t.length : Int)) (fits_iff.2 (by omega)) (t ++ r)
  unfold getText
  rw [List.append_assoc, hg]
  simp only [if_true]
  rw [if_neg (by omega), if_neg (by simp; omega)]
  simp

theorem getText_ok {l t r : List UInt8} (h : getText l = (t, r, 0)) : t.length ≤ 3000 ∧ l = lay t.length ++ t ++ r := by
  rcases getInt_err l with ⟨n, r1, h1⟩ | h1 | h1
  · unfold getText at h
    rw [h1] at h
    simp only [if_true] at h
    split at h
    · simp at h
    · rename_i hn
      split at h
      · simp at h
      · rename_i hl
        simp only [Prod.mk.injEq, and_true] at h
        obtain ⟨rfl, rfl⟩ := h
        obtain ⟨d, f⟩ := getInt_ok h1
        have hlen : (r1.take n.toNat).length = n.toNat := by rw [List.length_take]; omega
        refine ⟨by rw [hlen]; omega, ?_⟩
        rw [hlen, f, List.append_assoc, List.take_append_drop]
        congr 2
        omega
  · unfold getText at h; rw [h1] at h; simp at h
  · unfold getText at h; rw [h1] at h; simp at h

theorem getText_err (l : List UInt8) : (∃ t r, getText l = (t, r, 0)) ∨ ∃ e, e ≠ 0 ∧ getText l = ([], [], e) := by
  unfold getText
  split
  · split
    · exact .inr ⟨20, by decide, rfl⟩
    · split
      · exact .inr ⟨22, by decide, rfl⟩
      · exact .inl ⟨_, _, rfl⟩
  · rename_i h; exact .inr ⟨_, h, rfl⟩

end Wm
end Go.Proofs.Yteepemibmjpnfaa
