/-
  Layer 13 (record): records in a file: the mathematics.
-/
import Derived.Test.YteepemibmjpnfaaRecM
import Derived.Test.YteepemibmjpnfaaFileM
namespace Go.Proofs.Yteepemibmjpnfaa
set_option maxRecDepth 10000
open Go.RowKit
namespace Rc

def numsOk (n : Int) (k : Nat) : Bool := decide (k = 0 ∨ (0 ≤ n ∧ n + k ≤ 1000000001))
def shorts (ss : List ByteArray) : Bool := ss.all (fun s => decide (s.size ≤ 1000))
def addE (f : Fil) (n : Int) (ss : List ByteArray) : Int :=
  if Fi.is f = true then if numsOk n ss.length = true then if shorts ss = true then (if (f.kept.size : Int) + f.loose.size + ((recs n (ss.map bl)).length : Nat) ≤ f.most then 0 else 81) else 2 else 1 else 1
def add (f : Fil) (n : Int) (ss : List ByteArray) : Fil := if addE f n ss = 0 then ⟨f.most, f.kept, f.loose ++ strOf (recs n (ss.map bl))⟩ else Fi.no
def sc (f : Fil) (n : Int) : List (List UInt8) × Nat := scan (bl (Fi.read f)) n
def texts (f : Fil) (n : Int) : List ByteArray := if Fi.is f = true then (sc f n).1.map strOf else []
def mend (f : Fil) (n : Int) : Fil := if Fi.is f = true then ⟨f.most, strOf (recs n (sc f n).1), ⟨#[]⟩⟩ else Fi.no

theorem ok_iff (n : Int) (ss : List ByteArray) : okAll n (ss.map bl) ↔ numsOk n ss.length = true ∧ shorts ss = true := by
  rw [okAll_iff]
  unfold numsOk shorts
  rw [decide_eq_true_iff, List.all_eq_true]
  constructor
  · rintro ⟨h1, h2⟩
    refine ⟨?_, fun s hs => decide_eq_true (by have := h2 (bl s) (List.mem_map_of_mem hs); rw [bl_length] at this; exact this)⟩
    rcases h1 with h1 | h1
    · exact .inl (by simpa using h1)
    · exact .inr (by simpa using h1)
  · rintro ⟨h1, h2⟩
    refine ⟨?_, fun t ht => ?_⟩
    · rcases h1 with h1 | h1
      · exact .inl (by simpa using h1)
      · exact .inr (by simpa using h1)
    · obtain ⟨s, hs, rfl⟩ := List.mem_map.1 ht
      rw [bl_length]; exact of_decide_eq_true (h2 s hs)
theorem addE_zero {f : Fil} {n : Int} {ss : List ByteArray} : addE f n ss = 0 ↔ Fi.is f = true ∧ okAll n (ss.map bl) ∧ (f.kept.size : Int) + f.loose.size + ((recs n (ss.map bl)).length : Nat) ≤ f.most := by
  rw [ok_iff]
  unfold addE
  constructor
  · intro h
    split at h
    · rename_i h1
      split at h
      · rename_i h2
        split at h
        · rename_i h3
          split at h
          · rename_i h4; exact ⟨h1, ⟨h2, h3⟩, h4⟩
          · cases h
        · cases h
      · cases h
    · cases h
  · rintro ⟨h1, ⟨h2, h3⟩, h4⟩; rw [if_pos h1, if_pos h2, if_pos h3, if_pos h4]
theorem add_ok {f : Fil} {n : Int} {ss : List ByteArray} (h : addE f n ss = 0) : add f n ss = ⟨f.most, f.kept, f.loose ++ strOf (recs n (ss.map bl))⟩ := by unfold add; rw [if_pos h]
theorem add_bad {f : Fil} {n : Int} {ss : List ByteArray} (h : addE f n ss ≠ 0) : add f n ss = Fi.no := by unfold add; rw [if_neg h]
theorem strOf_size (t : List UInt8) : (strOf t).size = t.length := by rw [← bl_length, bl_strOf]
theorem add_read {f : Fil} {n : Int} {ss : List ByteArray} (h : addE f n ss = 0) : bl (Fi.read (add f n ss)) = bl (Fi.read f) ++ recs n (ss.map bl) := by
  rw [add_ok h]; unfold Fi.read; simp only; rw [bl_append, bl_append, bl_append, bl_strOf, List.append_assoc]
theorem add_is {f : Fil} {n : Int} {ss : List ByteArray} (h : addE f n ss = 0) : Fi.is (add f n ss) = true := by
  obtain ⟨h1, _, h3⟩ := addE_zero.1 h
  have := Fi.is_small h1
  rw [add_ok h]; unfold Fi.is; rw [decide_eq_true_iff]; simp only
  rw [ByteArray.size_append, strOf_size]; omega
theorem no_small : Fi.small Fi.no := ⟨Nat.zero_le _, Nat.zero_le _⟩
theorem is_small9 {f : Fil} (h : Fi.is f = true) : Fi.small f := by have := Fi.is_small h; unfold Fi.small; omega
theorem add_small (f : Fil) (n : Int) (ss : List ByteArray) : Fi.small (add f n ss) := by
  by_cases h : addE f n ss = 0
  · exact is_small9 (add_is h)
  · rw [add_bad h]; exact no_small
theorem mend_yes {f : Fil} (h : Fi.is f = true) (n : Int) : mend f n = ⟨f.most, strOf (recs n (sc f n).1), ⟨#[]⟩⟩ := by unfold mend; rw [if_pos h]
theorem sc_le (f : Fil) (n : Int) : (sc f n).2 ≤ f.kept.size + f.loose.size := by
  have := scan_le (bl (Fi.read f)) n
  rw [bl_length, Fi.read_size] at this; exact this
theorem sc_len (f : Fil) (n : Int) : (sc f n).2 = (recs n (sc f n).1).length := (scan_split (bl (Fi.read f)) n).2.1
theorem mend_cut {f : Fil} (h : Fi.is f = true) (n : Int) : mend f n = Fi.cut f ((sc f n).2 : Nat) ∧ Fi.cutE f ((sc f n).2 : Nat) = 0 := by
  have hl := sc_le f n
  have hc : Fi.cutOk f ((sc f n).2 : Nat) = true := by unfold Fi.cutOk; rw [h, Bool.true_and, decide_eq_true_iff]; omega
  unfold Fi.cut Fi.cutE
  rw [if_pos hc, if_pos hc, mend_yes h]
  refine ⟨?_, rfl⟩
  congr 1
  apply bl_inj
  have h1 : (sc f n).2 ≤ (Fi.read f).size := by rw [Fi.read_size]; exact hl
  rw [bl_strOf, Int.toNat_natCast, bl_extract_to _ _ h1]
  exact (scan_take (bl (Fi.read f)) n).symm
theorem mend_is {f : Fil} (h : Fi.is f = true) (n : Int) : Fi.is (mend f n) = true := by
  have h1 := Fi.is_small h
  have h2 := sc_le f n
  have h3 := sc_len f n
  rw [mend_yes h]; unfold Fi.is; rw [decide_eq_true_iff]; simp only
  rw [strOf_size]; show 1 ≤ f.most ∧ f.most ≤ 4000 ∧ ((recs n (sc f n).1).length : Int) + (0 : Nat) ≤ f.most
  omega
theorem mend_read {f : Fil} (h : Fi.is f = true) (n : Int) : Fi.read (mend f n) = strOf (recs n (sc f n).1) := by
  rw [mend_yes h]; unfold Fi.read; exact ba_nil _
/-- What is mended is read as it was. -/
theorem mend_sc {f : Fil} (h : Fi.is f = true) (n : Int) : sc (mend f n) n = sc f n := by
  have h1 := scan_mended (bl (Fi.read f)) n
  rw [scan_take] at h1
  unfold sc
  rw [mend_read h, bl_strOf]
  exact h1
theorem mend_texts {f : Fil} (h : Fi.is f = true) (n : Int) : texts (mend f n) n = texts f n := by
  unfold texts; rw [if_pos (mend_is h n), if_pos h, mend_sc h]
theorem mend_again {f : Fil} (h : Fi.is f = true) (n : Int) : mend (mend f n) n = mend f n := by
  rw [mend_yes (mend_is h n), mend_sc h, mend_yes h]
theorem mend_small (f : Fil) (n : Int) : Fi.small (mend f n) := by
  by_cases h : Fi.is f = true
  · exact is_small9 (mend_is h n)
  · unfold mend; rw [if_neg h]; exact no_small
theorem texts_no {f : Fil} (h : Fi.is f = false) (n : Int) : texts f n = [] := by unfold texts; rw [h]; rfl
theorem texts_yes {f : Fil} (h : Fi.is f = true) (n : Int) : texts f n = (sc f n).1.map strOf := by unfold texts; rw [if_pos h]
theorem map_back (ss : List ByteArray) : (ss.map bl).map strOf = ss := by
  rw [List.map_map]
  conv => rhs; rw [← List.map_id ss]
  apply List.map_congr_left
  intro s _; exact strOf_bl s

/-- Another number's record is none. -/
theorem one_other {n first : Int} {t : List UInt8} (h : nOk n = true) (h2 : t.length ≤ 1000) (hne : first ≠ n) (r : List UInt8) : one (rec1 n t ++ r) first = none := by
  cases hh : one (rec1 n t ++ r) first with
  | none => rfl
  | some x =>
    obtain ⟨t', r'⟩ := x
    obtain ⟨g1, g2, g3⟩ := one_ok hh
    have e1 := get_rec h h2 r
    have e2 := get_rec g1 g2 r'
    rw [g3, e2] at e1
    have e3 : Wm.lay first ++ t' = Wm.lay n ++ t := by simp only [Prod.mk.injEq] at e1; exact e1.2.1
    have e4 := Wm.getInt_lay (fits_n g1) t'
    have e5 := Wm.getInt_lay (fits_n h) t
    rw [e3, e5] at e4
    simp only [Prod.mk.injEq] at e4
    exact absurd e4.1.symm hne
theorem scan_other {n first : Int} {t : List UInt8} (h : nOk n = true) (h2 : t.length ≤ 1000) (hne : first ≠ n) (r : List UInt8) : scan (rec1 n t ++ r) first = ([], 0) := scan_no (one_other h h2 hne r)

/-! ### the document's rows, reckoned -/
def ab : List ByteArray := [⟨#[97]⟩, ⟨#[98]⟩]
def r0 : Fil := ⟨100, ⟨#[]⟩, ⟨#[]⟩⟩
def r1 : Fil := add r0 5 ab
def r2 : Fil := Fi.crash r1 (((Fi.read r1).size : Int) - 1)
def r3 : Fil := mend r2 5
theorem ok_ab : okAll 5 (ab.map bl) := (ok_iff 5 ab).2 ⟨by decide, by decide⟩
theorem rec1_le {n : Int} (h : nOk n = true) {t : List UInt8} (h2 : t.length ≤ 1000) : (rec1 n t).length ≤ t.length + 20 := by
  have h3 := lay_short h
  have h4 : (Wm.lay 1).length ≤ 5 := lay_short (by decide)
  have h5 : (Wm.lay ((Wm.lay n ++ t).length : Int)).length ≤ 5 := lay_short (nOk_iff.2 (by have := body_short h h2; omega))
  have h6 : (Wm.lay ((Sm.ofL (Fm.ahead 1 (Wm.lay n ++ t)) : Nat) : Int)).length ≤ 5 := lay_short (nOk_iff.2 (by have := Sm.ofL_lt (Fm.ahead 1 (Wm.lay n ++ t)); omega))
  unfold rec1 Fm.frame Fm.ahead Fm.textL
  unfold Fm.ahead Fm.textL at h6
  simp only [List.length_append] at h3 h4 h5 h6 ⊢
  omega
theorem len_ab : (recs 5 (ab.map bl)).length ≤ 42 := by
  have h1 := rec1_le (n := 5) (by decide) (t := [97]) (by decide)
  have h2 := rec1_le (n := 6) (by decide) (t := [98]) (by decide)
  show (rec1 5 [97] ++ (rec1 6 [98] ++ [])).length ≤ 42
  simp only [List.length_append, List.length_nil] at *
  simp only [List.length_cons, List.length_nil] at h1 h2
  omega
theorem r1_ok : addE r0 5 ab = 0 := addE_zero.2 ⟨by decide, ok_ab, by
  have := len_ab
  show (0 : Int) + 0 + ((recs 5 (ab.map bl)).length : Nat) ≤ 100
  omega⟩
theorem r1_is : Fi.is r1 = true := add_is r1_ok
theorem r1_read : bl (Fi.read r1) = recs 5 (ab.map bl) := add_read r1_ok
theorem r1_size : (Fi.read r1).size = (recs 5 (ab.map bl)).length := by rw [← bl_length, r1_read]
theorem r1_texts5 : texts r1 5 = ab := by
  rw [texts_yes r1_is]; unfold sc; rw [r1_read, scan_whole ok_ab]; exact map_back ab
theorem r1_texts4 : texts r1 4 = [] := by
  rw [texts_yes r1_is]; unfold sc; rw [r1_read]
  show (scan (rec1 5 [97] ++ (rec1 6 [98] ++ [])) 4).1.map strOf = []
  rw [scan_other (by decide) (by decide) (by decide)]; rfl
theorem r2_is : Fi.is r2 = true := by
  have h := Fi.is_small r1_is
  have hq : Fi.many r1 (((Fi.read r1).size : Int) - 1) ≤ r1.loose.size := by unfold Fi.many; exact Nat.min_le_right _ _
  unfold r2 Fi.crash
  rw [if_pos r1_is]
  unfold Fi.is
  rw [decide_eq_true_iff]
  simp only
  rw [ByteArray.size_append, ByteArray.size_extract]
  show 1 ≤ r1.most ∧ r1.most ≤ 4000 ∧ ((r1.kept.size + (min (Fi.many r1 (((Fi.read r1).size : Int) - 1)) r1.loose.size - 0) : Nat) : Int) + (0 : Nat) ≤ r1.most
  omega
theorem r2_read : bl (Fi.read r2) = (recs 5 (ab.map bl)).take ((recs 5 (ab.map bl)).length - 1) := by
  have e1 : r1 = ⟨100, ⟨#[]⟩, ⟨#[]⟩ ++ strOf (recs 5 (ab.map bl))⟩ := add_ok r1_ok
  have e0 : (⟨#[]⟩ : ByteArray) ++ strOf (recs 5 (ab.map bl)) = strOf (recs 5 (ab.map bl)) := by apply bl_inj; rw [bl_append]; rfl
  rw [e0] at e1
  have hs := r1_size
  have hm : Fi.many r1 (((Fi.read r1).size : Int) - 1) = (recs 5 (ab.map bl)).length - 1 := by
    unfold Fi.many; rw [hs]
    have : r1.loose.size = (recs 5 (ab.map bl)).length := by rw [e1]; exact strOf_size _
    rw [this]; omega
  unfold r2 Fi.crash
  rw [if_pos r1_is, hm]
  unfold Fi.read
  simp only
  rw [bl_append, bl_append, e1]
  simp only
  rw [bl_extract_to _ _ (by rw [strOf_size]; omega), bl_strOf]
  show [] ++ _ ++ [] = _
  simp
theorem r2_sc : sc r2 5 = ([[97]], (rec1 5 [97]).length) := by
  have hp := rec_pos 6 [98]
  obtain ⟨j, hj, hs, hi⟩ := scan_cut ok_ab ((recs 5 (ab.map bl)).length - 1)
  unfold sc
  rw [r2_read, hs]
  have e : recs 5 (ab.map bl) = rec1 5 [97] ++ (rec1 6 [98] ++ []) := rfl
  have hl : (recs 5 (ab.map bl)).length = (rec1 5 [97]).length + (rec1 6 [98]).length := by rw [e]; simp
  have h1 : 1 ≤ j := hi 1 (by decide) (by
    show (rec1 5 [97] ++ []).length ≤ _
    rw [List.append_nil, hl]; omega)
  have h2 : j < 2 := by
    refine Nat.lt_of_not_le fun h2 => ?_
    have h3 : j = 2 := by have : (ab.map bl).length = 2 := rfl; omega
    subst h3
    have h4 := scan_le ((recs 5 (ab.map bl)).take ((recs 5 (ab.map bl)).length - 1)) 5
    rw [hs, List.length_take] at h4
    have h5 : (recs 5 ((ab.map bl).take 2)).length = (recs 5 (ab.map bl)).length := rfl
    simp only at h4
    omega
  obtain rfl : j = 1 := by omega
  have e1 : (ab.map bl).take 1 = [[97]] := rfl
  rw [e1]
  have e2 : recs 5 [[97]] = rec1 5 [97] := List.append_nil _
  rw [e2]
theorem r2_texts : texts r2 5 = [⟨#[97]⟩] := by rw [texts_yes r2_is, r2_sc]; rfl
theorem r3_less : (Fi.read r3).size < (Fi.read r2).size := by
  have hp := rec_pos 6 [98]
  have hl : (recs 5 (ab.map bl)).length = (rec1 5 [97]).length + (rec1 6 [98]).length := by
    have e : recs 5 (ab.map bl) = rec1 5 [97] ++ (rec1 6 [98] ++ []) := rfl
    rw [e]; simp
  have h1 : (Fi.read r3).size = (rec1 5 [97]).length := by
    unfold r3; rw [mend_read r2_is, r2_sc, strOf_size]
    show (rec1 5 [97] ++ []).length = _
    rw [List.append_nil]
  have h2 : (Fi.read r2).size = (recs 5 (ab.map bl)).length - 1 := by
    rw [← bl_length, r2_read, List.length_take]; omega
  have h3 : 1 < (rec1 6 [98]).length := by
    have := Fm.lay_pos 1
    unfold rec1 Fm.frame Fm.ahead Fm.textL
    simp only [List.length_append, List.length_cons]
    have := Fm.lay_pos 6
    omega
  rw [h1, h2]; omega
end Rc
end Go.Proofs.Yteepemibmjpnfaa
