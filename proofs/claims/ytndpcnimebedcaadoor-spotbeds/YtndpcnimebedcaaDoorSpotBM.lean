/-
  Layer 4 (spot), plain mathematics: the beds of spots.
-/
import Derived.Test.YtndpcnimebedcaaDoorSpotM
import Derived.Lib.SlicesCompact
namespace Go.Proofs.YtndpcnimebedcaaDoor

/-- The beds of the spots that may be, as they come. -/
def Sp.vb (ls : List (Int × Int)) : List Int := (ls.filter (fun p => Sp.may p.1 p.2)).map (·.1)
/-- .. rising, each once. -/
def Sp.beds (ls : List (Int × Int)) : List Int := Lib.compact ((Sp.vb ls).mergeSort fun x y => decide (x ≤ y))
/-- Has a spot that may be this bed? -/
def Sp.has (ls : List (Int × Int)) (b : Int) : Bool := ls.any (fun p => Sp.may p.1 p.2 && p.1 == b)
/-- The document's: the beds from 1 on, up to k. -/
def Sp.upTo (ls : List (Int × Int)) : Nat → List Int
  | 0 => []
  | k + 1 => Sp.upTo ls k ++ (if Sp.has ls ((k : Int) + 1) then [(k : Int) + 1] else [])

theorem Sp.has_iff {ls : List (Int × Int)} {b : Int} : Sp.has ls b = true ↔ b ∈ Sp.vb ls := by
  unfold Sp.has Sp.vb
  rw [List.any_eq_true]
  simp only [Bool.and_eq_true, beq_iff_eq, List.mem_map, List.mem_filter]
  constructor
  · rintro ⟨p, hp, hm, rfl⟩; exact ⟨p, ⟨hp, hm⟩, rfl⟩
  · rintro ⟨p, ⟨hp, hm⟩, rfl⟩; exact ⟨p, hp, hm, rfl⟩

theorem Sp.vb_range {ls : List (Int × Int)} {b : Int} (h : b ∈ Sp.vb ls) : 1 ≤ b ∧ b ≤ 99 := by
  unfold Sp.vb at h
  simp only [List.mem_map, List.mem_filter] at h
  obtain ⟨p, ⟨_, hm⟩, rfl⟩ := h
  have := Sp.may_iff.1 hm
  omega

theorem Sp.mem_upTo {ls : List (Int × Int)} : ∀ {k : Nat} {x : Int}, x ∈ Sp.upTo ls k ↔ 1 ≤ x ∧ x ≤ k ∧ Sp.has ls x = true
  | 0, x => by simp [Sp.upTo]; omega
  | k + 1, x => by
    rw [Sp.upTo, List.mem_append, Sp.mem_upTo (k := k)]
    by_cases h : Sp.has ls ((k : Int) + 1) = true
    · rw [if_pos h, List.mem_singleton]
      constructor
      · rintro (⟨h1, h2, h3⟩ | rfl)
        · exact ⟨h1, by omega, h3⟩
        · exact ⟨by omega, by omega, h⟩
      · rintro ⟨h1, h2, h3⟩
        by_cases hx : x = (k : Int) + 1
        · exact .inr hx
        · exact .inl ⟨h1, by omega, h3⟩
    · rw [if_neg h]
      constructor
      · rintro (⟨h1, h2, h3⟩ | h0)
        · exact ⟨h1, by omega, h3⟩
        · cases h0
      · rintro ⟨h1, h2, h3⟩
        refine .inl ⟨h1, ?_, h3⟩
        by_cases hx : x = (k : Int) + 1
        · subst hx; exact absurd h3 h
        · omega

theorem Sp.upTo_rises (ls : List (Int × Int)) : ∀ k : Nat, (Sp.upTo ls k).Pairwise (· < ·)
  | 0 => List.Pairwise.nil
  | k + 1 => by
    rw [Sp.upTo, List.pairwise_append]
    refine ⟨Sp.upTo_rises ls k, by split <;> simp, fun a ha b hb => ?_⟩
    have h1 := (Sp.mem_upTo.1 ha).2.1
    split at hb
    · rw [List.mem_singleton] at hb; omega
    · cases hb

theorem Sp.upTo_len (ls : List (Int × Int)) : ∀ k : Nat, (Sp.upTo ls k).length ≤ k
  | 0 => Nat.le_refl _
  | k + 1 => by
    have := Sp.upTo_len ls k
    rw [Sp.upTo, List.length_append]
    split <;> simp <;> omega

theorem strict_ext : ∀ (xs ys : List Int), xs.Pairwise (· < ·) → ys.Pairwise (· < ·) → (∀ x, x ∈ xs ↔ x ∈ ys) → xs = ys
  | [], [], _, _, _ => rfl
  | [], y :: ys, _, _, h => by have := (h y).2 (by simp); cases this
  | x :: xs, [], _, _, h => by have := (h x).1 (by simp); cases this
  | x :: xs, y :: ys, hx, hy, h => by
    rw [List.pairwise_cons] at hx hy
    have h1 := (h x).1 (by simp)
    have h2 := (h y).2 (by simp)
    rw [List.mem_cons] at h1 h2
    have e : x = y := by
      rcases h1 with h1 | h1
      · exact h1
      · rcases h2 with h2 | h2
        · exact h2.symm
        · have := hy.1 x h1; have := hx.1 y h2; omega
    subst e
    rw [strict_ext xs ys hx.2 hy.2 (fun z => ?_)]
    constructor
    · intro hz
      have h3 := (h z).1 (List.mem_cons_of_mem _ hz)
      rw [List.mem_cons] at h3
      rcases h3 with rfl | h3
      · have := hx.1 _ hz; omega
      · exact h3
    · intro hz
      have h3 := (h z).2 (List.mem_cons_of_mem _ hz)
      rw [List.mem_cons] at h3
      rcases h3 with rfl | h3
      · have := hy.1 _ hz; omega
      · exact h3

theorem compact_mem (zs : List Int) (x : Int) : x ∈ Lib.compact zs ↔ x ∈ zs := by
  unfold Lib.compact Lib.compactUpTo
  simp only [List.mem_map, List.mem_filter, List.mem_range]
  constructor
  · rintro ⟨j, ⟨hj, _⟩, rfl⟩
    rw [getElem!_pos zs.toArray j (by simpa using hj)]
    simp
  · intro hx
    obtain ⟨i, hi, rfl⟩ := List.mem_iff_getElem.1 hx
    suffices h : ∀ i, (hi : i < zs.length) → ∃ j, (j < zs.length ∧ Lib.keeps zs.toArray j = true) ∧ zs.toArray[j]! = zs[i] from h i hi
    intro i
    induction i with
    | zero => exact fun hi => ⟨0, ⟨hi, Lib.keeps_lt_one _ 0 (by omega)⟩, by rw [getElem!_pos zs.toArray 0 (by simpa using hi)]; simp⟩
    | succ i ih =>
      intro hi
      have g1 : zs.toArray[i + 1]! = zs[i + 1] := by rw [getElem!_pos zs.toArray (i + 1) (by simpa using hi)]; simp
      have g0 : zs.toArray[i]! = zs[i] := by rw [getElem!_pos zs.toArray i (by simp; omega)]; simp
      by_cases he : zs[i + 1] = zs[i]
      · obtain ⟨j, h1, h2⟩ := ih (by omega)
        exact ⟨j, h1, by rw [h2, he]⟩
      · exact ⟨i + 1, ⟨hi, Lib.keeps_pos (by rw [g1]; show _ ≠ zs.toArray[i]!; rw [g0]; exact he)⟩, g1⟩

theorem compact_rises (zs : List Int) (hs : zs.Pairwise (· ≤ ·)) : (Lib.compact zs).Pairwise (· < ·) := by
  unfold Lib.compact Lib.compactUpTo
  rw [List.pairwise_map]
  have hr : ((List.range zs.length).filter (Lib.keeps zs.toArray)).Pairwise (· < ·) := List.Pairwise.filter _ List.pairwise_lt_range
  refine List.Pairwise.imp_of_mem ?_ hr
  intro i j hi hj hij
  rw [List.mem_filter, List.mem_range] at hi hj
  have gi : zs.toArray[i]! = zs[i] := by rw [getElem!_pos zs.toArray i (by simpa using hi.1)]; simp
  have gj : zs.toArray[j]! = zs[j] := by rw [getElem!_pos zs.toArray j (by simpa using hj.1)]; simp
  have gk : zs.toArray[j - 1]! = zs[j - 1]'(by omega) := by rw [getElem!_pos zs.toArray (j - 1) (by simp; omega)]; simp
  rw [gi, gj]
  rw [List.pairwise_iff_getElem] at hs
  have h1 : zs[i] ≤ zs[j - 1]'(by omega) := by
    by_cases hk : i = j - 1
    · subst hk; exact Int.le_refl _
    · exact hs i (j - 1) hi.1 (by omega) (by omega)
  have h2 : zs[j - 1]'(by omega) ≤ zs[j] := hs (j - 1) j (by omega) hj.1 (by omega)
  have h3 : zs[j] ≠ zs[j - 1]'(by omega) := by
    intro he
    have : Lib.keeps zs.toArray j = false := Lib.keeps_neg (by omega) (by rw [gj, gk, he])
    rw [this] at hj
    cases hj.2
  omega

/-- The sorted row without repeats is the document's. -/
theorem Sp.beds_eq (ls : List (Int × Int)) : Sp.beds ls = Sp.upTo ls 99 := by
  refine strict_ext _ _ (compact_rises _ ?_) (Sp.upTo_rises ls 99) (fun x => ?_)
  · have h := List.pairwise_mergeSort (le := fun x y : Int => decide (x ≤ y)) (fun a b c h1 h2 => by simp at *; omega) (fun a b => by simp; omega) (Sp.vb ls)
    exact h.imp (fun h => by simpa using h)
  · unfold Sp.beds
    rw [compact_mem, List.mem_mergeSort, Sp.mem_upTo, Sp.has_iff]
    constructor
    · intro h
      have := Sp.vb_range h
      exact ⟨this.1, this.2, h⟩
    · exact fun h => h.2.2

theorem Sp.vb_take {ls : List (Int × Int)} {k : Nat} (h : k < ls.length) : Sp.vb (ls.take (k + 1)) = Sp.vb (ls.take k) ++ (if Sp.may ls[k].1 ls[k].2 then [ls[k].1] else []) := by
  unfold Sp.vb
  rw [List.take_succ_eq_append_getElem h, List.filter_append, List.map_append]
  congr 1
  simp only [List.filter_cons, List.filter_nil]
  split <;> rfl
theorem Sp.vb_len (ls : List (Int × Int)) : (Sp.vb ls).length ≤ ls.length := by
  unfold Sp.vb
  rw [List.length_map]
  exact List.length_filter_le _ _

end Go.Proofs.YtndpcnimebedcaaDoor
