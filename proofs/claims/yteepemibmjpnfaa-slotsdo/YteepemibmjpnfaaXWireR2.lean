/-
  Plain mathematics of layer 1 (wire): another way to read a number, as the document's answer has it.
-/
import Derived.Test.YteepemibmjpnfaaXJc
import Derived.Test.YteepemibmjpnfaaXJa
namespace Go.Proofs.Yteepemibmjpnfaa
set_option maxRecDepth 10000
namespace Wm

def oddB (l : List UInt8) : Bool := l.any (fun d => decide (250 ≤ d.toNat))

theorem getInt_ok_facts {l : List UInt8} {n : Int} {r : List UInt8} (h : getInt l = (n, r, 0)) : endAt l ≤ 5 ∧ oddB (l.take (endAt l)) = false ∧ l.take (endAt l + 1) = lay n ∧ l.drop (endAt l + 1) = r := by
  obtain ⟨hf, he⟩ := getInt_ok h
  have h1 := endAt_lay n r
  rw [← he] at h1
  have hf := fits_iff.1 hf
  refine ⟨by rw [h1]; exact digs_short _ (by omega), ?_, ?_, ?_⟩
  · rw [h1, he, lay, List.append_assoc, List.take_left]
    rw [oddB, List.any_eq_false]
    intro d hd
    have := digs_lt _ d hd
    simp; omega
  · have : (lay n).length = endAt l + 1 := by rw [h1]; simp [lay]
    rw [← this]; conv => lhs; rw [he]
    simp
  · have : (lay n).length = endAt l + 1 := by rw [h1]; simp [lay]
    rw [← this]; conv => lhs; rw [he]
    simp

theorem getInt_iff {l : List UInt8} {p : Nat} (hlt : p < l.length) (hp : endAt l = p) :
    getInt l = if fits (sgn (l.take p) l[p]) = true ∧ lay (sgn (l.take p) l[p]) = l.take (p + 1) then (sgn (l.take p) l[p], l.drop (p + 1), 0) else (0, [], 20) := by
  subst hp
  have hg : getInt l = if good (l.take (endAt l)) l[endAt l] = true then (sgn (l.take (endAt l)) l[endAt l], l.drop (endAt l + 1), 0) else (0, [], 20) := by
    unfold getInt; rw [dif_pos hlt]
  by_cases hgood : good (l.take (endAt l)) l[endAt l] = true
  · rw [if_pos hgood] at hg
    have ⟨h1, h2⟩ := getInt_ok hg
    have h3 := (getInt_ok_facts hg).2.2.1
    rw [hg, if_pos ⟨h1, h3.symm⟩]
  · rw [if_neg hgood] at hg
    rw [hg, if_neg]
    rintro ⟨h1, h2⟩
    have h3 := getInt_lay h1 (l.drop (endAt l + 1))
    rw [h2, List.take_append_drop, hg] at h3
    simp at h3

theorem getInt_form {l : List UInt8} (hlt : endAt l < l.length) (h : 5 < endAt l ∨ oddB (l.take (endAt l)) = true) : getInt l = (0, [], 20) := by
  rcases getInt_err l with ⟨n, r, h1⟩ | h1 | h1
  · have h2 := getInt_ok_facts h1
    rcases h with h | h
    · omega
    · rw [h2.2.1] at h; cases h
  · exact h1
  · unfold getInt at h1
    rw [dif_pos hlt] at h1
    split at h1 <;> simp at h1

theorem val_lt {l : List UInt8} (h : ∀ d ∈ l, d.toNat < 250) : val l < 250 ^ l.length := by
  induction l with
  | nil => simp [val]
  | cons d l ih =>
    have h1 := h d (List.mem_cons_self ..)
    have h2 := ih (fun x hx => h x (List.mem_cons_of_mem _ hx))
    rw [List.length_cons, Nat.pow_succ]
    simp only [val]; omega

theorem val_five {l : List UInt8} (h : ∀ d ∈ l, d.toNat < 250) (hl : l.length ≤ 5) : val l < 976562500000 :=
  Nat.lt_of_lt_of_le (val_lt h) (Nat.le_trans (Nat.pow_le_pow_right (by decide) hl) (by decide))

theorem oddB_not {l : List UInt8} (h : oddB l = false) : ∀ d ∈ l, d.toNat < 250 := by
  intro d hd
  have := List.any_eq_false.1 h d hd
  simp at this; omega

theorem oddB_snoc (l : List UInt8) (d : UInt8) : oddB (l ++ [d]) = (oddB l || decide (250 ≤ d.toNat)) := by simp [oddB]

end Wm
end Go.Proofs.Yteepemibmjpnfaa
