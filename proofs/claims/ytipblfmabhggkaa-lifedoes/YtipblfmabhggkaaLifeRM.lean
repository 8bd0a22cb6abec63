/-
  Layer 5 (life): the document's way, in plain numbers: all rows of so many deeds, in their order, and the first that fits.
-/
import Derived.Test.YtipblfmabhggkaaLifeM
namespace Go.Proofs.Ytipblfmabhggkaa
namespace Lf

abbrev Row := List Int × Int
/-- What the deeds 1 to j make of one row. -/
def stp (r : Row) : Nat → List Row
  | 0 => []
  | j + 1 => stp r j ++ (if ok r.2 ((j : Int) + 1) then [(r.1 ++ [(j : Int) + 1], nx r.2 ((j : Int) + 1))] else [])
/-- What all deeds make of the first i rows. -/
def acc (rs : List Row) : Nat → List Row
  | 0 => []
  | i + 1 => acc rs i ++ stp (rs.getD i ([], 0)) 6
def wys (f : Int) : Nat → List Row
  | 0 => [([], f)]
  | n + 1 => acc (wys f n) (wys f n).length

theorem stp_len (r : Row) (j : Nat) : (stp r j).length ≤ j := by
  induction j with
  | zero => simp [stp]
  | succ j ih => unfold stp; rw [List.length_append]; split <;> simp <;> omega
theorem acc_len (rs : List Row) (i : Nat) : (acc rs i).length ≤ 6 * i := by
  induction i with
  | zero => simp [acc]
  | succ i ih => unfold acc; rw [List.length_append]; have := stp_len (rs.getD i ([], 0)) 6; omega
theorem wys_len (f : Int) (n : Nat) : (wys f n).length ≤ 6 ^ n := by
  induction n with
  | zero => simp [wys]
  | succ n ih => unfold wys; have := acc_len (wys f n) (wys f n).length; rw [Nat.pow_succ]; omega
theorem wys_small (f : Int) {n : Nat} (h : n ≤ 4) : (wys f n).length ≤ 1296 :=
  Nat.le_trans (wys_len f n) (Nat.le_trans (Nat.pow_le_pow_right (by omega) h) (by decide))
/-- What is there ahead of the round (i, j + 1). -/
def accS (rs : List Row) (i j : Nat) : List Row := acc rs i ++ stp (rs.getD i ([], 0)) j
theorem accS_zero (rs : List Row) (i : Nat) : accS rs i 0 = acc rs i := by unfold accS stp; simp
theorem accS_six (rs : List Row) (i : Nat) : accS rs i 6 = acc rs (i + 1) := rfl
theorem accS_step (rs : List Row) (i j : Nat) : accS rs i (j + 1) = accS rs i j ++ (if ok (rs.getD i ([], 0)).2 ((j : Int) + 1) then [((rs.getD i ([], 0)).1 ++ [(j : Int) + 1], nx (rs.getD i ([], 0)).2 ((j : Int) + 1))] else []) := by
  unfold accS; rw [List.append_assoc]; rfl
theorem accS_len {rs : List Row} {i j : Nat} (hi : i < rs.length) (hj : j ≤ 6) : (accS rs i j).length ≤ 6 * rs.length := by
  unfold accS; rw [List.length_append]; have := stp_len (rs.getD i ([], 0)) j; have := acc_len rs i; omega
theorem wys_succ (f : Int) (n : Nat) : wys f (n + 1) = acc (wys f n) (wys f n).length := rfl

theorem stp_mem {r x : Row} {j : Nat} (h : x ∈ stp r j) : x.1.length = r.1.length + 1 := by
  induction j with
  | zero => simp [stp] at h
  | succ j ih =>
    unfold stp at h
    rcases List.mem_append.1 h with h | h
    · exact ih h
    · split at h
      · rw [List.mem_singleton] at h; subst h; simp
      · simp at h
theorem acc_mem {rs : List Row} {n i : Nat} {x : Row} (hr : ∀ r ∈ rs, r.1.length = n) (hi : i ≤ rs.length) (h : x ∈ acc rs i) : x.1.length = n + 1 := by
  induction i with
  | zero => simp [acc] at h
  | succ i ih =>
    unfold acc at h
    rcases List.mem_append.1 h with h | h
    · exact ih (by omega) h
    · rw [stp_mem h]
      have : rs.getD i ([], 0) ∈ rs := by
        simp only [List.getD, List.getElem?_eq_getElem (show i < rs.length by omega), Option.getD_some]
        exact List.getElem_mem _
      rw [hr _ this]
theorem wys_row {f : Int} {n : Nat} {x : Row} (h : x ∈ wys f n) : x.1.length = n := by
  induction n generalizing x with
  | zero => simp [wys] at h; subst h; rfl
  | succ n ih => exact acc_mem (fun r hr => ih hr) (Nat.le_refl _) h

def first (to : Int) : List Row → Option (List Int)
  | [] => none
  | x :: rs => if x.2 = to then some x.1 else first to rs
def firstN (f to : Int) : Nat → Nat → Option (List Int)
  | _, 0 => none
  | n, k + 1 => match first to (wys f n) with
    | some l => some l
    | none => firstN f to (n + 1) k
def goOn (f to : Int) (n : Nat) : Option (List Int) → Option (List Int)
  | some l => some l
  | none => firstN f to (n + 1) (4 - n)
theorem firstN_step {f to : Int} {n : Nat} (hn : n ≤ 4) : firstN f to n (5 - n) = goOn f to n (first to (wys f n)) := by
  rw [show 5 - n = (4 - n) + 1 by omega]
  show (match first to (wys f n) with | some l => some l | none => firstN f to (n + 1) (4 - n)) = _
  cases first to (wys f n) <;> rfl
theorem first_drop {to : Int} {rs : List Row} {i : Nat} (h : i < rs.length) : first to (rs.drop i) = if rs[i].2 = to then some rs[i].1 else first to (rs.drop (i + 1)) := by
  rw [List.drop_eq_getElem_cons h]; rfl
theorem firstN_nat : ∀ f to : Fin 5, firstN (f.val : Int) (to.val : Int) 0 5 = some (way (f.val : Int) (to.val : Int)) := by decide +kernel
theorem firstN_way {f to : Int} (hf : isP f = true) (ht : isP to = true) : firstN f to 0 5 = some (way f to) := by
  have h := isP_iff.1 hf
  have h2 := isP_iff.1 ht
  have := firstN_nat ⟨f.toNat, by omega⟩ ⟨to.toNat, by omega⟩
  simpa only [show ((f.toNat : Nat) : Int) = f by omega, show ((to.toNat : Nat) : Int) = to by omega] using this
end Lf
end Go.Proofs.Ytipblfmabhggkaa
