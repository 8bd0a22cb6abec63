/-
  Layer 7 (rank), plain mathematics: how alarms are ranked, sorted, cut, found and merged.
-/
import Derived.Test.YthlojadkgpmnmaaAlarmM
namespace Go.Proofs.Ythlojadkgpmnmaa

namespace Rk
def press (p : Int) : Int := if p = 2 then 0 else if p = 1 then 1 else if p = 4 then 2 else if p = 3 then 3 else 4
def keys (a : Alm) : List Int := [press a.ph, a.pr, a.si, a.un, a.ph, a.b, a.c]
/-- Two rows of numbers, number by number. -/
def lex : List Int → List Int → Int
  | x :: xs, y :: ys => if x < y then -1 else if y < x then 1 else lex xs ys
  | _, _ => 0
def cmp (a b : Alm) : Int := lex (keys a) (keys b)
theorem lex_vals : ∀ xs ys : List Int, lex xs ys = -1 ∨ lex xs ys = 0 ∨ lex xs ys = 1
  | [], _ => Or.inr (Or.inl (by simp [lex]))
  | _ :: _, [] => Or.inr (Or.inl (by simp [lex]))
  | x :: xs, y :: ys => by
    unfold lex
    split
    · exact Or.inl rfl
    · split
      · exact Or.inr (Or.inr rfl)
      · exact lex_vals xs ys
theorem lex_swap : ∀ xs ys : List Int, lex ys xs = - lex xs ys
  | [], [] => by simp [lex]
  | [], _ :: _ => by simp [lex]
  | _ :: _, [] => by simp [lex]
  | x :: xs, y :: ys => by
    have := lex_swap xs ys
    unfold lex
    split
    · rw [if_neg (by omega)]
    · split
      · first | rfl | (rw [if_pos (by assumption)]; rfl)
      · exact this
theorem lex_zero : ∀ xs ys : List Int, xs.length = ys.length → (lex xs ys = 0 ↔ xs = ys)
  | [], [], _ => by simp [lex]
  | x :: xs, y :: ys, h => by
    have := lex_zero xs ys (by simpa using h)
    unfold lex
    split
    · constructor
      · intro h; omega
      · intro h; injection h; omega
    · split
      · constructor
        · intro h; omega
        · intro h; injection h; omega
      · rw [this]
        constructor
        · intro h; rw [h]; congr 1; omega
        · intro h; injection h
theorem lex_trans : ∀ xs ys zs : List Int, xs.length = ys.length → ys.length = zs.length → lex xs ys ≤ 0 → lex ys zs ≤ 0 → lex xs zs ≤ 0
  | [], _, _, _, _ => by intros; simp [lex]
  | x :: xs, y :: ys, z :: zs, h1, h2 => by
    have ih := lex_trans xs ys zs (by simpa using h1) (by simpa using h2)
    intro a b
    unfold lex at a b ⊢
    by_cases c1 : x < y
    · by_cases c2 : y < z
      · rw [if_pos (by omega)]; omega
      · rw [if_neg c2] at b
        by_cases c3 : z < y
        · rw [if_pos c3] at b; omega
        · rw [if_pos (by omega)]; omega
    · rw [if_neg c1] at a
      by_cases c1' : y < x
      · rw [if_pos c1'] at a; omega
      · rw [if_neg c1'] at a
        by_cases c2 : y < z
        · rw [if_pos (by omega)]; omega
        · rw [if_neg c2] at b
          by_cases c3 : z < y
          · rw [if_pos c3] at b; omega
          · rw [if_neg c3] at b
            rw [if_neg (by omega), if_neg (by omega)]
            exact ih a b
theorem cmp_vals (a b : Alm) : cmp a b = -1 ∨ cmp a b = 0 ∨ cmp a b = 1 := lex_vals _ _
theorem cmp_swap (a b : Alm) : cmp b a = - cmp a b := lex_swap _ _
theorem cmp_zero (a b : Alm) : cmp a b = 0 ↔ a = b := by
  unfold cmp
  rw [lex_zero (keys a) (keys b) rfl]
  constructor
  · intro h
    unfold keys at h
    simp only [List.cons.injEq, and_true] at h
    obtain ⟨_, h2, h3, h4, h5, h6, h7⟩ := h
    cases a; cases b
    simp_all
  · intro h; rw [h]
theorem cmp_trans {a b c : Alm} (h1 : cmp a b ≤ 0) (h2 : cmp b c ≤ 0) : cmp a c ≤ 0 := lex_trans (keys a) (keys b) (keys c) rfl rfl h1 h2
theorem cmp_trans_lt {a b c : Alm} (h1 : cmp a b < 0) (h2 : cmp b c < 0) : cmp a c < 0 := by
  have h := cmp_trans (a := a) (b := b) (c := c) (by omega) (by omega)
  by_cases h0 : cmp a c = 0
  · rw [cmp_zero] at h0
    subst h0
    rw [cmp_swap] at h2
    omega
  · omega
def le (a b : Alm) : Prop := cmp a b ≤ 0
theorem le_anti {a b : Alm} (h1 : le a b) (h2 : le b a) : a = b := by
  unfold le at h1 h2
  rw [cmp_swap] at h2
  exact (cmp_zero a b).1 (by omega)
theorem le_total (a b : Alm) : le a b ∨ le b a := by
  unfold le
  rw [cmp_swap a b]
  omega
theorem le_refl (a : Alm) : le a a := by unfold le; rw [(cmp_zero a a).2 rfl]; exact Int.le_refl _

/-! ### sorting -/
def ins (a : Alm) : List Alm → List Alm
  | [] => [a]
  | x :: xs => if cmp x a ≤ 0 then x :: ins a xs else a :: x :: xs
def sort (l : List Alm) : List Alm := l.foldl (fun out a => ins a out) []
def Sorted (l : List Alm) : Prop := l.Pairwise le
theorem ins_perm (a : Alm) : ∀ l, (ins a l).Perm (a :: l)
  | [] => List.Perm.refl _
  | x :: xs => by
    unfold ins
    split
    · exact ((ins_perm a xs).cons x).trans (List.Perm.swap a x xs)
    · exact List.Perm.refl _
theorem ins_sorted (a : Alm) : ∀ l, Sorted l → Sorted (ins a l)
  | [], _ => List.pairwise_singleton _ _
  | x :: xs, h => by
    have h' := List.pairwise_cons.1 h
    unfold ins
    split
    · rename_i hx
      refine List.pairwise_cons.2 ⟨fun y hy => ?_, ins_sorted a xs h'.2⟩
      rcases List.mem_cons.1 ((ins_perm a xs).mem_iff.1 hy) with rfl | hy
      · exact hx
      · exact h'.1 y hy
    · rename_i hx
      have hax : le a x := by have := le_total x a; unfold le at *; omega
      refine List.pairwise_cons.2 ⟨fun y hy => ?_, h⟩
      rcases List.mem_cons.1 hy with rfl | hy
      · exact hax
      · exact cmp_trans hax (h'.1 y hy)
theorem fold_perm : ∀ (l out : List Alm), (l.foldl (fun out a => ins a out) out).Perm (out ++ l)
  | [], out => by simp
  | a :: l, out => by
    simp only [List.foldl_cons]
    refine (fold_perm l (ins a out)).trans ?_
    refine ((ins_perm a out).append_right l).trans ?_
    exact (List.perm_middle (a := a) (l₁ := out) (l₂ := l)).symm
theorem fold_sorted : ∀ (l out : List Alm), Sorted out → Sorted (l.foldl (fun out a => ins a out) out)
  | [], _, h => h
  | a :: l, out, h => fold_sorted l (ins a out) (ins_sorted a out h)
theorem sort_perm (l : List Alm) : (sort l).Perm l := by have := fold_perm l []; simpa [sort] using this
theorem sort_sorted (l : List Alm) : Sorted (sort l) := fold_sorted l [] List.Pairwise.nil
/-- What is sorted is told by its alarms alone. -/
theorem sorted_eq {a b : List Alm} (h1 : Sorted a) (h2 : Sorted b) (h : a.Perm b) : a = b := List.Perm.eq_of_pairwise (fun _ _ _ _ => le_anti) h1 h2 h
theorem sort_of {a l : List Alm} (h1 : Sorted a) (h : a.Perm l) : a = sort l := sorted_eq h1 (sort_sorted l) (h.trans (sort_perm l).symm)
theorem sort_same {a b : List Alm} (h : a.Perm b) : sort a = sort b := sort_of (sort_sorted a) ((sort_perm a).trans h)
theorem sort_again {l : List Alm} (h : Sorted l) : sort l = l := (sort_of h (List.Perm.refl _)).symm
theorem sort_len (l : List Alm) : (sort l).length = l.length := (sort_perm l).length_eq
theorem sort_sort (l : List Alm) : sort (sort l) = sort l := sort_again (sort_sorted l)
/-- The place at which the next one is put in: behind all that are not behind it. -/
theorem ins_at (a : Alm) : ∀ (l : List Alm) (k : Nat), k ≤ l.length → (∀ i (h : i < l.length), i < k → cmp l[i] a ≤ 0) → (∀ h : k < l.length, ¬ cmp l[k] a ≤ 0) → ins a l = l.take k ++ [a] ++ l.drop k
  | [], 0, _, _, _ => rfl
  | x :: xs, 0, _, _, h2 => by
    have h := h2 (by simp)
    simp only [List.getElem_cons_zero] at h
    unfold ins
    rw [if_neg h]
    rfl
  | x :: xs, k + 1, hk, h1, h2 => by
    have hx := h1 0 (by simp) (by omega)
    simp only [List.getElem_cons_zero] at hx
    unfold ins
    rw [if_pos hx, ins_at a xs k (by simpa using hk) (fun i h hi => by have := h1 (i + 1) (by simpa using h) (by omega); simpa using this) (fun h => by have := h2 (by simpa using h); simpa using this)]
    rfl
theorem sort_snoc (l : List Alm) (a : Alm) : sort (l ++ [a]) = ins a (sort l) := by unfold sort; rw [List.foldl_append]; rfl
theorem sort_take_succ (l : List Alm) (k : Nat) (h : k < l.length) : sort (l.take (k + 1)) = ins l[k] (sort (l.take k)) := by
  rw [List.take_succ_eq_append_getElem h, sort_snoc]

/-! ### the first ones -/
def top (n : Int) (l : List Alm) : List Alm := (sort l).take n.toNat
theorem sorted_take {l : List Alm} (h : Sorted l) (n : Nat) : Sorted (l.take n) := List.Pairwise.sublist (List.take_sublist n l) h
theorem top_top (k n : Int) (l : List Alm) : top k (top n l) = top (min n k) l := by
  unfold top
  rw [sort_again (sorted_take (sort_sorted l) _), List.take_take]
  congr 1
  omega
theorem top_len (n : Int) (l : List Alm) : (top n l).length ≤ l.length := by
  unfold top
  rw [List.length_take, sort_len]
  omega
/-- Two rows that are sorted, as one. -/
def mrg : List Alm → List Alm → List Alm
  | [], m => m
  | x :: l, [] => x :: l
  | x :: l, y :: m => if cmp x y ≤ 0 then x :: mrg l (y :: m) else y :: mrg (x :: l) m
termination_by l m => l.length + m.length
theorem mrg_nil_left (m : List Alm) : mrg [] m = m := by unfold mrg; rfl
theorem mrg_nil_right (l : List Alm) : mrg l [] = l := by cases l <;> (unfold mrg; rfl)
theorem mrg_cons (x : Alm) (l : List Alm) (y : Alm) (m : List Alm) : mrg (x :: l) (y :: m) = if cmp x y ≤ 0 then x :: mrg l (y :: m) else y :: mrg (x :: l) m := by rw [mrg]
theorem mrg_perm : ∀ l m : List Alm, (mrg l m).Perm (l ++ m)
  | [], m => by rw [mrg_nil_left]; exact List.Perm.refl _
  | x :: l, [] => by rw [mrg_nil_right]; simp
  | x :: l, y :: m => by
    rw [mrg_cons]
    split
    · exact (mrg_perm l (y :: m)).cons x
    · exact ((mrg_perm (x :: l) m).cons y).trans (List.perm_middle (a := y) (l₁ := x :: l) (l₂ := m)).symm
termination_by l m => l.length + m.length
theorem mrg_sorted : ∀ l m : List Alm, Sorted l → Sorted m → Sorted (mrg l m)
  | [], m, _, h => by rw [mrg_nil_left]; exact h
  | x :: l, [], h, _ => by rw [mrg_nil_right]; exact h
  | x :: l, y :: m, h1, h2 => by
    have g1 := List.pairwise_cons.1 h1
    have g2 := List.pairwise_cons.1 h2
    rw [mrg_cons]
    split
    · rename_i hx
      refine List.pairwise_cons.2 ⟨fun z hz => ?_, mrg_sorted l (y :: m) g1.2 h2⟩
      rcases List.mem_append.1 ((mrg_perm l (y :: m)).mem_iff.1 hz) with hz | hz
      · exact g1.1 z hz
      · rcases List.mem_cons.1 hz with rfl | hz
        · exact hx
        · exact cmp_trans hx (g2.1 z hz)
    · rename_i hx
      have hyx : le y x := by have := le_total x y; unfold le at *; omega
      refine List.pairwise_cons.2 ⟨fun z hz => ?_, mrg_sorted (x :: l) m h1 g2.2⟩
      rcases List.mem_append.1 ((mrg_perm (x :: l) m).mem_iff.1 hz) with hz | hz
      · rcases List.mem_cons.1 hz with rfl | hz
        · exact hyx
        · exact cmp_trans hyx (g1.1 z hz)
      · exact g2.1 z hz
termination_by l m => l.length + m.length
theorem mrg_take : ∀ (n p q : Nat) (l m : List Alm), n ≤ p → n ≤ q → (mrg (l.take p) (m.take q)).take n = (mrg l m).take n
  | 0, _, _, _, _, _, _ => by simp
  | n + 1, p, q, [], m, _, hq => by
    rw [List.take_nil, mrg_nil_left, mrg_nil_left, List.take_take]; congr 1; omega
  | n + 1, p, q, x :: l, [], hp, _ => by
    rw [List.take_nil, mrg_nil_right, mrg_nil_right, List.take_take]; congr 1; omega
  | n + 1, p + 1, q + 1, x :: l, y :: m, hp, hq => by
    rw [List.take_succ_cons, List.take_succ_cons, mrg_cons, mrg_cons]
    split
    · rw [List.take_succ_cons, List.take_succ_cons]
      have := mrg_take n p (q + 1) l (y :: m) (by omega) (by omega)
      rw [List.take_succ_cons] at this
      rw [this]
    · rw [List.take_succ_cons, List.take_succ_cons]
      have := mrg_take n (p + 1) q (x :: l) m (by omega) (by omega)
      rw [List.take_succ_cons] at this
      rw [this]
theorem sort_append (l m : List Alm) : sort (l ++ m) = mrg (sort l) (sort m) :=
  (sort_of (mrg_sorted _ _ (sort_sorted l) (sort_sorted m)) ((mrg_perm _ _).trans ((sort_perm l).append (sort_perm m)))).symm
theorem top_both (n : Int) (l m : List Alm) : top n (sort (top n l ++ top n m)) = top n (l ++ m) := by
  unfold top
  rw [sort_sort, sort_append, sort_append, sort_again (sorted_take (sort_sorted l) _), sort_again (sorted_take (sort_sorted m) _)]
  exact mrg_take _ _ _ _ _ (Nat.le_refl _) (Nat.le_refl _)

/-! ### the place of a spot -/
def isAt (b c : Int) (a : Alm) : Bool := a.b == b && a.c == c
/-- The first place in a row, and whether there is one. -/
def fst (b c : Int) : List Alm → Nat → Int × Bool
  | [], _ => (0, false)
  | a :: l, k => if isAt b c a then ((k : Int), true) else fst b c l (k + 1)
def place (l : List Alm) (b c : Int) : Int × Bool := fst b c (sort l) 0
theorem fst_drop (b c : Int) (l : List Alm) (k : Nat) (h : k < l.length) : fst b c (l.drop k) k = if isAt b c l[k] then ((k : Int), true) else fst b c (l.drop (k + 1)) (k + 1) := by
  rw [List.drop_eq_getElem_cons h]
  rfl
theorem fst_none (b c : Int) : ∀ (l : List Alm) (k : Nat), (fst b c l k).2 = false → (∀ a ∈ l, isAt b c a = false) ∧ (fst b c l k).1 = 0
  | [], _, _ => ⟨fun _ h => (by cases h), rfl⟩
  | a :: l, k, h => by
    unfold fst at h ⊢
    split at h
    · cases h
    · rename_i ha
      have ih := fst_none b c l (k + 1) h
      rw [if_neg ha]
      refine ⟨fun x hx => ?_, ih.2⟩
      rcases List.mem_cons.1 hx with rfl | hx
      · simpa using ha
      · exact ih.1 x hx
theorem fst_some (b c : Int) : ∀ (l : List Alm) (k : Nat), (fst b c l k).2 = true → ∃ j : Nat, ∃ h : j < l.length, (fst b c l k).1 = ((k + j : Nat) : Int) ∧ isAt b c l[j] = true ∧ ∀ i (hi : i < j), isAt b c (l[i]'(by omega)) = false
  | [], _, h => by cases h
  | a :: l, k, h => by
    unfold fst at h ⊢
    by_cases ha : isAt b c a = true
    · rw [if_pos ha]
      exact ⟨0, by simp, by simp, ha, fun i hi => absurd hi (Nat.not_lt_zero _)⟩
    · rw [if_neg ha] at h ⊢
      obtain ⟨j, hj, e, h1, h2⟩ := fst_some b c l (k + 1) h
      refine ⟨j + 1, by simpa using hj, by rw [e]; congr 1; omega, by simpa using h1, fun i hi => ?_⟩
      cases i with
      | zero => simpa using ha
      | succ i => have := h2 i (by omega); simpa using this
/-- What Place promises. -/
theorem place_none {l : List Alm} {b c : Int} (h : (place l b c).2 = false) : (∀ a ∈ l, isAt b c a = false) ∧ (place l b c).1 = 0 := by
  have := fst_none b c (sort l) 0 h
  exact ⟨fun a ha => this.1 a ((sort_perm l).mem_iff.2 ha), this.2⟩
theorem place_some {l : List Alm} {b c : Int} (h : (place l b c).2 = true) : ∃ j : Nat, ∃ hj : j < (sort l).length, (place l b c).1 = (j : Int) ∧ isAt b c (sort l)[j] = true ∧ ∀ i (hi : i < j), isAt b c ((sort l)[i]'(by omega)) = false := by
  obtain ⟨j, hj, e, h1, h2⟩ := fst_some b c (sort l) 0 h
  exact ⟨j, hj, by unfold place; rw [e]; simp, h1, h2⟩
def merge (a b : List Alm) : List Alm := sort (a ++ b)
end Rk
end Go.Proofs.Ythlojadkgpmnmaa
