/-
  Layer 5 (life), in plain numbers: the table, what deeds make, what is reached, and by which way.
-/
namespace Go.Proofs.Ythlojadkgpmnmaa
namespace Lf

/-- The chapter's table: the phases' rows one behind the other. -/
def tab : List Int := [1, -1, -1, -1, -1, -1, 1, 2, 3, 4, 0, -1, 2, -1, 3, 4, 0, -1, 1, -1, -1, 4, 0, -1, 4, -1, 3, -1, 0, 1]
def isP (p : Int) : Bool := decide (0 ≤ p) && decide (p < 5)
def isD (d : Int) : Bool := decide (1 ≤ d) && decide (d ≤ 6)
def look (p d : Int) : Int := tab.getD (p.toNat * 6 + (d - 1).toNat) 0
/-- Does the deed make something of the phase? -/
def ok (p d : Int) : Bool := isP p && isD d && !(look p d == -1)
/-- What it makes. -/
def nx (p d : Int) : Int := if ok p d then look p d else 0

/-- A row of deeds. -/
def runP (p : Int) (l : List Int) : Int := l.foldl (fun p d => if ok p d then nx p d else p) p
def runN (p : Int) : List Int → Nat
  | [] => 0
  | d :: l => if ok p d then runN (nx p d) l + 1 else runN p l

theorem isP_iff {p : Int} : isP p = true ↔ 0 ≤ p ∧ p < 5 := by unfold isP; simp
theorem isD_iff {d : Int} : isD d = true ↔ 1 ≤ d ∧ d ≤ 6 := by unfold isD; simp
theorem isP_cases {p : Int} (h : isP p = true) : p = 0 ∨ p = 1 ∨ p = 2 ∨ p = 3 ∨ p = 4 := by
  have := isP_iff.1 h; omega
theorem isD_cases {d : Int} (h : isD d = true) : d = 1 ∨ d = 2 ∨ d = 3 ∨ d = 4 ∨ d = 5 ∨ d = 6 := by
  have := isD_iff.1 h; omega
theorem ok_parts {p d : Int} (h : ok p d = true) : isP p = true ∧ isD d = true ∧ ¬ look p d = -1 := by
  unfold ok at h; simp at h; exact ⟨h.1.1, h.1.2, h.2⟩
theorem nx_isP {p d : Int} (h : ok p d = true) : isP (nx p d) = true := by
  obtain ⟨h1, h2, _⟩ := ok_parts h
  rcases isP_cases h1 with rfl | rfl | rfl | rfl | rfl <;> rcases isD_cases h2 with rfl | rfl | rfl | rfl | rfl | rfl <;> first | rfl | (exfalso; revert h; decide)

theorem runP_nil (p : Int) : runP p [] = p := rfl
theorem runP_append (p : Int) (l m : List Int) : runP p (l ++ m) = runP (runP p l) m := by unfold runP; rw [List.foldl_append]
theorem runP_one (p d : Int) : runP p [d] = if ok p d then nx p d else p := rfl
theorem runN_cons (p d : Int) (l : List Int) : runN p (d :: l) = if ok p d then runN (nx p d) l + 1 else runN p l := rfl
theorem runN_append (p : Int) (l m : List Int) : runN p (l ++ m) = runN p l + runN (runP p l) m := by
  induction l generalizing p with
  | nil => simp [runN, runP]
  | cons d l ih =>
    have e : runP p (d :: l) = runP (if ok p d then nx p d else p) l := rfl
    rw [List.cons_append, runN_cons, runN_cons, e]
    cases h : ok p d
    · simp only [Bool.false_eq_true, if_false]; rw [ih]
    · simp only [if_true]; rw [ih]; omega
theorem runN_one (p d : Int) : runN p [d] = if ok p d then 1 else 0 := by simp [runN]
theorem runN_le (p : Int) (l : List Int) : runN p l ≤ l.length := by
  induction l generalizing p with
  | nil => simp [runN]
  | cons d l ih => unfold runN; have := ih (nx p d); have := ih p; split <;> simp <;> omega
theorem runP_take {p : Int} {l : List Int} {k : Nat} (h : k < l.length) : runP p (l.take (k + 1)) = if ok (runP p (l.take k)) l[k] then nx (runP p (l.take k)) l[k] else runP p (l.take k) := by
  rw [List.take_succ_eq_append_getElem h, runP_append, runP_one]
theorem runN_take {p : Int} {l : List Int} {k : Nat} (h : k < l.length) : runN p (l.take (k + 1)) = runN p (l.take k) + if ok (runP p (l.take k)) l[k] then 1 else 0 := by
  rw [List.take_succ_eq_append_getElem h, runN_append, runN_one]

/-- A phase's name. -/
def nameL (p : Int) : List UInt8 :=
  if p = 0 then [113, 117, 105, 101, 116] else if p = 1 then [114, 97, 105, 115, 101, 100] else if p = 2 then [101, 115, 99, 97, 108, 97, 116, 101, 100] else if p = 3 then [97, 99, 107, 101, 100] else if p = 4 then [115, 105, 108, 101, 110, 99, 101, 100] else []

/-! ### what is reached -/
/-- What is known on the way: what is reached, in order, and the last step to each phase. -/
abbrev St := List Int × List (Int × Int)
/-- One deed tried at the i-th phase reached. -/
def tryD (s : St) (i : Nat) (d : Int) : St :=
  if ok (s.1.getD i 0) d && !s.1.contains (nx (s.1.getD i 0) d) then (s.1 ++ [nx (s.1.getD i 0) d], s.2.set (nx (s.1.getD i 0) d).toNat (s.1.getD i 0, d)) else s
def z5 : List (Int × Int) := [(0, 0), (0, 0), (0, 0), (0, 0), (0, 0)]
/-- All that is known ahead of the n-th round: n = 6 i + (d - 1). -/
def know (f : Int) : Nat → St
  | 0 => ([f], z5)
  | n + 1 => tryD (know f n) (n / 6) ((n % 6 : Nat) + 1)
theorem know_nat : ∀ f : Fin 5, ∀ n : Fin 31, 1 ≤ (know (f.val : Int) n.val).1.length ∧ (know (f.val : Int) n.val).1.length ≤ 5 ∧ (know (f.val : Int) n.val).2.length = 5 ∧ (n.val < 30 → n.val / 6 < (know (f.val : Int) n.val).1.length) ∧ (n.val = 30 → (know (f.val : Int) n.val).1.length = 5) := by decide +kernel
theorem know_facts {f : Int} (hf : isP f = true) {n : Nat} (hn : n ≤ 30) : 1 ≤ (know f n).1.length ∧ (know f n).1.length ≤ 5 ∧ (know f n).2.length = 5 ∧ (n < 30 → n / 6 < (know f n).1.length) ∧ (n = 30 → (know f n).1.length = 5) := by
  have h := isP_iff.1 hf
  have := know_nat ⟨f.toNat, by omega⟩ ⟨n, by omega⟩
  simp only [show ((f.toNat : Nat) : Int) = f by omega] at this
  exact this
theorem know_succ (f : Int) (n : Nat) : know f (n + 1) = tryD (know f n) (n / 6) ((n % 6 : Nat) + 1) := rfl
theorem know_step {f : Int} {i j : Nat} (hj : j < 6) : know f (6 * i + (j + 1)) = tryD (know f (6 * i + j)) i ((j : Int) + 1) := by
  rw [show 6 * i + (j + 1) = 6 * i + j + 1 by omega, know_succ, show (6 * i + j) / 6 = i by omega, show (6 * i + j) % 6 = j by omega]

/-! ### the way back from a phase to where one came from -/
def wk (f to : Int) : Nat → Int × List Int
  | 0 => (to, [])
  | k + 1 => if (wk f to k).1 = f then wk f to k else (((know f 30).2.getD (wk f to k).1.toNat (0, 0)).1, (wk f to k).2 ++ [((know f 30).2.getD (wk f to k).1.toNat (0, 0)).2])
/-- The shortest way, the least first. -/
def way (f to : Int) : List Int := if isP f && isP to then (wk f to 4).2.reverse else []
def reach (f : Int) : List Int := if isP f then [0, 1, 2, 3, 4] else []
theorem wk_nat : ∀ f to : Fin 5, ∀ k : Fin 5, ((wk (f.val : Int) (to.val : Int) k.val).1 ≠ (f.val : Int) → k.val < 4 ∧ isP (wk (f.val : Int) (to.val : Int) k.val).1 = true) ∧ ((wk (f.val : Int) (to.val : Int) k.val).1 = (f.val : Int) → (wk (f.val : Int) (to.val : Int) k.val).2 = (wk (f.val : Int) (to.val : Int) 4).2) := by decide +kernel
theorem wk_facts {f to : Int} (hf : isP f = true) (ht : isP to = true) {k : Nat} (hk : k ≤ 4) : ((wk f to k).1 ≠ f → k < 4 ∧ isP (wk f to k).1 = true) ∧ ((wk f to k).1 = f → (wk f to k).2.reverse = way f to) := by
  have h := isP_iff.1 hf
  have h2 := isP_iff.1 ht
  have := wk_nat ⟨f.toNat, by omega⟩ ⟨to.toNat, by omega⟩ ⟨k, by omega⟩
  simp only [show ((f.toNat : Nat) : Int) = f by omega, show ((to.toNat : Nat) : Int) = to by omega] at this
  refine ⟨this.1, fun h => ?_⟩
  rw [this.2 h]; unfold way; rw [hf, ht]; rfl
theorem wk_succ {f to : Int} {k : Nat} (h : (wk f to k).1 ≠ f) : wk f to (k + 1) = (((know f 30).2.getD (wk f to k).1.toNat (0, 0)).1, (wk f to k).2 ++ [((know f 30).2.getD (wk f to k).1.toNat (0, 0)).2]) := by
  show (if (wk f to k).1 = f then wk f to k else _) = _
  rw [if_neg h]
theorem has_nat : ∀ f to : Fin 5, (know (f.val : Int) 30).1.contains (to.val : Int) = true ∧ (know (f.val : Int) 30).1.isPerm [0, 1, 2, 3, 4] = true := by decide +kernel
theorem has_all {f to : Int} (hf : isP f = true) (ht : isP to = true) : (know f 30).1.contains to = true := by
  have h := isP_iff.1 hf
  have h2 := isP_iff.1 ht
  have := (has_nat ⟨f.toNat, by omega⟩ ⟨to.toNat, by omega⟩).1
  simpa only [show ((f.toNat : Nat) : Int) = f by omega, show ((to.toNat : Nat) : Int) = to by omega] using this
theorem sorted_all {f : Int} (hf : isP f = true) : ((know f 30).1.mergeSort fun x y => decide (x ≤ y)) = reach f := by
  have h := isP_iff.1 hf
  have hp := (has_nat ⟨f.toNat, by omega⟩ 0).2
  simp only [show ((f.toNat : Nat) : Int) = f by omega] at hp
  have hp2 := List.isPerm_iff.1 hp
  unfold reach; rw [hf]
  refine List.Perm.eq_of_pairwise (le := fun a b => a ≤ b) (fun a b _ _ h1 h2 => Int.le_antisymm h1 h2) ?_ (by decide) ((List.mergeSort_perm _ _).trans hp2)
  exact (List.pairwise_mergeSort (le := fun x y : Int => decide (x ≤ y)) (fun a b c h1 h2 => by simp at *; omega) (fun a b => by simp; omega) _).imp (fun h => by simpa using h)
theorem way_facts : ∀ f to : Fin 5, (way (f.val : Int) (to.val : Int)).length ≤ 3 ∧ runP (f.val : Int) (way (f.val : Int) (to.val : Int)) = (to.val : Int) ∧ runN (f.val : Int) (way (f.val : Int) (to.val : Int)) = (way (f.val : Int) (to.val : Int)).length ∧ ((way (f.val : Int) (to.val : Int)).length = 0 ↔ f = to) := by decide +kernel
theorem way_len (f to : Int) : (way f to).length ≤ 3 := by
  by_cases h : isP f = true ∧ isP to = true
  · have h1 := isP_iff.1 h.1
    have h2 := isP_iff.1 h.2
    have := (way_facts ⟨f.toNat, by omega⟩ ⟨to.toNat, by omega⟩).1
    simpa only [show ((f.toNat : Nat) : Int) = f by omega, show ((to.toNat : Nat) : Int) = to by omega] using this
  · unfold way
    rw [if_neg (by simpa using h)]; simp
end Lf
end Go.Proofs.Ythlojadkgpmnmaa
