/-
  Layer 8 (board), plain mathematics: which boards are right; what is got, put, dropped, passed and gathered.
-/
import Derived.Test.YthlojadkgpmnmaaAlarmM
namespace Go.Proofs.Ythlojadkgpmnmaa

/-- A board. -/
structure Brd where
  most : Int
  now : Int
  als : List Alm

namespace Bd
def lessA (a b : Alm) : Bool := Sp.less a.b a.c b.b b.c
def atS (b c : Int) (a : Alm) : Bool := a.b == b && a.c == c
theorem lessA_iff {a b : Alm} : lessA a b = true ↔ a.b < b.b ∨ (a.b = b.b ∧ a.c < b.c) := Sp.less_iff
theorem atS_iff {b c : Int} {a : Alm} : atS b c a = true ↔ a.b = b ∧ a.c = c := by simp [atS]
theorem less_trans {a b c : Alm} (h1 : lessA a b = true) (h2 : lessA b c = true) : lessA a c = true := by
  rw [lessA_iff] at *; omega
theorem less_not {a b : Alm} (h : lessA a b = true) : lessA b a = false := by
  rw [← Bool.not_eq_true, lessA_iff]; rw [lessA_iff] at h; omega
theorem less_self (a : Alm) : lessA a a = false := by rw [← Bool.not_eq_true, lessA_iff]; omega
/-- Neither less nor at its spot: behind it. -/
theorem less_of {x a : Alm} (h1 : ¬ lessA x a = true) (h2 : ¬ atS a.b a.c x = true) : lessA a x = true := by
  rw [lessA_iff] at *; rw [atS_iff] at h2; omega
theorem less_at {x a y : Alm} (h : atS a.b a.c x = true) (h2 : lessA x y = true) : lessA a y = true := by
  rw [lessA_iff] at *; rw [atS_iff] at h; omega
theorem at_less {x a : Alm} (h : lessA x a = true) : atS a.b a.c x = false := by
  rw [← Bool.not_eq_true, atS_iff]; rw [lessA_iff] at h; omega
theorem at_less' {x a : Alm} (h : lessA a x = true) : atS a.b a.c x = false := by
  rw [← Bool.not_eq_true, atS_iff]; rw [lessA_iff] at h; omega

/-- May an alarm be on a board of this time? -/
def may (n : Int) (a : Alm) : Bool := Am.right a && decide (a.si ≤ n)
def rising : List Alm → Bool
  | a :: b :: l => lessA a b && rising (b :: l)
  | _ => true
def rows (n : Int) (ls : List Alm) : Bool := ls.all (may n) && rising ls
def isB (m n : Int) (ls : List Alm) : Bool := decide (1 ≤ m) && decide (m ≤ 200) && Am.isT n && decide ((ls.length : Int) ≤ m) && rows n ls

theorem rising_iff : ∀ ls : List Alm, rising ls = true ↔ ls.Pairwise (fun a b => lessA a b = true)
  | [] => by simp [rising]
  | [a] => by simp [rising]
  | a :: b :: l => by
    have ih := rising_iff (b :: l)
    unfold rising
    rw [Bool.and_eq_true, ih, List.pairwise_cons (a := a)]
    constructor
    · rintro ⟨h1, h2⟩
      refine ⟨fun x hx => ?_, h2⟩
      rcases List.mem_cons.1 hx with rfl | hx
      · exact h1
      · exact less_trans h1 ((List.pairwise_cons.1 h2).1 x hx)
    · rintro ⟨h1, h2⟩
      exact ⟨h1 b (by simp), h2⟩
theorem rows_iff {n : Int} {ls : List Alm} : rows n ls = true ↔ (∀ a ∈ ls, Am.right a = true ∧ a.si ≤ n) ∧ ls.Pairwise (fun a b => lessA a b = true) := by
  unfold rows
  rw [Bool.and_eq_true, rising_iff, List.all_eq_true]
  simp [may]
theorem isB_iff {m n : Int} {ls : List Alm} : isB m n ls = true ↔ (1 ≤ m ∧ m ≤ 200) ∧ (0 ≤ n ∧ n ≤ 1000000000) ∧ (ls.length : Int) ≤ m ∧ rows n ls = true := by
  unfold isB
  simp only [Bool.and_eq_true, decide_eq_true_eq, Am.isT_iff]
  constructor
  · rintro ⟨⟨⟨⟨h1, h2⟩, h3⟩, h4⟩, h5⟩; exact ⟨⟨h1, h2⟩, h3, h4, h5⟩
  · rintro ⟨⟨h1, h2⟩, h3, h4, h5⟩; exact ⟨⟨⟨⟨h1, h2⟩, h3⟩, h4⟩, h5⟩

/-! ### get, put, drop -/
def getA (b c : Int) : List Alm → Alm × Bool
  | [] => (Am.zero, false)
  | x :: l => if atS b c x then (x, true) else getA b c l
def has (b c : Int) (ls : List Alm) : Bool := (getA b c ls).2
def putL (a : Alm) : List Alm → List Alm
  | [] => [a]
  | x :: l => if lessA x a then x :: putL a l else if atS a.b a.c x then a :: l else a :: x :: l
def putE (m n : Int) (ls : List Alm) (a : Alm) : Int := if !isB m n ls || !Am.right a || decide (n < a.si) then 1 else if !has a.b a.c ls && decide (m ≤ (ls.length : Int)) then 81 else 0
def put (m n : Int) (ls : List Alm) (a : Alm) : Brd := if putE m n ls a = 0 then ⟨m, n, putL a ls⟩ else ⟨0, 0, []⟩
def dropL (b c : Int) (ls : List Alm) : List Alm := ls.filter (fun x => !atS b c x)
def dropE (m n : Int) (ls : List Alm) (b c : Int) : Int := if !isB m n ls then 1 else if has b c ls then 0 else 80
def drop (m n : Int) (ls : List Alm) (b c : Int) : Brd := if dropE m n ls b c = 0 then ⟨m, n, dropL b c ls⟩ else ⟨0, 0, []⟩
def passL (t : Int) (ls : List Alm) : List Alm := ls.map (fun a => Am.pass a t)
def passE (m n : Int) (ls : List Alm) (t : Int) : Int := if !isB m n ls || !Am.isT t then 1 else if t < n then 62 else if isB m t (passL t ls) then 0 else 1
def pass (m n : Int) (ls : List Alm) (t : Int) : Brd := if passE m n ls t = 0 then ⟨m, t, passL t ls⟩ else ⟨0, 0, []⟩
def ofL (beds : List Int) (ls : List Alm) : List Alm := ls.filter (fun x => beds.any (fun k => k == x.b))
def newE (m : Int) : Int := if m < 1 ∨ 200 < m then 1 else 0
def new (m : Int) : Brd := if newE m = 0 then ⟨m, 0, []⟩ else ⟨0, 0, []⟩

theorem mem_drop {b c : Int} {ls : List Alm} {x : Alm} (h : x ∈ dropL b c ls) : x ∈ ls := (List.mem_filter.1 h).1
theorem getA_has {b c : Int} : ∀ {ls : List Alm}, has b c ls = false → getA b c ls = (Am.zero, false) ∧ ∀ x ∈ ls, atS b c x = false
  | [], _ => ⟨rfl, fun _ h => nomatch h⟩
  | x :: l, h => by
    unfold has getA at h
    by_cases hx : atS b c x = true
    · rw [if_pos hx] at h; cases h
    · rw [if_neg hx] at h
      have ih := getA_has (ls := l) h
      refine ⟨by unfold getA; rw [if_neg hx]; exact ih.1, fun y hy => ?_⟩
      rcases List.mem_cons.1 hy with rfl | hy
      · simpa using hx
      · exact ih.2 y hy
theorem getA_put (a : Alm) : ∀ ls : List Alm, getA a.b a.c (putL a ls) = (a, true)
  | [] => by simp [putL, getA, atS]
  | x :: l => by
    unfold putL
    split
    · rename_i h
      unfold getA
      rw [at_less h]
      exact getA_put a l
    · split <;> simp [getA, atS]
theorem getA_other {a : Alm} {b c : Int} (h : ¬ (b = a.b ∧ c = a.c)) : ∀ ls : List Alm, getA b c (putL a ls) = getA b c ls
  | [] => by
    have : atS b c a = false := by rw [← Bool.not_eq_true, atS_iff]; omega
    simp [putL, getA, this]
  | x :: l => by
    have ha : atS b c a = false := by rw [← Bool.not_eq_true, atS_iff]; omega
    unfold putL
    split
    · unfold getA
      rw [getA_other h l]
    · split
      · rename_i hx
        have hx2 : atS b c x = false := by rw [← Bool.not_eq_true, atS_iff]; rw [atS_iff] at hx; omega
        simp [getA, ha, hx2]
      · simp [getA, ha]
theorem drop_put (a : Alm) : ∀ ls : List Alm, dropL a.b a.c (putL a ls) = dropL a.b a.c ls
  | [] => by simp [putL, dropL, atS]
  | x :: l => by
    have ih := drop_put a l
    have ha : atS a.b a.c a = true := by rw [atS_iff]; exact ⟨rfl, rfl⟩
    unfold putL
    split
    · unfold dropL at ih ⊢
      rw [List.filter_cons, List.filter_cons, ih]
    · split
      · rename_i hx
        simp [dropL, ha, hx]
      · simp [dropL, ha]
theorem drop_none {b c : Int} {ls : List Alm} (h : ∀ x ∈ ls, atS b c x = false) : dropL b c ls = ls := by
  unfold dropL
  exact List.filter_eq_self.2 (fun x hx => by simp [h x hx])
/-- Behind what is less, all are behind. -/
theorem none_behind {a x : Alm} {l : List Alm} (h : lessA a x = true) (hp : (x :: l).Pairwise (fun a b => lessA a b = true)) : ∀ y ∈ x :: l, atS a.b a.c y = false := by
  intro y hy
  rcases List.mem_cons.1 hy with rfl | hy
  · exact at_less' h
  · exact at_less' (less_trans h ((List.pairwise_cons.1 hp).1 y hy))
theorem none_after {a x : Alm} {l : List Alm} (h : atS a.b a.c x = true) (hp : (x :: l).Pairwise (fun a b => lessA a b = true)) : ∀ y ∈ l, atS a.b a.c y = false :=
  fun y hy => at_less' (less_at h ((List.pairwise_cons.1 hp).1 y hy))
theorem has_none {b c : Int} {ls : List Alm} (h : ∀ x ∈ ls, atS b c x = false) : has b c ls = false := by
  induction ls with
  | nil => rfl
  | cons x l ih =>
    unfold has getA
    rw [h x (by simp)]
    exact ih (fun y hy => h y (by simp [hy]))
theorem put_perm {a : Alm} : ∀ {ls : List Alm}, ls.Pairwise (fun a b => lessA a b = true) → (putL a ls).Perm (a :: dropL a.b a.c ls)
  | [], _ => List.Perm.refl _
  | x :: l, hp => by
    have ih := put_perm (a := a) (List.pairwise_cons.1 hp).2
    unfold putL
    split
    · rename_i h
      have e : dropL a.b a.c (x :: l) = x :: dropL a.b a.c l := by unfold dropL; rw [List.filter_cons, at_less h]; rfl
      rw [e]
      exact (ih.cons x).trans (List.Perm.swap a x _)
    · split
      · rename_i hx
        have e : dropL a.b a.c (x :: l) = l := by
          have := drop_none (none_after hx hp)
          unfold dropL at this ⊢
          rw [List.filter_cons, hx]
          exact this
        rw [e]
      · rename_i h1 h2
        rw [drop_none (none_behind (less_of h1 h2) hp)]
theorem put_len {a : Alm} : ∀ {ls : List Alm}, ls.Pairwise (fun a b => lessA a b = true) → (putL a ls).length = ls.length + (if has a.b a.c ls then 0 else 1)
  | [], _ => rfl
  | x :: l, hp => by
    have ih := put_len (a := a) (List.pairwise_cons.1 hp).2
    unfold putL
    split
    · rename_i h
      have e : has a.b a.c (x :: l) = has a.b a.c l := by unfold has; rw [getA, at_less h]; rfl
      rw [e, List.length_cons, ih, List.length_cons]
      omega
    · split
      · rename_i hx
        have e : has a.b a.c (x :: l) = true := by unfold has getA; rw [hx]; rfl
        rw [e]; simp
      · rename_i h1 h2
        rw [has_none (none_behind (less_of h1 h2) hp)]; simp
theorem put_rising {a : Alm} : ∀ {ls : List Alm}, ls.Pairwise (fun a b => lessA a b = true) → (putL a ls).Pairwise (fun a b => lessA a b = true)
  | [], _ => List.pairwise_singleton _ _
  | x :: l, hp => by
    have hp' := List.pairwise_cons.1 hp
    have ih := put_rising (a := a) hp'.2
    unfold putL
    split
    · rename_i h
      refine List.pairwise_cons.2 ⟨fun y hy => ?_, ih⟩
      rcases List.mem_cons.1 ((put_perm hp'.2).mem_iff.1 hy) with rfl | hy
      · exact h
      · exact hp'.1 y (mem_drop hy)
    · split
      · rename_i hx
        exact List.pairwise_cons.2 ⟨fun y hy => less_at hx (hp'.1 y hy), hp'.2⟩
      · rename_i h1 h2
        have h := less_of h1 h2
        refine List.pairwise_cons.2 ⟨fun y hy => ?_, hp⟩
        rcases List.mem_cons.1 hy with rfl | hy
        · exact h
        · exact less_trans h (hp'.1 y hy)
theorem drop_rows {n : Int} {ls : List Alm} (b c : Int) (h : rows n ls = true) : rows n (dropL b c ls) = true := by
  rw [rows_iff] at h ⊢
  exact ⟨fun a ha => h.1 a (mem_drop ha), h.2.sublist List.filter_sublist⟩
theorem put_rows {n : Int} {ls : List Alm} {a : Alm} (h : rows n ls = true) (hr : Am.right a = true) (hs : a.si ≤ n) : rows n (putL a ls) = true := by
  rw [rows_iff] at h ⊢
  refine ⟨fun x hx => ?_, put_rising h.2⟩
  rcases List.mem_cons.1 ((put_perm h.2).mem_iff.1 hx) with rfl | hx
  · exact ⟨hr, hs⟩
  · exact h.1 x (mem_drop hx)
theorem putE_iff {m n : Int} {ls : List Alm} {a : Alm} : putE m n ls a = 0 ↔ isB m n ls = true ∧ Am.right a = true ∧ a.si ≤ n ∧ (has a.b a.c ls = true ∨ (ls.length : Int) < m) := by
  unfold putE
  cases isB m n ls <;> cases Am.right a <;> cases has a.b a.c ls <;> by_cases h : n < a.si <;> by_cases h2 : m ≤ (ls.length : Int) <;> simp [h, h2] <;> omega
theorem put_isB {m n : Int} {ls : List Alm} {a : Alm} (h : putE m n ls a = 0) : isB m n (putL a ls) = true := by
  rw [putE_iff] at h
  obtain ⟨hb, hr, hs, hf⟩ := h
  have hb' := isB_iff.1 hb
  refine isB_iff.2 ⟨hb'.1, hb'.2.1, ?_, put_rows hb'.2.2.2 hr hs⟩
  rw [put_len (rows_iff.1 hb'.2.2.2).2]
  rcases hf with hf | hf
  · rw [hf]; simp; exact hb'.2.2.1
  · have := hb'.2.2.1
    split <;> omega
theorem drop_isB {m n : Int} {ls : List Alm} (b c : Int) (h : isB m n ls = true) : isB m n (dropL b c ls) = true := by
  have hb := isB_iff.1 h
  refine isB_iff.2 ⟨hb.1, hb.2.1, ?_, drop_rows b c hb.2.2.2⟩
  have : (dropL b c ls).length ≤ ls.length := List.length_filter_le _ _
  omega
theorem has_other {a : Alm} {b c : Int} (h : ¬ (b = a.b ∧ c = a.c)) (ls : List Alm) : has b c (putL a ls) = has b c ls := by unfold has; rw [getA_other h ls]
/-- Two of unlike spots, in either order. -/
theorem put_comm {x y : Alm} {ls : List Alm} (hp : ls.Pairwise (fun a b => lessA a b = true)) (h : ¬ (x.b = y.b ∧ x.c = y.c)) : putL y (putL x ls) = putL x (putL y ls) := by
  have key : ∀ {x y : Alm}, ¬ (x.b = y.b ∧ x.c = y.c) → (putL y (putL x ls)).Perm (y :: x :: dropL y.b y.c (dropL x.b x.c ls)) := by
    intro x y h
    refine (put_perm (put_rising hp)).trans (List.Perm.cons y ?_)
    have hx : atS y.b y.c x = false := by rw [← Bool.not_eq_true, atS_iff]; omega
    have h2 : (dropL y.b y.c (putL x ls)).Perm (dropL y.b y.c (x :: dropL x.b x.c ls)) := (put_perm hp).filter _
    have e : dropL y.b y.c (x :: dropL x.b x.c ls) = x :: dropL y.b y.c (dropL x.b x.c ls) := by unfold dropL; rw [List.filter_cons, hx]; rfl
    rw [e] at h2
    exact h2
  have ecomm : dropL y.b y.c (dropL x.b x.c ls) = dropL x.b x.c (dropL y.b y.c ls) := by
    unfold dropL
    rw [List.filter_filter, List.filter_filter]
    congr 1
    funext z
    exact Bool.and_comm _ _
  have p1 := key h
  have p2 := key (x := y) (y := x) (by omega)
  refine List.Perm.eq_of_pairwise (fun a b _ _ h1 h2 => ?_) (put_rising (put_rising hp)) (put_rising (put_rising hp)) (p1.trans ?_)
  · have := less_not h1
    rw [this] at h2
    cases h2
  · rw [ecomm]
    exact (List.Perm.swap x y _).trans p2.symm
/-- May both be put, in this order? Then in the other one too. -/
theorem both_iff {m n : Int} {ls : List Alm} {x y : Alm} (h : ¬ (x.b = y.b ∧ x.c = y.c)) : (putE m n ls x = 0 ∧ putE m n (putL x ls) y = 0) ↔ (putE m n ls y = 0 ∧ putE m n (putL y ls) x = 0) := by
  have key : ∀ {x y : Alm}, ¬ (x.b = y.b ∧ x.c = y.c) → (putE m n ls x = 0 ∧ putE m n (putL x ls) y = 0) → (putE m n ls y = 0 ∧ putE m n (putL y ls) x = 0) := by
    rintro x y h ⟨h1, h2⟩
    have hx := putE_iff.1 h1
    have hy := putE_iff.1 h2
    have hp := (rows_iff.1 (isB_iff.1 hx.1).2.2.2).2
    rw [has_other (a := x) (b := y.b) (c := y.c) (by omega), put_len hp] at hy
    have g1 : putE m n ls y = 0 := by
      refine putE_iff.2 ⟨hx.1, hy.2.1, hy.2.2.1, ?_⟩
      rcases hy.2.2.2 with h3 | h3
      · exact Or.inl h3
      · right; omega
    refine ⟨g1, putE_iff.2 ⟨put_isB g1, hx.2.1, hx.2.2.1, ?_⟩⟩
    rw [has_other (a := y) (b := x.b) (c := x.c) h, put_len hp]
    cases e1 : has x.b x.c ls
    · right
      rw [e1] at hy
      have h4 : (ls.length : Int) < m := by
        rcases hx.2.2.2 with h4 | h4
        · rw [e1] at h4; cases h4
        · exact h4
      cases e2 : has y.b y.c ls
      · rcases hy.2.2.2 with h3 | h3
        · rw [e2] at h3; cases h3
        · simpa using h3
      · simpa using h4
    · exact Or.inl rfl
  exact ⟨key h, key (by omega)⟩

/-! ### time -/
theorem pass_len (t : Int) (ls : List Alm) : (passL t ls).length = ls.length := by unfold passL; rw [List.length_map]
theorem passE_iff {m n : Int} {ls : List Alm} {t : Int} : passE m n ls t = 0 ↔ isB m n ls = true ∧ (0 ≤ t ∧ t ≤ 1000000000) ∧ n ≤ t ∧ isB m t (passL t ls) = true := by
  unfold passE
  rw [← Am.isT_iff]
  cases isB m n ls <;> cases Am.isT t <;> cases isB m t (passL t ls) <;> by_cases h : t < n <;> simp [h] <;> omega
theorem passE_vals {m n : Int} {ls : List Alm} {t : Int} : passE m n ls t = 0 ∨ passE m n ls t = 1 ∨ passE m n ls t = 62 := by
  unfold passE
  split
  · exact Or.inr (Or.inl rfl)
  · split
    · exact Or.inr (Or.inr rfl)
    · split
      · exact Or.inl rfl
      · exact Or.inr (Or.inl rfl)
/-- Time till one time, and then till a later one. -/
theorem pass_pass {m n : Int} {ls : List Alm} {t t' : Int} (h : passE m n ls t = 0) (h' : passE m t (passL t ls) t' = 0) : passL t' (passL t ls) = passL t' ls ∧ passE m n ls t' = 0 := by
  have h1 := passE_iff.1 h
  have h2 := passE_iff.1 h'
  have hr := (rows_iff.1 (isB_iff.1 h1.2.2.2).2.2.2).1
  have e : passL t' (passL t ls) = passL t' ls := by
    unfold passL
    rw [List.map_map]
    refine List.map_congr_left fun a ha => ?_
    exact Am.pass_twoR h2.2.2.1 (fun _ => (hr _ (List.mem_map.2 ⟨a, ha, rfl⟩)).1)
  refine ⟨e, passE_iff.2 ⟨h1.1, h2.2.1, by omega, ?_⟩⟩
  rw [← e]
  exact h2.2.2.2
theorem getA_at : ∀ {ls : List Alm}, ls.Pairwise (fun a b => lessA a b = true) → ∀ i (h : i < ls.length), getA ls[i].b ls[i].c ls = (ls[i], true)
  | x :: l, hp, 0, _ => by
    have : atS x.b x.c x = true := by rw [atS_iff]; exact ⟨rfl, rfl⟩
    simp [getA, this]
  | x :: l, hp, i + 1, h => by
    have hp' := List.pairwise_cons.1 hp
    have hi : i < l.length := by simpa using h
    have h1 : atS l[i].b l[i].c x = false := at_less (hp'.1 _ (List.getElem_mem hi))
    simp only [List.getElem_cons_succ]
    unfold getA
    rw [h1]
    exact getA_at hp'.2 i hi
theorem pass_get {m n : Int} {ls : List Alm} {t : Int} (h : passE m n ls t = 0) (i : Nat) (hi : i < ls.length) : getA ls[i].b ls[i].c (passL t ls) = (Am.pass ls[i] t, true) := by
  have h1 := passE_iff.1 h
  have hp := (rows_iff.1 (isB_iff.1 h1.2.2.2).2.2.2).2
  have hi' : i < (passL t ls).length := by rw [pass_len]; exact hi
  have hg := getA_at hp i hi'
  have e : (passL t ls)[i] = Am.pass ls[i] t := by simp [passL]
  rw [e, (Am.pass_keeps ls[i] t).1, (Am.pass_keeps ls[i] t).2.1] at hg
  exact hg
theorem zero_isB : isB 0 0 [] = false := by decide
end Bd
end Go.Proofs.Ythlojadkgpmnmaa
