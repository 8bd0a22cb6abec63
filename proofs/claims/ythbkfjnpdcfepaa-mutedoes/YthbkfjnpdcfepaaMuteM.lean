/-
  Layer 10 (mute), plain mathematics: windows, the times that they have, the windows of some times.
-/
import Derived.Lib.Hide
namespace Go.Proofs.Ythbkfjnpdcfepaa
set_option maxRecDepth 10000

/-- A window. -/
structure Win where
  bed : Int
  fr : Int
  to : Int
deriving DecidableEq

namespace Mu
def may (w : Win) : Bool := decide (1 ≤ w.bed) && decide (w.bed ≤ 99) && decide (0 ≤ w.fr) && decide (w.fr < w.to) && decide (w.to ≤ 1000000000)
theorem may_iff {w : Win} : may w = true ↔ 1 ≤ w.bed ∧ w.bed ≤ 99 ∧ 0 ≤ w.fr ∧ w.fr < w.to ∧ w.to ≤ 1000000000 := by
  unfold may; simp only [Bool.and_eq_true, decide_eq_true_eq]; omega
def hasW (w : Win) (b t : Int) : Bool := decide (w.bed = b) && decide (w.fr ≤ t) && decide (t < w.to)
theorem hasW_iff {w : Win} {b t : Int} : hasW w b t = true ↔ w.bed = b ∧ w.fr ≤ t ∧ t < w.to := by
  unfold hasW; simp only [Bool.and_eq_true, decide_eq_true_eq]; omega
def has (l : List Win) (b t : Int) : Bool := l.any (fun w => hasW w b t)
theorem has_nil (b t : Int) : has [] b t = false := rfl
theorem has_cons (w : Win) (l : List Win) (b t : Int) : has (w :: l) b t = (hasW w b t || has l b t) := rfl
theorem has_app (l m : List Win) (b t : Int) : has (l ++ m) b t = (has l b t || has m b t) := by unfold has; exact List.any_append
theorem has_iff {l : List Win} {b t : Int} : has l b t = true ↔ ∃ w ∈ l, w.bed = b ∧ w.fr ≤ t ∧ t < w.to := by
  unfold has; rw [List.any_eq_true]
  exact ⟨fun ⟨w, h1, h2⟩ => ⟨w, h1, hasW_iff.1 h2⟩, fun ⟨w, h1, h2⟩ => ⟨w, h1, hasW_iff.2 h2⟩⟩
theorem has_not {l : List Win} {b t : Int} : has l b t = false ↔ ∀ w ∈ l, ¬ (w.bed = b ∧ w.fr ≤ t ∧ t < w.to) := by
  rw [← Bool.not_eq_true, has_iff]
  exact ⟨fun h w hw hx => h ⟨w, hw, hx⟩, fun h ⟨w, hw, hx⟩ => h w hw hx⟩

/-- One window ends ahead of another one. -/
def before (x y : Win) : Prop := x.bed < y.bed ∨ (x.bed = y.bed ∧ x.to < y.fr)
instance (x y : Win) : Decidable (before x y) := by unfold before; infer_instance
/-- Windows one behind the other, each of some time. -/
def Can (l : List Win) : Prop := (∀ w ∈ l, w.fr < w.to) ∧ l.Pairwise before
theorem Can.tail {x : Win} {l : List Win} (h : Can (x :: l)) : Can l := ⟨fun w hw => h.1 w (List.mem_cons_of_mem _ hw), (List.pairwise_cons.1 h.2).2⟩
theorem before_trans {x y z : Win} (h1 : before x y) (h2 : before y z) (hy : y.fr < y.to) : before x z := by unfold before at *; omega

theorem can_apart {x : Win} {l : List Win} (h : Can (x :: l)) {b t : Int} (hx : hasW x b t = true) : has l b t = false := by
  rw [hasW_iff] at hx
  rw [has_not]
  intro w hw hc
  have hb := (List.pairwise_cons.1 h.2).1 w hw
  unfold before at hb
  omega
theorem can_first {x : Win} {l : List Win} (h : Can (x :: l)) {b t : Int} (ht : has (x :: l) b t = true) : x.bed < b ∨ (x.bed = b ∧ x.fr ≤ t) := by
  obtain ⟨w, hw, h1, h2, h3⟩ := has_iff.1 ht
  rcases List.mem_cons.1 hw with rfl | hw
  · omega
  · have hb := (List.pairwise_cons.1 h.2).1 w hw
    have hx := h.1 x (by simp)
    unfold before at hb
    omega
theorem can_end {x : Win} {l : List Win} (h : Can (x :: l)) : has (x :: l) x.bed x.to = false := by
  rw [has_not]
  intro w hw hc
  rcases List.mem_cons.1 hw with rfl | hw
  · omega
  · have hb := (List.pairwise_cons.1 h.2).1 w hw
    unfold before at hb
    omega
/-- Windows of the same times are the same. -/
theorem can_eq : ∀ {l m : List Win}, Can l → Can m → (∀ b t, has l b t = has m b t) → l = m
  | [], [], _, _, _ => rfl
  | [], y :: m, _, hm, h => by
    have := h y.bed y.fr
    rw [has_nil] at this
    have hy : has (y :: m) y.bed y.fr = true := has_iff.2 ⟨y, by simp, rfl, Int.le_refl _, hm.1 y (by simp)⟩
    rw [← this] at hy; cases hy
  | x :: l, [], hl, _, h => by
    have := h x.bed x.fr
    rw [has_nil] at this
    have hy : has (x :: l) x.bed x.fr = true := has_iff.2 ⟨x, by simp, rfl, Int.le_refl _, hl.1 x (by simp)⟩
    rw [this] at hy; cases hy
  | x :: l, y :: m, hl, hm, h => by
    have hx : has (x :: l) x.bed x.fr = true := has_iff.2 ⟨x, by simp, rfl, Int.le_refl _, hl.1 x (by simp)⟩
    have hy : has (y :: m) y.bed y.fr = true := has_iff.2 ⟨y, by simp, rfl, Int.le_refl _, hm.1 y (by simp)⟩
    have h1 := can_first hm (by rw [← h]; exact hx : has (y :: m) x.bed x.fr = true)
    have h2 := can_first hl (by rw [h]; exact hy : has (x :: l) y.bed y.fr = true)
    have eb : x.bed = y.bed := by omega
    have ef : x.fr = y.fr := by omega
    have lx := hl.1 x (by simp)
    have ly := hm.1 y (by simp)
    have ex := can_end hl
    have ey := can_end hm
    have et : x.to = y.to := by
      rcases Int.lt_trichotomy x.to y.to with hlt | heq | hgt
      · have : has (y :: m) x.bed x.to = true := has_iff.2 ⟨y, by simp, eb.symm, by omega, hlt⟩
        rw [← h, ex] at this; cases this
      · exact heq
      · have : has (x :: l) y.bed y.to = true := has_iff.2 ⟨x, by simp, eb, by omega, hgt⟩
        rw [h, ey] at this; cases this
    have e : x = y := by
      obtain ⟨x0, x1, x2⟩ := x
      obtain ⟨y0, y1, y2⟩ := y
      simp only at eb ef et
      rw [eb, ef, et]
    subst e
    refine congrArg (x :: ·) (can_eq hl.tail hm.tail fun b t => ?_)
    have hbt := h b t
    rw [has_cons, has_cons] at hbt
    cases hw : hasW x b t
    · rw [hw] at hbt; simpa using hbt
    · rw [can_apart hl hw, can_apart hm hw]

/-! ### right windows -/
def rising : List Win → Bool
  | x :: y :: l => decide (before x y) && rising (y :: l)
  | _ => true
def isL (l : List Win) : Bool := l.all may && rising l && decide (l.length ≤ 100)
theorem rising_can : ∀ {l : List Win}, (∀ w ∈ l, w.fr < w.to) → (rising l = true ↔ l.Pairwise before)
  | [], _ => ⟨fun _ => List.Pairwise.nil, fun _ => rfl⟩
  | [x], _ => ⟨fun _ => List.pairwise_singleton _ _, fun _ => rfl⟩
  | x :: y :: l, h => by
    have ih := rising_can (l := y :: l) (fun w hw => h w (List.mem_cons_of_mem _ hw))
    unfold rising
    rw [Bool.and_eq_true, decide_eq_true_eq, ih]
    constructor
    · rintro ⟨h1, h2⟩
      refine List.pairwise_cons.2 ⟨fun z hz => ?_, h2⟩
      rcases List.mem_cons.1 hz with rfl | hz
      · exact h1
      · exact before_trans h1 ((List.pairwise_cons.1 h2).1 z hz) (h y (by simp))
    · intro h1
      exact ⟨(List.pairwise_cons.1 h1).1 y (by simp), (List.pairwise_cons.1 h1).2⟩
theorem isL_iff {l : List Win} : isL l = true ↔ (∀ w ∈ l, may w = true) ∧ Can l ∧ l.length ≤ 100 := by
  unfold isL Can
  rw [Bool.and_eq_true, Bool.and_eq_true, List.all_eq_true, decide_eq_true_eq]
  constructor
  · rintro ⟨⟨h1, h2⟩, h3⟩
    have hf : ∀ w ∈ l, w.fr < w.to := fun w hw => (may_iff.1 (h1 w hw)).2.2.2.1
    exact ⟨h1, ⟨hf, (rising_can hf).1 h2⟩, h3⟩
  · rintro ⟨h1, ⟨h2, h3⟩, h4⟩
    exact ⟨⟨h1, (rising_can h2).2 h3⟩, h4⟩

/-! ### the places at which windows begin or end -/
def put (n : Int) : List Int → List Int
  | [] => [n]
  | x :: l => if x < n then x :: put n l else if x = n then x :: l else n :: x :: l
theorem mem_put {n z : Int} : ∀ {l : List Int}, z ∈ put n l ↔ z = n ∨ z ∈ l
  | [] => by simp [put]
  | x :: l => by
    unfold put
    split
    · rw [List.mem_cons, mem_put, List.mem_cons]
      constructor
      · rintro (h | h | h) <;> simp [h]
      · rintro (h | h | h) <;> simp [h]
    · split
      · rename_i h; subst h; simp
      · simp
theorem put_sorted {n : Int} : ∀ {l : List Int}, l.Pairwise (· < ·) → (put n l).Pairwise (· < ·)
  | [], _ => List.pairwise_singleton _ _
  | x :: l, h => by
    have h' := List.pairwise_cons.1 h
    unfold put
    split
    · rename_i hx
      refine List.pairwise_cons.2 ⟨fun z hz => ?_, put_sorted h'.2⟩
      rcases mem_put.1 hz with rfl | hz
      · exact hx
      · exact h'.1 z hz
    · split
      · exact h
      · rename_i h1 h2
        refine List.pairwise_cons.2 ⟨fun z hz => ?_, h⟩
        rcases List.mem_cons.1 hz with rfl | hz
        · omega
        · have := h'.1 z hz; omega
def mark (bed : Int) (out : List Int) (w : Win) : List Int := if w.bed = bed then put w.to (put w.fr out) else out
def marks (l : List Win) (bed : Int) : List Int := l.foldl (mark bed) []
theorem fold_marks (bed : Int) : ∀ (l : List Win) (out : List Int), out.Pairwise (· < ·) → (l.foldl (mark bed) out).Pairwise (· < ·) ∧ ∀ z, z ∈ l.foldl (mark bed) out ↔ z ∈ out ∨ ∃ w ∈ l, w.bed = bed ∧ (z = w.fr ∨ z = w.to)
  | [], out, h => ⟨h, fun z => by simp⟩
  | w :: l, out, h => by
    have hs : (mark bed out w).Pairwise (· < ·) := by
      unfold mark; split
      · exact put_sorted (put_sorted h)
      · exact h
    have ih := fold_marks bed l (mark bed out w) hs
    refine ⟨ih.1, fun z => ?_⟩
    rw [List.foldl_cons, ih.2]
    have hm : z ∈ mark bed out w ↔ z ∈ out ∨ (w.bed = bed ∧ (z = w.fr ∨ z = w.to)) := by
      unfold mark; split
      · rename_i hb; rw [mem_put, mem_put]; simp [hb]; constructor
        · rintro (h | h | h) <;> simp [h]
        · rintro (h | h | h) <;> simp [h]
      · rename_i hb; simp [hb]
    rw [hm]
    constructor
    · rintro ((h | h) | ⟨v, hv, h⟩)
      · exact Or.inl h
      · exact Or.inr ⟨w, by simp, h⟩
      · exact Or.inr ⟨v, by simp [hv], h⟩
    · rintro (h | ⟨v, hv, h⟩)
      · exact Or.inl (Or.inl h)
      · rcases List.mem_cons.1 hv with rfl | hv
        · exact Or.inl (Or.inr h)
        · exact Or.inr ⟨v, hv, h⟩
theorem marks_sorted (l : List Win) (bed : Int) : (marks l bed).Pairwise (· < ·) := (fold_marks bed l [] List.Pairwise.nil).1
theorem mem_marks {l : List Win} {bed z : Int} : z ∈ marks l bed ↔ ∃ w ∈ l, w.bed = bed ∧ (z = w.fr ∨ z = w.to) := by
  have := (fold_marks bed l [] List.Pairwise.nil).2 z
  unfold marks
  simpa using this
/-- Between two places all times are alike. -/
theorem has_const {l : List Win} {bed a t : Int} {k : List Int} (hk : ∀ w ∈ l, w.bed = bed → w.fr ∈ k ∧ w.to ∈ k) (hat : a ≤ t) (h : ∀ z ∈ k, ¬ (a < z ∧ z ≤ t)) : has l bed a = has l bed t := by
  have key : has l bed a = true ↔ has l bed t = true := by
    rw [has_iff, has_iff]
    constructor
    · rintro ⟨w, hw, h1, h2, h3⟩
      have := h w.to (hk w hw h1).2
      exact ⟨w, hw, h1, by omega, by omega⟩
    · rintro ⟨w, hw, h1, h2, h3⟩
      have := h w.fr (hk w hw h1).1
      exact ⟨w, hw, h1, by omega, by omega⟩
  cases ha : has l bed a <;> cases hb : has l bed t <;> simp_all

/-! ### the windows of some times -/
def joinW (bed k0 k1 : Int) (out : List Win) : List Win :=
  match out.getLast? with
  | some v => if v.bed = bed ∧ v.to = k0 then out.dropLast ++ [⟨bed, v.fr, k1⟩] else out ++ [⟨bed, k0, k1⟩]
  | none => [⟨bed, k0, k1⟩]
/-- So far, up to a place of a bed: the windows of just these times. -/
structure Inv (F : Int → Int → Bool) (bed k0 : Int) (out : List Win) : Prop where
  can : Can out
  le : ∀ v ∈ out, v.bed < bed ∨ (v.bed = bed ∧ v.to ≤ k0)
  hs : ∀ b t, has out b t = true ↔ (F b t = true ∧ (b < bed ∨ (b = bed ∧ t < k0)))
theorem last_split {out : List Win} {v : Win} (h : out.getLast? = some v) : ∃ d, out = d ++ [v] ∧ out.dropLast = d := by
  obtain ⟨d, e⟩ := List.getLast?_eq_some_iff.1 h
  exact ⟨d, e, by rw [e]; simp⟩
theorem Inv.join {F : Int → Int → Bool} {bed k0 k1 : Int} {out : List Win} (h : Inv F bed k0 out) (hk : k0 < k1) (hc : ∀ t, k0 ≤ t → t < k1 → F bed t = true) : Inv F bed k1 (joinW bed k0 k1 out) := by
  have hadd : ∀ (o' : List Win), (∀ b t, has o' b t = true ↔ has out b t = true ∨ (b = bed ∧ k0 ≤ t ∧ t < k1)) → ∀ b t, has o' b t = true ↔ (F b t = true ∧ (b < bed ∨ (b = bed ∧ t < k1))) := by
    intro o' ho b t
    rw [ho, h.hs]
    constructor
    · rintro (⟨h1, h2⟩ | ⟨rfl, h2, h3⟩)
      · exact ⟨h1, by omega⟩
      · exact ⟨hc t h2 h3, Or.inr ⟨rfl, h3⟩⟩
    · rintro ⟨h1, h2⟩
      by_cases hb : b = bed ∧ k0 ≤ t
      · exact Or.inr ⟨hb.1, hb.2, by omega⟩
      · exact Or.inl ⟨h1, by omega⟩
  unfold joinW
  cases hg : out.getLast? with
  | none =>
    obtain rfl : out = [] := by cases out with | nil => rfl | cons x l => simp [List.getLast?] at hg
    simp only
    refine ⟨⟨fun w hw => ?_, List.pairwise_singleton _ _⟩, fun w hw => ?_, hadd _ fun b t => ?_⟩
    · obtain rfl : w = ⟨bed, k0, k1⟩ := by simpa using hw
      exact hk
    · obtain rfl : w = ⟨bed, k0, k1⟩ := by simpa using hw
      exact Or.inr ⟨rfl, Int.le_refl _⟩
    · rw [has_iff, has_iff]
      constructor
      · rintro ⟨w, hw, h1, h2, h3⟩
        obtain rfl : w = ⟨bed, k0, k1⟩ := by simpa using hw
        exact Or.inr ⟨h1.symm, h2, h3⟩
      · rintro (⟨w, hw, _⟩ | ⟨h1, h2, h3⟩)
        · cases hw
        · exact ⟨⟨bed, k0, k1⟩, by simp, h1.symm, h2, h3⟩
  | some v =>
    obtain ⟨d, e1, e2⟩ := last_split hg
    simp only
    have hv : v ∈ out := by rw [e1]; simp
    have hd : ∀ x ∈ d, x ∈ out := fun x hx => by rw [e1]; simp [hx]
    have hpw := h.can.2
    rw [e1, List.pairwise_append] at hpw
    have hdv : ∀ x ∈ d, before x v := fun x hx => hpw.2.2 x hx v (by simp)
    have hvl := h.can.1 v hv
    have hvle := h.le v hv
    split
    · rename_i hvb
      rw [e2]
      refine ⟨⟨fun w hw => ?_, ?_⟩, fun w hw => ?_, hadd _ fun b t => ?_⟩
      · rcases List.mem_append.1 hw with hw | hw
        · exact h.can.1 w (hd w hw)
        · obtain rfl : w = ⟨bed, v.fr, k1⟩ := by simpa using hw
          simp only; omega
      · refine List.pairwise_append.2 ⟨hpw.1, List.pairwise_singleton _ _, fun x hx y hy => ?_⟩
        obtain rfl : y = ⟨bed, v.fr, k1⟩ := by simpa using hy
        have := hdv x hx
        unfold before at *
        simp only; omega
      · rcases List.mem_append.1 hw with hw | hw
        · have := h.le w (hd w hw); omega
        · obtain rfl : w = ⟨bed, v.fr, k1⟩ := by simpa using hw
          exact Or.inr ⟨rfl, Int.le_refl _⟩
      · rw [has_iff, has_iff]
        constructor
        · rintro ⟨w, hw, h1, h2, h3⟩
          rcases List.mem_append.1 hw with hw | hw
          · exact Or.inl ⟨w, hd w hw, h1, h2, h3⟩
          · obtain rfl : w = ⟨bed, v.fr, k1⟩ := by simpa using hw
            simp only at h1 h2 h3
            by_cases ht : t < k0
            · exact Or.inl ⟨v, hv, by omega, h2, by omega⟩
            · exact Or.inr ⟨h1.symm, by omega, h3⟩
        · rintro (⟨w, hw, h1, h2, h3⟩ | ⟨h1, h2, h3⟩)
          · rw [e1] at hw
            rcases List.mem_append.1 hw with hw | hw
            · exact ⟨w, by simp [hw], h1, h2, h3⟩
            · obtain rfl : w = v := by simpa using hw
              exact ⟨⟨bed, w.fr, k1⟩, by simp, by simp only; omega, h2, by simp only; omega⟩
          · exact ⟨⟨bed, v.fr, k1⟩, by simp, h1.symm, by simp only; omega, h3⟩
    · rename_i hvb
      refine ⟨⟨fun w hw => ?_, ?_⟩, fun w hw => ?_, hadd _ fun b t => ?_⟩
      · rcases List.mem_append.1 hw with hw | hw
        · exact h.can.1 w hw
        · obtain rfl : w = ⟨bed, k0, k1⟩ := by simpa using hw
          exact hk
      · refine List.pairwise_append.2 ⟨h.can.2, List.pairwise_singleton _ _, fun x hx y hy => ?_⟩
        obtain rfl : y = ⟨bed, k0, k1⟩ := by simpa using hy
        rw [e1] at hx
        rcases List.mem_append.1 hx with hx | hx
        · have := hdv x hx
          have := h.le x (hd x hx)
          unfold before at *
          simp only; omega
        · obtain rfl : x = v := by simpa using hx
          unfold before
          simp only; omega
      · rcases List.mem_append.1 hw with hw | hw
        · have := h.le w hw; omega
        · obtain rfl : w = ⟨bed, k0, k1⟩ := by simpa using hw
          exact Or.inr ⟨rfl, Int.le_refl _⟩
      · rw [has_app, Bool.or_eq_true]
        have : has [(⟨bed, k0, k1⟩ : Win)] b t = true ↔ (b = bed ∧ k0 ≤ t ∧ t < k1) := by
          rw [has_iff]
          constructor
          · rintro ⟨w, hw, h1, h2, h3⟩
            obtain rfl : w = ⟨bed, k0, k1⟩ := by simpa using hw
            exact ⟨h1.symm, h2, h3⟩
          · rintro ⟨h1, h2, h3⟩
            exact ⟨⟨bed, k0, k1⟩, by simp, h1.symm, h2, h3⟩
        rw [this]
theorem Inv.skip {F : Int → Int → Bool} {bed k0 k1 : Int} {out : List Win} (h : Inv F bed k0 out) (hk : k0 < k1) (hc : ∀ t, k0 ≤ t → t < k1 → F bed t = false) : Inv F bed k1 out := by
  refine ⟨h.can, fun v hv => by have := h.le v hv; omega, fun b t => ?_⟩
  rw [h.hs]
  constructor
  · rintro ⟨h1, h2⟩; exact ⟨h1, by omega⟩
  · rintro ⟨h1, h2⟩
    refine ⟨h1, ?_⟩
    by_cases hb : b = bed ∧ k0 ≤ t
    · have := hc t hb.2 (by omega)
      rw [← hb.1, h1] at this
      cases this
    · omega
/-- One place on. -/
def step (f : Int → Bool) (bed : Int) (k : List Int) (out : List Win) (i : Nat) : List Win := if f (k.getD i 0) then joinW bed (k.getD i 0) (k.getD (i + 1) 0) out else out
def segN (f : Int → Bool) (bed : Int) (k : List Int) (n : Nat) (out : List Win) : List Win := (List.range n).foldl (step f bed k) out
theorem segN_succ (f : Int → Bool) (bed : Int) (k : List Int) (n : Nat) (out : List Win) : segN f bed k (n + 1) out = step f bed k (segN f bed k n out) n := by
  unfold segN; rw [List.range_succ, List.foldl_append]; rfl
theorem getD_lt {k : List Int} (hs : k.Pairwise (· < ·)) {i j : Nat} (hij : i < j) (hj : j < k.length) : k.getD i 0 < k.getD j 0 := by
  have h := List.pairwise_iff_getElem.1 hs i j (by omega) hj hij
  rw [List.getD_eq_getElem?_getD, List.getD_eq_getElem?_getD, List.getElem?_eq_getElem (by omega), List.getElem?_eq_getElem hj]
  exact h
theorem mem_getD {k : List Int} {z : Int} (h : z ∈ k) : ∃ i, i < k.length ∧ k.getD i 0 = z := by
  obtain ⟨i, hi, e⟩ := List.mem_iff_getElem.1 h
  exact ⟨i, hi, by rw [List.getD_eq_getElem?_getD, List.getElem?_eq_getElem hi]; exact e⟩
/-- The windows of a bed's times behind those of the beds ahead. -/
theorem seg_inv {F : Int → Int → Bool} {bed : Int} {k : List Int} (hs : k.Pairwise (· < ·)) (hc : ∀ a t, a ≤ t → (∀ z ∈ k, ¬ (a < z ∧ z ≤ t)) → F bed a = F bed t) {out : List Win} (h0 : Inv F bed (k.getD 0 0) out) :
    ∀ n, n + 1 ≤ k.length → Inv F bed (k.getD n 0) (segN (F bed) bed k n out)
  | 0, _ => h0
  | n + 1, hn => by
    have ih := seg_inv hs hc h0 n (by omega)
    have hlt := getD_lt hs (Nat.lt_succ_self n) (by omega : n + 1 < k.length)
    have hcon : ∀ t, k.getD n 0 ≤ t → t < k.getD (n + 1) 0 → F bed t = F bed (k.getD n 0) := by
      intro t h1 h2
      refine (hc _ t h1 fun z hz hzz => ?_).symm
      obtain ⟨i, hi, e⟩ := mem_getD hz
      rcases Nat.lt_or_ge n i with hni | hni
      · have : k.getD (n + 1) 0 ≤ k.getD i 0 := by
          rcases Nat.lt_or_ge (n + 1) i with h3 | h3
          · exact Int.le_of_lt (getD_lt hs h3 hi)
          · have : i = n + 1 := by omega
            rw [this]; exact Int.le_refl _
        omega
      · have : k.getD i 0 ≤ k.getD n 0 := by
          rcases Nat.lt_or_ge i n with h3 | h3
          · exact Int.le_of_lt (getD_lt hs h3 (by omega))
          · have : i = n := by omega
            rw [this]; exact Int.le_refl _
        omega
    rw [segN_succ]
    unfold step
    cases hF : F bed (k.getD n 0)
    · rw [if_neg (by simp)]
      exact ih.skip hlt fun t h1 h2 => by rw [hcon t h1 h2, hF]
    · rw [if_pos rfl]
      exact ih.join hlt fun t h1 h2 => by rw [hcon t h1 h2, hF]
/-- All beds up to one. -/
def bedsN (F : Int → Int → Bool) (all : List Win) (n : Nat) : List Win :=
  (List.range n).foldl (fun out (i : Nat) => segN (F ((i : Int) + 1)) ((i : Int) + 1) (marks all ((i : Int) + 1)) ((marks all ((i : Int) + 1)).length - 1) out) []
theorem bedsN_succ (F : Int → Int → Bool) (all : List Win) (n : Nat) : bedsN F all (n + 1) = segN (F ((n : Int) + 1)) ((n : Int) + 1) (marks all ((n : Int) + 1)) ((marks all ((n : Int) + 1)).length - 1) (bedsN F all n) := by
  unfold bedsN; rw [List.range_succ, List.foldl_append]; rfl
/-- What the times of two rows are: of one or the other, or of one alone. -/
def F2 (l m : List Win) (both : Bool) (b t : Int) : Bool := if both then has l b t || has m b t else has l b t && !has m b t
theorem F2_has {l m : List Win} {both : Bool} {b t : Int} (h : F2 l m both b t = true) : has (l ++ m) b t = true := by
  unfold F2 at h
  rw [has_app]
  cases both <;> cases h1 : has l b t <;> cases h2 : has m b t <;> simp [h1, h2] at h ⊢
def wins (l m : List Win) (both : Bool) : List Win := bedsN (F2 l m both) (l ++ m) 99
theorem F2_const {l m : List Win} {both : Bool} {bed a t : Int} (hat : a ≤ t) (h : ∀ z ∈ marks (l ++ m) bed, ¬ (a < z ∧ z ≤ t)) : F2 l m both bed a = F2 l m both bed t := by
  have h1 := has_const (l := l) (bed := bed) (fun w hw hb => ⟨mem_marks.2 ⟨w, by simp [hw], hb, Or.inl rfl⟩, mem_marks.2 ⟨w, by simp [hw], hb, Or.inr rfl⟩⟩) hat h
  have h2 := has_const (l := m) (bed := bed) (fun w hw hb => ⟨mem_marks.2 ⟨w, by simp [hw], hb, Or.inl rfl⟩, mem_marks.2 ⟨w, by simp [hw], hb, Or.inr rfl⟩⟩) hat h
  unfold F2
  rw [h1, h2]
theorem getD_min {k : List Int} (hs : k.Pairwise (· < ·)) {z : Int} (h : z ∈ k) : k.getD 0 0 ≤ z ∧ z ≤ k.getD (k.length - 1) 0 := by
  obtain ⟨i, hi, rfl⟩ := mem_getD h
  constructor
  · rcases Nat.eq_zero_or_pos i with rfl | hp
    · exact Int.le_refl _
    · exact Int.le_of_lt (getD_lt hs hp hi)
  · rcases Nat.lt_or_ge i (k.length - 1) with hp | hp
    · exact Int.le_of_lt (getD_lt hs hp (by omega))
    · have : i = k.length - 1 := by omega
      rw [this]; exact Int.le_refl _
/-- What stands behind n beds. -/
theorem beds_inv (l m : List Win) (both : Bool) (hp : ∀ w ∈ l ++ m, 1 ≤ w.bed) : ∀ n : Nat, Can (bedsN (F2 l m both) (l ++ m) n) ∧ (∀ v ∈ bedsN (F2 l m both) (l ++ m) n, v.bed < (n : Int) + 1) ∧ ∀ b t, has (bedsN (F2 l m both) (l ++ m) n) b t = true ↔ (F2 l m both b t = true ∧ b < (n : Int) + 1)
  | 0 => by
    have e : bedsN (F2 l m both) (l ++ m) 0 = [] := rfl
    rw [e]
    refine ⟨⟨(fun _ h => by cases h), List.Pairwise.nil⟩, (fun _ h => by cases h), fun b t => ⟨(fun h => by rw [has_nil] at h; cases h), fun h => ?_⟩⟩
    obtain ⟨w, hw, h1, _⟩ := has_iff.1 (F2_has h.1)
    have := hp w hw
    have := h.2
    exfalso
    omega
  | n + 1 => by
    obtain ⟨c1, c2, c3⟩ := beds_inv l m both hp n
    rw [bedsN_succ]
    obtain ⟨bed, hbed⟩ : ∃ bed : Int, bed = (n : Int) + 1 := ⟨_, rfl⟩
    rw [← hbed] at c2 c3 ⊢
    have eb : ((n + 1 : Nat) : Int) + 1 = bed + 1 := by rw [hbed]; omega
    rw [eb]
    obtain ⟨out, hout⟩ : ∃ out, out = bedsN (F2 l m both) (l ++ m) n := ⟨_, rfl⟩
    rw [← hout] at c1 c2 c3 ⊢
    have hs := marks_sorted (l ++ m) bed
    have hm := fun z => mem_marks (l := l ++ m) (bed := bed) (z := z)
    have hc : ∀ a t, a ≤ t → (∀ z ∈ marks (l ++ m) bed, ¬ (a < z ∧ z ≤ t)) → F2 l m both bed a = F2 l m both bed t := fun a t h1 h2 => F2_const h1 h2
    obtain ⟨k, hk⟩ : ∃ k, k = marks (l ++ m) bed := ⟨_, rfl⟩
    rw [← hk] at hs hm hc ⊢
    have hF : ∀ t, F2 l m both bed t = true → ∃ x ∈ k, ∃ y ∈ k, x ≤ t ∧ t < y := fun t h => by
      obtain ⟨w, hw, h1, h2, h3⟩ := has_iff.1 (F2_has h)
      exact ⟨w.fr, (hm _).2 ⟨w, hw, h1, Or.inl rfl⟩, w.to, (hm _).2 ⟨w, hw, h1, Or.inr rfl⟩, h2, h3⟩
    have h0 : Inv (F2 l m both) bed (k.getD 0 0) out := by
      refine ⟨c1, fun v hv => Or.inl (c2 v hv), fun b t => ?_⟩
      rw [c3]
      constructor
      · rintro ⟨h1, h2⟩; exact ⟨h1, Or.inl h2⟩
      · rintro ⟨h1, h2 | ⟨rfl, h2⟩⟩
        · exact ⟨h1, h2⟩
        · obtain ⟨x, hx, _, _, h3, _⟩ := hF t h1
          have := (getD_min hs hx).1
          exfalso
          omega
    cases hkl : k.length with
    | zero =>
      have hk0 : k = [] := List.length_eq_zero_iff.1 hkl
      have e : segN (F2 l m both bed) bed k (0 - 1) out = out := rfl
      rw [e]
      refine ⟨c1, fun v hv => by have := c2 v hv; omega, fun b t => ?_⟩
      rw [c3]
      constructor
      · rintro ⟨h1, h2⟩; exact ⟨h1, by omega⟩
      · rintro ⟨h1, h2⟩
        refine ⟨h1, ?_⟩
        by_cases hb : b = bed
        · rw [hb] at h1
          obtain ⟨x, hx, _⟩ := hF t h1
          rw [hk0] at hx
          cases hx
        · omega
    | succ q =>
      have hi := seg_inv hs hc h0 q (by omega)
      have e : q + 1 - 1 = q := by omega
      rw [e]
      refine ⟨hi.can, fun v hv => by have := hi.le v hv; omega, fun b t => ?_⟩
      rw [hi.hs]
      constructor
      · rintro ⟨h1, h2⟩; exact ⟨h1, by omega⟩
      · rintro ⟨h1, h2⟩
        refine ⟨h1, ?_⟩
        by_cases hb : b = bed
        · rw [hb] at h1
          obtain ⟨_, _, y, hy, _, h3⟩ := hF t h1
          have := (getD_min hs hy).2
          rw [hkl, e] at this
          exact Or.inr ⟨hb, by omega⟩
        · omega
/-- The windows of the times of two rows: one behind the other, of just these times, and they may be. -/
theorem wins_spec {l m : List Win} {both : Bool} (h : ∀ w ∈ l ++ m, may w = true) : Can (wins l m both) ∧ (∀ b t, has (wins l m both) b t = F2 l m both b t) ∧ ∀ v ∈ wins l m both, may v = true := by
  obtain ⟨c1, _, c3⟩ := beds_inv l m both (fun w hw => (may_iff.1 (h w hw)).1) 99
  have hF : ∀ b t, has (wins l m both) b t = true ↔ F2 l m both b t = true := by
    intro b t
    unfold wins
    rw [c3]
    constructor
    · exact fun h => h.1
    · intro h1
      obtain ⟨w, hw, h2, _⟩ := has_iff.1 (F2_has h1)
      have := may_iff.1 (h w hw)
      exact ⟨h1, by omega⟩
  refine ⟨c1, fun b t => ?_, fun v hv => ?_⟩
  · have := hF b t
    cases h1 : has (wins l m both) b t <;> cases h2 : F2 l m both b t <;> simp_all
  · have hlt := c1.1 v hv
    have a1 := (hF v.bed v.fr).1 (has_iff.2 ⟨v, hv, rfl, Int.le_refl _, hlt⟩)
    have a2 := (hF v.bed (v.to - 1)).1 (has_iff.2 ⟨v, hv, rfl, by omega, by omega⟩)
    obtain ⟨w1, hw1, h1, h2, h3⟩ := has_iff.1 (F2_has a1)
    obtain ⟨w2, hw2, h4, h5, h6⟩ := has_iff.1 (F2_has a2)
    have m1 := may_iff.1 (h w1 hw1)
    have m2 := may_iff.1 (h w2 hw2)
    exact may_iff.2 ⟨by omega, by omega, by omega, hlt, by omega⟩
end Mu
end Go.Proofs.Ythbkfjnpdcfepaa
