/-
  Plain mathematics of layer 2 (sum): a shift, a step, a sum, where a sum is found. No program, no memory.
-/
namespace Go.Proofs.Yteepemibmjpnfaa
set_option maxRecDepth 10000
namespace Sm

/-- One shift. -/
def sh (c : Nat) : Nat := if 32768 ≤ c then (2 * c % 65536) ^^^ 4129 else 2 * c % 65536
/-- k shifts. -/
def it : Nat → Nat → Nat
  | 0, c => c
  | k + 1, c => sh (it k c)
/-- A step by one byte. -/
def st (c b : Nat) : Nat := it 8 (c ^^^ 256 * b)
/-- A sum that goes on by bytes. -/
def go (c : Nat) (l : List UInt8) : Nat := l.foldl (fun c b => st c b.toNat) c
/-- The sum of bytes. -/
def ofL (l : List UInt8) : Nat := go 65535 l

theorem xor_lt {a b : Nat} (ha : a < 65536) (hb : b < 65536) : a ^^^ b < 65536 := Nat.xor_lt_two_pow (n := 16) ha hb

theorem sh_lt (c : Nat) : sh c < 65536 := by
  unfold sh
  split
  · exact xor_lt (by omega) (by decide)
  · omega

theorem it_lt {k c : Nat} (h : c < 65536) : it k c < 65536 := by
  cases k with
  | zero => exact h
  | succ k => exact sh_lt _

theorem st_lt {c b : Nat} (h : c < 65536) (hb : b < 256) : st c b < 65536 := it_lt (xor_lt h (by omega))

theorem go_nil (c : Nat) : go c [] = c := rfl
theorem go_cons (c : Nat) (b : UInt8) (l : List UInt8) : go c (b :: l) = go (st c b.toNat) l := by unfold go; rw [List.foldl_cons]

theorem go_lt {c : Nat} (h : c < 65536) (l : List UInt8) : go c l < 65536 := by
  induction l generalizing c with
  | nil => exact h
  | cons b l ih => rw [go_cons]; exact ih (st_lt h b.toNat_lt)

theorem ofL_lt (l : List UInt8) : ofL l < 65536 := by unfold ofL; exact go_lt (by omega) l

theorem go_append (c : Nat) (l m : List UInt8) : go c (l ++ m) = go (go c l) m := by
  unfold go; rw [List.foldl_append]
theorem go_one (c : Nat) (b : UInt8) : go c [b] = st c b.toNat := by rw [go_cons, go_nil]
theorem ofL_snoc (l : List UInt8) (b : UInt8) : ofL (l ++ [b]) = st (ofL l) b.toNat := by
  unfold ofL; rw [go_append, go_one]

theorem hi_iff {c : Nat} (h : c < 65536) : (32768 ≤ c) ↔ c.testBit 15 = true := by
  rw [Nat.testBit_eq_decide_div_mod_eq, decide_eq_true_iff]; omega

theorem dbl_xor (a b : Nat) : 2 * (a ^^^ b) % 65536 = (2 * a % 65536) ^^^ (2 * b % 65536) := by
  have e : ∀ x : Nat, 2 * x = x <<< 1 := fun x => by rw [Nat.shiftLeft_eq]; omega
  rw [e, e, e, Nat.shiftLeft_xor_distrib]
  exact Nat.xor_mod_two_pow (n := 16)

theorem sh_xor {a b : Nat} (ha : a < 65536) (hb : b < 65536) : sh (a ^^^ b) = sh a ^^^ sh b := by
  have h := hi_iff (xor_lt ha hb)
  rw [Nat.testBit_xor] at h
  unfold sh
  by_cases h1 : 32768 ≤ a <;> by_cases h2 : 32768 ≤ b
  · have h3 : ¬ 32768 ≤ a ^^^ b := by rw [h, (hi_iff ha).1 h1, (hi_iff hb).1 h2]; simp
    rw [if_pos h1, if_pos h2, if_neg h3, dbl_xor, Nat.xor_assoc, Nat.xor_comm 4129, Nat.xor_assoc, Nat.xor_self, Nat.xor_zero]
  · have e2 : b.testBit 15 = false := by rw [← Bool.not_eq_true, ← hi_iff hb]; exact h2
    have h3 : 32768 ≤ a ^^^ b := by rw [h, (hi_iff ha).1 h1, e2]; rfl
    rw [if_pos h1, if_neg h2, if_pos h3, dbl_xor, Nat.xor_assoc, Nat.xor_assoc, Nat.xor_comm 4129]
  · have e1 : a.testBit 15 = false := by rw [← Bool.not_eq_true, ← hi_iff ha]; exact h1
    have h3 : 32768 ≤ a ^^^ b := by rw [h, (hi_iff hb).1 h2, e1]; rfl
    rw [if_neg h1, if_pos h2, if_pos h3, dbl_xor, Nat.xor_assoc]
  · have e1 : a.testBit 15 = false := by rw [← Bool.not_eq_true, ← hi_iff ha]; exact h1
    have e2 : b.testBit 15 = false := by rw [← Bool.not_eq_true, ← hi_iff hb]; exact h2
    have h3 : ¬ 32768 ≤ a ^^^ b := by rw [h, e1, e2]; simp
    rw [if_neg h1, if_neg h2, if_neg h3, dbl_xor]

theorem xor_zero_iff {a b : Nat} : a ^^^ b = 0 ↔ a = b := by
  constructor
  · intro h
    have := congrArg (· ^^^ b) h
    simpa [Nat.xor_assoc] using this
  · rintro rfl; exact Nat.xor_self _

theorem sh_zero {c : Nat} (h : c < 65536) (hs : sh c = 0) : c = 0 := by
  unfold sh at hs
  split at hs
  · have := xor_zero_iff.1 hs; omega
  · omega

theorem sh_inj {a b : Nat} (ha : a < 65536) (hb : b < 65536) (h : sh a = sh b) : a = b := by
  have := sh_xor ha hb
  rw [h, Nat.xor_self] at this
  exact xor_zero_iff.1 (sh_zero (xor_lt ha hb) this)

theorem it_inj {k a b : Nat} (ha : a < 65536) (hb : b < 65536) (h : it k a = it k b) : a = b := by
  induction k with
  | zero => exact h
  | succ k ih => exact ih (sh_inj (it_lt ha) (it_lt hb) h)

theorem it_xor {k a b : Nat} (ha : a < 65536) (hb : b < 65536) : it k (a ^^^ b) = it k a ^^^ it k b := by
  induction k with
  | zero => rfl
  | succ k ih => show sh (it k (a ^^^ b)) = _; rw [ih, sh_xor (it_lt ha) (it_lt hb)]; rfl

theorem xor_left {a b c : Nat} (h : a ^^^ b = a ^^^ c) : b = c := by
  have := congrArg (a ^^^ ·) h
  simpa [← Nat.xor_assoc] using this
theorem xor_right {a b c : Nat} (h : b ^^^ a = c ^^^ a) : b = c := xor_left (a := a) (by rw [Nat.xor_comm, h, Nat.xor_comm])

theorem st_inj {c d b : Nat} (hc : c < 65536) (hd : d < 65536) (hb : b < 256) (h : st c b = st d b) : c = d :=
  xor_right (it_inj (xor_lt hc (by omega)) (xor_lt hd (by omega)) h)
theorem st_byte {c a b : Nat} (hc : c < 65536) (ha : a < 256) (hb : b < 256) (h : st c a = st c b) : a = b := by
  have := xor_left (it_inj (xor_lt hc (by omega)) (xor_lt hc (by omega)) h)
  omega

theorem go_inj {c d : Nat} (hc : c < 65536) (hd : d < 65536) (l : List UInt8) (h : go c l = go d l) : c = d := by
  induction l generalizing c d with
  | nil => exact h
  | cons b l ih => rw [go_cons, go_cons] at h; exact st_inj hc hd b.toNat_lt (ih (st_lt hc b.toNat_lt) (st_lt hd b.toNat_lt) h)

theorem mul_xor (a b : Nat) : 256 * (a ^^^ b) = 256 * a ^^^ 256 * b := by
  have e : ∀ x : Nat, 256 * x = x <<< 8 := fun x => by rw [Nat.shiftLeft_eq]; omega
  rw [e, e, e, Nat.shiftLeft_xor_distrib]

theorem no_fix : ∀ x : Nat, x < 256 → it 8 (256 * x) = 256 * x → x = 0 := by decide +kernel

theorem xor4 {p q r s : Nat} (h : p ^^^ q = r ^^^ s) : p ^^^ r = s ^^^ q := by
  have h2 := congrArg (fun z => r ^^^ z ^^^ q) h
  simp only [Nat.xor_assoc] at h2
  rw [Nat.xor_self, Nat.xor_zero, ← Nat.xor_assoc r r, Nat.xor_self, Nat.zero_xor, Nat.xor_comm] at h2
  exact h2

theorem swap {c a b : Nat} (hc : c < 65536) (ha : a < 256) (hb : b < 256) (h : st (st c a) b = st (st c b) a) : a = b := by
  have hA : 256 * a < 65536 := by omega
  have hB : 256 * b < 65536 := by omega
  have h1 := it_inj (xor_lt (st_lt hc ha) hB) (xor_lt (st_lt hc hb) hA) h
  unfold st at h1
  rw [it_xor hc hA, it_xor hc hB, Nat.xor_assoc, Nat.xor_assoc] at h1
  have h2 := xor_left h1
  have h3 := xor4 h2
  rw [← it_xor hA hB, ← mul_xor] at h3
  exact xor_zero_iff.1 (no_fix _ (Nat.xor_lt_two_pow (n := 8) ha hb) h3)

/-- One byte that is another one. -/
theorem sees (p q : List UInt8) (x y : UInt8) : ofL (p ++ x :: q) = ofL (p ++ y :: q) ↔ x = y := by
  constructor
  · intro h
    unfold ofL at h
    rw [go_append, go_append, go_cons, go_cons] at h
    have hp : go 65535 p < 65536 := ofL_lt p
    generalize go 65535 p = c at *
    have h1 := go_inj (st_lt hp x.toNat_lt) (st_lt hp y.toNat_lt) q h
    exact UInt8.toNat_inj.1 (st_byte hp x.toNat_lt y.toNat_lt h1)
  · rintro rfl; rfl

/-- Two side by side that change places. -/
theorem sees2 (p q : List UInt8) (x y : UInt8) : ofL (p ++ y :: x :: q) = ofL (p ++ x :: y :: q) ↔ x = y := by
  constructor
  · intro h
    unfold ofL at h
    rw [go_append, go_append, go_cons, go_cons, go_cons, go_cons] at h
    have hp : go 65535 p < 65536 := ofL_lt p
    generalize go 65535 p = c at *
    have h1 := go_inj (st_lt (st_lt hp y.toNat_lt) x.toNat_lt) (st_lt (st_lt hp x.toNat_lt) y.toNat_lt) q h
    exact UInt8.toNat_inj.1 (swap hp y.toNat_lt x.toNat_lt h1).symm
  · rintro rfl; rfl

theorem ofL_more (l m r : List UInt8) : ofL (l ++ r) = ofL (m ++ r) ↔ ofL l = ofL m := by
  constructor
  · intro h
    unfold ofL at h
    rw [go_append, go_append] at h
    have hl : go 65535 l < 65536 := ofL_lt l
    have hm : go 65535 m < 65536 := ofL_lt m
    unfold ofL
    generalize go 65535 l = c at *
    generalize go 65535 m = d at *
    exact go_inj hl hm r h
  · intro h; unfold ofL at h ⊢; rw [go_append, go_append, h]

/-- Is c the sum of the first k bytes, and k at most most? -/
def isAt (l : List UInt8) (c most : Int) (k : Nat) : Bool := decide ((k : Int) ≤ most) && decide ((ofL (l.take k) : Int) = c)
def fnd (l : List UInt8) (c most : Int) : Option Nat := (List.range (l.length + 1)).find? (isAt l c most)
def fndK (l : List UInt8) (c most : Int) : Nat := (fnd l c most).getD 0
def fndB (l : List UInt8) (c most : Int) : Bool := (fnd l c most).isSome

theorem find_range {n k : Nat} {p : Nat → Bool} (hk : k < n) (h : p k = true) (hn : ∀ j, j < k → p j = false) : (List.range n).find? p = some k := by
  rw [List.find?_range_eq_some]
  exact ⟨h, by simpa using hk, fun j hj => by simp [hn j hj]⟩

theorem fnd_at {l : List UInt8} {c most : Int} {k : Nat} (hk : k ≤ l.length) (h : isAt l c most k = true) (hn : ∀ j, j < k → isAt l c most j = false) : fndK l c most = k ∧ fndB l c most = true := by
  have : fnd l c most = some k := find_range (by omega) h hn
  unfold fndK fndB
  rw [this]; exact ⟨rfl, rfl⟩

theorem fnd_none {l : List UInt8} {c most : Int} (hn : ∀ j, j ≤ l.length → isAt l c most j = false) : fndK l c most = 0 ∧ fndB l c most = false := by
  have : fnd l c most = none := by
    unfold fnd
    rw [List.find?_eq_none]
    intro j hj
    rw [List.mem_range] at hj
    simp [hn j (by omega)]
  unfold fndK fndB
  rw [this]; exact ⟨rfl, rfl⟩

theorem fnd_cases (l : List UInt8) (c most : Int) : (fndK l c most ≤ l.length ∧ fndB l c most = true ∧ isAt l c most (fndK l c most) = true ∧ ∀ j, j < fndK l c most → isAt l c most j = false) ∨
    (fndK l c most = 0 ∧ fndB l c most = false ∧ ∀ j, j ≤ l.length → isAt l c most j = false) := by
  unfold fndK fndB
  cases h : fnd l c most with
  | none =>
    right
    refine ⟨rfl, rfl, fun j hj => ?_⟩
    unfold fnd at h
    rw [List.find?_eq_none] at h
    simpa using h j (by rw [List.mem_range]; omega)
  | some k =>
    left
    unfold fnd at h
    rw [List.find?_range_eq_some] at h
    obtain ⟨h1, h2, h3⟩ := h
    rw [List.mem_range] at h2
    exact ⟨by simp; omega, rfl, h1, fun j hj => by simpa using h3 j hj⟩

/-- The bits in which two numbers are unlike, the first i of them. -/
theorem unlike_succ (a b i : Nat) : (a ^^^ b) % 2 ^ (i + 1) = (a ^^^ b) % 2 ^ i + (if a / 2 ^ i % 2 = b / 2 ^ i % 2 then 0 else 2 ^ i) := by
  have hb : (a ^^^ b) / 2 ^ i % 2 = ((a ^^^ b).testBit i).toNat := by
    rw [Nat.testBit_eq_decide_div_mod_eq]
    have := Nat.mod_lt ((a ^^^ b) / 2 ^ i) (show 0 < 2 by decide)
    by_cases h : (a ^^^ b) / 2 ^ i % 2 = 1
    · rw [h]; rfl
    · rw [show (a ^^^ b) / 2 ^ i % 2 = 0 by omega]; rfl
  rw [Nat.mod_pow_succ, hb, Nat.testBit_xor, Nat.testBit_eq_decide_div_mod_eq, Nat.testBit_eq_decide_div_mod_eq]
  clear hb
  have h1 : a / 2 ^ i % 2 < 2 := Nat.mod_lt _ (by decide)
  have h2 : b / 2 ^ i % 2 < 2 := Nat.mod_lt _ (by decide)
  generalize a / 2 ^ i % 2 = x at *
  generalize b / 2 ^ i % 2 = y at *
  generalize 2 ^ i = w
  have : (x = 0 ∨ x = 1) ∧ (y = 0 ∨ y = 1) := by omega
  rcases this with ⟨rfl | rfl, rfl | rfl⟩ <;> simp

end Sm
end Go.Proofs.Yteepemibmjpnfaa
