/-
  Plain mathematics of layer 1 (wire): a number's digits, its bytes, and how bytes are read. No program, no memory.
-/
namespace Go.Proofs.Yteepemibmjpnfaa
set_option maxRecDepth 10000
namespace Wm

def maxN : Nat := 2147483647

/-- The digits of n, the lowest first. -/
def digs (n : Nat) : List UInt8 :=
  if _h : n = 0 then [] else UInt8.ofNat (n % 250) :: digs (n / 250)
termination_by n
decreasing_by omega

theorem digs_zero : digs 0 = [] := by unfold digs; simp
theorem digs_pos {n : Nat} (h : 0 < n) : digs n = UInt8.ofNat (n % 250) :: digs (n / 250) := by
  rw [digs]; simp [Nat.ne_of_gt h]

/-- A number's end byte. -/
def endB (n : Int) : UInt8 := if n < 0 then 254 else 255

def lay (n : Int) : List UInt8 := digs n.natAbs ++ [endB n]

def lays (l : List Int) : List UInt8 := l.flatMap lay

/-- Is a number one that has bytes? -/
def fits (n : Int) : Bool := decide (-2147483647 ≤ n) && decide (n ≤ 2147483647)

theorem fits_iff {n : Int} : fits n = true ↔ -2147483647 ≤ n ∧ n ≤ 2147483647 := by simp [fits]

/-- The number that digits make. -/
def val : List UInt8 → Nat
  | [] => 0
  | d :: ds => d.toNat + 250 * val ds

theorem val_digs (n : Nat) : val (digs n) = n := by
  induction n using Nat.strongRecOn with
  | _ n ih =>
    by_cases h : n = 0
    · subst h; rw [digs_zero]; rfl
    · rw [digs_pos (by omega)]
      have h1 : (UInt8.ofNat (n % 250)).toNat = n % 250 := by
        rw [UInt8.toNat_ofNat']; omega
      simp only [val, h1, ih (n / 250) (by omega)]
      omega

theorem digs_lt (n : Nat) : ∀ d ∈ digs n, d.toNat < 250 := by
  induction n using Nat.strongRecOn with
  | _ n ih =>
    by_cases h : n = 0
    · subst h; rw [digs_zero]; simp
    · rw [digs_pos (by omega)]
      intro d hd
      rcases List.mem_cons.1 hd with rfl | hd
      · rw [UInt8.toNat_ofNat']; omega
      · exact ih (n / 250) (by omega) d hd

theorem digs_nil {n : Nat} : digs n = [] ↔ n = 0 := by
  constructor
  · intro h
    by_cases h0 : n = 0
    · exact h0
    · rw [digs_pos (by omega)] at h; cases h
  · rintro rfl; exact digs_zero

theorem digs_last (n : Nat) : (digs n).getLast? ≠ some 0 := by
  induction n using Nat.strongRecOn with
  | _ n ih =>
    by_cases h : n = 0
    · subst h; rw [digs_zero]; simp
    · rw [digs_pos (by omega)]
      by_cases h2 : n / 250 = 0
      · rw [h2, digs_zero]
        simp only [List.getLast?_singleton, ne_eq, Option.some.injEq]
        intro hc
        have := congrArg UInt8.toNat hc
        rw [UInt8.toNat_ofNat'] at this
        simp at this
        omega
      · have := ih (n / 250) (by omega)
        rw [List.getLast?_cons]
        have hne : digs (n / 250) ≠ [] := fun hh => h2 (digs_nil.1 hh)
        rw [List.getLast?_eq_some_getLast hne] at this ⊢
        simpa using this

/-- Digits that are a number's: each below 250, the last not 0. -/
def proper (ds : List UInt8) : Prop := (∀ d ∈ ds, d.toNat < 250) ∧ ds.getLast? ≠ some 0

theorem proper_digs (n : Nat) : proper (digs n) := ⟨digs_lt n, digs_last n⟩

theorem val_pos {ds : List UInt8} (h : proper ds) (hne : ds ≠ []) : 0 < val ds := by
  induction ds with
  | nil => exact absurd rfl hne
  | cons d ds ih =>
    by_cases h2 : ds = []
    · subst h2
      have := h.2
      simp at this
      have : d.toNat ≠ 0 := fun hc => this (UInt8.toNat_inj.1 (by simpa using hc))
      simp [val]; omega
    · have hp : proper ds := ⟨fun x hx => h.1 x (List.mem_cons_of_mem _ hx), by
        have := h.2
        rw [List.getLast?_cons, List.getLast?_eq_some_getLast h2] at this
        rw [List.getLast?_eq_some_getLast h2]; simpa using this⟩
      have := ih hp h2
      simp [val]; omega

theorem digs_val {ds : List UInt8} (h : proper ds) : digs (val ds) = ds := by
  induction ds with
  | nil => exact digs_zero
  | cons d ds ih =>
    have hd : d.toNat < 250 := h.1 d (List.mem_cons_self ..)
    have hpos := val_pos h (by simp)
    rw [digs_pos hpos]
    have hp : proper ds := by
      by_cases h2 : ds = []
      · subst h2; exact ⟨by simp, by simp⟩
      · exact ⟨fun x hx => h.1 x (List.mem_cons_of_mem _ hx), by
          have := h.2
          rw [List.getLast?_cons, List.getLast?_eq_some_getLast h2] at this
          rw [List.getLast?_eq_some_getLast h2]; simpa using this⟩
    have e1 : val (d :: ds) % 250 = d.toNat := by simp only [val]; omega
    have e2 : val (d :: ds) / 250 = val ds := by simp only [val]; omega
    rw [e1, e2, ih hp]
    simp

end Wm
end Go.Proofs.Yteepemibmjpnfaa
