/-
  Layer 4 (spot): which spots may be.
-/
namespace Go.Proofs.Ythlojadkgpmnmaa

/-- May a bed and a channel be? -/
def Sp.may (b c : Int) : Bool := decide (1 ≤ b) && decide (b ≤ 99) && decide (0 ≤ c) && decide (c < 8)
theorem Sp.may_iff {b c : Int} : Sp.may b c = true ↔ 1 ≤ b ∧ b ≤ 99 ∧ 0 ≤ c ∧ c < 8 := by
  simp [Sp.may]; omega
theorem Sp.may_not {b c : Int} : Sp.may b c = false ↔ ¬ (1 ≤ b ∧ b ≤ 99 ∧ 0 ≤ c ∧ c < 8) := by
  rw [← Sp.may_iff]; simp
/-- Is one less than another? -/
def Sp.less (b c b' c' : Int) : Bool := decide (b < b') || (b == b' && decide (c < c'))
theorem Sp.less_iff {b c b' c' : Int} : Sp.less b c b' c' = true ↔ b < b' ∨ (b = b' ∧ c < c') := by simp [Sp.less]

end Go.Proofs.Ythlojadkgpmnmaa
