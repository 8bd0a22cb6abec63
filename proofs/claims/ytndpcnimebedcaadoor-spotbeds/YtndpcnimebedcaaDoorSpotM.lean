/-
  Layer 4 (spot), plain mathematics: what may be, numbers, texts, and what a text is of.
-/
import Derived.Test.YtndpcnimebedcaaDoorAid
import Derived.Lib.AtoiAll
import Derived.Lib.ItoaNum
import Derived.Lib.Bytealg
import Derived.Lib.IndexLaws
namespace Go.Proofs.YtndpcnimebedcaaDoor

/-- May a bed and a channel be? -/
def Sp.may (b c : Int) : Bool := decide (1 ≤ b) && decide (b ≤ 99) && decide (0 ≤ c) && decide (c < 8)
theorem Sp.may_iff {b c : Int} : Sp.may b c = true ↔ 1 ≤ b ∧ b ≤ 99 ∧ 0 ≤ c ∧ c < 8 := by
  simp [Sp.may]; omega
theorem Sp.may_not {b c : Int} : Sp.may b c = false ↔ ¬ (1 ≤ b ∧ b ≤ 99 ∧ 0 ≤ c ∧ c < 8) := by
  rw [← Sp.may_iff]; simp
/-- Its number, and the refusal. -/
def Sp.num (b c : Int) : Int := if Sp.may b c then 8 * (b - 1) + c else 0
def Sp.numE (b c : Int) : Int := if Sp.may b c then 0 else 1
/-- The spot of a number. -/
def Sp.isNum (n : Int) : Bool := decide (0 ≤ n) && decide (n < 792)
theorem Sp.isNum_iff {n : Int} : Sp.isNum n = true ↔ 0 ≤ n ∧ n < 792 := by simp [Sp.isNum]
def Sp.atB (n : Int) : Int := if Sp.isNum n then n / 8 + 1 else 0
def Sp.atC (n : Int) : Int := if Sp.isNum n then n % 8 else 0
def Sp.atE (n : Int) : Int := if Sp.isNum n then 0 else 1
/-- Is one less than another? -/
def Sp.less (b c b' c' : Int) : Bool := decide (b < b') || (b == b' && decide (c < c'))

/-- The text of a spot that may be. -/
def Sp.txt (b c : Int) : List UInt8 := Lib.decDigits b.toNat ++ [47] ++ Lib.decDigits c.toNat
def Sp.prn (b c : Int) : List UInt8 := if Sp.may b c then Sp.txt b c else []
/-- The number that a text is, read loosely. -/
def Sp.loose (l : List UInt8) : Int := match Lib.atoiAll l with
  | .ok v => v
  | .range => Lib.atoiSat l
  | _ => 0
/-- What stands ahead of a text's first stroke, and behind it. -/
def Sp.cutA (l : List UInt8) : List UInt8 := if Lib.indexByte l 47 < 0 then l else l.take (Lib.indexByte l 47).toNat
def Sp.cutB (l : List UInt8) : List UInt8 := if Lib.indexByte l 47 < 0 then [] else l.drop ((Lib.indexByte l 47).toNat + 1)
/-- The spot that a text is of. -/
def Sp.ok (l : List UInt8) : Bool := Sp.may (Sp.loose (Sp.cutA l)) (Sp.loose (Sp.cutB l)) && decide (Sp.txt (Sp.loose (Sp.cutA l)) (Sp.loose (Sp.cutB l)) = l)
def Sp.parB (l : List UInt8) : Int := if Sp.ok l then Sp.loose (Sp.cutA l) else 0
def Sp.parC (l : List UInt8) : Int := if Sp.ok l then Sp.loose (Sp.cutB l) else 0
def Sp.parE (l : List UInt8) : Int := if Sp.ok l then 0 else 20

theorem Sp.txt_back (b c : Nat) (hb : b < 100) (hc : c < 8) : Sp.loose (Sp.cutA (Lib.decDigits b ++ [47] ++ Lib.decDigits c)) = b ∧ Sp.loose (Sp.cutB (Lib.decDigits b ++ [47] ++ Lib.decDigits c)) = c := by
  have h : ∀ b : Fin 100, ∀ c : Fin 8, Sp.loose (Sp.cutA (Lib.decDigits b.val ++ [47] ++ Lib.decDigits c.val)) = (b.val : Int) ∧ Sp.loose (Sp.cutB (Lib.decDigits b.val ++ [47] ++ Lib.decDigits c.val)) = (c.val : Int) := by decide +kernel
  exact h ⟨b, hb⟩ ⟨c, hc⟩
theorem Sp.txt_loose {b c : Int} (h : Sp.may b c = true) : Sp.loose (Sp.cutA (Sp.txt b c)) = b ∧ Sp.loose (Sp.cutB (Sp.txt b c)) = c := by
  have hm := Sp.may_iff.1 h
  have := Sp.txt_back b.toNat c.toNat (by omega) (by omega)
  unfold Sp.txt
  refine ⟨this.1.trans (by omega), this.2.trans (by omega)⟩
theorem Sp.txt_ok {b c : Int} (h : Sp.may b c = true) : Sp.ok (Sp.txt b c) = true := by
  unfold Sp.ok
  rw [(Sp.txt_loose h).1, (Sp.txt_loose h).2, h]
  simp
/-- A text is of a spot just where it is that spot's text. -/
theorem Sp.ok_iff {l : List UInt8} : Sp.ok l = true ↔ ∃ b c, Sp.may b c = true ∧ Sp.txt b c = l := by
  constructor
  · intro h
    unfold Sp.ok at h
    rw [Bool.and_eq_true, decide_eq_true_iff] at h
    exact ⟨_, _, h.1, h.2⟩
  · rintro ⟨b, c, h, rfl⟩
    exact Sp.txt_ok h
theorem Sp.txt_len {b c : Int} (h : Sp.may b c = true) : (Sp.txt b c).length ≤ 4 := by
  have hm := Sp.may_iff.1 h
  have h0 : ∀ b : Fin 100, ∀ c : Fin 8, (Lib.decDigits b.val ++ [47] ++ Lib.decDigits c.val).length ≤ 4 := by decide +kernel
  exact h0 ⟨b.toNat, by omega⟩ ⟨c.toNat, by omega⟩

theorem Sp.par_txt {b c : Int} (h : Sp.may b c = true) : Sp.parB (Sp.txt b c) = b ∧ Sp.parC (Sp.txt b c) = c ∧ Sp.parE (Sp.txt b c) = 0 := by
  have h1 := Sp.txt_ok h
  have h2 := Sp.txt_loose h
  unfold Sp.parB Sp.parC Sp.parE
  rw [h1]
  exact ⟨h2.1, h2.2, rfl⟩
theorem Sp.par_none {l : List UInt8} (h : Sp.ok l = false) : Sp.parB l = 0 ∧ Sp.parC l = 0 ∧ Sp.parE l = 20 := by
  unfold Sp.parB Sp.parC Sp.parE
  rw [h]
  exact ⟨rfl, rfl, rfl⟩

end Go.Proofs.YtndpcnimebedcaaDoor
