/-
  Layer 2 (sum): what a shift, a step and Step do to the world.
-/
import Derived.WalkKit
import Derived.Laws.Entries
import Derived.Lib.Hide
import Derived.Deep.Cut
import Derived.Test.YteepemibmjpnfaaChecked
import Derived.Test.YteepemibmjpnfaaSumM
import Derived.Test.YteepemibmjpnfaaAid
namespace Go.Proofs.Yteepemibmjpnfaa
set_option maxRecDepth 10000
open Go.RowKit

theorem i64_wrap_small {n : Nat} (h : n < 65536) : IntKind.i64.wrap (n : Int) = n := by
  simp [IntKind.wrap, IntKind.bits, IntKind.signed]; omega

theorem bits_xor_small (a b : Nat) (ha : a < 65536) (hb : b < 65536) : bits .xor .i64 (a : Int) (b : Int) = ((a ^^^ b : Nat) : Int) := by
  have hx : a ^^^ b < 65536 := Sm.xor_lt ha hb
  have h1 : (BitVec.ofInt 64 (a : Int)).toNat = a := by
    rw [BitVec.ofInt_natCast, BitVec.toNat_ofNat]; exact Nat.mod_eq_of_lt (by omega)
  have h2 : (BitVec.ofInt 64 (b : Int)).toNat = b := by
    rw [BitVec.ofInt_natCast, BitVec.toNat_ofNat]; exact Nat.mod_eq_of_lt (by omega)
  show IntKind.i64.wrap ((BitVec.ofInt 64 (a : Int) ^^^ BitVec.ofInt 64 (b : Int)).toNat : Int) = _
  rw [BitVec.toNat_xor, h1, h2, i64_wrap_small hx]

theorem modify2 (h : Array Obj) (blk : Nat) (f g : Obj → Obj) : (h.modify blk f).modify blk g = h.modify blk (fun x => g (f x)) := by
  apply Array.ext
  · simp
  · intro i h1 h2
    simp only [Array.getElem_modify]
    split <;> rfl

/-- A store over a store into the same cell. -/
theorem setCell2 (w : World) (blk off : Nat) (v v' : Value) : (w.setCell ⟨blk, off, none⟩ v).setCell ⟨blk, off, none⟩ v' = w.setCell ⟨blk, off, none⟩ v' := by
  unfold World.setCell
  simp only [modify2]
  congr 2
  funext x
  cases x <;> simp

theorem sh_hi {c : Nat} (h : 32768 ≤ c) : bits .xor .i64 ((c : Int) * 2 % 65536) 4129 = (Sm.sh c : Int) := by
  have e : ((c : Int) * 2 % 65536) = ((2 * c % 65536 : Nat) : Int) := by omega
  rw [e, show (4129 : Int) = ((4129 : Nat) : Int) from rfl, bits_xor_small _ _ (by omega) (by omega), Sm.sh, if_pos h]
theorem sh_lo {c : Nat} (h : ¬ 32768 ≤ c) : ((c : Int) * 2 % 65536) = (Sm.sh c : Int) := by
  rw [Sm.sh, if_neg h]; omega

set_option maxRecDepth 10000 in
set_option maxHeartbeats 400000 in
theorem shift_any (B o c : Nat) (w : World) (hc : w.cell? ⟨B, o, none⟩ = some (.int .i64 (c : Int))) (hf : w.frozen? ⟨B, o, none⟩ = false) (hlt : (c : Int) < 65536) :
    Calls Try.prog 94 #[.pointer (some ⟨B, o, none⟩)] w fun e w' => e = .returned (.tuple #[]) ∧ w' = w.setCell ⟨B, o, none⟩ (.int .i64 (Sm.sh c : Int)) := by
  by_cases h : (32768 : Int) ≤ c
  · have hx := sh_hi (c := c) (by omega)
    go_enter Try.func94, Try.ntmps94
    go_wp2
    go_end0
    exact ⟨rfl, setCell2 _ _ _ _ _⟩
  · have hx := Lib.hid (sh_lo (c := c) (by omega))
    have h' : (c : Int) < 32768 := by omega
    go_enter Try.func94, Try.ntmps94
    go_wp2
    go_end0
    rw [hx.out]
    exact ⟨rfl, rfl⟩

theorem st_in {c b : Nat} (hc : (c : Int) < 65536) (hb : (b : Int) < 256) : bits .xor .i64 (c : Int) ((b : Int) * 256) = ((c ^^^ 256 * b : Nat) : Int) := by
  have e : ((b : Int) * 256) = ((256 * b : Nat) : Int) := by omega
  rw [e, bits_xor_small _ _ (by omega) (by omega)]
theorem it_ltI {k c : Nat} (h : c < 65536) : ((Sm.it k c : Nat) : Int) < 65536 := by have := Sm.it_lt (k := k) h; omega

set_option maxRecDepth 10000 in
set_option maxHeartbeats 400000 in
theorem step_any (B o c b : Nat) (w : World) (hc : w.cell? ⟨B, o, none⟩ = some (.int .i64 (c : Int))) (hf : w.frozen? ⟨B, o, none⟩ = false) (hlt : (c : Int) < 65536) (hb : (b : Int) < 256) :
    Calls Try.prog 91 #[.pointer (some ⟨B, o, none⟩), .int .u8 (b : Int)] w fun e w' => e = .returned (.tuple #[]) ∧ w' = w.setCell ⟨B, o, none⟩ (.int .i64 (Sm.st c b : Int)) := by
  have hx := st_in hlt hb
  have Hi : Hid (∀ k, ((Sm.it k (c ^^^ 256 * b) : Nat) : Int) < 65536) := Lib.hid (fun k => it_ltI (Sm.xor_lt (by omega) (by omega)))
  have Hs : Hid (∀ k, Sm.sh (Sm.it k (c ^^^ 256 * b)) = Sm.it (k + 1) (c ^^^ 256 * b)) := Lib.hid (fun k => rfl)
  have He : Hid (Sm.it 8 (c ^^^ 256 * b) = Sm.st c b) := Lib.hid (by unfold Sm.st; rfl)
  obtain ⟨x, hx0⟩ : ∃ x : Nat, x = c ^^^ 256 * b := ⟨_, rfl⟩
  rw [← hx0] at hx Hi Hs He
  clear hx0
  go_enter Try.func91, Try.ntmps91
  go_wp2
  go_loopw [14] (fun i wr => ∃ k : Nat, (k : Int) ≤ 8 ∧ i = .int .i64 (k : Int) ∧ wr = w.setCell ⟨B, o, none⟩ (.int .i64 (Sm.it k x : Int))) (fun i _ => 8 - (intOf i).toNat)
  case atStart => exact ⟨0, by omega, rfl, rfl⟩
  case round =>
    obtain ⟨k, hk, rfl, rfl⟩ := hrel
    by_cases hk8 : (k : Int) < 8
    · have hi := Hi.out k
      have hc' : (w.setCell ⟨B, o, none⟩ (.int .i64 (Sm.it k x : Int))).cell? ⟨B, o, none⟩ = some (.int .i64 (Sm.it k x : Int)) := World.cell?_setCell_same _ _ _ hc
      have hf' : (w.setCell ⟨B, o, none⟩ (.int .i64 (Sm.it k x : Int))).frozen? ⟨B, o, none⟩ = false := by simpa using hf
      go_wp2_with fail
      refine (shift_any B o (Sm.it k x) _ hc' hf' hi).mono ?_
      rintro e w1 ⟨rfl, rfl⟩
      rw [setCell2, Hs.out]
      go_wp2
      go_roundw
      case rel => exact ⟨k + 1, by omega, by go_num, rfl⟩
      case measure => simp [intOf]; omega
    · obtain rfl : k = 8 := by omega
      rw [He.out]
      go_wp2
      go_end0
      exact ⟨rfl, rfl⟩

end Go.Proofs.Yteepemibmjpnfaa
