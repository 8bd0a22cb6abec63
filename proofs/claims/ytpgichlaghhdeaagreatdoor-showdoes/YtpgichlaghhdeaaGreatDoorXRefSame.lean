/-
  The references' helper Same: are two rows of numbers the same?
-/
import Derived.Test.YtpgichlaghhdeaaGreatDoorChecked
import Derived.Test.YtpgichlaghhdeaaGreatDoorXJa
import Derived.BigQuiet
import Derived.Deep.QuietTactic
namespace Go.Proofs.YtpgichlaghhdeaaGreatDoor
set_option maxRecDepth 10000
open Go.RowKit

theorem retb_same {a b : Bool} (h : a = b) : Ending.returned (.bool a) = .returned (.bool b) := by rw [h]

set_option maxHeartbeats 400000 in
theorem Same_any (A B : Option Addr) (ca cb : Nat) (xs ys : List Int) (w : World) (hA : IntsAt w w.heap.size A xs) (hB : IntsAt w w.heap.size B ys) (hl : xs.length ≤ 1000000000) (hl2 : ys.length ≤ 1000000000) :
    Calls Tryz.prog 21 #[.slice A xs.length ca, .slice B ys.length cb] w fun e w' => e = .returned (.bool (decide (xs = ys))) ∧ ∃ n, w' = w.drewN n := by
  by_cases hne : xs.length = ys.length
  · have h1 : ((xs.length : Int) == (ys.length : Int)) = true := by rw [beq_iff_eq]; omega
    have Hne := Lib.hid hne
    have hle : xs.length ≤ ys.length := by omega
    have hge : ys.length ≤ xs.length := by omega
    clear hne
    go_enter Tryz.func21, Tryz.ntmps21
    go_wp2
    go_loopw [5] (fun i wr => ∃ k q : Nat, k ≤ xs.length ∧ i = .int .i64 (k : Int) ∧ Hid (xs.take k = ys.take k) ∧ wr = w.drewN q) (fun i _ => xs.length - (intOf i).toNat)
    case atStart => exact ⟨0, 0, Nat.zero_le _, rfl, Lib.hid rfl, rfl⟩
    case round =>
      obtain ⟨k, q, hk, rfl, H, rfl⟩ := hrel
      by_cases hlt : k < xs.length
      · have hlt2 : k < ys.length := by omega
        obtain ⟨b, off, rfl, hb, hc⟩ := hA k hlt
        obtain ⟨b', off', rfl, hb', hc'⟩ := hB k hlt2
        obtain ⟨x, hx⟩ : ∃ x, x = xs[k] := ⟨_, rfl⟩
        obtain ⟨y, hy⟩ : ∃ y, y = ys[k] := ⟨_, rfl⟩
        rw [← hx] at hc
        rw [← hy] at hc'
        have Hx := Lib.hid hx; have Hy := Lib.hid hy
        clear hx hy
        have i1 : (k : Int) < (xs.length : Int) := by omega
        have i2 : (k : Int) < (ys.length : Int) := by omega
        have i3 : (0 : Int) ≤ (k : Int) := by omega
        by_cases hxy : x = y
        · subst hxy
          have hq0 : (x != x) = false := by simp
          go_wp2
          go_quiet (fail)
          go_wp2
          go_roundw
          case rel => exact ⟨k + 1, _, by omega, by go_num, Lib.hid (by rw [List.take_succ_eq_append_getElem hlt, List.take_succ_eq_append_getElem hlt2, H.out, ← Hx.out, ← Hy.out]), rfl⟩
          case measure => simp [intOf]; omega
        · have hq0 : (x != y) = true := by rw [bne_iff_ne]; exact hxy
          have hq1 : (x == y) = false := by rw [beq_eq_false_iff_ne]; exact hxy
          have Hno : Hid (decide (xs = ys) = false) := Lib.hid (decide_eq_false (by
            rintro rfl; exact hxy (by rw [Hx.out, Hy.out])))
          clear hxy
          go_wp2
          go_quiet (fail)
          go_wp2
          go_ret
          exact ⟨retb_same Hno.out.symm, q + nq, by rw [World.drewN_drewN]⟩
      · obtain rfl : k = xs.length := by omega
        have Hyes : Hid (decide (xs = ys) = true) := Lib.hid (decide_eq_true (by
          have := H.out
          rw [List.take_length, Hne.out, List.take_length] at this; exact this))
        go_wp2
        go_ret
        exact ⟨retb_same Hyes.out.symm, _, rfl⟩
  · have h1 : ((xs.length : Int) == (ys.length : Int)) = false := by rw [beq_eq_false_iff_ne]; omega
    have Hno : Hid (decide (xs = ys) = false) := Lib.hid (decide_eq_false (by rintro rfl; exact hne rfl))
    clear hne
    go_enter Tryz.func21, Tryz.ntmps21
    go_wp2
    go_ret
    exact ⟨retb_same Hno.out.symm, 0, rfl⟩

end Go.Proofs.YtpgichlaghhdeaaGreatDoor
