/-
  Layer 2 (sum): the document's own answers (Unlike, Step, Of, Find).
-/
import Derived.Test.YteepemibmjpnfaaXJc
import Derived.BigQuiet
import Derived.Deep.QuietTactic
namespace Go.Proofs.Yteepemibmjpnfaa
set_option maxRecDepth 10000
open Go.RowKit

theorem pow_le16 {k : Nat} (h : (k : Int) < 16) : ((2 ^ (k + 1) : Nat) : Int) ≤ 65536 := by
  have := Nat.pow_le_pow_right (show 0 < 2 by decide) (show k + 1 ≤ 16 by omega)
  have e : (2 : Nat) ^ 16 = 65536 := by decide
  omega
theorem bit_eq {a z : Int} {k : Nat} (h0 : 0 ≤ a) (hz : z = ((2 ^ k : Nat) : Int)) : (a / z).tmod 2 = ((a.toNat / 2 ^ k % 2 : Nat) : Int) := by
  obtain ⟨A, rfl⟩ := Int.eq_ofNat_of_zero_le h0
  subst hz
  rw [← Int.natCast_ediv, Int.toNat_natCast, Int.tmod_eq_emod_of_nonneg (Int.natCast_nonneg _)]
  omega
theorem unlike_lt (a b k : Nat) (h : k < 16) : (a ^^^ b) % 2 ^ (k + 1) < 65536 := by
  have h1 := Nat.mod_lt (a ^^^ b) (Nat.pow_pos (n := k + 1) (show 0 < 2 by decide))
  have := Nat.pow_le_pow_right (show 0 < 2 by decide) (show k + 1 ≤ 16 by omega)
  have e : (2 : Nat) ^ 16 = 65536 := by decide
  omega
theorem ret_intk {k : IntKind} {a b : Int} (h : a = b) : Ending.returned (.int k a) = .returned (.int k b) := by rw [h]

set_option maxRecDepth 10000 in
set_option maxHeartbeats 1000000 in
theorem Unlike_any (a b : Int) (w : World) (h0 : 0 ≤ a) (h1 : a < 65536) (h2 : 0 ≤ b) (h3 : b < 65536) :
    Calls Try.prog 86 #[.int .i64 a, .int .i64 b] w fun e w' => e = .returned (.int .i64 ((a.toNat ^^^ b.toNat : Nat) : Int)) ∧ ∃ n, w' = w.drewN n := by
  go_enter Try.func86, Try.ntmps86
  go_wp2
  go_loopw [5, 6, 7] (fun o y i wr => ∃ (k q : Nat) (z v : Int), (k : Int) ≤ 16 ∧ i = .int .i64 (k : Int) ∧ y = .int .i64 z ∧ o = .int .i64 v ∧ 1 ≤ z ∧ z ≤ 65536 ∧ 0 ≤ v ∧ v < 65536 ∧ Hid (z = ((2 ^ k : Nat) : Int)) ∧ Hid (v = (((a.toNat ^^^ b.toNat) % 2 ^ k : Nat) : Int)) ∧ wr = w.drewN q) (fun _ _ i _ => 16 - (intOf i).toNat)
  case atStart => exact ⟨0, 0, 1, 0, by omega, rfl, rfl, rfl, by omega, by omega, by omega, by omega, Lib.hid rfl, Lib.hid (by simp [Nat.mod_one]), rfl⟩
  case round =>
    obtain ⟨k, q, z, v, hk, rfl, rfl, rfl, hz1, hz2, hv1, hv2, Hz, Hv, rfl⟩ := hrel
    by_cases hlt : (k : Int) < 16
    · have e1 := bit_eq h0 Hz.out
      have e2 := bit_eq h2 Hz.out
      have Hz2 : Hid (2 * z = ((2 ^ (k + 1) : Nat) : Int)) := Lib.hid (by rw [Hz.out, Nat.pow_succ]; omega)
      have hz3 : 2 * z ≤ 65536 := by rw [Hz2.out]; exact pow_le16 hlt
      have hu := unlike_lt a.toNat b.toNat k (by omega)
      have hs := Sm.unlike_succ a.toNat b.toNat k
      by_cases hd : a.toNat / 2 ^ k % 2 = b.toNat / 2 ^ k % 2
      · rw [if_pos hd] at hs
        have hbn : ((a / z).tmod 2 != (b / z).tmod 2) = false := by rw [e1, e2, hd]; simp
        have Hs := Lib.hid hs
        clear hs hu e1 e2 hd
        go_wp2
        go_quiet (fail)
        go_wp2
        go_roundw
        case rel => exact ⟨k + 1, _, 2 * z, v, by omega, by go_num, rfl, rfl, by omega, by omega, by omega, by omega, Hz2, Lib.hid (by rw [Hv.out, Hs.out, Nat.add_zero]), rfl⟩
        case measure => simp [intOf]; omega
      · rw [if_neg hd] at hs
        have hbn : ((a / z).tmod 2 != (b / z).tmod 2) = true := by rw [e1, e2, bne_iff_ne]; omega
        have Hs : Hid (v + z = (((a.toNat ^^^ b.toNat) % 2 ^ (k + 1) : Nat) : Int)) := Lib.hid (by rw [hs, Hv.out, Hz.out]; omega)
        have hv3 : v + z < 65536 := by rw [Hs.out]; omega
        clear hs hu e1 e2 hd
        go_wp2
        go_quiet (fail)
        go_wp2
        go_roundw
        case rel => exact ⟨k + 1, _, 2 * z, v + z, by omega, by go_num, rfl, rfl, by omega, by omega, by omega, by omega, Hz2, Hs, rfl⟩
        case measure => simp [intOf]; omega
    · obtain rfl : k = 16 := by omega
      have Hv2 : Hid (v = ((a.toNat ^^^ b.toNat : Nat) : Int)) := Lib.hid (by
        have hx := Sm.xor_lt (a := a.toNat) (b := b.toNat) (by omega) (by omega)
        rw [Hv.out, Nat.mod_eq_of_lt (by have e : (2 : Nat) ^ 16 = 65536 := by decide
                                         omega)])
      go_wp2
      go_ret
      exact ⟨ret_intk Hv2.out, _, rfl⟩
theorem sh_hiI {x : Int} (h0 : 0 ≤ x) (h : 32768 ≤ x) (h1 : x < 65536) : (((2 * x % 65536).toNat ^^^ (4129 : Int).toNat : Nat) : Int) = (Sm.sh x.toNat : Int) := by
  obtain ⟨c, rfl⟩ := Int.eq_ofNat_of_zero_le h0
  rw [Int.toNat_natCast, Sm.sh, if_pos (by omega)]
  have e : (2 * (c : Int) % 65536).toNat = 2 * c % 65536 := by omega
  rw [e]; rfl
theorem sh_loI {x : Int} (h0 : 0 ≤ x) (h : x < 32768) : 2 * x = (Sm.sh x.toNat : Int) := by
  rw [Sm.sh, if_neg (by omega)]; omega

set_option maxRecDepth 10000 in
set_option maxHeartbeats 1000000 in
theorem rStep_yes (x y : Int) (w : World) (h0 : 0 ≤ x) (hlt : x < 65536) (hy : 0 ≤ y) (hb : y < 256) :
    Calls Try.prog 75 #[.int .i64 x, .int .u8 y] w fun e w' => e = .returned (.tuple #[.int .i64 (Sm.st x.toNat y.toNat : Int), .bool true]) ∧ ∃ n, w' = w.drewN n := by
  have Hx : Hid (x.toNat ^^^ (256 * y).toNat = x.toNat ^^^ 256 * y.toNat) := Lib.hid (by rw [show (256 * y).toNat = 256 * y.toNat by omega])
  have Hl : Hid (x.toNat ^^^ 256 * y.toNat < 65536) := Lib.hid (Sm.xor_lt (by omega) (by omega))
  have He : Hid (Sm.it 8 (x.toNat ^^^ 256 * y.toNat) = Sm.st x.toNat y.toNat) := Lib.hid (by unfold Sm.st; rfl)
  obtain ⟨v, hv⟩ : ∃ v : Nat, v = x.toNat ^^^ 256 * y.toNat := ⟨_, rfl⟩
  rw [← hv] at Hx Hl He
  clear hv
  go_enter Try.func75, Try.ntmps75
  go_wp2_with fail
  refine (Unlike_any x (256 * y) _ h0 hlt (by omega) (by omega)).mono ?_
  rintro e w1 ⟨rfl, q1, rfl⟩
  rw [Hx.out]
  go_wp2
  go_loopw [0, 6] (fun a i wr => ∃ (k q : Nat) (z : Int), (k : Int) ≤ 8 ∧ i = .int .i64 (k : Int) ∧ a = .int .i64 z ∧ 0 ≤ z ∧ z < 65536 ∧ Hid (z = (Sm.it k v : Int)) ∧ wr = w.drewN q) (fun _ i _ => 8 - (intOf i).toNat)
  case atStart => exact ⟨0, _, _, by omega, rfl, rfl, by omega, by have := Hl.out; omega, Lib.hid rfl, rfl⟩
  case round =>
    obtain ⟨k, q, z, hk, rfl, rfl, hz1, hz2, Hz, rfl⟩ := hrel
    by_cases hlt : (k : Int) < 8
    · have Hzn : Hid (z.toNat = Sm.it k v) := Lib.hid (by rw [Hz.out, Int.toNat_natCast])
      by_cases hh : (32768 : Int) ≤ z
      · have Hs := Lib.hid (sh_hiI hz1 hh hz2)
        go_wp2_with fail
        refine (Unlike_any (2 * z % 65536) 4129 _ (by omega) (by omega) (by omega) (by omega)).mono ?_
        rintro e w1 ⟨rfl, q2, rfl⟩
        rw [Hs.out, Hzn.out]
        go_wp2
        go_roundw
        case rel => exact ⟨k + 1, _, _, by omega, by go_num, rfl, by omega, by have := Sm.sh_lt (Sm.it k v); omega, Lib.hid rfl, rfl⟩
        case measure => simp [intOf]; omega
      · have hh' : z < 32768 := by omega
        have Hs := Lib.hid (sh_loI hz1 hh')
        go_wp2
        go_roundw
        case rel => exact ⟨k + 1, _, 2 * z, by omega, by go_num, rfl, by omega, by omega, Lib.hid (by rw [Hs.out, Hzn.out]; rfl), rfl⟩
        case measure => simp [intOf]; omega
    · obtain rfl : k = 8 := by omega
      have Hz2 : Hid (z = (Sm.st x.toNat y.toNat : Int)) := Lib.hid (by rw [Hz.out, He.out])
      go_wp2
      go_ret2
      exact ⟨tup2 Hz2.out rfl, _, rfl⟩

set_option maxRecDepth 10000 in
set_option maxHeartbeats 400000 in
theorem rStep_no (c : Int) (b : Int) (w : World) (h : c < 0 ∨ 65536 ≤ c) :
    Calls Try.prog 75 #[.int .i64 c, .int .u8 b] w fun e w' => e = .returned (.tuple #[.int .i64 0, .bool false]) ∧ ∃ n, w' = w.drewN n := by
  rcases h with h | h
  · go_enter Try.func75, Try.ntmps75
    go_wp2
    go_ret2
    exact ⟨rfl, 0, rfl⟩
  · have h0 : (0 : Int) ≤ c := by omega
    go_enter Try.func75, Try.ntmps75
    go_wp2
    go_ret2
    exact ⟨rfl, 0, rfl⟩

set_option maxRecDepth 10000 in
set_option maxHeartbeats 1000000 in
theorem rOf_any (s : ByteArray) (w : World) (hs : (s.size : Int) < 1000000000) :
    Calls Try.prog 66 #[.string s] w fun e w' => e = .returned (.int .i64 (Sm.ofL (bl s) : Int)) ∧ ∃ n, w' = w.drewN n := by
  go_enter Try.func66, Try.ntmps66
  go_wp2
  go_loopw [3, 4] (fun a i wr => ∃ (k q : Nat) (z : Int), k ≤ s.size ∧ i = .int .i64 (k : Int) ∧ a = .int .i64 z ∧ 0 ≤ z ∧ z < 65536 ∧ Hid (z = (Sm.ofL ((bl s).take k) : Int)) ∧ wr = w.drewN q) (fun _ i _ => s.size - (intOf i).toNat)
  case atStart => exact ⟨0, 0, _, by omega, rfl, rfl, by omega, by omega, Lib.hid (by rw [List.take_zero]; rfl), rfl⟩
  case round =>
    obtain ⟨k, q, z, hk, rfl, rfl, hz1, hz2, Hz, rfl⟩ := hrel
    by_cases hlt : k < s.size
    · have hb : ((s[k].toNat : Nat) : Int) < 256 := by have := s[k].toNat_lt; omega
      have Hs := Lib.hid (show Sm.st z.toNat ((s[k].toNat : Nat) : Int).toNat = Sm.ofL ((bl s).take (k + 1)) by
        rw [List.take_succ_eq_append_getElem (by rw [bl_length]; exact hlt), Sm.ofL_snoc, Hz.out, Int.toNat_natCast, Int.toNat_natCast]; rfl)
      go_wp2_with fail
      refine (rStep_yes z (s[k].toNat) _ hz1 hz2 (by omega) hb).mono ?_
      rintro e w1 ⟨rfl, q2, rfl⟩
      rw [Hs.out]
      go_wp2
      go_roundw
      case rel => exact ⟨k + 1, _, _, by omega, by go_num, rfl, by omega, by have := Sm.ofL_lt ((bl s).take (k + 1)); omega, Lib.hid rfl, rfl⟩
      case measure => simp [intOf]; omega
    · obtain rfl : k = s.size := by omega
      have Hz2 : Hid (z = (Sm.ofL (bl s) : Int)) := Lib.hid (by rw [Hz.out, List.take_of_length_le (by rw [bl_length]; exact Nat.le_refl _)])
      go_wp2
      go_ret
      exact ⟨ret_intk Hz2.out, _, rfl⟩

end Go.Proofs.Yteepemibmjpnfaa
