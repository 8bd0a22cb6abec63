/-
  Layer 5 (life): the walks of the reference's Next, Run and Name.
-/
import Derived.Test.YtipblfmabhggkaaLifeWay
import Derived.Test.YtipblfmabhggkaaLifeName
import Derived.Test.YtipblfmabhggkaaLifeRM
namespace Go.Proofs.Ytipblfmabhggkaa
open Go.RowKit

set_option maxHeartbeats 4000000 in
theorem RNext_any (p d : Int) (w : World) :
    Calls Try.prog 10 #[.int .i64 p, .int .i64 d] w fun e w' => e = .returned (.tuple #[.int .i64 (Lf.nx p d), .bool (Lf.ok p d)]) ∧ w' = w := by
  cases hp : Lf.isP p
  · have e1 : Lf.ok p d = false := by unfold Lf.ok; rw [hp]; rfl
    have e2 : Lf.nx p d = 0 := by unfold Lf.nx; rw [e1]; rfl
    rw [e1, e2]
    have h : ¬ (0 ≤ p ∧ p < 5) := fun h => by rw [Lf.isP_iff.2 h] at hp; cases hp
    clear e1 e2 hp
    rcases (by omega : p < 0 ∨ (0 ≤ p ∧ 4 < p)) with h1 | ⟨h1, h2⟩
    all_goals (
      clear h
      go_enter Try.func10, Try.ntmps10
      go_wp2
      go_ret2
      exact ⟨rfl, rfl⟩)
  · cases hd : Lf.isD d
    · have e1 : Lf.ok p d = false := by unfold Lf.ok; rw [hp, hd]; rfl
      have e2 : Lf.nx p d = 0 := by unfold Lf.nx; rw [e1]; rfl
      rw [e1, e2]
      have h : ¬ (1 ≤ d ∧ d ≤ 6) := fun h => by rw [Lf.isD_iff.2 h] at hd; cases hd
      have d1 : (d == 1) = false := by rw [beq_eq_false_iff_ne]; omega
      have d2 : (d == 2) = false := by rw [beq_eq_false_iff_ne]; omega
      have d3 : (d == 3) = false := by rw [beq_eq_false_iff_ne]; omega
      have d4 : (d == 4) = false := by rw [beq_eq_false_iff_ne]; omega
      have d5 : (d == 5) = false := by rw [beq_eq_false_iff_ne]; omega
      have d6 : (d == 6) = false := by rw [beq_eq_false_iff_ne]; omega
      obtain ⟨p0, p1⟩ := Lf.isP_iff.1 hp
      have p4 : p ≤ 4 := by omega
      clear e1 e2 hp hd h p1
      go_enter Try.func10, Try.ntmps10
      go_wp2
      go_ret2
      exact ⟨rfl, rfl⟩
    · rcases Lf.isP_cases hp with rfl | rfl | rfl | rfl | rfl <;> rcases Lf.isD_cases hd with rfl | rfl | rfl | rfl | rfl | rfl
      all_goals (
        clear hp hd
        go_enter Try.func10, Try.ntmps10
        go_wp2
        go_ret2
        exact ⟨rfl, rfl⟩)

set_option maxHeartbeats 1000000 in
theorem RRun_any (p : Int) (A : Option Addr) (cap : Nat) (zs : List Int) (w : World) (hA : IntsAt w w.heap.size A zs) (hl : zs.length ≤ 400) :
    Calls Try.prog 12 #[.int .i64 p, .slice A zs.length cap] w fun e w' => e = .returned (.tuple #[.int .i64 (Lf.runP p zs), .int .i64 (Lf.runN p zs : Int)]) ∧ w' = w := by
  have HA := Lib.hid hA
  clear hA
  go_enter Try.func12, Try.ntmps12
  go_wp2_with fail
  go_loopw [0, 6, 7] (fun ph n i wr => ∃ k : Nat, k ≤ zs.length ∧ i = .int .i64 (k : Int) ∧ ph = .int .i64 (Lf.runP p (zs.take k)) ∧ n = .int .i64 (Lf.runN p (zs.take k) : Int) ∧ wr = w) (fun _ _ i _ => zs.length - (intOf i).toNat)
  case atStart => exact ⟨0, Nat.zero_le _, rfl, rfl, rfl, rfl⟩
  case round =>
    obtain ⟨k, hk, rfl, rfl, rfl, rfl⟩ := hrel
    by_cases hlt : k < zs.length
    · obtain ⟨b, off, rfl, hb, hc⟩ := HA.out k hlt
      have HP := Lib.hid (Lf.runP_take (p := p) hlt)
      have HN := Lib.hid (Lf.runN_take (p := p) hlt)
      have Hn := Lib.hid (Lf.runN_le p (zs.take k))
      obtain ⟨d, hd⟩ : ∃ d, d = zs[k]'hlt := ⟨_, rfl⟩
      obtain ⟨q, hq⟩ : ∃ q, q = Lf.runP p (zs.take k) := ⟨_, rfl⟩
      obtain ⟨m, hm⟩ : ∃ m, m = Lf.runN p (zs.take k) := ⟨_, rfl⟩
      rw [← hd] at hc HP HN
      rw [← hq] at HP HN ⊢
      rw [← hm] at HN Hn ⊢
      have i1 : (k : Int) < (zs.length : Int) := by omega
      have I2 : Hid (wrap64 ((k : Int) + 1) = (k : Int) + 1) := Lib.hid (by unfold wrap64; omega)
      have I3 : Hid (wrap64 ((m : Int) + 1) = (m : Int) + 1) := Lib.hid (by have := Hn.out; rw [List.length_take] at this; unfold wrap64; omega)
      have h1 := fun W => RNext_any q d W
      clear hd hq hm
      cases hok : Lf.ok q d
      · rw [hok] at h1
        have HP' := HP.out
        have HN' := HN.out
        rw [hok] at HP' HN'
        simp only [Bool.false_eq_true, if_false, Nat.add_zero] at HP' HN'
        have HP2 := Lib.hid HP'
        have HN2 := Lib.hid HN'
        clear HP HN HP' HN' hok
        go_wp2_with fail
        refine (h1 _).mono ?_
        rintro e w1 ⟨rfl, rfl⟩
        clear h1
        go_wp2
        go_roundw
        case rel => exact ⟨k + 1, by omega, by first | rfl | (rw [I2.out]; rfl) | go_num, by rw [HP2.out], by rw [HN2.out], by first | trivial | rfl⟩
        case measure => simp [intOf]; omega
      · rw [hok] at h1
        have HP' := HP.out
        have HN' := HN.out
        rw [hok] at HP' HN'
        simp only [if_true] at HP' HN'
        have HP2 := Lib.hid HP'
        have HN2 := Lib.hid HN'
        clear HP HN HP' HN' hok
        go_wp2_with fail
        refine (h1 _).mono ?_
        rintro e w1 ⟨rfl, rfl⟩
        clear h1
        go_wp2
        go_roundw
        case rel => exact ⟨k + 1, by omega, by first | rfl | (rw [I2.out]; rfl) | go_num, by rw [HP2.out], by rw [HN2.out]; first | rfl | (rw [I3.out]; rfl) | go_num, by first | trivial | rfl⟩
        case measure => simp [intOf]; omega
    · obtain rfl : k = zs.length := by omega
      rw [List.take_length]
      go_wp2
      go_ret2
      exact ⟨rfl, rfl⟩

theorem RName_any (p : Int) (w : World) :
    Calls Try.prog 16 #[.int .i64 p] w fun e w' => e = .returned (.tuple #[.string (nameS p), .bool (Lf.isP p)]) ∧ Below w.heap.size w w' := by
  cases hp : Lf.isP p
  · have h : ¬ (0 ≤ p ∧ p < 5) := fun h => by rw [Lf.isP_iff.2 h] at hp; cases hp
    have e0 : nameS p = strOf [] := by
      unfold nameS Lf.nameL
      rw [if_neg (by omega), if_neg (by omega), if_neg (by omega), if_neg (by omega), if_neg (by omega)]
    rw [e0]
    clear e0 hp
    rcases (by omega : p < 0 ∨ (0 ≤ p ∧ 5 ≤ p)) with h1 | ⟨h1, h2⟩
    all_goals (
      clear h
      go_enter Try.func16, Try.ntmps16
      go_wp2
      go_ret2
      exact ⟨rfl, below_new _ _⟩)
  · rcases Lf.isP_cases hp with rfl | rfl | rfl | rfl | rfl
    all_goals (
      clear hp
      go_enter Try.func16, Try.ntmps16
      go_wp2
      go_ret2
      exact ⟨rfl, below_new _ _⟩)
end Go.Proofs.Ytipblfmabhggkaa
