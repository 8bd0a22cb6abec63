/-
  Layer 5 (life): the walks of Next, Run and Name.
-/
import Derived.Test.YtipblfmabhggkaaLifeLow
namespace Go.Proofs.Ytipblfmabhggkaa
open Go.RowKit

theorem Next_any (p d : Int) (w : World) :
    Calls Try.prog 9 #[.int .i64 p, .int .i64 d] w fun e w' => e = .returned (.tuple #[.int .i64 (Lf.nx p d), .bool (Lf.ok p d)]) ∧ Below w.heap.size w w' := by
  obtain ⟨x, hx⟩ : ∃ x, x = Lf.nx p d := ⟨_, rfl⟩
  obtain ⟨b, hb⟩ : ∃ b, b = Lf.ok p d := ⟨_, rfl⟩
  have h := fun W => next_any p d W
  rw [← hx, ← hb] at h ⊢
  clear hx hb
  go_enter Try.func9, Try.ntmps9
  go_wp2_with fail
  refine (all_any w).mono ?_
  rintro e w1 ⟨rfl, rfl⟩
  go_wp2_with fail
  refine (h _).mono ?_
  rintro e w2 ⟨rfl, hB⟩
  go_wp2
  go_ret2
  exact ⟨rfl, below2 (below_new _ _) hB⟩

set_option maxHeartbeats 1000000 in
theorem Run_any (p : Int) (A : Option Addr) (cap : Nat) (zs : List Int) (w : World) (hA : IntsAt w w.heap.size A zs) (hl : zs.length ≤ 400) :
    Calls Try.prog 11 #[.int .i64 p, .slice A zs.length cap] w fun e w' => e = .returned (.tuple #[.int .i64 (Lf.runP p zs), .int .i64 (Lf.runN p zs : Int)]) ∧ Below w.heap.size w w' := by
  go_enter Try.func11, Try.ntmps11
  go_wp2_with fail
  refine (all_any w).mono ?_
  rintro e w1 ⟨rfl, rfl⟩
  have hB0 := below_new2 w (.cells tabV 43) (.cells tabV 43)
  have HA := Lib.hid (hA.below hB0 (Nat.le_refl _))
  have hT0 : TabAt ((w.alloc (.cells tabV 43)).alloc (.cells tabV 43)) (w.heap.size + 1) := heap_alloc2_new _ _ _
  have HT0 := Lib.hid hT0
  have HB0 := Lib.hid hB0
  clear hA hB0 hT0
  go_wp2_with (refine wpList_store_row rfl 43 _ _ rfl (w.heap.size + 1) tabV rfl rfl 43 _ (heap_alloc2_new _ _ _) (by kernel_rfl) (by kernel_rfl) (by kernel_rfl) ?_; rw [setRow_alloc2_new])
  obtain ⟨W0, hW0⟩ : ∃ W, W = (w.alloc (.cells tabV 43)).alloc (.cells tabV 43) := ⟨_, rfl⟩
  rw [← hW0] at HA HT0 HB0 ⊢
  have Hlt : Hid (w.heap.size + 1 < W0.heap.size) := Lib.hid HT0.out.lt
  clear hW0
  go_loopw [0, 7, 15] (fun ph n i wr => ∃ k : Nat, k ≤ zs.length ∧ i = .int .i64 (k : Int) ∧ ph = .int .i64 (Lf.runP p (zs.take k)) ∧ n = .int .i64 (Lf.runN p (zs.take k) : Int) ∧ Below W0.heap.size W0 wr) (fun _ _ i _ => zs.length - (intOf i).toNat)
  case atStart => exact ⟨0, Nat.zero_le _, rfl, rfl, rfl, Below.refl _ _⟩
  case round =>
    obtain ⟨k, hk, rfl, rfl, rfl, hB⟩ := hrel
    have HB := Lib.hid hB
    by_cases hlt : k < zs.length
    · obtain ⟨b, off, rfl, hb, hc⟩ := (HA.out.below hB (by have := HB0.out.size; omega)) k hlt
      have hT : TabAt wr (w.heap.size + 1) := HT0.out.upto Hlt.out hB
      have HT := Lib.hid hT
      have HP := Lib.hid (Lf.runP_take (p := p) hlt)
      have HN := Lib.hid (Lf.runN_take (p := p) hlt)
      have Hn := Lib.hid (Lf.runN_le p (zs.take k))
      obtain ⟨d, hd⟩ : ∃ d, d = zs[k] := ⟨_, rfl⟩
      obtain ⟨q, hq⟩ : ∃ q, q = Lf.runP p (zs.take k) := ⟨_, rfl⟩
      obtain ⟨m, hm⟩ : ∃ m, m = Lf.runN p (zs.take k) := ⟨_, rfl⟩
      rw [← hd] at hc HP HN
      rw [← hq] at HP HN ⊢
      rw [← hm] at HN Hn ⊢
      have i1 : (k : Int) < (zs.length : Int) := by omega
      have i2 : wrap64 ((k : Int) + 1) = (k : Int) + 1 := by unfold wrap64; omega
      have i3 : wrap64 ((m : Int) + 1) = (m : Int) + 1 := by have := Hn.out; rw [List.length_take] at this; clear i2; unfold wrap64; omega
      have I2 := Lib.hid i2
      have I3 := Lib.hid i3
      have h1 := fun W => next_any q d W
      clear hd hq hm hB hT i2 i3
      cases hok : Lf.ok q d
      · rw [hok] at h1
        have HP' := HP.out
        have HN' := HN.out
        rw [hok] at HP' HN'
        simp only [Bool.false_eq_true, if_false, Nat.add_zero] at HP' HN'
        have HP2 := Lib.hid HP'
        have HN2 := Lib.hid HN'
        clear HP HN HP' HN' hok
        go_wp2_with (refine wpList_load_row rfl 43 _ rfl (w.heap.size + 1) rfl 43 tabV (0, 0) _ HT.out Try.underlying43 rfl (by kernel_rfl) ?_)
        refine (h1 _).mono ?_
        rintro e w1 ⟨rfl, hB1⟩
        clear h1
        go_wp2
        go_roundw
        case rel => exact ⟨k + 1, by omega, by first | rfl | (rw [I2.out]; rfl) | go_num, by rw [HP2.out], by rw [HN2.out], HB.out.trans (hB1.mono HB.out.size)⟩
        case measure => simp [intOf]; omega
      · rw [hok] at h1
        have HP' := HP.out
        have HN' := HN.out
        rw [hok] at HP' HN'
        simp only [if_true] at HP' HN'
        have HP2 := Lib.hid HP'
        have HN2 := Lib.hid HN'
        clear HP HN HP' HN' hok
        go_wp2_with (refine wpList_load_row rfl 43 _ rfl (w.heap.size + 1) rfl 43 tabV (0, 0) _ HT.out Try.underlying43 rfl (by kernel_rfl) ?_)
        refine (h1 _).mono ?_
        rintro e w1 ⟨rfl, hB1⟩
        clear h1
        go_wp2
        go_roundw
        case rel => exact ⟨k + 1, by omega, by first | rfl | (rw [I2.out]; rfl) | go_num, by rw [HP2.out], by rw [HN2.out]; first | rfl | (rw [I3.out]; rfl) | go_num, HB.out.trans (hB1.mono HB.out.size)⟩
        case measure => simp [intOf]; omega
    · obtain rfl : k = zs.length := by omega
      rw [List.take_length]
      have Hend : Hid (Below w.heap.size w wr) := Lib.hid (HB0.out.trans (hB.mono HB0.out.size))
      clear hB
      go_wp2
      go_ret2
      exact ⟨rfl, Hend.out⟩
end Go.Proofs.Ytipblfmabhggkaa
