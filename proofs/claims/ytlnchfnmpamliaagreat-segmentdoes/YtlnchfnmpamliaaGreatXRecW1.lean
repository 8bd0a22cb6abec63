/-
  Layer 13 (record): the landed code: areNumbers, isLong, Put.
-/
import Derived.Test.YtlnchfnmpamliaaGreatXJa
import Derived.Test.YtlnchfnmpamliaaGreatXJc
namespace Go.Proofs.YtlnchfnmpamliaaGreat
set_option maxRecDepth 10000
open Go.RowKit

theorem rnums_any (n : Int) (m : Nat) (hm : m ≤ 1000) (w : World) :
    Calls Tryz.prog 74 #[.int .i64 n, .int .i64 (m : Int)] w fun e w' => e = .returned (.bool (Rc.numsOk n m)) ∧ w' = w := by
  by_cases h0 : m = 0
  · have e1 : Rc.numsOk n m = true := by unfold Rc.numsOk; rw [decide_eq_true_iff]; exact .inl h0
    rw [e1]
    have j0 : ((m : Int) == 0) = true := by rw [beq_iff_eq]; omega
    clear h0 e1
    go_enter Tryz.func74, Tryz.ntmps74
    go_wp2
    go_ret
    exact ⟨rfl, rfl⟩
  have j0 : ((m : Int) == 0) = false := by rw [beq_eq_false_iff_ne]; omega
  by_cases h1 : 0 ≤ n
  · have e1 : Rc.numsOk n m = decide (n ≤ 1000000000 - ((m : Int) - 1)) := by unfold Rc.numsOk; rw [decide_eq_decide]; omega
    rw [e1]
    have w1 : wrap64 ((m : Int) - 1) = (m : Int) - 1 := by unfold wrap64; omega
    have w2 : wrap64 (1000000000 - ((m : Int) - 1)) = 1000000000 - ((m : Int) - 1) := by unfold wrap64; omega
    have H1 := eq_true h1
    clear h0 e1 h1
    by_cases h2 : n ≤ 1000000000 - ((m : Int) - 1)
    · have H2 := eq_true h2
      rw [decide_eq_true h2]
      clear h2
      go_enter Tryz.func74, Tryz.ntmps74
      go_wp2
      go_ret
      exact ⟨rfl, rfl⟩
    · have H2 := eq_false h2
      rw [decide_eq_false h2]
      clear h2
      go_enter Tryz.func74, Tryz.ntmps74
      go_wp2
      go_ret
      exact ⟨rfl, rfl⟩
  · have e1 : Rc.numsOk n m = false := by unfold Rc.numsOk; rw [decide_eq_false_iff_not]; omega
    rw [e1]
    have H1 := eq_false h1
    clear h0 e1 h1
    go_enter Tryz.func74, Tryz.ntmps74
    go_wp2
    go_ret
    exact ⟨rfl, rfl⟩
theorem numsOk_one (n : Int) : Rc.numsOk n 1 = Rc.nOk n := by unfold Rc.numsOk Rc.nOk; rw [decide_eq_decide]; omega
theorem rnum_any (n : Int) (w : World) :
    Calls Tryz.prog 74 #[.int .i64 n, .int .i64 1] w fun e w' => e = .returned (.bool (Rc.nOk n)) ∧ w' = w := by
  have h := rnums_any n 1 (by decide) w
  rw [numsOk_one] at h
  exact h
theorem rlong_any (s : ByteArray) (w : World) :
    Calls Tryz.prog 75 #[.string s] w fun e w' => e = .returned (.bool (decide (1000 < s.size))) ∧ w' = w := by
  by_cases h : 1000 < s.size
  · rw [decide_eq_true h]
    have h1 : ((1000 : Int) < (s.size : Int)) = True := eq_true (by omega)
    clear h
    go_enter Tryz.func75, Tryz.ntmps75
    go_wp2
    go_ret
    exact ⟨rfl, rfl⟩
  · rw [decide_eq_false h]
    have h1 : ((1000 : Int) < (s.size : Int)) = False := eq_false (by omega)
    clear h
    go_enter Tryz.func75, Tryz.ntmps75
    go_wp2
    go_ret
    exact ⟨rfl, rfl⟩

set_option maxHeartbeats 1000000 in
theorem rput_any (n : Int) (s : ByteArray) (w : World) (hs : s.size ≤ 1000000) :
    Calls Tryz.prog 64 #[.int .i64 n, .string s] w fun e w' => e = .returned (.tuple #[.string (strOf (Rc.putS n (bl s))), .int .i64 (Rc.putE n (bl s))]) ∧ Below w.heap.size w w' := by
  have p1 := fun W => rnum_any n W
  have p2 := fun W => rlong_any s W
  cases hn : Rc.nOk n
  · have e2 : Rc.putE n (bl s) = 1 := by unfold Rc.putE; rw [hn]; rfl
    rw [Rc.putS_no (by rw [e2]; decide), e2]
    rw [hn] at p1
    clear e2 hn p2
    go_enter Tryz.func64, Tryz.ntmps64
    go_wp2_with fail
    refine (p1 _).mono ?_
    rintro e w1 ⟨rfl, rfl⟩
    clear p1
    go_wp2
    go_ret2
    exact ⟨rfl, Below.refl _ _⟩
  by_cases h2 : 1000 < s.size
  · have e2 : Rc.putE n (bl s) = 2 := by unfold Rc.putE; rw [if_pos hn, if_neg (by rw [bl_length]; omega)]
    rw [Rc.putS_no (by rw [e2]; decide), e2]
    rw [hn] at p1
    rw [decide_eq_true h2] at p2
    clear e2 hn h2
    go_enter Tryz.func64, Tryz.ntmps64
    go_wp2_with fail
    refine (p1 _).mono ?_
    rintro e w1 ⟨rfl, rfl⟩
    clear p1
    go_wp2_with fail
    refine (p2 _).mono ?_
    rintro e w1 ⟨rfl, rfl⟩
    clear p2
    go_wp2
    go_ret2
    exact ⟨rfl, Below.refl _ _⟩
  have hp : Rc.putE n (bl s) = 0 := Rc.putE_zero.2 ⟨hn, by rw [bl_length]; omega⟩
  rw [Rc.putS_yes hp, hp]
  rw [decide_eq_false h2] at p2
  have hls := Rc.lay_short hn
  have p3 := fun W => Int_any n W
  rw [intsS_one (Rc.fits_n hn), intsE_one (Rc.fits_n hn)] at p3
  have hb : (Wm.lay n ++ bl s).length ≤ 3000 := Rc.body_short hn (by rw [bl_length]; omega)
  obtain ⟨t, ht⟩ : ∃ t, t = strOf (Wm.lay n) := ⟨_, rfl⟩
  have hts : t.size ≤ 5 := by rw [ht, strOf_size]; exact hls
  have p4 := fun W => Put_any 1 (t ++ s) W (by rw [ByteArray.size_append]; unfold maxLen; omega)
  have eb : bl (t ++ s) = Wm.lay n ++ bl s := by rw [bl_append, ht, bl_strOf]
  have e3 := Fm.put_yes Rc.kind1 hb
  rw [eb, e3.1, e3.2] at p4
  rw [← ht] at p3
  rw [hn] at p1
  have hcat : ¬ 9223372036854775807 < t.size + s.size := by omega
  clear h2 hn hp hls hb ht hts eb e3 hs
  show Calls Tryz.prog 64 #[.int .i64 n, .string s] w fun e w' => e = .returned (.tuple #[.string (strOf (Fm.frame 1 (Wm.lay n ++ bl s))), .int .i64 0]) ∧ Below w.heap.size w w'
  go_enter Tryz.func64, Tryz.ntmps64
  go_wp2_with fail
  refine (p1 _).mono ?_
  rintro e w1 ⟨rfl, rfl⟩
  clear p1
  go_wp2_with fail
  refine (p2 _).mono ?_
  rintro e w1 ⟨rfl, rfl⟩
  clear p2
  go_wp2_with fail
  refine (p3 _).mono ?_
  rintro e w1 ⟨rfl, hB⟩
  have Hb := Lib.hid hB
  clear hB p3
  go_wp2_with fail
  refine (p4 _).mono ?_
  rintro e w2 ⟨rfl, hB⟩
  have Hb2 := Lib.hid (below2 Hb.out hB)
  clear hB p4 hcat
  go_wp2
  go_ret2
  exact ⟨rfl, Hb2.out⟩
end Go.Proofs.YtlnchfnmpamliaaGreat
