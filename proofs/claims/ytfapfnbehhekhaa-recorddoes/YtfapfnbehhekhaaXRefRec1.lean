/-
  Layer 13 (record): the references' Put.
-/
import Derived.Test.YtfapfnbehhekhaaXJc
import Derived.Test.YtfapfnbehhekhaaXJa
namespace Go.Proofs.Ytfapfnbehhekhaa
set_option maxRecDepth 10000
open Go.RowKit

set_option maxHeartbeats 1000000 in
theorem RRPut_any (n : Int) (s : ByteArray) (hs : s.size ≤ 1000000) (w : World) :
    Calls Try.prog 11 #[.int .i64 n, .string s] w fun e w' => e = .returned (.tuple #[.string (strOf (Rc.putS n (bl s))), .int .i64 (Rc.putE n (bl s))]) ∧ Below w.heap.size w w' := by
  by_cases h0 : n < 0
  · have e1 : Rc.nOk n = false := by unfold Rc.nOk; rw [decide_eq_false_iff_not]; omega
    have e2 : Rc.putE n (bl s) = 1 := by unfold Rc.putE; rw [e1]; rfl
    rw [Rc.putS_no (by rw [e2]; decide), e2]
    clear e1 e2
    go_enter Try.func11, Try.ntmps11
    go_wp2
    go_ret2
    exact ⟨rfl, Below.refl _ _⟩
  by_cases h1 : 1000000000 < n
  · have e1 : Rc.nOk n = false := by unfold Rc.nOk; rw [decide_eq_false_iff_not]; omega
    have e2 : Rc.putE n (bl s) = 1 := by unfold Rc.putE; rw [e1]; rfl
    rw [Rc.putS_no (by rw [e2]; decide), e2]
    clear e1 e2
    go_enter Try.func11, Try.ntmps11
    go_wp2
    go_ret2
    exact ⟨rfl, Below.refl _ _⟩
  have hn : Rc.nOk n = true := Rc.nOk_iff.2 (by omega)
  by_cases h2 : (1000 : Int) < (s.size : Int)
  · have e2 : Rc.putE n (bl s) = 2 := by unfold Rc.putE; rw [if_pos hn, if_neg (by rw [bl_length]; omega)]
    rw [Rc.putS_no (by rw [e2]; decide), e2]
    clear e2 hn
    go_enter Try.func11, Try.ntmps11
    go_wp2
    go_ret2
    exact ⟨rfl, Below.refl _ _⟩
  · have hp : Rc.putE n (bl s) = 0 := Rc.putE_zero.2 ⟨hn, by rw [bl_length]; omega⟩
    rw [Rc.putS_yes hp, hp]
    have hls := Rc.lay_short hn
    have p1 := fun W => RInt_at n W (Rc.fits_n hn)
    have hb : (Wm.lay n ++ bl s).length ≤ 3000 := Rc.body_short hn (by rw [bl_length]; omega)
    obtain ⟨t, ht⟩ : ∃ t, t = strOf (Wm.lay n) := ⟨_, rfl⟩
    have hts : t.size ≤ 5 := by rw [ht, strOf_size]; exact hls
    have p2 := fun W => RPut_any 1 (t ++ s) W (by rw [ByteArray.size_append]; unfold maxLen; omega)
    have eb : bl (t ++ s) = Wm.lay n ++ bl s := by rw [bl_append, ht, bl_strOf]
    have e3 := Fm.put_yes Rc.kind1 hb
    rw [eb, e3.1, e3.2] at p2
    rw [← ht] at p1
    have hcat : ¬ 9223372036854775807 < t.size + s.size := by omega
    have j0 := eq_false h0
    have j1 := eq_false h1
    have j2 := eq_false h2
    clear h0 h1 h2 hn hp hls hb ht hts eb e3 hs
    show Calls Try.prog 11 #[.int .i64 n, .string s] w fun e w' => e = .returned (.tuple #[.string (strOf (Fm.frame 1 (Wm.lay n ++ bl s))), .int .i64 0]) ∧ Below w.heap.size w w'
    go_enter Try.func11, Try.ntmps11
    go_wp2_with fail
    refine (p1 _).mono ?_
    rintro e w1 ⟨rfl, hB⟩
    have Hb := Lib.hid hB
    clear hB p1
    go_wp2_with fail
    refine (p2 _).mono ?_
    rintro e w2 ⟨rfl, hB⟩
    have Hb2 := Lib.hid (below2 Hb.out hB)
    clear hB p2 hcat
    go_wp2
    go_ret2
    exact ⟨rfl, Hb2.out⟩
end Go.Proofs.Ytfapfnbehhekhaa
