/-
  The document's answers for layer 1: what the reference's Int, Ints, Text and Own hand back: what wire's do.
-/
import Derived.Test.YteepemibmjpnfaaXJc
import Derived.Laws.AppendOwnNone
namespace Go.Proofs.Yteepemibmjpnfaa
set_option maxRecDepth 10000
open Go.RowKit

/-- What holds ahead of each round of the reference's Int. -/
def RIntRel (w : World) (N : Nat) (n out : Value) (wr : World) : Prop :=
  ∃ (pre : List UInt8) (k : Nat), n = .int .i64 (k : Int) ∧ k ≤ N ∧ Wm.digs N = pre ++ Wm.digs k ∧ wr.ownsRow w.heap.size 5 1 out pre.length (pre.map byteV) ∧ Below w.heap.size w wr

theorem rint_conv {W : World} {base N : Nat} {v : Value} {pre : List UInt8} {c : UInt8} (hp : Wm.digs N = pre) (h : W.ownsRow base 5 1 v (pre.length + 1) (pre.map byteV ++ [.int .u8 (c.toNat : Int)])) :
    (convert 93 9 v).run Try.prog W = .ok (.string (strOf (Wm.digs N ++ [c]))) W := by
  have h' : W.ownsRow base 5 1 v (pre ++ [c]).length ((pre ++ [c]).map byteV) := by simpa [byteV] using h
  rw [hp]
  exact run_conv_own (P := Try.prog) 93 9 Try.underlying93 Try.underlying5 Try.underlying9 h'

set_option maxRecDepth 100000 in
set_option maxHeartbeats 1000000 in
theorem RInt_yes (x : Int) (w : World) (hx1 : -2147483647 ≤ x) (hx2 : x ≤ 2147483647) :
    Calls Try.prog 48 #[.int .i64 x] w fun e w' => e = .returned (.tuple #[.string (strOf (Wm.lay x)), .int .i64 0]) ∧ Below w.heap.size w w' := by
  obtain ⟨i0, hi, hz0, hz1, hz2⟩ := info_parts Try.info5
  have hsgn : (∃ N : Nat, x = -(N : Int) ∧ 0 < N) ∨ (∃ N : Nat, x = (N : Int)) := by
    by_cases h : x < 0
    · exact .inl ⟨x.natAbs, by omega, by omega⟩
    · exact .inr ⟨x.natAbs, by omega⟩
  rcases hsgn with ⟨N, rfl, hN0⟩ | ⟨N, rfl⟩
  have hlay := Lib.hid (show Wm.lay (-(N : Int)) = Wm.digs N ++ [254] by simp [Wm.lay, Wm.endB, hN0])
  rotate_left
  have hlay := Lib.hid (show Wm.lay (N : Int) = Wm.digs N ++ [255] by simp [Wm.lay, Wm.endB])
  all_goals
    have hN : N ≤ 2147483647 := by omega
    go_enter Try.func48, Try.ntmps48
    go_wp2_with fail
    go_loopw [0, 5] (fun n out wr => RIntRel w N n out wr) (fun n _ _ => (intOf n).toNat)
    case atStart => exact ⟨[], N, rfl, Nat.le_refl _, by simp, World.ownsRow_nil _ _ _ _, Below.refl _ _⟩
    case round =>
      obtain ⟨pre, k, rfl, hk, hd, hown, hB⟩ := hrel
      have Hd := Lib.hid hd
      have hpl : pre.length ≤ 5 := by have := digs_short N hN; rw [hd, List.length_append] at this; omega
      clear hd
      have hsz := hB.size
      by_cases hpos : 0 < k
      · have Hk := Lib.hid (Wm.digs_pos hpos)
        have e1 : byteV (UInt8.ofNat (k % 250)) = .int .u8 ((k : Int) % 250) := by
          unfold byteV; rw [UInt8.toNat_ofNat']; congr 1; omega
        have E1 := Lib.hid e1
        clear e1
        go_wp2_with (at_builtin; refine wpList_append_own _ rfl _ _ 93 rfl w.heap.size 5 i0 (.int .u8 0) 1 1 Try.underlying93 hi hz0 hz1 hz2 rfl (by decide) _ _ _ rfl (hown.alloc _) ⟨wr.heap.size, 0, none⟩ 1 1 [.int .u8 ((k : Int) % 250)] rfl rfl (cell_one_new _ _ _) (by simp [Value.oneCell']) (by unfold maxLen; omega) (by omega) (by simp; omega) ?_; intro v' w1 hown' hgrow _; obtain ⟨g', cap', rfl⟩ := ownsRow_succ hown')
        go_roundw
        case rel => exact ⟨pre ++ [UInt8.ofNat (k % 250)], k / 250, by simp, by omega, by rw [Hd.out, Hk.out]; simp, by simpa [E1.out] using hown', gets_below hB hown hgrow⟩
        case measure => simp [intOf]; omega
      · obtain rfl : k = 0 := by omega
        have Hp : Hid (Wm.digs N = pre) := Lib.hid (by rw [Hd.out, Wm.digs_zero, List.append_nil])
        go_wp2_with (at_builtin; refine wpList_append_own _ rfl _ _ 93 rfl w.heap.size 5 i0 (.int .u8 0) 1 1 Try.underlying93 hi hz0 hz1 hz2 rfl (by decide) _ _ _ rfl (hown.alloc _) ⟨wr.heap.size, 0, none⟩ 1 1 [_] rfl rfl (cell_one_new _ _ _) (by simp [Value.oneCell']) (by unfold maxLen; omega) (by omega) (by simp; omega) ?_; intro v' w1 hown' hgrow _; obtain ⟨g', cap', rfl⟩ := ownsRow_succ hown'; have hB1 := gets_below hB hown hgrow; clear hgrow; first | have hconv := rint_conv (c := 255) Hp.out hown' | have hconv := rint_conv (c := 254) Hp.out hown')
        go_ret2
        exact ⟨ret2 (by rw [hlay.out]) rfl, hB1⟩

set_option maxHeartbeats 400000 in
theorem RInt_no (x : Int) (w : World) (hx : x < -2147483647 ∨ 2147483647 < x) :
    Calls Try.prog 48 #[.int .i64 x] w fun e w' => e = .returned (.tuple #[.string (strOf []), .int .i64 1]) ∧ Below w.heap.size w w' := by
  rcases hx with hx | hx
  · go_enter Try.func48, Try.ntmps48
    go_wp2
    go_ret2
    exact ⟨rfl, Below.refl _ _⟩
  · have hx' : ¬ x < -2147483647 := by omega
    go_enter Try.func48, Try.ntmps48
    go_wp2
    go_ret2
    exact ⟨rfl, Below.refl _ _⟩

theorem RInt_any (x : Int) (w : World) :
    Calls Try.prog 48 #[.int .i64 x] w fun e w' => e = .returned (.tuple #[.string (intsS [x]), .int .i64 (intsE [x])]) ∧ Below w.heap.size w w' := by
  by_cases h : Wm.fits x = true
  · rw [intsS_one h, intsE_one h]
    exact RInt_yes x w (Wm.fits_iff.1 h).1 (Wm.fits_iff.1 h).2
  · have e1 : intsS [x] = strOf [] := by simp [intsS, h]
    have e2 : intsE [x] = 1 := by simp [intsE, h]
    rw [e1, e2]
    refine RInt_no x w ?_
    by_cases h1 : -2147483647 ≤ x
    · by_cases h2 : x ≤ 2147483647
      · exact absurd (Wm.fits_iff.2 ⟨h1, h2⟩) h
      · right; omega
    · left; omega

set_option maxHeartbeats 400000 in
theorem RText_any (s : ByteArray) (w : World) (hs : s.size ≤ maxLen) :
    Calls Try.prog 65 #[.string s] w fun e w' => e = .returned (.tuple #[.string (textS s), .int .i64 (textE s)]) ∧ Below w.heap.size w w' := by
  unfold maxLen at hs
  by_cases h : s.size ≤ 3000
  · have hfit : Wm.fits (s.size : Int) = true := Wm.fits_iff.2 (by omega)
    have hcat : ¬ 9223372036854775807 < (strOf (Wm.lay (s.size : Int))).size + s.size := by
      rw [strOf_size]; have := lay_short _ hfit; omega
    clear hfit
    go_enter Try.func65, Try.ntmps65
    go_wp2_with fail
    refine (RInt_yes (s.size : Int) _ (by omega) (by omega)).mono ?_
    rintro e w1 ⟨rfl, hB⟩
    go_wp2
    go_ret2
    exact ⟨ret2 (by rw [textS, if_pos h]; exact strOf_append _ _) (by rw [textE, if_pos h]), hB⟩
  · go_enter Try.func65, Try.ntmps65
    go_wp2
    go_ret2
    exact ⟨ret2 (by rw [textS, if_neg h]; rfl) (by rw [textE, if_neg h]), Below.refl _ _⟩

end Go.Proofs.Yteepemibmjpnfaa
