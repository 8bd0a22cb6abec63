/-
  Layer 13 (record): the law's far.
-/
import Derived.Test.YtfapfnbehhekhaaRefFile1
import Derived.Test.YtfapfnbehhekhaaAidStrs
namespace Go.Proofs.Ytfapfnbehhekhaa
set_option maxRecDepth 10000
open Go.RowKit

def longB (s : ByteArray) : Bool := (decide (200 < s.size) && decide (s.size ≤ 1000)) || decide (1100 < s.size)
def farB (k l : ByteArray) (ss : List ByteArray) : Bool := ss.any longB || decide (2000 < k.size ∨ 2000 < l.size) || decide (30 < ss.length)
theorem farB_long {k l : ByteArray} {ss : List ByteArray} {s : ByteArray} (h : s ∈ ss) (h2 : longB s = true) : farB k l ss = true := by
  unfold farB; rw [List.any_eq_true.2 ⟨s, h, h2⟩]; rfl
theorem farB_rest {k l : ByteArray} {ss : List ByteArray} (h : ∀ s ∈ ss, longB s = false) : farB k l ss = (decide (2000 < k.size ∨ 2000 < l.size) || decide (30 < ss.length)) := by
  unfold farB
  have : ss.any longB = false := by
    rw [List.any_eq_false]; intro s hs; rw [h s hs]; simp
  rw [this, Bool.false_or]
theorem farB_no {k l : ByteArray} {ss : List ByteArray} (h : farB k l ss = false) : (k.size ≤ 2000 ∧ l.size ≤ 2000) ∧ ss.length ≤ 30 ∧ ∀ s ∈ ss, s.size ≤ 1100 ∧ (s.size ≤ 1000 → s.size ≤ 200) := by
  unfold farB at h
  rw [Bool.or_eq_false_iff, Bool.or_eq_false_iff] at h
  obtain ⟨⟨h1, h2⟩, h3⟩ := h
  have h2 := of_decide_eq_false h2
  have h3 := of_decide_eq_false h3
  refine ⟨by omega, by omega, fun s hs => ?_⟩
  have h4 := List.any_eq_false.1 h1 s hs
  unfold longB at h4
  simp at h4
  omega

set_option maxHeartbeats 1000000 in
theorem far13_any (m : Int) (k l : ByteArray) (A : Option Addr) (cap : Nat) (ss : List ByteArray) (w : World) (hA : StrsAt w w.heap.size A ss) (hl : ss.length ≤ maxLen) (hsz : ∀ s ∈ ss, s.size ≤ maxLen) :
    Calls Try.prog 8 #[.agg #[.int .i64 m, .string k, .string l], .slice A ss.length cap] w fun e w' => e = .returned (.bool (farB k l ss)) ∧ Below w.heap.size w w' := by
  unfold maxLen at hl
  have p1 := fun W => FRBig_any m k l W
  have Hsz := Lib.hid hsz
  have HA := Lib.hid hA
  have hF0 := FilAt.new w m k l 23
  have Hb0 := Lib.hid (below_new w (.cells #[.int .i64 m, .string k, .string l] 23))
  have HG := Lib.hid hF0
  clear hsz hA hF0
  go_enter Try.func8, Try.ntmps8
  go_wp2_with fail
  go_loopw [5] (fun i wr => ∃ j : Nat, j ≤ ss.length ∧ i = .int .i64 (j : Int) ∧ Hid (∀ s ∈ ss.take j, longB s = false) ∧ Hid (Below (w.heap.size + 1) (w.alloc (.cells #[.int .i64 m, .string k, .string l] 23)) wr)) (fun i _ => ss.length - (intOf i).toNat)
  case atStart => exact ⟨0, Nat.zero_le _, rfl, Lib.hid (by simp), Lib.hid (Below.refl _ _)⟩
  case round =>
    obtain ⟨j, hj, rfl, HL, HB⟩ := hrel
    have HB1 : Hid (Below w.heap.size w wr) := Lib.hid (below2 Hb0.out (by have := HB.out; simpa using this))
    by_cases hlt : j < ss.length
    · obtain ⟨b, off, rfl, hb, hc⟩ := HA.out j hlt
      have hc' := (HB1.out.cell (p := ⟨b, off + j, none⟩) hb).trans hc
      have hz := Hsz.out ss[j] (List.getElem_mem hlt)
      unfold maxLen at hz
      obtain ⟨x, hx⟩ : ∃ x, x = ss[j] := ⟨_, rfl⟩
      rw [← hx] at hc' hz
      have Hx := Lib.hid hx
      have Hxm : Hid (x ∈ ss) := Lib.hid (by rw [hx]; exact List.getElem_mem hlt)
      clear hx hc hb
      by_cases hlong : longB x = true
      · have Hno := Lib.hid (farB_long (k := k) (l := l) Hxm.out hlong)
        unfold longB at hlong
        by_cases h1 : 1100 < x.size
        · have i1 : ((200 : Int) < (x.size : Int)) = True := eq_true (by omega)
          have i2 : ((x.size : Int) ≤ 1000) = False := eq_false (by omega)
          have i3 : ((1100 : Int) < (x.size : Int)) = True := eq_true (by omega)
          clear hlong h1
          go_wp2
          go_ret
          exact ⟨retb Hno.out.symm, HB1.out⟩
        · have i1 : ((200 : Int) < (x.size : Int)) = True := eq_true (by simp at hlong; omega)
          have i2 : ((x.size : Int) ≤ 1000) = True := eq_true (by simp at hlong; omega)
          clear hlong h1
          go_wp2
          go_ret
          exact ⟨retb Hno.out.symm, HB1.out⟩
      · have hl2 : longB x = false := by simpa using hlong
        have Hl2 := Lib.hid hl2
        have h1 : ((1100 : Int) < (x.size : Int)) = False := eq_false (by unfold longB at hl2; simp at hl2; omega)
        by_cases h2 : 200 < x.size
        · have i2 : ((x.size : Int) ≤ 1000) = False := eq_false (by unfold longB at hl2; simp at hl2; omega)
          have i1 : ((200 : Int) < (x.size : Int)) = True := eq_true (by omega)
          clear hlong hl2 h2
          go_wp2
          go_roundw
          case rel =>
            refine ⟨j + 1, by omega, by go_num, Lib.hid ?_, HB⟩
            rw [List.take_succ_eq_append_getElem hlt, ← Hx.out]
            intro s hs
            rcases List.mem_append.1 hs with h | h
            · exact HL.out s h
            · obtain rfl : s = x := by simpa using h
              exact Hl2.out
          case measure => simp [intOf]; omega
        · have i1 : ((200 : Int) < (x.size : Int)) = False := eq_false (by omega)
          clear hlong hl2 h2
          go_wp2
          go_roundw
          case rel =>
            refine ⟨j + 1, by omega, by go_num, Lib.hid ?_, HB⟩
            rw [List.take_succ_eq_append_getElem hlt, ← Hx.out]
            intro s hs
            rcases List.mem_append.1 hs with h | h
            · exact HL.out s h
            · obtain rfl : s = x := by simpa using h
              exact Hl2.out
          case measure => simp [intOf]; omega
    · obtain rfl : j = ss.length := by omega
      rw [List.take_length] at HL
      have Hy := Lib.hid (farB_rest (k := k) (l := l) HL.out)
      have hF := HG.out.below (by have := HB.out; simpa using this)
      have d0 := hF.c0
      have d1 := hF.c1
      have d2 := hF.c2
      obtain ⟨z, hz⟩ : ∃ z : Bool, z = decide (2000 < k.size ∨ 2000 < l.size) := ⟨_, rfl⟩
      rw [← hz] at p1 Hy
      clear hF hz
      go_wp2_with fail
      refine (p1 _).mono ?_
      rintro e w2 ⟨rfl, hB⟩
      have HB2 := Lib.hid (below2 HB1.out hB)
      clear hB d0 d1 d2 p1
      cases z
      · go_wp2
        go_ret
        exact ⟨retb (by rw [Hy.out]; simp; omega), HB2.out⟩
      · go_wp2
        go_ret
        exact ⟨retb (by rw [Hy.out]; simp), HB2.out⟩
end Go.Proofs.Ytfapfnbehhekhaa
