/-
  The references' helper Short: are texts no longer than is looked at?
-/
import Derived.Test.YtdhklggbmlkloaaChecked
import Derived.Test.YtdhklggbmlkloaaAid
namespace Go.Proofs.Ytdhklggbmlkloaa
set_option maxRecDepth 10000
open Go.RowKit

def shortB (ss : List ByteArray) : Bool := ss.all (fun s => decide (s.size ≤ 300)) && decide (ss.length ≤ 60)
set_option maxHeartbeats 400000 in
theorem Short_any (A : Option Addr) (cap : Nat) (ss : List ByteArray) (w : World) (hA : StrsAt w w.heap.size A ss) (hl : ss.length ≤ maxLen) (hsz : ∀ s ∈ ss, s.size ≤ maxLen) :
    Calls Try.prog 27 #[.slice A ss.length cap] w fun e w' => e = .returned (.bool (shortB ss)) ∧ w = w' := by
  unfold maxLen at hl
  have Hsz := Lib.hid hsz
  clear hsz
  go_enter Try.func27, Try.ntmps27
  go_wp2
  go_loop [3] (fun i => ∃ k : Nat, k ≤ ss.length ∧ i = .int .i64 (k : Int) ∧ Hid (∀ s ∈ ss.take k, s.size ≤ 300)) (fun i => ss.length - (intOf i).toNat)
  case atStart => exact ⟨0, Nat.zero_le _, rfl, Lib.hid (by simp)⟩
  case round =>
    obtain ⟨k, hk, rfl, H⟩ := hrel
    by_cases hlt : k < ss.length
    · obtain ⟨b, off, rfl, hb, hc⟩ := hA k hlt
      have hz := Hsz.out ss[k] (List.getElem_mem hlt)
      unfold maxLen at hz
      obtain ⟨x, hx⟩ : ∃ x, x = ss[k] := ⟨_, rfl⟩
      rw [← hx] at hc hz
      have Hx := Lib.hid hx
      clear hx
      by_cases hbig : 300 < x.size
      · have Hno : Hid (shortB ss = false) := Lib.hid (by
          rw [shortB, Bool.and_eq_false_iff]; left
          rw [Bool.eq_false_iff]; intro hh
          have := List.all_eq_true.1 hh x (by rw [Hx.out]; exact List.getElem_mem hlt)
          have := of_decide_eq_true this
          omega)
        go_wp2
        go_ret
        exact ⟨retb Hno.out.symm, rfl⟩
      · go_wp2
        go_round
        case rel =>
          refine ⟨k + 1, by omega, by go_num, Lib.hid ?_⟩
          rw [List.take_succ_eq_append_getElem hlt, ← Hx.out]
          intro s hs
          rcases List.mem_append.1 hs with h | h
          · exact H.out s h
          · obtain rfl : s = x := by simpa using h
            omega
        case measure => simp [intOf]; omega
    · obtain rfl : k = ss.length := by omega
      rw [List.take_length] at H
      have Hy : Hid (shortB ss = decide (ss.length ≤ 60)) := Lib.hid (by
        rw [shortB, List.all_eq_true.2 (fun s hs => decide_eq_true (H.out s hs)), Bool.true_and])
      go_wp2
      go_ret
      exact ⟨retb (by rw [Hy.out, decide_eq_decide]; omega), rfl⟩

theorem Short_two (a b : ByteArray) (w : World) (ha : a.size ≤ maxLen) (hb : b.size ≤ maxLen) :
    Calls Try.prog 27 #[.slice (some ⟨w.heap.size, 0, none⟩) 2 2] (w.alloc (.cells #[.string a, .string b] 9)) fun e w' => e = .returned (.bool (decide (a.size ≤ 300) && decide (b.size ≤ 300))) ∧ w.alloc (.cells #[.string a, .string b] 9) = w' := by
  have h := Short_any (some ⟨w.heap.size, 0, none⟩) 2 [a, b] (w.alloc (.cells #[.string a, .string b] 9)) ((StrsAt.new w [a, b] 9).more (by simp)) (Nat.le_trans (show 2 ≤ 3 by decide) (by decide)) (by simp [ha, hb])
  refine h.mono ?_
  rintro e w' ⟨rfl, hw⟩
  exact ⟨by simp [shortB], hw⟩

end Go.Proofs.Ytdhklggbmlkloaa
