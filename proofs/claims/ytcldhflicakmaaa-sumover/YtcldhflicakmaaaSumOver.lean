/-
  Layer 2 (sum): the walk of the law SumOver.
-/
import Derived.Test.YtcldhflicakmaaaSumSummed
import Derived.Test.YtcldhflicakmaaaAidStrs
namespace Go.Proofs.Ytcldhflicakmaaa
open Go.RowKit

theorem cat_le {ss : List ByteArray} {n : Nat} (h : ∀ s ∈ ss, s.size ≤ n) : (cat ss).length ≤ ss.length * n := by
  induction ss with
  | nil => simp [cat]
  | cons a ss ih =>
    have h1 := h a (by simp)
    have h2 := ih (fun s hs => h s (by simp [hs]))
    have e : (cat (a :: ss)).length = a.size + (cat ss).length := by simp [cat, bl_length]
    rw [e, List.length_cons, Nat.add_mul]; omega
theorem cat_two (l : List UInt8) : cat [strOf l, strOf []] = l := by simp [cat, bl_strOf]

set_option maxRecDepth 10000 in
set_option maxHeartbeats 1000000 in
theorem sumOver_main (A : Option Addr) (cap : Nat) (ss : List ByteArray) (w : World) (hA : StrsAt w w.heap.size A ss) (hl : ss.length ≤ maxLen) :
    Calls Try.prog 4 #[.slice A ss.length cap] w fun e w' => e = .returned (.bool true) ∧ Below w.heap.size w w' := by
  unfold maxLen at hl
  by_cases hlen : (30 : Int) < ss.length
  · go_enter Try.func4, Try.ntmps4
    go_wp2
    go_ret
    exact ⟨rfl, Below.refl _ _⟩
  · have hle : (ss.length : Int) ≤ 30 := by omega
    clear hl hlen
    go_enter Try.func4, Try.ntmps4
    go_wp2
    go_loop [3, 4] (fun t i => ∃ k : Nat, k ≤ ss.length ∧ i = .int .i64 (k : Int) ∧ t = .string (strOf (cat (ss.take k))) ∧ Hid (∀ s ∈ ss.take k, s.size ≤ 100)) (fun _ i => ss.length - (intOf i).toNat)
    case atStart => exact ⟨0, by omega, rfl, rfl, Lib.hid (by simp)⟩
    case round =>
      obtain ⟨k, hk, rfl, rfl, H⟩ := hrel
      by_cases hlt : k < ss.length
      · obtain ⟨b, off, rfl, hb, hc⟩ := hA k hlt
        have i1 : (k : Int) < (ss.length : Int) := by omega
        have hcatle : (cat (ss.take k)).length ≤ 30 * 100 := Nat.le_trans (cat_le H.out) (Nat.mul_le_mul_right _ (by rw [List.length_take]; omega))
        have Hs := Lib.hid (show strOf (cat (ss.take k)) ++ ss[k] = strOf (cat (ss.take (k + 1))) by rw [cat_take_succ hlt, strOf_append])
        have Ht : Hid (ss.take (k + 1) = ss.take k ++ [ss[k]]) := Lib.hid (List.take_succ_eq_append_getElem hlt)
        obtain ⟨s, hs'⟩ : ∃ s, s = ss[k] := ⟨_, rfl⟩
        rw [← hs'] at hc Hs Ht
        clear hs'
        by_cases hbig : (100 : Int) < s.size
        · clear hcatle
          go_wp2
          go_ret
          exact ⟨rfl, Below.refl _ _⟩
        · have hsm : (s.size : Int) ≤ 100 := by omega
          have hcat1 : ¬ 9223372036854775807 < (strOf (cat (ss.take k))).size + s.size := by rw [strOf_size]; omega
          clear hbig hcatle
          go_wp2
          rw [Hs.out]
          go_round
          case rel => exact ⟨k + 1, by omega, by go_num, rfl, Lib.hid (by
            rw [Ht.out]
            intro x hx
            rcases List.mem_append.1 hx with h | h
            · exact H.out x h
            · rw [List.mem_singleton] at h; subst h; omega)⟩
          case measure => simp [intOf]; omega
      · obtain rfl : k = ss.length := by omega
        rw [List.take_length]
        have hH := H.out
        rw [List.take_length] at hH
        have hcatle : (cat ss).length ≤ 30 * 100 := Nat.le_trans (cat_le hH) (Nat.mul_le_mul_right _ (by omega))
        have hci : ((cat ss).length : Int) ≤ 3000 := by omega
        clear hH H hcatle hlt
        go_wp2_with fail
        refine (summed_any _).mono ?_
        rintro e w1 ⟨rfl, hB1⟩
        go_wp2_with fail
        refine (Over_any A cap ss _ ((hA.below hB1 (Nat.le_refl _)).more hB1.size) (by omega) (by omega)).mono ?_
        rintro e w2 ⟨rfl, hB2⟩
        go_wp2_with fail
        refine (Of_any (strOf (cat ss)) _ (by rw [strOf_size]; omega)).mono ?_
        rintro e w3 ⟨rfl, hB3⟩
        rw [bl_strOf]
        go_wp2_with fail
        refine (Over_any (some ⟨w3.heap.size, 0, none⟩) 2 [strOf (cat ss), strOf []] _ ((StrsAt.new w3 [strOf (cat ss), strOf []] 9).more (by simp)) (by simp) (by rw [cat_two]; omega)).mono ?_
        rintro e w4 ⟨rfl, hB4⟩
        rw [cat_two]
        go_wp2_with fail
        refine (Of_any (strOf (cat ss)) _ (by rw [strOf_size]; omega)).mono ?_
        rintro e w5 ⟨rfl, hB5⟩
        rw [bl_strOf]
        go_wp2
        go_ret
        exact ⟨rfl, below2 hB1 (below2 hB2 (below2 hB3 (below2 (((Below.refl _ w3).alloc (Nat.le_refl _) _).trans (hB4.mono (by simp))) hB5)))⟩

theorem sumOver_walk (a : Option Addr) (len cap : Nat) (ss : List ByteArray) (w : World) (h : IsStrs w a len cap ss) :
    Calls Try.prog 4 #[.slice a len cap] w fun e w' => e = .returned (.bool true) ∧ Below w.heap.size w w' := by
  obtain ⟨rfl, h1, h2, _⟩ := h.strs
  exact sumOver_main a cap ss w h2 h1

end Go.Proofs.Ytcldhflicakmaaa
