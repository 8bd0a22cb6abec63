/-
  Layer 1 (wire): the walk of the law WireLays.
-/
import Derived.Test.YtchcnfkobljmnaaWireSame
import Derived.Test.YtchcnfkobljmnaaRefSame
import Derived.Test.YtchcnfkobljmnaaRefOwn
import Derived.Test.YtchcnfkobljmnaaRefWire
namespace Go.Proofs.Ytchcnfkobljmnaa
open Go.RowKit

theorem IsRow.nil_cap {k : IntKind} {w : World} {a : Option Addr} {len cap : Nat} {zs : List Int} (h : IsRow k w a len cap zs) : a = none → cap = 0 := by
  rcases h with ⟨_, _, rfl, _⟩ | ⟨x, rfl, _⟩
  · exact fun _ => rfl
  · intro h; cases h

set_option maxRecDepth 100000 in
set_option maxHeartbeats 2000000 in
theorem wireLays_main (n : Int) (A : Option Addr) (cap : Nat) (zs : List Int) (s : ByteArray) (w : World) (hA : IntsAt w w.heap.size A zs) (hnil : A = none → cap = 0) (hl : zs.length ≤ maxLen) (hs : s.size ≤ maxLen) :
    Calls Try.prog 3 #[.int .i64 n, .slice A zs.length cap, .string s] w fun e w' => e = .returned (.bool true) ∧ Below w.heap.size w w' := by
  have Hs := Lib.hid hs; have Hnil := Lib.hid hnil
  clear hnil
  unfold maxLen at hl hs
  by_cases h1 : 200 < zs.length
  · have hd : decide (200 < (zs.length : Int)) = true := decide_eq_true (by omega)
    go_enter Try.func3, Try.ntmps3
    go_wp2
    go_ret
    exact ⟨rfl, Below.refl _ _⟩
  · have hd : decide (200 < (zs.length : Int)) = false := decide_eq_false (by omega)
    have hz : zs.length ≤ 200 := by omega
    clear h1
    by_cases h2 : 3500 < s.size
    · have hd2 : decide (3500 < (s.size : Int)) = true := decide_eq_true (by omega)
      go_enter Try.func3, Try.ntmps3
      go_wp2
      go_ret
      exact ⟨rfl, Below.refl _ _⟩
    · have hd2 : decide (3500 < (s.size : Int)) = false := decide_eq_false (by omega)
      clear h2
      go_enter Try.func3, Try.ntmps3
      go_wp2_with fail
      refine (Own_any A cap zs w hA Hnil.out (by omega)).mono ?_
      rintro e w1 ⟨A', cap', rfl, hown, hB1⟩
      have hA1 := IntsAt.of_own hown
      clear hown
      go_wp2_with fail
      refine (Int_any n w1).mono ?_
      rintro e w2 ⟨rfl, hB2⟩
      go_wp2_with fail
      refine (RInt_any n w2).mono ?_
      rintro e w3 ⟨rfl, hB3⟩
      have hB13 := below2 hB2 hB3
      have hB03 := below2 hB1 hB13
      go_wp2_with fail
      refine (Ints_any A cap zs w3 ((hA.below hB03 (Nat.le_refl _)).more hB03.size) (by omega)).mono ?_
      rintro e w4 ⟨rfl, hB4⟩
      have hB14 := below2 hB13 hB4
      go_wp2_with fail
      refine (RInts_any A' cap' zs w4 ((hA1.below hB14 (Nat.le_refl _)).more hB14.size) (by omega)).mono ?_
      rintro e w5 ⟨rfl, hB5⟩
      go_wp2_with fail
      refine (Text_any s w5 Hs.out).mono ?_
      rintro e w6 ⟨rfl, hB6⟩
      go_wp2_with fail
      refine (RText_any s w6 Hs.out).mono ?_
      rintro e w7 ⟨rfl, hB7⟩
      go_wp2_with fail
      refine (wired_any w7).mono ?_
      rintro e w8 ⟨rfl, hB8⟩
      have hB18 := below2 hB14 (below2 hB5 (below2 hB6 (below2 hB7 hB8)))
      have hB08 := below2 hB1 hB18
      go_wp2_with fail
      refine (Same_any A A' cap cap' zs zs w8 ((hA.below hB08 (Nat.le_refl _)).more hB08.size) ((hA1.below hB18 (Nat.le_refl _)).more hB18.size) (by omega) (by omega)).mono ?_
      rintro e w9 ⟨rfl, k9, rfl⟩
      rw [decide_eq_true (rfl : zs = zs)]
      go_wp2
      go_ret
      exact ⟨rfl, below_drew hB08 k9⟩

theorem wireLays_walk (n : Int) (a1 : Option Addr) (len1 cap1 : Nat) (z1 : List Int) (a2 : ByteArray) (w : World) (_ : (Lit.int .i64 n).wf = true) (w1 : IsRow .i64 w a1 len1 cap1 z1) (w2 : a2.size ≤ maxLen) :
    Calls Try.prog 3 #[.int .i64 n, .slice a1 len1 cap1, .string a2] w fun e w' => e = .returned (.bool true) ∧ Below w.heap.size w w' := by
  obtain ⟨h1, h2, h3, _⟩ := w1.ints
  have h := wireLays_main n a1 cap1 (z1.take len1) a2 w h3 w1.nil_cap (by omega) w2
  rw [← h1] at h
  exact h

end Go.Proofs.Ytchcnfkobljmnaa
