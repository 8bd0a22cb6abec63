/-
  Layer 1 (wire): the walk of the law WireReads.
-/
import Derived.Test.YtchcnfkobljmnaaWireSame
import Derived.Test.YtchcnfkobljmnaaRefGet
namespace Go.Proofs.Ytchcnfkobljmnaa
open Go.RowKit

theorem RGetInts_at (s : ByteArray) (m : Int) (ns : List Int) (r : List UInt8) (c : Int) (w : World) (hs : s.size ≤ maxLen) (h : getsL (bl s) m = (ns, r, c)) :
    Calls Try.prog 20 #[.string s, .int .i64 m] w fun e w' => ∃ A cap, e = .returned (.tuple #[.slice A ns.length cap, .string (strOf r), .int .i64 c]) ∧ IntsAt w' w'.heap.size A ns ∧ Below w.heap.size w w' := by
  have := RGetInts_any s m w hs
  rw [h] at this
  refine this.mono ?_
  rintro e w' ⟨v, he, ho, hb⟩
  obtain ⟨A, cap, rfl⟩ := ownsRow_slice ho
  exact ⟨A, cap, he, IntsAt.of_own ho, hb⟩

theorem getsL_length (l : List UInt8) (m : Int) {ns : List Int} {r : List UInt8} {c : Int} (h : getsL l m = (ns, r, c)) : ns.length ≤ 100 := by
  rcases getsL_cases l m with ⟨ns', r', hg, _, h100, _⟩ | ⟨c', _, hg⟩
  · rw [hg] at h; injection h with h1 h2; subst h1; exact h100
  · rw [hg] at h; injection h with h1 h2; subst h1; simp

set_option maxRecDepth 100000 in
set_option maxHeartbeats 2000000 in
theorem wireReads_walk (s : ByteArray) (m : Int) (w : World) (hs : s.size ≤ maxLen) (_hm : (Lit.int .i64 m).wf = true) :
    Calls Try.prog 4 #[.string s, .int .i64 m] w fun e w' => e = .returned (.bool true) ∧ Below w.heap.size w w' := by
  have Hs := Lib.hid hs
  unfold maxLen at hs
  by_cases hlong : 1000 < s.size
  · have hd : decide (1000 < (s.size : Int)) = true := decide_eq_true (by omega)
    go_enter Try.func4, Try.ntmps4
    go_wp2
    go_ret
    exact ⟨rfl, Below.refl _ _⟩
  · have hd : decide (1000 < (s.size : Int)) = false := decide_eq_false (by omega)
    clear hlong
    obtain ⟨n1, r1, c1, h1⟩ : ∃ n r c, Wm.getInt (bl s) = (n, r, c) := ⟨_, _, _, rfl⟩
    obtain ⟨ns, r2, c2, h2⟩ : ∃ n r c, getsL (bl s) m = (n, r, c) := ⟨_, _, _, rfl⟩
    have hlen := getsL_length _ _ h2
    have H1 := Lib.hid h1; have H2 := Lib.hid h2
    clear h1 h2
    go_enter Try.func4, Try.ntmps4
    go_wp2_with fail
    refine (GetInt_at s n1 r1 c1 w Hs.out H1.out).mono ?_
    rintro e w1 ⟨rfl, k1, rfl⟩
    have hB1 := below_drew (Below.refl w.heap.size w) k1
    obtain ⟨W1, hW1⟩ : ∃ W1, W1 = w.drewN k1 := ⟨_, rfl⟩
    rw [← hW1] at hB1 ⊢
    clear hW1
    go_wp2_with fail
    refine (RGetInt_at s n1 r1 c1 W1 Hs.out H1.out).mono ?_
    rintro e w2 ⟨rfl, hB2⟩
    have hB12 := below2 hB1 hB2
    go_wp2_with fail
    refine (GetInts_at s m ns r2 c2 w2 Hs.out H2.out).mono ?_
    rintro e w3 ⟨A, ca, rfl, hA, hB3⟩
    have hB13 := below2 hB12 hB3
    go_wp2_with fail
    refine (RGetInts_at s m ns r2 c2 w3 Hs.out H2.out).mono ?_
    rintro e w4 ⟨A', ca', rfl, hA', hB4⟩
    have hB14 := below2 hB13 hB4
    obtain ⟨t3, r3, c3, h3⟩ : ∃ n r c, Wm.getText (bl s) = (n, r, c) := ⟨_, _, _, rfl⟩
    have H3 := Lib.hid h3
    clear h3
    go_wp2_with fail
    refine (GetText_at s t3 r3 c3 w4 Hs.out H3.out).mono ?_
    rintro e w5 ⟨rfl, k5, rfl⟩
    have hB45 := below_drew (Below.refl w4.heap.size w4) k5
    obtain ⟨W5, hW5⟩ : ∃ W5, W5 = w4.drewN k5 := ⟨_, rfl⟩
    rw [← hW5] at hB45 ⊢
    clear hW5
    go_wp2_with fail
    have hrt := RGetText_any s W5 Hs.out
    rw [H3.out] at hrt
    refine hrt.mono ?_
    clear hrt
    rintro e w6 ⟨rfl, hB6⟩
    go_wp2_with fail
    refine (wired_any w6).mono ?_
    rintro e w7 ⟨rfl, hB7⟩
    have hB47 := below2 hB45 (below2 hB6 hB7)
    have hB37 := below2 hB4 hB47
    go_wp2_with fail
    refine (Same_any A A' ca ca' ns ns w7 ((hA.below hB37 (Nat.le_refl _)).more hB37.size) ((hA'.below hB47 (Nat.le_refl _)).more hB47.size) (by omega) (by omega)).mono ?_
    rintro e w8 ⟨rfl, k8, rfl⟩
    rw [decide_eq_true (rfl : ns = ns)]
    go_wp2
    go_ret
    exact ⟨rfl, below_drew (below2 hB14 hB47) k8⟩

end Go.Proofs.Ytchcnfkobljmnaa
