/-
  Layer 5 (life): the walk of the law LifeParts.
-/
import Derived.Test.YtipblfmabhggkaaLifeApp
namespace Go.Proofs.Ytipblfmabhggkaa
open Go.RowKit

set_option maxRecDepth 10000 in
set_option maxHeartbeats 2000000 in
theorem lifeParts_main (p : Int) (A A2 : Option Addr) (cap cap2 : Nat) (zs ms : List Int) (w : World) (hA : IntsAt w w.heap.size A zs) (hA2 : IntsAt w w.heap.size A2 ms) (hn1 : A = none → cap = 0) (hn2 : A2 = none → cap2 = 0) (hl : zs.length ≤ maxLen) (hl2 : ms.length ≤ maxLen) :
    Calls Try.prog 4 #[.int .i64 p, .slice A zs.length cap, .slice A2 ms.length cap2] w fun e w' => e = .returned (.bool true) ∧ Below w.heap.size w w' := by
  unfold maxLen at hl hl2
  by_cases hlen : (100 : Int) < zs.length
  · go_enter Try.func4, Try.ntmps4
    go_wp2
    go_ret
    exact ⟨rfl, Below.refl _ _⟩
  · by_cases hlen2 : (100 : Int) < ms.length
    · have d1 : decide ((100 : Int) < zs.length) = false := decide_eq_false hlen
      go_enter Try.func4, Try.ntmps4
      go_wp2
      go_ret
      exact ⟨rfl, Below.refl _ _⟩
    · have d1 : decide ((100 : Int) < zs.length) = false := decide_eq_false hlen
      have d2 : decide ((100 : Int) < ms.length) = false := decide_eq_false hlen2
      have Hz : Hid (zs.length ≤ 100) := Lib.hid (by omega)
      have Hm : Hid (ms.length ≤ 100) := Lib.hid (by omega)
      have hz1 : (zs.length : Int) ≤ 100 := by omega
      have hm1 : (ms.length : Int) ≤ 100 := by omega
      have hR1 := fun W hW => Run_any p A cap zs W hW (by omega)
      have hR2 := fun W hW => Run_any (Lf.runP p zs) A2 cap2 ms W hW (by omega)
      have hR3 := fun A' c' W hW => Run_any p A' c' (zs ++ ms) W hW (by rw [List.length_append]; omega)
      rw [Lf.runP_append, Lf.runN_append] at hR3
      have hR4 : ∀ A' c' W, IntsAt W W.heap.size A' (zs ++ ms) → Calls Try.prog 11 #[.int .i64 p, .slice A' (zs.length + ms.length) c'] W _ := fun A' c' W hW => by have := hR3 A' c' W hW; rw [List.length_append] at this; exact this
      replace hR3 := hR4
      clear hR4
      obtain ⟨q, hq⟩ : ∃ q, q = Lf.runP p zs := ⟨_, rfl⟩
      rw [← hq] at hR1 hR2 hR3
      obtain ⟨r, hr⟩ : ∃ r, r = Lf.runP q ms := ⟨_, rfl⟩
      rw [← hr] at hR2 hR3
      have b1 := Lf.runN_le p zs
      have b2 := Lf.runN_le q ms
      obtain ⟨m, hm⟩ : ∃ m, m = Lf.runN p zs := ⟨_, rfl⟩
      obtain ⟨n, hn⟩ : ∃ n, n = Lf.runN q ms := ⟨_, rfl⟩
      rw [← hm] at hR1 hR3 b1
      rw [← hn] at hR2 hR3 b2
      have iw : wrap64 ((m : Int) + (n : Int)) = (m : Int) + (n : Int) := by unfold wrap64; omega
      have ic : ((m + n : Nat) : Int) = (m : Int) + (n : Int) := by omega
      simp only [ic] at hR3
      have HA := Lib.hid hA
      have HA2 := Lib.hid hA2
      clear hA hA2 hl hl2 hlen hlen2 hq hr hm hn b1 b2 ic
      go_enter Try.func4, Try.ntmps4
      go_wp2_with fail
      refine (hR1 _ HA.out).mono ?_
      rintro e w1 ⟨rfl, hB1⟩
      clear hR1
      go_wp2_with fail
      refine (hR2 _ (HA2.out.on hB1)).mono ?_
      rintro e w2 ⟨rfl, hB2⟩
      have HB2 := Lib.hid (below2 hB1 hB2)
      have HAw := Lib.hid (HA.out.on HB2.out)
      clear hR2 hB1 hB2
      go_wp2_with (first
        | (at_builtin; refine wpList_append_ints rfl _ _ rfl w2.heap.size (.slice none 0 0) [] zs rfl (World.ownsRow_nil _ _ _ _) A cap rfl HAw.out hn1 (Nat.le_refl _) (by have := Hz.out; simp; omega) ?_; intro v3 w3 ho3 hg3; have HO3 := Lib.hid ho3; have HB3 : Hid (Below w2.heap.size w2 w3) := Lib.hid ((Below.refl _ w2).grown hg3 (Nat.le_refl _) (fun k hk => by cases hk)); have HA3 := Lib.hid (HA2.out.on (below2 HB2.out HB3.out)); clear ho3 hg3)
        | (at_builtin; refine wpList_append_ints rfl _ _ rfl w2.heap.size v3 zs ms rfl HO3.out A2 cap2 rfl HA3.out hn2 HB3.out.size (by have := Hz.out; have := Hm.out; omega) ?_; intro v4 w4 ho4 hg4; obtain ⟨A4, c4, rfl⟩ := ownsRow_slice ho4; have HI4 := Lib.hid (IntsAt.of_own ho4); have HB4 : Hid (Below w.heap.size w w4) := Lib.hid (below2 HB2.out (HB3.out.grown hg4 HB3.out.size (fun k hk => (HO3.out.lt k hk).1))); clear ho4 hg4))
      refine (hR3 A4 c4 _ HI4.out).mono ?_
      rintro e w5 ⟨rfl, hB5⟩
      clear hR3
      go_wp2_with fail
      refine (lived_any _).mono ?_
      rintro e w6 ⟨rfl, hB6⟩
      have HB := Lib.hid (below2 HB4.out (below2 hB5 hB6))
      clear hB5 hB6
      go_wp2
      go_ret
      exact ⟨rfl, HB.out⟩

theorem lifeParts_walk (p : Int) (A : Option Addr) (len cap : Nat) (zs : List Int) (A2 : Option Addr) (len2 cap2 : Nat) (ms : List Int) (w : World) (_hp : (Lit.int .i64 p).wf = true) (h : IsRow .i64 w A len cap zs) (h' : IsRow .i64 w A2 len2 cap2 ms) :
    Calls Try.prog 4 #[.int .i64 p, .slice A len cap, .slice A2 len2 cap2] w fun e w' => e = .returned (.bool true) ∧ Below w.heap.size w w' := by
  obtain ⟨e, h1, h2, _⟩ := h.ints
  obtain ⟨e', h1', h2', _⟩ := h'.ints
  have n1 : A = none → cap = 0 := fun hn => by
    rcases h with ⟨_, _, h, _⟩ | ⟨x, h, _⟩
    · exact h
    · rw [h] at hn; cases hn
  have n2 : A2 = none → cap2 = 0 := fun hn => by
    rcases h' with ⟨_, _, h, _⟩ | ⟨x, h, _⟩
    · exact h
    · rw [h] at hn; cases hn
  have := lifeParts_main p A A2 cap cap2 (zs.take len) (ms.take len2) w h2 h2' n1 n2 (by rw [← e]; exact h1) (by rw [← e']; exact h1')
  rw [← e, ← e'] at this; exact this
end Go.Proofs.Ytipblfmabhggkaa
