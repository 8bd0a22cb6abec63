/-
  Layer 4 (spot): the walk of the law SpotRow.
-/
import Derived.Test.YtndpcnimebedcaaDoorSpotSpots
namespace Go.Proofs.YtndpcnimebedcaaDoor
open Go.RowKit

theorem Sp.num_may {b c : Int} (h : Sp.may b c = true) : Sp.num b c = 8 * (b - 1) + c ∧ Sp.numE b c = 0 := by
  unfold Sp.num Sp.numE; rw [h]; exact ⟨rfl, rfl⟩

set_option maxRecDepth 10000 in
set_option maxHeartbeats 2000000 in
theorem spotRow_walk (bed : Int) (w : World) (hE : Errs w) (_hb : (Lit.int .i64 bed).wf = true) :
    Calls Tryd.prog 7 #[.int .i64 bed] w fun e w' => e = .returned (.bool true) ∧ Below w.heap.size w w' := by
  have HE := Lib.hid hE
  clear hE _hb
  by_cases h1 : bed < 1
  · have hd : decide (bed < 1) = true := decide_eq_true h1
    clear h1
    go_enter Tryd.func7, Tryd.ntmps7
    go_wp2_with fail
    refine (spots_any w HE.out).mono ?_
    rintro e w1 ⟨rfl, hB1⟩
    go_wp2
    go_ret
    exact ⟨rfl, hB1⟩
  by_cases h2 : 98 < bed
  · have hd : decide (bed < 1) = false := decide_eq_false h1
    have hd2 : decide (98 < bed) = true := decide_eq_true h2
    clear h1 h2
    go_enter Tryd.func7, Tryd.ntmps7
    go_wp2_with fail
    refine (spots_any w HE.out).mono ?_
    rintro e w1 ⟨rfl, hB1⟩
    go_wp2
    go_ret
    exact ⟨rfl, hB1⟩
  have hd : decide (bed < 1) = false := decide_eq_false h1
  have hd2 : decide (98 < bed) = false := decide_eq_false h2
  have HB : Hid (1 ≤ bed ∧ bed ≤ 98) := Lib.hid (by omega)
  clear h1 h2
  go_enter Tryd.func7, Tryd.ntmps7
  go_wp2_with fail
  go_loopw [3] (fun z wr => ∃ c : Nat, c ≤ 8 ∧ z = .int .i64 (c : Int) ∧ Below w.heap.size w wr) (fun z _ => 8 - (intOf z).toNat)
  case atStart => exact ⟨0, by omega, rfl, Below.refl _ _⟩
  case round =>
    obtain ⟨c, hc, rfl, hB⟩ := hrel
    by_cases hlt : c < 8
    · have hd3 : decide ((c : Int) < 8) = true := decide_eq_true (by omega)
      have m1 : Sp.may bed (c : Int) = true := Sp.may_iff.2 (by have := HB.out; omega)
      have m2 : Sp.may (bed + 1) (c : Int) = true := Sp.may_iff.2 (by have := HB.out; omega)
      have m3 : Sp.may bed 0 = true := Sp.may_iff.2 (by have := HB.out; omega)
      have g1 := fun W => Number_any bed (c : Int) W
      have g2 := fun W => Number_any (bed + 1) (c : Int) W
      have g3 := fun W => Number_any bed 0 W
      have g4 := fun W => Less_any bed 7 (bed + 1) (c : Int) W
      obtain ⟨n, hn⟩ : ∃ n : Int, n = 8 * (bed - 1) + (c : Int) := ⟨_, rfl⟩
      obtain ⟨m, hm⟩ : ∃ m : Int, m = 8 * (bed - 1) := ⟨_, rfl⟩
      obtain ⟨q, hq⟩ : ∃ q : Int, q = n + 8 := ⟨_, rfl⟩
      rw [(Sp.num_may m1).1, (Sp.num_may m1).2, ← hn] at g1
      rw [(Sp.num_may m2).1, (Sp.num_may m2).2, show 8 * (bed + 1 - 1) + (c : Int) = q by omega] at g2
      rw [(Sp.num_may m3).1, (Sp.num_may m3).2, show 8 * (bed - 1) + 0 = m by omega] at g3
      rw [show Sp.less bed 7 (bed + 1) (c : Int) = true by unfold Sp.less; rw [decide_eq_true (show bed < bed + 1 by omega)]; rfl] at g4
      have v1 : wrap64 (bed + 1) = bed + 1 := by have := HB.out; unfold wrap64; omega
      have e1 : m + (c : Int) = n := by omega
      have v2 : wrap64 n = n := by have := HB.out; clear v1; unfold wrap64; omega
      have e2 : n + 8 = q := hq.symm
      have v3 : wrap64 q = q := by have := HB.out; clear v1 v2; unfold wrap64; omega
      have v4 : wrap64 ((c : Int) + 1) = (c : Int) + 1 := by clear v1 v2 v3; unfold wrap64; omega
      clear hn hm hq m1 m2 m3
      go_wp2_with fail
      refine (g1 _).mono ?_
      rintro e w1 ⟨rfl, hB1⟩
      replace hB := hB.trans (hB1.mono hB.size)
      clear g1 hB1
      go_wp2_with fail
      refine (g2 _).mono ?_
      rintro e w2 ⟨rfl, hB1⟩
      replace hB := hB.trans (hB1.mono hB.size)
      clear g2 hB1
      go_wp2_with fail
      refine (g3 _).mono ?_
      rintro e w3 ⟨rfl, hB1⟩
      replace hB := hB.trans (hB1.mono hB.size)
      clear g3 hB1
      go_wp2_with fail
      refine (g4 _).mono ?_
      rintro e w4 ⟨rfl, hB1⟩
      replace hB := hB.trans (hB1.mono hB.size)
      clear g4 hB1
      go_wp2
      go_roundw
      case rel => exact ⟨c + 1, by omega, by first | rfl | (rw [v4]; rfl), hB⟩
      case measure => first | (rw [v4]; clear v1 v2 v3 v4 e1 e2; simp [intOf]; omega) | (clear v1 v2 v3 v4 e1 e2; simp only [intOf]; omega)
    · have hd3 : decide ((c : Int) < 8) = false := decide_eq_false (by omega)
      have hS := spots_any wr (HE.out.below hB)
      go_wp2_with fail
      refine hS.mono ?_
      rintro e w1 ⟨rfl, hB1⟩
      go_wp2
      go_ret
      exact ⟨rfl, hB.trans (hB1.mono hB.size)⟩

end Go.Proofs.YtndpcnimebedcaaDoor
