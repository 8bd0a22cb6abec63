/-
  Layer 9 (due), the reference: Turns that are refused.
-/
import Derived.Test.YtplpadblhjdpcaaGreatXRefDue3
import Derived.Test.YtplpadblhjdpcaaGreatXRefDue4
import Derived.Test.YtplpadblhjdpcaaGreatXRefBoard3
namespace Go.Proofs.YtplpadblhjdpcaaGreat
set_option maxRecDepth 10000
open Go.RowKit

set_option maxRecDepth 10000 in
set_option maxHeartbeats 2000000 in
theorem rtTurns_bad (m n : Int) (A : Option Addr) (l c : Nat) (ls : List Alm) (t : Int) (w : World) (h : Told w A l c ls) (hE : ¬ Du.turnsE m n ls t = 0) :
    Calls Tryz.prog 8 #[.agg #[.int .i64 m, .int .i64 n, .slice A l c], .int .i64 t] w (GivesT w 0 [] (Du.turnsE m n ls t)) := by
  have HT := Lib.hid (toldOn9 h (below_new w (.cells #[.int .i64 m, .int .i64 n, .slice A l c] 24)))
  have HS := Lib.hid (((St.start w).more (rowF A ls) h.2.1).new #[.int .i64 m, .int .i64 n, .slice A l c] 24)
  have G := fun W hW => Lib.hid (rbIs m n A l c ls W hW)
  obtain ⟨z, hz⟩ : ∃ z, z = Bd.isB m n ls := ⟨_, rfl⟩
  have He : Hid (Du.turnsE m n ls t = if !z || !Am.isT t then 1 else if t < n then 62 else 0) := Lib.hid (by rw [hz]; rfl)
  rw [← hz] at G
  rw [He.out] at hE ⊢
  clear h hz He
  have key : ∀ er : Int, (z = false ∧ er = 1) ∨ (z = true ∧ t < 0 ∧ er = 1) ∨ (z = true ∧ ¬ t < 0 ∧ 1000000000 < t ∧ er = 1) ∨ (z = true ∧ ¬ t < 0 ∧ ¬ 1000000000 < t ∧ t < n ∧ er = 62) →
      Calls Tryz.prog 8 #[.agg #[.int .i64 m, .int .i64 n, .slice A l c], .int .i64 t] w (GivesT w 0 [] er) := by
    intro er hc
    clear hE
    rcases hc with ⟨rfl, rfl⟩ | ⟨rfl, h1, rfl⟩ | ⟨rfl, h1, h2, rfl⟩ | ⟨rfl, h1, h2, h3, rfl⟩
    · go_enter Tryz.func8, Tryz.ntmps8
      go_wp2_with (refine wpList_load_st rfl 24 _ rfl HS.out 0 _ _ rfl rfl _ Tryz.underlying24 rfl (by rfl) ?_)
      refine (G _ HT.out).out.mono ?_
      rintro e w1 ⟨rfl, hB⟩
      replace HS := Lib.hid (HS.out.on hB)
      clear hB G HT
      go_wp2
      go_ret2
      exact ⟨_, _, rfl, OwnT.nil _ _, HS.out.below⟩
    · have k1 : (t < 0) = True := eq_true h1
      clear h1
      go_enter Tryz.func8, Tryz.ntmps8
      go_wp2_with (refine wpList_load_st rfl 24 _ rfl HS.out 0 _ _ rfl rfl _ Tryz.underlying24 rfl (by rfl) ?_)
      refine (G _ HT.out).out.mono ?_
      rintro e w1 ⟨rfl, hB⟩
      replace HS := Lib.hid (HS.out.on hB)
      clear hB G HT
      go_wp2
      go_ret2
      exact ⟨_, _, rfl, OwnT.nil _ _, HS.out.below⟩
    · have k1 : (t < 0) = False := eq_false h1
      have k2 : (1000000000 < t) = True := eq_true h2
      clear h1 h2
      go_enter Tryz.func8, Tryz.ntmps8
      go_wp2_with (refine wpList_load_st rfl 24 _ rfl HS.out 0 _ _ rfl rfl _ Tryz.underlying24 rfl (by rfl) ?_)
      refine (G _ HT.out).out.mono ?_
      rintro e w1 ⟨rfl, hB⟩
      replace HS := Lib.hid (HS.out.on hB)
      clear hB G HT
      go_wp2
      go_ret2
      exact ⟨_, _, rfl, OwnT.nil _ _, HS.out.below⟩
    · have k1 : (t < 0) = False := eq_false h1
      have k2 : (1000000000 < t) = False := eq_false h2
      have k3 : (t < n) = True := eq_true h3
      clear h1 h2 h3
      go_enter Tryz.func8, Tryz.ntmps8
      go_wp2_with (refine wpList_load_st rfl 24 _ rfl HS.out 0 _ _ rfl rfl _ Tryz.underlying24 rfl (by rfl) ?_)
      refine (G _ HT.out).out.mono ?_
      rintro e w1 ⟨rfl, hB⟩
      replace HS := Lib.hid (HS.out.on hB)
      have s1 := HS.out.cell 0 rfl 1 rfl
      clear hB G HT
      go_wp2
      go_ret2
      exact ⟨_, _, rfl, OwnT.nil _ _, HS.out.below⟩
  refine key _ ?_
  have hT : Am.isT t = decide (0 ≤ t ∧ t ≤ 1000000000) := by unfold Am.isT; by_cases h1 : 0 ≤ t <;> by_cases h2 : t ≤ 1000000000 <;> simp [h1, h2]
  rw [hT] at hE ⊢
  cases z
  · exact Or.inl ⟨rfl, rfl⟩
  · by_cases h1 : t < 0
    · exact Or.inr (Or.inl ⟨rfl, h1, by rw [if_pos (by simp; omega)]⟩)
    · by_cases h2 : 1000000000 < t
      · exact Or.inr (Or.inr (Or.inl ⟨rfl, h1, h2, by rw [if_pos (by simp; omega)]⟩))
      · have e0 : (!true || !decide (0 ≤ t ∧ t ≤ 1000000000)) = false := by simp; omega
        rw [e0] at hE ⊢
        by_cases h3 : t < n
        · exact Or.inr (Or.inr (Or.inr ⟨rfl, h1, h2, h3, by simp [h3]⟩))
        · exact absurd (by simp [h3]) hE
end Go.Proofs.YtplpadblhjdpcaaGreat
