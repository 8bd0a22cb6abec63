/-
  Layer 15 (slots): the law SlotsSide, over the structure.
-/
import Derived.Test.YteepemibmjpnfaaSloK
namespace Go.Proofs.Yteepemibmjpnfaa
set_option maxRecDepth 10000
open Go.RowKit

set_option maxHeartbeats 2000000 in
theorem slotsSide_go {E : World → Prop} (HS : Hid (SlotsK E)) (HC : Hid (SlottedK E)) (a b : ByteArray) (w : World) (hE : E w) (j1 : ((600 : Int) < (a.size : Int)) = False) (j2 : ((600 : Int) < (b.size : Int)) = False)
    (s t sx sy : ByteArray) (n i k x y o1 o2 : Int) (hmx : ((x < y) = True ∧ y = n) ∨ ((x < y) = False ∧ x = n)) (h3 : ((0 : Int) < o1) = False) (h4 : (o2 == 0) = false) (h5 : (x == y) = true ∨ ((x == y) = false ∧ s.toList = t.toList ∧ wrap64 (i + k) = 1)) (h6 : (((0 : Int) < n) = True ∧ (0 ≤ i) = True ∧ (i < 0) = False ∧ (k < 0) = False) ∨ (((0 : Int) < n) = False ∧ (0 ≤ i) = False ∧ (i < 0) = True ∧ (k < 0) = True))
    (K1 : ∀ (W : World) (_h : E W), Hid (Calls Try.prog 15 #[.string a, .string b] W fun e w' => e = .returned (.tuple #[.string s, .int .i64 n, .int .i64 i]) ∧ Below W.heap.size W w'))
    (K2 : ∀ (W : World) (_h : E W), Hid (Calls Try.prog 15 #[.string b, .string a] W fun e w' => e = .returned (.tuple #[.string t, .int .i64 n, .int .i64 k]) ∧ Below W.heap.size W w'))
    (K3 : ∀ (W : World) (_h : E W), Hid (Calls Try.prog 15 #[.string a, .string ⟨#[]⟩] W fun e w' => e = .returned (.tuple #[.string sx, .int .i64 x, .int .i64 o1]) ∧ Below W.heap.size W w'))
    (K4 : ∀ (W : World) (_h : E W), Hid (Calls Try.prog 15 #[.string ⟨#[]⟩, .string b] W fun e w' => e = .returned (.tuple #[.string sy, .int .i64 y, .int .i64 o2]) ∧ Below W.heap.size W w')) :
    Calls Try.prog 7 #[.string a, .string b] w fun e w' => e = .returned (.bool true) ∧ Below w.heap.size w w' := by
  rcases hmx with ⟨h11, h12⟩ | ⟨h11, h12⟩ <;> subst h12
  all_goals
    have S0 := Lib.hid ((St.start w).more (eSl HS) hE)
    have H5 := Lib.hid h5
    have H6 := Lib.hid h6
    clear hE h5 h6
    go_enter Try.func7, Try.ntmps7
    go_wp2_with fail
    refine (K1 _ (S0.out.fact 0 rfl)).out.mono ?_
    rintro e w1 ⟨rfl, hB⟩
    have S1 := Lib.hid (S0.out.on hB)
    clear hB S0 K1
    go_wp2_with fail
    refine (K2 _ (S1.out.fact 0 rfl)).out.mono ?_
    rintro e w2 ⟨rfl, hB⟩
    have S2 := Lib.hid (S1.out.on hB)
    clear hB S1 K2
    go_wp2_with fail
    refine (K3 _ (S2.out.fact 0 rfl)).out.mono ?_
    rintro e w3 ⟨rfl, hB⟩
    have S3 := Lib.hid (S2.out.on hB)
    clear hB S2 K3
    go_wp2_with fail
    refine (K4 _ (S3.out.fact 0 rfl)).out.mono ?_
    rintro e w4 ⟨rfl, hB⟩
    have S4 := Lib.hid (S3.out.on hB)
    clear hB S3 K4
    rcases H5.out with h5 | ⟨h5, h7, h8⟩
    · have hxy := beq_iff_eq.1 h5
      subst hxy
      rcases H6.out with ⟨h9, h10, h12, h13⟩ | ⟨h9, h10, h12, h13⟩
      all_goals
        go_wp2_with fail
        refine (HC.out _ (S4.out.fact 0 rfl)).mono ?_
        rintro e w5 ⟨rfl, hB⟩
        have S5 := Lib.hid (S4.out.on hB)
        clear hB S4
        go_wp2
        go_ret
        exact ⟨rfl, S5.out.below⟩
    · rcases H6.out with ⟨h9, h10, h12, h13⟩ | ⟨h9, h10, h12, h13⟩
      all_goals
        go_wp2_with fail
        refine (HC.out _ (S4.out.fact 0 rfl)).mono ?_
        rintro e w5 ⟨rfl, hB⟩
        have S5 := Lib.hid (S4.out.on hB)
        clear hB S4
        go_wp2
        go_ret
        exact ⟨rfl, S5.out.below⟩
set_option maxHeartbeats 1000000 in
theorem slotsSide_far {E : World → Prop} (a b : ByteArray) (w : World) (_hE : E w) (h : (600 : Int) < (a.size : Int) ∨ (600 : Int) < (b.size : Int)) :
    Calls Try.prog 7 #[.string a, .string b] w fun e w' => e = .returned (.bool true) ∧ Below w.heap.size w w' := by
  by_cases h1 : (600 : Int) < (a.size : Int)
  · have j1 := eq_true h1
    clear h h1
    go_enter Try.func7, Try.ntmps7
    go_wp2
    go_ret
    exact ⟨rfl, Below.refl _ _⟩
  · have j1 := eq_false h1
    have j2 := eq_true (h.resolve_left h1)
    clear h h1
    go_enter Try.func7, Try.ntmps7
    go_wp2
    go_ret
    exact ⟨rfl, Below.refl _ _⟩
theorem slotsSide_walk {E : World → Prop} (HS : Hid (SlotsK E)) (HC : Hid (SlottedK E)) (a b : ByteArray) (w : World) (hE : E w) :
    Calls Try.prog 7 #[.string a, .string b] w fun e w' => e = .returned (.bool true) ∧ Below w.heap.size w w' := by
  by_cases hf : (600 : Int) < (a.size : Int) ∨ (600 : Int) < (b.size : Int)
  · exact slotsSide_far a b w hE hf
  have ha : ¬ (600 : Int) < (a.size : Int) := fun h => hf (Or.inl h)
  have hb : ¬ (600 : Int) < (b.size : Int) := fun h => hf (Or.inr h)
  obtain ⟨e1, e2, e3, e4, e5, e6, e7⟩ := Sl.better_sides (bl a) (bl b)
  have K1 := fun W (h : E W) => Lib.hid (HS.out.better a b W h (by omega) (by omega))
  have K2 := fun W (h : E W) => Lib.hid (HS.out.better b a W h (by omega) (by omega))
  have K3 := fun W (h : E W) => Lib.hid (HS.out.better a ⟨#[]⟩ W h (by omega) (Nat.zero_le _))
  have K4 := fun W (h : E W) => Lib.hid (HS.out.better ⟨#[]⟩ b W h (Nat.zero_le _) (by omega))
  rw [show bl ⟨#[]⟩ = [] from rfl] at K3 K4
  rw [← e1] at K2
  have e8 : ((Sl.better (bl a) []).2.1 < (Sl.better [] (bl b)).2.1) = True ∧ (Sl.better [] (bl b)).2.1 = (Sl.better (bl a) (bl b)).2.1 ∨ ((Sl.better (bl a) []).2.1 < (Sl.better [] (bl b)).2.1) = False ∧ (Sl.better (bl a) []).2.1 = (Sl.better (bl a) (bl b)).2.1 := by
    by_cases hxy : (Sl.better (bl a) []).2.1 < (Sl.better [] (bl b)).2.1
    · exact Or.inl ⟨eq_true hxy, by omega⟩
    · exact Or.inr ⟨eq_false hxy, by omega⟩
  refine slotsSide_go HS HC a b w hE (eq_false ha) (eq_false hb) _ _ _ _ _ _ _ _ _ _ _ e8 (eq_false e4) (by rw [beq_eq_false_iff_ne]; exact e5) ?_ ?_ K1 K2 K3 K4
  · by_cases h : (Sl.better (bl a) []).2.1 = (Sl.better [] (bl b)).2.1
    · left; rw [beq_iff_eq]; exact h
    · obtain ⟨h1, h2⟩ := e6.resolve_left h
      right
      refine ⟨by rw [beq_eq_false_iff_ne]; exact h, by rw [h1], ?_⟩
      rw [h2]; simp [wrap64]
  · by_cases h : 0 < (Sl.better (bl a) (bl b)).2.1
    · have h1 := e7.1 h
      have h2 : ¬ (Sl.better (bl a) (bl b)).2.2 < 0 := by omega
      exact Or.inl ⟨eq_true h, eq_true h1, eq_false h2, eq_false (fun h3 => h2 (e2.2 h3))⟩
    · have h1 : ¬ 0 ≤ (Sl.better (bl a) (bl b)).2.2 := fun h2 => h (e7.2 h2)
      have h2 : (Sl.better (bl a) (bl b)).2.2 < 0 := by omega
      exact Or.inr ⟨eq_false h, eq_false h1, eq_true h2, eq_true (e2.1 h2)⟩
end Go.Proofs.Yteepemibmjpnfaa
