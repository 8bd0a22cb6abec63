/-
  Layer 9 (due): the law DueParts, over the contracts.
-/
import Derived.Test.YtplpadblhjdpcaaXJa
namespace Go.Proofs.Ytplpadblhjdpcaa
set_option maxRecDepth 10000
open Go.RowKit

theorem dueParts_far (m n : Int) (A : Option Addr) (l c : Nat) (ls : List Alm) (t t2 : Int) (w : World) (hA : AlmsAt w w.heap.size A ls) (hf : 60 < l) :
    Calls Try.prog 5 #[.agg #[.int .i64 m, .int .i64 n, .slice A l c], .int .i64 t, .int .i64 t2] w fun e w' => e = .returned (.bool true) ∧ Below w.heap.size w w' := by
  have HS0 := Lib.hid (((St.start w).more (rowF A ls) hA).new #[.int .i64 m, .int .i64 n, .slice A l c] 24)
  have HF := fun W => far9_v m n A l c true (by simp; omega) W
  clear hf hA
  go_enter Try.func5, Try.ntmps5
  go_wp2_with fail
  refine (HF _).mono ?_
  rintro e w1 ⟨rfl, hB⟩
  have HS := Lib.hid (HS0.out.on hB)
  clear hB HS0 HF
  obtain ⟨p1, hp1⟩ : ∃ p, p = w.heap.size := ⟨_, rfl⟩
  rw [← hp1] at HS ⊢
  clear hp1
  go_wp2
  go_ret
  exact ⟨rfl, HS.out.below⟩
theorem dueParts_past (m n : Int) (A : Option Addr) (l c : Nat) (ls : List Alm) (t t2 : Int) (w : World) (hA : AlmsAt w w.heap.size A ls) (hf : l ≤ 60) (ht : t2 < t) :
    Calls Try.prog 5 #[.agg #[.int .i64 m, .int .i64 n, .slice A l c], .int .i64 t, .int .i64 t2] w fun e w' => e = .returned (.bool true) ∧ Below w.heap.size w w' := by
  have HS0 := Lib.hid (((St.start w).more (rowF A ls) hA).new #[.int .i64 m, .int .i64 n, .slice A l c] 24)
  have HF := fun W => far9_v m n A l c false (by simp; omega) W
  clear hf hA
  go_enter Try.func5, Try.ntmps5
  go_wp2_with fail
  refine (HF _).mono ?_
  rintro e w1 ⟨rfl, hB⟩
  have HS := Lib.hid (HS0.out.on hB)
  clear hB HS0 HF
  obtain ⟨p1, hp1⟩ : ∃ p, p = w.heap.size := ⟨_, rfl⟩
  rw [← hp1] at HS ⊢
  clear hp1
  go_wp2
  go_ret
  exact ⟨rfl, HS.out.below⟩

set_option maxRecDepth 10000 in
set_option maxHeartbeats 4000000 in
theorem dueParts_err (HC : Hid ComingK) (m n : Int) (A : Option Addr) (l c : Nat) (ls : List Alm) (t t2 : Int) (w : World) (hA : AlmsAt w w.heap.size A ls) (hf : l ≤ 60) (ht : ¬ t2 < t) (e1 e2 e3 e4 : Int) (m2 n2 : Int) (C2 : List Alm) (T1 T3 T4 : List Trn) (q1 q2 q3 q4 : Nat)
    (G1 : ∀ (W : World) (_h : AlmsAt W W.heap.size A ls), Hid (Calls Try.prog 8 #[.agg #[.int .i64 m, .int .i64 n, .slice A l c], .int .i64 t] W (GivesT W q1 T1 e1)))
    (G2 : ∀ (W : World) (_h : AlmsAt W W.heap.size A ls), Hid (Calls Try.prog 9 #[.agg #[.int .i64 m, .int .i64 n, .slice A l c], .int .i64 t] W (GivesB W ⟨m2, n2, C2⟩ q2 e2)))
    (G3 : ∀ (W : World) (A2 : Option Addr) (c2 : Nat) (_h : AlmsAt W W.heap.size A2 C2) (_h1 : A2 = none → c2 = 0), Hid (Calls Try.prog 8 #[.agg #[.int .i64 m2, .int .i64 n2, .slice A2 q2 c2], .int .i64 t2] W (GivesT W q3 T3 e3)))
    (G4 : ∀ (W : World) (_h : AlmsAt W W.heap.size A ls), Hid (Calls Try.prog 8 #[.agg #[.int .i64 m, .int .i64 n, .slice A l c], .int .i64 t2] W (GivesT W q4 T4 e4)))
    (hE : (((e1 == 0) = false ∧ (e1 != 0) = true)) ∨ (((e1 == 0) = true ∧ (e1 != 0) = false) ∧ ((e2 == 0) = false ∧ (e2 != 0) = true)) ∨ (((e1 == 0) = true ∧ (e1 != 0) = false) ∧ ((e2 == 0) = true ∧ (e2 != 0) = false) ∧ ((e3 == 0) = false ∧ (e3 != 0) = true)) ∨ (((e1 == 0) = true ∧ (e1 != 0) = false) ∧ ((e2 == 0) = true ∧ (e2 != 0) = false) ∧ ((e3 == 0) = true ∧ (e3 != 0) = false) ∧ ((e4 == 0) = false ∧ (e4 != 0) = true))) :
    Calls Try.prog 5 #[.agg #[.int .i64 m, .int .i64 n, .slice A l c], .int .i64 t, .int .i64 t2] w fun e w' => e = .returned (.bool true) ∧ Below w.heap.size w w' := by
  have HS0 := Lib.hid (((St.start w).more (rowF A ls) hA).new #[.int .i64 m, .int .i64 n, .slice A l c] 24)
  have HF := fun W => far9_v m n A l c false (by simp; omega) W
  have it : (t2 < t) = False := eq_false ht
  have HE := Lib.hid hE
  clear hA hf ht hE
  go_enter Try.func5, Try.ntmps5
  go_wp2_with fail
  refine (HF _).mono ?_
  rintro e w1 ⟨rfl, hB⟩
  have HS := Lib.hid (HS0.out.on hB)
  clear hB HS0 HF
  obtain ⟨p1, hp1⟩ : ∃ p, p = w.heap.size := ⟨_, rfl⟩
  rw [← hp1] at HS ⊢
  clear hp1
  go_wp2_with (refine wpList_load_st rfl 24 _ rfl HS.out 0 _ _ rfl rfl _ Try.underlying24 rfl (by rfl) ?_)
  refine (G1 _ (HS.out.fact 0 rfl)).out.mono ?_
  rintro e w2 ⟨A1, c1, rfl, hO, hB⟩
  have N1 := Lib.hid hO.rows.2
  replace HS := Lib.hid ((HS.out.on hB).more (turnF A1 T1) hO.rows.1)
  clear hO hB G1
  go_wp2_with (refine wpList_load_st rfl 24 _ rfl HS.out 0 _ _ rfl rfl _ Try.underlying24 rfl (by rfl) ?_)
  refine (G2 _ (HS.out.fact 1 rfl)).out.mono ?_
  rintro e w3 ⟨A2, c2, rfl, hO, hB⟩
  have N2 := Lib.hid hO.alms.2
  replace HS := Lib.hid ((HS.out.on hB).more (rowF A2 C2) hO.alms.1)
  clear hO hB G2
  go_wp2_with (first
    | (refine wpList_store_st rfl 24 _ _ rfl HS.out _ #[.int .i64 m2, .int .i64 n2, .slice A2 q2 c2] _ rfl rfl (by rfl) rfl (bd_one m2 n2 A2 q2 c2) ?_; intro p4 v4 hp hS hBn; (try rw [← hp]); clear HS; have HS := Lib.hid hS; clear hS hp hBn)
    | (refine wpList_load_st rfl 24 _ rfl HS.out 0 _ _ rfl rfl _ Try.underlying24 rfl (by rfl) ?_))
  refine (G3 _ A2 c2 (HS.out.fact 0 rfl) N2.out).out.mono ?_
  rintro e w4 ⟨A3, c3, rfl, hO, hB⟩
  have N3 := Lib.hid hO.rows.2
  replace HS := Lib.hid ((HS.out.on hB).more (turnF A3 T3) hO.rows.1)
  clear hO hB G3
  go_wp2_with (refine wpList_load_st rfl 24 _ rfl HS.out 1 _ _ rfl rfl _ Try.underlying24 rfl (by rfl) ?_)
  refine (G4 _ (HS.out.fact 3 rfl)).out.mono ?_
  rintro e w5 ⟨A4, c4, rfl, hO, hB⟩
  replace HS := Lib.hid ((HS.out.on hB).more (turnF A4 T4) hO.rows.1)
  clear hO hB G4
  rcases HE.out with ⟨a1, b1⟩ | ⟨⟨a1, b1⟩, a2, b2⟩ | ⟨⟨a1, b1⟩, ⟨a2, b2⟩, a3, b3⟩ | ⟨⟨a1, b1⟩, ⟨a2, b2⟩, ⟨a3, b3⟩, a4, b4⟩
  all_goals
    clear HE
    go_wp2_with fail
    refine (HC.out _).mono ?_
    rintro e w6 ⟨rfl, hB⟩
    replace HS := Lib.hid (HS.out.on hB)
    clear hB
    go_wp2
    go_ret
    exact ⟨rfl, HS.out.below⟩

set_option maxRecDepth 10000 in
set_option maxHeartbeats 4000000 in
theorem dueParts_ok (HD : Hid DueK) (HP9 : Hid PassK9) (HT : Hid TSameK) (HC : Hid ComingK) (m n : Int) (A : Option Addr) (l c : Nat) (ls : List Alm) (t t2 : Int) (w : World) (hl : l = ls.length) (hA : AlmsAt w w.heap.size A ls) (h0 : A = none → c = 0) (hf : l ≤ 60) (ht : ¬ t2 < t) (h1 : Du.turnsE m n ls t = 0) (h2 : Bd.passE m n ls t = 0) (h3 : Du.turnsE m t (Bd.passL t ls) t2 = 0) (h4 : Du.turnsE m n ls t2 = 0) :
    Calls Try.prog 5 #[.agg #[.int .i64 m, .int .i64 n, .slice A l c], .int .i64 t, .int .i64 t2] w fun e w' => e = .returned (.bool true) ∧ Below w.heap.size w w' := by
  have hp := Du.parts (Int.not_lt.1 ht) h1 h4 h3
  obtain ⟨C2, hC2⟩ : ∃ C, C = Bd.passL t ls := ⟨_, rfl⟩
  rw [← hC2] at h3 hp
  have hq2 : l = C2.length := by rw [hC2, Bd.pass_len]; exact hl
  have e2 : Bd.pass m n ls t = ⟨m, t, C2⟩ := by unfold Bd.pass; rw [if_pos h2, hC2]
  obtain ⟨T1, hT1⟩ : ∃ T, T = Du.turns m n ls t := ⟨_, rfl⟩
  obtain ⟨T3, hT3⟩ : ∃ T, T = Du.turns m t C2 t2 := ⟨_, rfl⟩
  obtain ⟨T4, hT4⟩ : ∃ T, T = Du.turns m n ls t2 := ⟨_, rfl⟩
  rw [← hT1, ← hT3, ← hT4] at hp
  obtain ⟨q1, hq1⟩ : ∃ q, q = T1.length := ⟨_, rfl⟩
  obtain ⟨q3, hq3⟩ : ∃ q, q = T3.length := ⟨_, rfl⟩
  obtain ⟨q4, hq4⟩ : ∃ q, q = T4.length := ⟨_, rfl⟩
  have l1 : q1 ≤ 120 := by rw [hq1, hT1]; unfold Du.turns; rw [if_pos h1, Du.order_len]; have := Du.turnsL_len t ls; omega
  have l3 : q3 ≤ 120 := by rw [hq3, hT3]; unfold Du.turns; rw [if_pos h3, Du.order_len]; have := Du.turnsL_len t2 C2; omega
  have l4 : q4 = q1 + q3 := by rw [hq4, hq1, hq3, ← hp.2, List.length_append]
  have G1 := fun (W : World) (h : AlmsAt W W.heap.size A ls) => Lib.hid (HD.out.turns m n A l c ls t q1 W ⟨hl, h, h0, by omega⟩ (by rw [← hT1]; exact hq1))
  have G2 := fun (W : World) (h : AlmsAt W W.heap.size A ls) => Lib.hid (HP9.out m n A l c ls t l W ⟨hl, h, h0, by omega⟩ (by rw [e2]; exact hq2))
  have G3 := fun (W : World) (A2 : Option Addr) (c2 : Nat) (h : AlmsAt W W.heap.size A2 C2) (hn : A2 = none → c2 = 0) => Lib.hid (HD.out.turns m t A2 l c2 C2 t2 q3 W ⟨hq2, h, hn, by omega⟩ (by rw [← hT3]; exact hq3))
  have G4 := fun (W : World) (h : AlmsAt W W.heap.size A ls) => Lib.hid (HD.out.turns m n A l c ls t2 q4 W ⟨hl, h, h0, by omega⟩ (by rw [← hT4]; exact hq4))
  simp only [← hT1, h1] at G1
  simp only [e2, h2] at G2
  simp only [← hT3, h3] at G3
  simp only [← hT4, h4] at G4
  have G5 := fun (W : World) (A2 : Option Addr) (c2 : Nat) (h : TrnsAt W W.heap.size A2 (T1 ++ T3)) (hn : A2 = none → c2 = 0) => Lib.hid (HD.out.order A2 q4 c2 (T1 ++ T3) W (by rw [List.length_append]; omega) h hn (by omega))
  simp only [hp.1] at G5
  have S1 := fun (W : World) (A1 A2 : Option Addr) (c1 c2 : Nat) (h : TrnsAt W W.heap.size A1 T4) (hn : TrnsAt W W.heap.size A2 T4) => Lib.hid (HT.out A1 A2 q4 c1 c2 T4 W hq4 h hn (by omega))
  have HS0 := Lib.hid (((St.start w).more (rowF A ls) hA).new #[.int .i64 m, .int .i64 n, .slice A l c] 24)
  have HF := fun W => far9_v m n A l c false (by simp; omega) W
  have it : (t2 < t) = False := eq_false ht
  have Hq1 := Lib.hid hq1
  have Hq3 := Lib.hid hq3
  have Hl1 := Lib.hid l1
  have Hl3 := Lib.hid l3
  have Hlen : Hid ((T1 ++ T3).length = q4) := Lib.hid (by rw [List.length_append]; omega)
  clear hl hA h0 hf ht h1 h2 h3 h4 hp hC2 hq2 e2 hT1 hT3 hT4 hq1 hq3 hq4 l1 l3 l4
  go_enter Try.func5, Try.ntmps5
  go_wp2_with fail
  refine (HF _).mono ?_
  rintro e w1 ⟨rfl, hB⟩
  have HS := Lib.hid (HS0.out.on hB)
  clear hB HS0 HF
  obtain ⟨p1, hp1⟩ : ∃ p, p = w.heap.size := ⟨_, rfl⟩
  rw [← hp1] at HS ⊢
  clear hp1
  go_wp2_with (refine wpList_load_st rfl 24 _ rfl HS.out 0 _ _ rfl rfl _ Try.underlying24 rfl (by rfl) ?_)
  refine (G1 _ (HS.out.fact 0 rfl)).out.mono ?_
  rintro e w2 ⟨A1, c1, rfl, hO, hB⟩
  have N1 := Lib.hid hO.rows.2
  replace HS := Lib.hid ((HS.out.on hB).more (turnF A1 T1) hO.rows.1)
  clear hO hB G1
  go_wp2_with (refine wpList_load_st rfl 24 _ rfl HS.out 0 _ _ rfl rfl _ Try.underlying24 rfl (by rfl) ?_)
  refine (G2 _ (HS.out.fact 1 rfl)).out.mono ?_
  rintro e w3 ⟨A2, c2, rfl, hO, hB⟩
  have N2 := Lib.hid hO.alms.2
  replace HS := Lib.hid ((HS.out.on hB).more (rowF A2 C2) hO.alms.1)
  clear hO hB G2
  go_wp2_with (first
    | (refine wpList_store_st rfl 24 _ _ rfl HS.out _ #[.int .i64 m, .int .i64 t, .slice A2 l c2] _ rfl rfl (by rfl) rfl (bd_one m t A2 l c2) ?_; intro p4 v4 hp hS hBn; (try rw [← hp]); clear HS; have HS := Lib.hid hS; clear hS hp hBn)
    | (refine wpList_load_st rfl 24 _ rfl HS.out 0 _ _ rfl rfl _ Try.underlying24 rfl (by rfl) ?_))
  refine (G3 _ A2 c2 (HS.out.fact 0 rfl) N2.out).out.mono ?_
  rintro e w4 ⟨A3, c3, rfl, hO, hB⟩
  have N3 := Lib.hid hO.rows.2
  replace HS := Lib.hid ((HS.out.on hB).more (turnF A3 T3) hO.rows.1)
  clear hO hB G3
  go_wp2_with (refine wpList_load_st rfl 24 _ rfl HS.out 1 _ _ rfl rfl _ Try.underlying24 rfl (by rfl) ?_)
  refine (G4 _ (HS.out.fact 3 rfl)).out.mono ?_
  rintro e w5 ⟨A4, c4, rfl, hO, hB⟩
  replace HS := Lib.hid ((HS.out.on hB).more (turnF A4 T4) hO.rows.1)
  clear hO hB G4
  have HA1 : Hid (TrnsAt w5 w5.heap.size A1 T1) := Lib.hid (HS.out.fact 3 rfl)
  have HBr := Lib.hid (Below.refl w5.heap.size w5)
  go_wp2_with (first
    | (at_builtin; refine wpList_append_trns rfl _ _ 26 rfl Try.underlying26 w5.heap.size (.slice none 0 0) [] T1 rfl (OwnT.nil _ _) A1 q1 c1 rfl Hq1.out HA1.out N1.out (Nat.le_refl _) (by have := Hl1.out; have := Hq1.out; simp only [List.length_nil]; omega) ?_; intro v6 w6 hown6 hgrow6; rw [List.nil_append] at hown6; have O6 := Lib.hid hown6; have HB6 : Hid (Below w5.heap.size w5 w6) := Lib.hid (HBr.out.grown hgrow6 (Nat.le_refl _) (fun _ e => nomatch e)); have HS6 := Lib.hid (HS.out.on HB6.out); have HA6 : Hid (TrnsAt w6 w6.heap.size A3 T3) := Lib.hid (HS6.out.fact 1 rfl); clear hown6 hgrow6)
    | (at_builtin; refine wpList_append_trns rfl _ _ 26 rfl Try.underlying26 w5.heap.size v6 T1 T3 rfl O6.out A3 q3 c3 rfl Hq3.out HA6.out N3.out HB6.out.size (by have := Hl1.out; have := Hq1.out; have := Hl3.out; have := Hq3.out; omega) ?_; intro v7 w7 hown7 hgrow7; have HB7 : Hid (Below w5.heap.size w5 w7) := Lib.hid (HB6.out.grown hgrow7 HB6.out.size O6.out.ge); obtain ⟨A7, c7, hv7, hA7, hn7, _⟩ := hown7.slice; rw [Hlen.out] at hv7; subst hv7; have HS7 := Lib.hid ((HS.out.on HB7.out).more (turnF A7 (T1 ++ T3)) hA7); have N7 := Lib.hid hn7; clear hown7 hgrow7 hA7 hn7))
  refine (HC.out _).mono ?_
  rintro e w8 ⟨rfl, hB⟩
  replace HS7 := Lib.hid (HS7.out.on hB)
  clear hB
  go_wp2_with fail
  refine (G5 _ A7 c7 (HS7.out.fact 0 rfl) N7.out).out.mono ?_
  rintro e w9 ⟨A8, c8, rfl, hO, hB⟩
  replace HS7 := Lib.hid ((HS7.out.on hB).more (turnF A8 T4) hO.rows.1)
  clear hB hO G5
  go_wp2_with fail
  refine (S1 _ A8 A4 c8 c4 (HS7.out.fact 0 rfl) (HS7.out.fact 2 rfl)).out.mono ?_
  rintro e w10 ⟨rfl, hB⟩
  replace HS7 := Lib.hid (HS7.out.on hB)
  clear hB S1
  go_wp2
  go_ret
  exact ⟨rfl, HS7.out.below⟩

theorem zero_or {e : Int} : ((e == 0) = false ∧ (e != 0) = true) ∨ ((e == 0) = true ∧ (e != 0) = false) := by
  by_cases h : e = 0
  · subst h; exact Or.inr ⟨rfl, rfl⟩
  · have h1 : (e == 0) = false := by rw [beq_eq_false_iff_ne]; exact h
    exact Or.inl ⟨h1, by rw [bne, h1]; rfl⟩
theorem dueParts_walk (HD : Hid DueK) (HP9 : Hid PassK9) (HT : Hid TSameK) (HC : Hid ComingK) (m n : Int) (A : Option Addr) (c : Nat) (ls : List Alm) (t t2 : Int) (w : World) (hA : AlmsAt w w.heap.size A ls) (h0 : A = none → c = 0) :
    Calls Try.prog 5 #[.agg #[.int .i64 m, .int .i64 n, .slice A ls.length c], .int .i64 t, .int .i64 t2] w fun e w' => e = .returned (.bool true) ∧ Below w.heap.size w w' := by
  by_cases hf : 60 < ls.length
  · exact dueParts_far m n A ls.length c ls t t2 w hA hf
  by_cases ht : t2 < t
  · exact dueParts_past m n A ls.length c ls t t2 w hA (by omega) ht
  have hf' : ls.length ≤ 1000 := by omega
  obtain ⟨⟨m2, n2, C2⟩, h2⟩ : ∃ r, r = Bd.pass m n ls t := ⟨_, rfl⟩
  have hC2 : C2.length ≤ ls.length := by
    have : (Bd.pass m n ls t).als.length ≤ ls.length := by
      unfold Bd.pass
      split
      · exact Nat.le_of_eq (Bd.pass_len t ls)
      · exact Nat.zero_le _
    rw [← h2] at this; exact this
  have E := fun hE => dueParts_err HC m n A ls.length c ls t t2 w hA (by omega) ht (Du.turnsE m n ls t) (Bd.passE m n ls t) (Du.turnsE m2 n2 C2 t2) (Du.turnsE m n ls t2) m2 n2 C2 _ _ _ _ C2.length _ _
    (fun W h => Lib.hid (HD.out.turns m n A ls.length c ls t _ W ⟨rfl, h, h0, hf'⟩ rfl))
    (fun W h => Lib.hid (by have k := HP9.out m n A ls.length c ls t C2.length W ⟨rfl, h, h0, hf'⟩ (by rw [← h2]); rw [← h2] at k; exact k))
    (fun W A2 c2 h hn => Lib.hid (HD.out.turns m2 n2 A2 C2.length c2 C2 t2 _ W ⟨rfl, h, hn, by omega⟩ rfl))
    (fun W h => Lib.hid (HD.out.turns m n A ls.length c ls t2 _ W ⟨rfl, h, h0, hf'⟩ rfl)) hE
  rcases zero_or (e := Du.turnsE m n ls t) with a1 | a1
  · exact E (Or.inl a1)
  rcases zero_or (e := Bd.passE m n ls t) with a2 | a2
  · exact E (Or.inr (Or.inl ⟨a1, a2⟩))
  rcases zero_or (e := Du.turnsE m2 n2 C2 t2) with a3 | a3
  · exact E (Or.inr (Or.inr (Or.inl ⟨a1, a2, a3⟩)))
  rcases zero_or (e := Du.turnsE m n ls t2) with a4 | a4
  · exact E (Or.inr (Or.inr (Or.inr ⟨a1, a2, a3, a4⟩)))
  have z2 : Bd.passE m n ls t = 0 := by simpa using a2.1
  have e2 : Bd.pass m n ls t = ⟨m, t, Bd.passL t ls⟩ := by unfold Bd.pass; rw [if_pos z2]
  rw [e2] at h2
  cases h2
  exact dueParts_ok HD HP9 HT HC m n A ls.length c ls t t2 w rfl hA h0 (by omega) ht (by simpa using a1.1) z2 (by simpa using a3.1) (by simpa using a4.1)
end Go.Proofs.Ytplpadblhjdpcaa
