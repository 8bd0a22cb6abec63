/-
  Layer 11 (show): the law ShowBack, over the structures (printed by tools/gen-showback.py).
-/
import Derived.Test.YtpgichlaghhdeaaGreatDoorXShowRung
namespace Go.Proofs.YtpgichlaghhdeaaGreatDoor
set_option maxRecDepth 10000
open Go.RowKit

theorem run_neq_six (w : World) (x0 x1 x2 x3 x4 x5 : Int) (X : Alm) (h : X = ⟨x0, x1, x2, x3, x4, x5⟩) : (binOp .neq 25 (.agg (sixV X)) (.agg #[.int .i64 x0, .int .i64 x1, .int .i64 x2, .int .i64 x3, .int .i64 x4, .int .i64 x5])).run Tryz.prog w = .ok (.bool false) w := by
  subst h
  unfold sixV
  go_simp
theorem showBack_far (x0 x1 x2 x3 x4 x5 : Int) (s : ByteArray) (w : World) (hs : 300 < s.size) : Calls Tryz.prog 4 #[.agg #[.int .i64 x0, .int .i64 x1, .int .i64 x2, .int .i64 x3, .int .i64 x4, .int .i64 x5], .string s] w fun e w' => e = .returned (.bool true) ∧ Below w.heap.size w w' := by
  have i1 : ((300 : Int) < (s.size : Int)) = True := eq_true (by omega)
  clear hs
  go_enter Tryz.func4, Tryz.ntmps4
  go_wp2
  go_ret
  exact ⟨rfl, below_new _ _⟩

set_option maxHeartbeats 4000000 in
theorem showBack_oo {E : World → Prop} (HS : Hid (ShowK E)) (x0 x1 x2 x3 x4 x5 : Int) (s : ByteArray) (w : World) (hE : E w) (hs : s.size ≤ 300) (T : ByteArray) (X : Alm) (hX : X = ⟨x0, x1, x2, x3, x4, x5⟩) (Y : Alm)
    (KL : ∀ (W : World) (_h : E W), Hid (Calls Tryz.prog 9 #[.agg #[.int .i64 x0, .int .i64 x1, .int .i64 x2, .int .i64 x3, .int .i64 x4, .int .i64 x5]] W fun e w' => e = .returned (.tuple #[.string T, .int .i64 0]) ∧ Below W.heap.size W w'))
    (KP : ∀ (W : World) (_h : E W), Hid (Calls Tryz.prog 11 #[.string T] W fun e w' => e = .returned (.tuple #[.agg (sixV X), .int .i64 0]) ∧ Below W.heap.size W w'))
    (KQ : ∀ (W : World) (_h : E W), Hid (Calls Tryz.prog 11 #[.string s] W fun e w' => e = .returned (.tuple #[.agg (sixV Y), .int .i64 0]) ∧ Below W.heap.size W w'))
    (KM : ∀ (W : World) (_h : E W), Hid (Calls Tryz.prog 9 #[.agg (sixV Y)] W fun e w' => e = .returned (.tuple #[.string s, .int .i64 0]) ∧ Below W.heap.size W w'))
    (KC : ∀ (W : World) (_h : E W), Hid (Calls Tryz.prog 20 #[] W fun e w' => e = .returned (.bool true) ∧ Below W.heap.size W w')) :
    Calls Tryz.prog 4 #[.agg #[.int .i64 x0, .int .i64 x1, .int .i64 x2, .int .i64 x3, .int .i64 x4, .int .i64 x5], .string s] w fun e w' => e = .returned (.bool true) ∧ Below w.heap.size w w' := by
  have S1 := Lib.hid ((St.start w).new #[.int .i64 x0, .int .i64 x1, .int .i64 x2, .int .i64 x3, .int .i64 x4, .int .i64 x5] 25)
  have HE1 := Lib.hid (HS.out.mono _ _ hE (below_new w (.cells #[.int .i64 x0, .int .i64 x1, .int .i64 x2, .int .i64 x3, .int .i64 x4, .int .i64 x5] 25)))
  have i1 : ((300 : Int) < (s.size : Int)) = False := eq_false (by omega)
  have q1 := fun W => run_neq_six W x0 x1 x2 x3 x4 x5 X hX
  clear hX
  clear hs hE
  go_enter Tryz.func4, Tryz.ntmps4
  go_wp2_with (refine wpList_load_st rfl 25 _ rfl S1.out 0 _ _ rfl rfl _ Tryz.underlying25 rfl (by rfl) ?_)
  refine (KL _ HE1.out).out.mono ?_
  rintro e w2 ⟨rfl, hB⟩
  have S2 := Lib.hid (S1.out.on hB)
  have HE2 := Lib.hid (HS.out.mono _ _ HE1.out hB)
  clear hB S1 HE1
  obtain ⟨p1, hp1⟩ : ∃ p, p = w.heap.size := ⟨_, rfl⟩
  rw [← hp1] at S2 ⊢
  clear hp1
  go_wp2_with fail
  refine (KP w2 HE2.out).out.mono ?_
  rintro e w3 ⟨rfl, hB⟩
  have S3 := Lib.hid (S2.out.on hB)
  have HE3 := Lib.hid (HS.out.mono _ _ HE2.out hB)
  clear hB S2 HE2
  go_wp2_with (first
    | (refine wpList_store_st rfl 25 _ _ rfl S3.out _ (sixV X) _ rfl rfl (by rfl) rfl (six_one X) ?_; intro p4 w4 hp hS hBn; (try rw [← hp]); have S4 := Lib.hid hS; have HE4 := Lib.hid (HS.out.mono _ _ HE3.out hBn); clear hS hp hBn)
    | (refine wpList_loadg_st (by rfl) 25 _ rfl S4.out 0 _ _ rfl rfl _ Tryz.underlying25 rfl (by rfl) ?_)
    | (refine wpList_loadg_st (by rfl) 25 _ rfl S4.out 1 _ _ rfl rfl _ Tryz.underlying25 rfl (by rfl) ?_))
  refine (KQ w4 HE4.out).out.mono ?_
  rintro e w5 ⟨rfl, hB⟩
  have S5 := Lib.hid (S4.out.on hB)
  have HE5 := Lib.hid (HS.out.mono _ _ HE4.out hB)
  clear hB S4 HE4
  go_wp2_with (first
    | (refine wpList_store_st rfl 25 _ _ rfl S5.out _ (sixV Y) _ rfl rfl (by rfl) rfl (six_one Y) ?_; intro p6 w6 hp hS hBn; (try rw [← hp]); have S6 := Lib.hid hS; have HE6 := Lib.hid (HS.out.mono _ _ HE5.out hBn); clear hS hp hBn)
    | (refine wpList_load_st rfl 25 _ rfl S6.out 0 _ _ rfl rfl _ Tryz.underlying25 rfl (by rfl) ?_))
  refine (KM w6 HE6.out).out.mono ?_
  rintro e w7 ⟨rfl, hB⟩
  have S7 := Lib.hid (S6.out.on hB)
  have HE7 := Lib.hid (HS.out.mono _ _ HE6.out hB)
  clear hB S6 HE6
  go_wp2_with fail
  refine (KC w7 HE7.out).out.mono ?_
  rintro e w8 ⟨rfl, hB⟩
  have S8 := Lib.hid (S7.out.on hB)
  have HE8 := Lib.hid (HS.out.mono _ _ HE7.out hB)
  clear hB S7 HE7
  go_wp2
  go_ret
  exact ⟨rfl, S8.out.below⟩

set_option maxHeartbeats 4000000 in
theorem showBack_oe {E : World → Prop} (HS : Hid (ShowK E)) (x0 x1 x2 x3 x4 x5 : Int) (s : ByteArray) (w : World) (hE : E w) (hs : s.size ≤ 300) (T u : ByteArray) (X : Alm) (hX : X = ⟨x0, x1, x2, x3, x4, x5⟩) (Y : Alm) (es ms : Int) (b1 : (es != 0) = true)
    (KL : ∀ (W : World) (_h : E W), Hid (Calls Tryz.prog 9 #[.agg #[.int .i64 x0, .int .i64 x1, .int .i64 x2, .int .i64 x3, .int .i64 x4, .int .i64 x5]] W fun e w' => e = .returned (.tuple #[.string T, .int .i64 0]) ∧ Below W.heap.size W w'))
    (KP : ∀ (W : World) (_h : E W), Hid (Calls Tryz.prog 11 #[.string T] W fun e w' => e = .returned (.tuple #[.agg (sixV X), .int .i64 0]) ∧ Below W.heap.size W w'))
    (KQ : ∀ (W : World) (_h : E W), Hid (Calls Tryz.prog 11 #[.string s] W fun e w' => e = .returned (.tuple #[.agg (sixV Y), .int .i64 es]) ∧ Below W.heap.size W w'))
    (KM : ∀ (W : World) (_h : E W), Hid (Calls Tryz.prog 9 #[.agg (sixV Y)] W fun e w' => e = .returned (.tuple #[.string u, .int .i64 ms]) ∧ Below W.heap.size W w'))
    (KC : ∀ (W : World) (_h : E W), Hid (Calls Tryz.prog 20 #[] W fun e w' => e = .returned (.bool true) ∧ Below W.heap.size W w')) :
    Calls Tryz.prog 4 #[.agg #[.int .i64 x0, .int .i64 x1, .int .i64 x2, .int .i64 x3, .int .i64 x4, .int .i64 x5], .string s] w fun e w' => e = .returned (.bool true) ∧ Below w.heap.size w w' := by
  have S1 := Lib.hid ((St.start w).new #[.int .i64 x0, .int .i64 x1, .int .i64 x2, .int .i64 x3, .int .i64 x4, .int .i64 x5] 25)
  have HE1 := Lib.hid (HS.out.mono _ _ hE (below_new w (.cells #[.int .i64 x0, .int .i64 x1, .int .i64 x2, .int .i64 x3, .int .i64 x4, .int .i64 x5] 25)))
  have i1 : ((300 : Int) < (s.size : Int)) = False := eq_false (by omega)
  have q1 := fun W => run_neq_six W x0 x1 x2 x3 x4 x5 X hX
  clear hX
  clear hs hE
  go_enter Tryz.func4, Tryz.ntmps4
  go_wp2_with (refine wpList_load_st rfl 25 _ rfl S1.out 0 _ _ rfl rfl _ Tryz.underlying25 rfl (by rfl) ?_)
  refine (KL _ HE1.out).out.mono ?_
  rintro e w2 ⟨rfl, hB⟩
  have S2 := Lib.hid (S1.out.on hB)
  have HE2 := Lib.hid (HS.out.mono _ _ HE1.out hB)
  clear hB S1 HE1
  obtain ⟨p1, hp1⟩ : ∃ p, p = w.heap.size := ⟨_, rfl⟩
  rw [← hp1] at S2 ⊢
  clear hp1
  go_wp2_with fail
  refine (KP w2 HE2.out).out.mono ?_
  rintro e w3 ⟨rfl, hB⟩
  have S3 := Lib.hid (S2.out.on hB)
  have HE3 := Lib.hid (HS.out.mono _ _ HE2.out hB)
  clear hB S2 HE2
  go_wp2_with (first
    | (refine wpList_store_st rfl 25 _ _ rfl S3.out _ (sixV X) _ rfl rfl (by rfl) rfl (six_one X) ?_; intro p4 w4 hp hS hBn; (try rw [← hp]); have S4 := Lib.hid hS; have HE4 := Lib.hid (HS.out.mono _ _ HE3.out hBn); clear hS hp hBn)
    | (refine wpList_loadg_st (by rfl) 25 _ rfl S4.out 0 _ _ rfl rfl _ Tryz.underlying25 rfl (by rfl) ?_)
    | (refine wpList_loadg_st (by rfl) 25 _ rfl S4.out 1 _ _ rfl rfl _ Tryz.underlying25 rfl (by rfl) ?_))
  refine (KQ w4 HE4.out).out.mono ?_
  rintro e w5 ⟨rfl, hB⟩
  have S5 := Lib.hid (S4.out.on hB)
  have HE5 := Lib.hid (HS.out.mono _ _ HE4.out hB)
  clear hB S4 HE4
  go_wp2_with (first
    | (refine wpList_store_st rfl 25 _ _ rfl S5.out _ (sixV Y) _ rfl rfl (by rfl) rfl (six_one Y) ?_; intro p6 w6 hp hS hBn; (try rw [← hp]); have S6 := Lib.hid hS; have HE6 := Lib.hid (HS.out.mono _ _ HE5.out hBn); clear hS hp hBn)
    | (refine wpList_load_st rfl 25 _ rfl S6.out 0 _ _ rfl rfl _ Tryz.underlying25 rfl (by rfl) ?_))
  refine (KM w6 HE6.out).out.mono ?_
  rintro e w7 ⟨rfl, hB⟩
  have S7 := Lib.hid (S6.out.on hB)
  have HE7 := Lib.hid (HS.out.mono _ _ HE6.out hB)
  clear hB S6 HE6
  go_wp2_with fail
  refine (KC w7 HE7.out).out.mono ?_
  rintro e w8 ⟨rfl, hB⟩
  have S8 := Lib.hid (S7.out.on hB)
  have HE8 := Lib.hid (HS.out.mono _ _ HE7.out hB)
  clear hB S7 HE7
  go_wp2
  go_ret
  exact ⟨rfl, S8.out.below⟩

set_option maxHeartbeats 4000000 in
theorem showBack_eo {E : World → Prop} (HS : Hid (ShowK E)) (x0 x1 x2 x3 x4 x5 : Int) (s : ByteArray) (w : World) (hE : E w) (hs : s.size ≤ 300) (T : ByteArray) (X : Alm) (ea fa : Int) (a1 : (ea == 0) = false) (Y : Alm)
    (KL : ∀ (W : World) (_h : E W), Hid (Calls Tryz.prog 9 #[.agg #[.int .i64 x0, .int .i64 x1, .int .i64 x2, .int .i64 x3, .int .i64 x4, .int .i64 x5]] W fun e w' => e = .returned (.tuple #[.string T, .int .i64 ea]) ∧ Below W.heap.size W w'))
    (KP : ∀ (W : World) (_h : E W), Hid (Calls Tryz.prog 11 #[.string T] W fun e w' => e = .returned (.tuple #[.agg (sixV X), .int .i64 fa]) ∧ Below W.heap.size W w'))
    (KQ : ∀ (W : World) (_h : E W), Hid (Calls Tryz.prog 11 #[.string s] W fun e w' => e = .returned (.tuple #[.agg (sixV Y), .int .i64 0]) ∧ Below W.heap.size W w'))
    (KM : ∀ (W : World) (_h : E W), Hid (Calls Tryz.prog 9 #[.agg (sixV Y)] W fun e w' => e = .returned (.tuple #[.string s, .int .i64 0]) ∧ Below W.heap.size W w'))
    (KC : ∀ (W : World) (_h : E W), Hid (Calls Tryz.prog 20 #[] W fun e w' => e = .returned (.bool true) ∧ Below W.heap.size W w')) :
    Calls Tryz.prog 4 #[.agg #[.int .i64 x0, .int .i64 x1, .int .i64 x2, .int .i64 x3, .int .i64 x4, .int .i64 x5], .string s] w fun e w' => e = .returned (.bool true) ∧ Below w.heap.size w w' := by
  have S1 := Lib.hid ((St.start w).new #[.int .i64 x0, .int .i64 x1, .int .i64 x2, .int .i64 x3, .int .i64 x4, .int .i64 x5] 25)
  have HE1 := Lib.hid (HS.out.mono _ _ hE (below_new w (.cells #[.int .i64 x0, .int .i64 x1, .int .i64 x2, .int .i64 x3, .int .i64 x4, .int .i64 x5] 25)))
  have i1 : ((300 : Int) < (s.size : Int)) = False := eq_false (by omega)
  clear hs hE
  go_enter Tryz.func4, Tryz.ntmps4
  go_wp2_with (refine wpList_load_st rfl 25 _ rfl S1.out 0 _ _ rfl rfl _ Tryz.underlying25 rfl (by rfl) ?_)
  refine (KL _ HE1.out).out.mono ?_
  rintro e w2 ⟨rfl, hB⟩
  have S2 := Lib.hid (S1.out.on hB)
  have HE2 := Lib.hid (HS.out.mono _ _ HE1.out hB)
  clear hB S1 HE1
  obtain ⟨p1, hp1⟩ : ∃ p, p = w.heap.size := ⟨_, rfl⟩
  rw [← hp1] at S2 ⊢
  clear hp1
  go_wp2_with fail
  refine (KP w2 HE2.out).out.mono ?_
  rintro e w3 ⟨rfl, hB⟩
  have S3 := Lib.hid (S2.out.on hB)
  have HE3 := Lib.hid (HS.out.mono _ _ HE2.out hB)
  clear hB S2 HE2
  go_wp2_with (first
    | (refine wpList_store_st rfl 25 _ _ rfl S3.out _ (sixV X) _ rfl rfl (by rfl) rfl (six_one X) ?_; intro p4 w4 hp hS hBn; (try rw [← hp]); have S4 := Lib.hid hS; have HE4 := Lib.hid (HS.out.mono _ _ HE3.out hBn); clear hS hp hBn))
  refine (KQ w4 HE4.out).out.mono ?_
  rintro e w5 ⟨rfl, hB⟩
  have S5 := Lib.hid (S4.out.on hB)
  have HE5 := Lib.hid (HS.out.mono _ _ HE4.out hB)
  clear hB S4 HE4
  go_wp2_with (first
    | (refine wpList_store_st rfl 25 _ _ rfl S5.out _ (sixV Y) _ rfl rfl (by rfl) rfl (six_one Y) ?_; intro p6 w6 hp hS hBn; (try rw [← hp]); have S6 := Lib.hid hS; have HE6 := Lib.hid (HS.out.mono _ _ HE5.out hBn); clear hS hp hBn)
    | (refine wpList_load_st rfl 25 _ rfl S6.out 0 _ _ rfl rfl _ Tryz.underlying25 rfl (by rfl) ?_))
  refine (KM w6 HE6.out).out.mono ?_
  rintro e w7 ⟨rfl, hB⟩
  have S7 := Lib.hid (S6.out.on hB)
  have HE7 := Lib.hid (HS.out.mono _ _ HE6.out hB)
  clear hB S6 HE6
  go_wp2_with fail
  refine (KC w7 HE7.out).out.mono ?_
  rintro e w8 ⟨rfl, hB⟩
  have S8 := Lib.hid (S7.out.on hB)
  have HE8 := Lib.hid (HS.out.mono _ _ HE7.out hB)
  clear hB S7 HE7
  go_wp2
  go_ret
  exact ⟨rfl, S8.out.below⟩

set_option maxHeartbeats 4000000 in
theorem showBack_ee {E : World → Prop} (HS : Hid (ShowK E)) (x0 x1 x2 x3 x4 x5 : Int) (s : ByteArray) (w : World) (hE : E w) (hs : s.size ≤ 300) (T u : ByteArray) (X : Alm) (ea fa : Int) (a1 : (ea == 0) = false) (Y : Alm) (es ms : Int) (b1 : (es != 0) = true)
    (KL : ∀ (W : World) (_h : E W), Hid (Calls Tryz.prog 9 #[.agg #[.int .i64 x0, .int .i64 x1, .int .i64 x2, .int .i64 x3, .int .i64 x4, .int .i64 x5]] W fun e w' => e = .returned (.tuple #[.string T, .int .i64 ea]) ∧ Below W.heap.size W w'))
    (KP : ∀ (W : World) (_h : E W), Hid (Calls Tryz.prog 11 #[.string T] W fun e w' => e = .returned (.tuple #[.agg (sixV X), .int .i64 fa]) ∧ Below W.heap.size W w'))
    (KQ : ∀ (W : World) (_h : E W), Hid (Calls Tryz.prog 11 #[.string s] W fun e w' => e = .returned (.tuple #[.agg (sixV Y), .int .i64 es]) ∧ Below W.heap.size W w'))
    (KM : ∀ (W : World) (_h : E W), Hid (Calls Tryz.prog 9 #[.agg (sixV Y)] W fun e w' => e = .returned (.tuple #[.string u, .int .i64 ms]) ∧ Below W.heap.size W w'))
    (KC : ∀ (W : World) (_h : E W), Hid (Calls Tryz.prog 20 #[] W fun e w' => e = .returned (.bool true) ∧ Below W.heap.size W w')) :
    Calls Tryz.prog 4 #[.agg #[.int .i64 x0, .int .i64 x1, .int .i64 x2, .int .i64 x3, .int .i64 x4, .int .i64 x5], .string s] w fun e w' => e = .returned (.bool true) ∧ Below w.heap.size w w' := by
  have S1 := Lib.hid ((St.start w).new #[.int .i64 x0, .int .i64 x1, .int .i64 x2, .int .i64 x3, .int .i64 x4, .int .i64 x5] 25)
  have HE1 := Lib.hid (HS.out.mono _ _ hE (below_new w (.cells #[.int .i64 x0, .int .i64 x1, .int .i64 x2, .int .i64 x3, .int .i64 x4, .int .i64 x5] 25)))
  have i1 : ((300 : Int) < (s.size : Int)) = False := eq_false (by omega)
  clear hs hE
  go_enter Tryz.func4, Tryz.ntmps4
  go_wp2_with (refine wpList_load_st rfl 25 _ rfl S1.out 0 _ _ rfl rfl _ Tryz.underlying25 rfl (by rfl) ?_)
  refine (KL _ HE1.out).out.mono ?_
  rintro e w2 ⟨rfl, hB⟩
  have S2 := Lib.hid (S1.out.on hB)
  have HE2 := Lib.hid (HS.out.mono _ _ HE1.out hB)
  clear hB S1 HE1
  obtain ⟨p1, hp1⟩ : ∃ p, p = w.heap.size := ⟨_, rfl⟩
  rw [← hp1] at S2 ⊢
  clear hp1
  go_wp2_with fail
  refine (KP w2 HE2.out).out.mono ?_
  rintro e w3 ⟨rfl, hB⟩
  have S3 := Lib.hid (S2.out.on hB)
  have HE3 := Lib.hid (HS.out.mono _ _ HE2.out hB)
  clear hB S2 HE2
  go_wp2_with (first
    | (refine wpList_store_st rfl 25 _ _ rfl S3.out _ (sixV X) _ rfl rfl (by rfl) rfl (six_one X) ?_; intro p4 w4 hp hS hBn; (try rw [← hp]); have S4 := Lib.hid hS; have HE4 := Lib.hid (HS.out.mono _ _ HE3.out hBn); clear hS hp hBn))
  refine (KQ w4 HE4.out).out.mono ?_
  rintro e w5 ⟨rfl, hB⟩
  have S5 := Lib.hid (S4.out.on hB)
  have HE5 := Lib.hid (HS.out.mono _ _ HE4.out hB)
  clear hB S4 HE4
  go_wp2_with (first
    | (refine wpList_store_st rfl 25 _ _ rfl S5.out _ (sixV Y) _ rfl rfl (by rfl) rfl (six_one Y) ?_; intro p6 w6 hp hS hBn; (try rw [← hp]); have S6 := Lib.hid hS; have HE6 := Lib.hid (HS.out.mono _ _ HE5.out hBn); clear hS hp hBn)
    | (refine wpList_load_st rfl 25 _ rfl S6.out 0 _ _ rfl rfl _ Tryz.underlying25 rfl (by rfl) ?_))
  refine (KM w6 HE6.out).out.mono ?_
  rintro e w7 ⟨rfl, hB⟩
  have S7 := Lib.hid (S6.out.on hB)
  have HE7 := Lib.hid (HS.out.mono _ _ HE6.out hB)
  clear hB S6 HE6
  go_wp2_with fail
  refine (KC w7 HE7.out).out.mono ?_
  rintro e w8 ⟨rfl, hB⟩
  have S8 := Lib.hid (S7.out.on hB)
  have HE8 := Lib.hid (HS.out.mono _ _ HE7.out hB)
  clear hB S7 HE7
  go_wp2
  go_ret
  exact ⟨rfl, S8.out.below⟩

theorem showBack_walk {E : World → Prop} (HS : Hid (ShowK E)) (HC : Hid (ShownK E)) (x0 x1 x2 x3 x4 x5 : Int) (s : ByteArray) (w : World) (hE : E w) : Calls Tryz.prog 4 #[.agg #[.int .i64 x0, .int .i64 x1, .int .i64 x2, .int .i64 x3, .int .i64 x4, .int .i64 x5], .string s] w fun e w' => e = .returned (.bool true) ∧ Below w.heap.size w w' := by
  by_cases hf : 300 < s.size
  · exact showBack_far x0 x1 x2 x3 x4 x5 s w hf
  have hs : s.size ≤ 300 := by omega
  have hT : (strOf (Sh.line ⟨x0, x1, x2, x3, x4, x5⟩)).size ≤ 400 := by rw [strOf_size]; exact Nat.le_trans (Sh.line_len _) (by omega)
  obtain ⟨Y, hY⟩ : ∃ Y, Y = Sh.parA (bl s) := ⟨_, rfl⟩
  have KL := fun W (h : E W) => Lib.hid (HS.out.line x0 x1 x2 x3 x4 x5 W h)
  have KP := fun W (h : E W) => Lib.hid (HS.out.parse (strOf (Sh.line ⟨x0, x1, x2, x3, x4, x5⟩)) hT W h)
  have KQ := fun W (h : E W) => Lib.hid (HS.out.parse s (by omega) W h)
  have KM : ∀ (W : World) (_h : E W), Hid (Calls Tryz.prog 9 #[.agg (sixV Y)] W fun e w' => e = .returned (.tuple #[.string (strOf (Sh.line Y)), .int .i64 (Sh.lineE Y)]) ∧ Below W.heap.size W w') := fun W h => Lib.hid (HS.out.line Y.b Y.c Y.ph Y.pr Y.si Y.un W h)
  have KC := fun W (h : E W) => Lib.hid (HC.out W h)
  rw [bl_strOf] at KP
  rw [← hY] at KQ
  by_cases h1 : Sh.lineE ⟨x0, x1, x2, x3, x4, x5⟩ = 0
  · have g := Sh.back_a h1
    rw [h1] at KL
    rw [g.1] at KP
    by_cases h2 : Sh.parE (bl s) = 0
    · have k := Sh.back_s h2
      rw [← hY] at k
      rw [h2] at KQ
      rw [k.1, k.2, strOf_bl] at KM
      exact showBack_oo HS x0 x1 x2 x3 x4 x5 s w hE hs _ _ g.2 Y KL KP KQ KM KC
    · exact showBack_oe HS x0 x1 x2 x3 x4 x5 s w hE hs _ _ _ g.2 Y _ _ (by rw [bne_iff_ne]; exact h2) KL KP KQ KM KC
  · have a1 : (Sh.lineE ⟨x0, x1, x2, x3, x4, x5⟩ == 0) = false := by rw [beq_eq_false_iff_ne]; exact h1
    by_cases h2 : Sh.parE (bl s) = 0
    · have k := Sh.back_s h2
      rw [← hY] at k
      rw [h2] at KQ
      rw [k.1, k.2, strOf_bl] at KM
      exact showBack_eo HS x0 x1 x2 x3 x4 x5 s w hE hs _ _ _ _ a1 Y KL KP KQ KM KC
    · exact showBack_ee HS x0 x1 x2 x3 x4 x5 s w hE hs _ _ _ _ _ a1 Y _ _ (by rw [bne_iff_ne]; exact h2) KL KP KQ KM KC
end Go.Proofs.YtpgichlaghhdeaaGreatDoor
