/-
  Layer 15 (slots): the law SlotsCrash, over the structure (printed by tools/gen-slotscrash.py).
-/
import Derived.Test.YteepemibmjpnfaaSlotsBack
namespace Go.Proofs.Yteepemibmjpnfaa
set_option maxRecDepth 10000
open Go.RowKit

set_option maxHeartbeats 2000000 in
theorem slotsCrash_far {E : World → Prop} (HS : Hid (SlotsK E)) (sm sn : Int) (sk sl sx sy : ByteArray) (t : ByteArray) (d n : Int) (w : World) (hE : E w) 
    (pf : ∀ (W : World), Hid (Calls Try.prog 8 #[.agg #[.int .i64 sm, .string sk, .string sl, .int .i64 sn, .string sx, .string sy], .string t] W fun e w' => e = .returned (.bool true) ∧ Below W.heap.size W w')) :
    Calls Try.prog 5 #[.agg #[.int .i64 sm, .string sk, .string sl, .int .i64 sn, .string sx, .string sy], .string t, .int .i64 d, .int .i64 n] w fun e w' => e = .returned (.bool true) ∧ Below w.heap.size w w' := by
  have S0 := Lib.hid (((St.start w).more (eSl HS) hE).new #[.int .i64 sm, .string sk, .string sl, .int .i64 sn, .string sx, .string sy] 25)
  clear hE
  go_enter Try.func5, Try.ntmps5
  go_wp2_with (refine wpList_loadg_st (by rfl) 25 _ rfl S0.out 0 _ _ rfl rfl _ Try.underlying25 rfl (by rfl) ?_)
  refine (pf _).out.mono ?_
  rintro e w1 ⟨rfl, hB⟩
  have S1 := Lib.hid (S0.out.on hB)
  clear hB S0
  go_wp2
  go_ret
  exact ⟨rfl, S1.out.below⟩

set_option maxHeartbeats 2000000 in
theorem slotsCrash_l1 {E : World → Prop} (HS : Hid (SlotsK E)) (sm sn : Int) (sk sl sx sy : ByteArray) (t : ByteArray) (d n : Int) (w : World) (hE : E w) (j1 : sl.toList.isEmpty = false)
    (pf : ∀ (W : World), Hid (Calls Try.prog 8 #[.agg #[.int .i64 sm, .string sk, .string sl, .int .i64 sn, .string sx, .string sy], .string t] W fun e w' => e = .returned (.bool false) ∧ Below W.heap.size W w')) :
    Calls Try.prog 5 #[.agg #[.int .i64 sm, .string sk, .string sl, .int .i64 sn, .string sx, .string sy], .string t, .int .i64 d, .int .i64 n] w fun e w' => e = .returned (.bool true) ∧ Below w.heap.size w w' := by
  have S0 := Lib.hid (((St.start w).more (eSl HS) hE).new #[.int .i64 sm, .string sk, .string sl, .int .i64 sn, .string sx, .string sy] 25)
  clear hE
  go_enter Try.func5, Try.ntmps5
  go_wp2_with (refine wpList_loadg_st (by rfl) 25 _ rfl S0.out 0 _ _ rfl rfl _ Try.underlying25 rfl (by rfl) ?_)
  refine (pf _).out.mono ?_
  rintro e w1 ⟨rfl, hB⟩
  have S1 := Lib.hid (S0.out.on hB)
  clear hB S0
  clear pf
  obtain ⟨p0, hp0⟩ : ∃ p, p = w.heap.size := ⟨_, rfl⟩
  rw [← hp0] at S1 ⊢
  clear hp0
  have h2 := S1.out.cell 0 rfl 2 rfl
  have h5 := S1.out.cell 0 rfl 5 rfl
  go_wp2
  go_ret
  exact ⟨rfl, S1.out.below⟩

set_option maxHeartbeats 2000000 in
theorem slotsCrash_l2 {E : World → Prop} (HS : Hid (SlotsK E)) (sm sn : Int) (sk sl sx sy : ByteArray) (t : ByteArray) (d n : Int) (w : World) (hE : E w) (j1 : sl.toList.isEmpty = true) (j2 : sy.toList.isEmpty = false)
    (pf : ∀ (W : World), Hid (Calls Try.prog 8 #[.agg #[.int .i64 sm, .string sk, .string sl, .int .i64 sn, .string sx, .string sy], .string t] W fun e w' => e = .returned (.bool false) ∧ Below W.heap.size W w')) :
    Calls Try.prog 5 #[.agg #[.int .i64 sm, .string sk, .string sl, .int .i64 sn, .string sx, .string sy], .string t, .int .i64 d, .int .i64 n] w fun e w' => e = .returned (.bool true) ∧ Below w.heap.size w w' := by
  have S0 := Lib.hid (((St.start w).more (eSl HS) hE).new #[.int .i64 sm, .string sk, .string sl, .int .i64 sn, .string sx, .string sy] 25)
  clear hE
  go_enter Try.func5, Try.ntmps5
  go_wp2_with (refine wpList_loadg_st (by rfl) 25 _ rfl S0.out 0 _ _ rfl rfl _ Try.underlying25 rfl (by rfl) ?_)
  refine (pf _).out.mono ?_
  rintro e w1 ⟨rfl, hB⟩
  have S1 := Lib.hid (S0.out.on hB)
  clear hB S0
  clear pf
  obtain ⟨p0, hp0⟩ : ∃ p, p = w.heap.size := ⟨_, rfl⟩
  rw [← hp0] at S1 ⊢
  clear hp0
  have h2 := S1.out.cell 0 rfl 2 rfl
  have h5 := S1.out.cell 0 rfl 5 rfl
  go_wp2
  go_ret
  exact ⟨rfl, S1.out.below⟩

set_option maxHeartbeats 2000000 in
theorem slotsCrash_bad1 {E : World → Prop} (HS : Hid (SlotsK E)) (HC : Hid (SlottedK E)) (sm sn : Int) (sk sl sx sy : ByteArray) (t : ByteArray) (d n : Int) (w : World) (hE : E w) (j1 : sl.toList.isEmpty = true) (j2 : sy.toList.isEmpty = true) (s1 : ByteArray) (n1 e1 f1 : Int) (je : (e1 != 0) = true) (dn : Bool) (xm xn : Int) (xk xl xx xy : ByteArray)
    (pf : ∀ (W : World), Hid (Calls Try.prog 8 #[.agg #[.int .i64 sm, .string sk, .string sl, .int .i64 sn, .string sx, .string sy], .string t] W fun e w' => e = .returned (.bool false) ∧ Below W.heap.size W w'))
    (K1 : ∀ (W : World) (_h : E W), Hid (Calls Try.prog 9 #[.agg #[.int .i64 sm, .string sk, .string sl, .int .i64 sn, .string sx, .string sy]] W fun e w' => e = .returned (.tuple #[.string s1, .int .i64 n1, .int .i64 e1]) ∧ Below W.heap.size W w'))
    (K2 : ∀ (W : World) (_h : E W), Hid (Calls Try.prog 11 #[.agg #[.int .i64 sm, .string sk, .string sl, .int .i64 sn, .string sx, .string sy], .string t, .int .i64 d] W fun e w' => e = .returned (.tuple #[.agg #[.int .i64 xm, .string xk, .string xl, .int .i64 xn, .string xx, .string xy], .bool dn, .int .i64 f1]) ∧ Below W.heap.size W w')) :
    Calls Try.prog 5 #[.agg #[.int .i64 sm, .string sk, .string sl, .int .i64 sn, .string sx, .string sy], .string t, .int .i64 d, .int .i64 n] w fun e w' => e = .returned (.bool true) ∧ Below w.heap.size w w' := by
  have S0 := Lib.hid (((St.start w).more (eSl HS) hE).new #[.int .i64 sm, .string sk, .string sl, .int .i64 sn, .string sx, .string sy] 25)
  clear hE
  go_enter Try.func5, Try.ntmps5
  go_wp2_with (refine wpList_loadg_st (by rfl) 25 _ rfl S0.out 0 _ _ rfl rfl _ Try.underlying25 rfl (by rfl) ?_)
  refine (pf _).out.mono ?_
  rintro e w1 ⟨rfl, hB⟩
  have S1 := Lib.hid (S0.out.on hB)
  clear hB S0
  clear pf
  obtain ⟨p0, hp0⟩ : ∃ p, p = w.heap.size := ⟨_, rfl⟩
  rw [← hp0] at S1 ⊢
  clear hp0
  have h2 := S1.out.cell 0 rfl 2 rfl
  have h5 := S1.out.cell 0 rfl 5 rfl
  go_wp2_with (refine wpList_loadg_st (by rfl) 25 _ rfl S1.out 0 _ _ rfl rfl _ Try.underlying25 rfl (by rfl) ?_)
  refine (K1 _ (S1.out.fact 0 rfl)).out.mono ?_
  rintro e w2 ⟨rfl, hB⟩
  have S2 := Lib.hid (S1.out.on hB)
  clear hB S1
  clear h2 h5
  go_wp2_with (refine wpList_loadg_st (by rfl) 25 _ rfl S2.out 0 _ _ rfl rfl _ Try.underlying25 rfl (by rfl) ?_)
  refine (K2 _ (S2.out.fact 0 rfl)).out.mono ?_
  rintro e w3 ⟨rfl, hB⟩
  have S3 := Lib.hid (S2.out.on hB)
  clear hB S2
  clear K1 K2
  go_wp2_with (refine wpList_store_st rfl 25 _ _ rfl S3.out _ #[.int .i64 xm, .string xk, .string xl, .int .i64 xn, .string xx, .string xy] _ rfl rfl (by rfl) rfl (sl_one15 _ _ _ _ _ _) ?_; intro b1 w4 hp hS hBn; (try rw [← hp]); have S4 := Lib.hid hS; clear hS hp hBn)
  refine (Lib.hid (HC.out _ (S4.out.fact 0 rfl))).out.mono ?_
  rintro e w5 ⟨rfl, hB⟩
  have S5 := Lib.hid (S4.out.on hB)
  clear hB S4
  go_wp2
  go_ret
  exact ⟨rfl, S5.out.below⟩

set_option maxHeartbeats 2000000 in
theorem slotsCrash_bad2 {E : World → Prop} (HS : Hid (SlotsK E)) (HC : Hid (SlottedK E)) (sm sn : Int) (sk sl sx sy : ByteArray) (t : ByteArray) (d n : Int) (w : World) (hE : E w) (j1 : sl.toList.isEmpty = true) (j2 : sy.toList.isEmpty = true) (s1 : ByteArray) (n1 f1 : Int) (jf : (f1 != 0) = true) (dn : Bool) (xm xn : Int) (xk xl xx xy : ByteArray)
    (pf : ∀ (W : World), Hid (Calls Try.prog 8 #[.agg #[.int .i64 sm, .string sk, .string sl, .int .i64 sn, .string sx, .string sy], .string t] W fun e w' => e = .returned (.bool false) ∧ Below W.heap.size W w'))
    (K1 : ∀ (W : World) (_h : E W), Hid (Calls Try.prog 9 #[.agg #[.int .i64 sm, .string sk, .string sl, .int .i64 sn, .string sx, .string sy]] W fun e w' => e = .returned (.tuple #[.string s1, .int .i64 n1, .int .i64 0]) ∧ Below W.heap.size W w'))
    (K2 : ∀ (W : World) (_h : E W), Hid (Calls Try.prog 11 #[.agg #[.int .i64 sm, .string sk, .string sl, .int .i64 sn, .string sx, .string sy], .string t, .int .i64 d] W fun e w' => e = .returned (.tuple #[.agg #[.int .i64 xm, .string xk, .string xl, .int .i64 xn, .string xx, .string xy], .bool dn, .int .i64 f1]) ∧ Below W.heap.size W w')) :
    Calls Try.prog 5 #[.agg #[.int .i64 sm, .string sk, .string sl, .int .i64 sn, .string sx, .string sy], .string t, .int .i64 d, .int .i64 n] w fun e w' => e = .returned (.bool true) ∧ Below w.heap.size w w' := by
  have S0 := Lib.hid (((St.start w).more (eSl HS) hE).new #[.int .i64 sm, .string sk, .string sl, .int .i64 sn, .string sx, .string sy] 25)
  clear hE
  go_enter Try.func5, Try.ntmps5
  go_wp2_with (refine wpList_loadg_st (by rfl) 25 _ rfl S0.out 0 _ _ rfl rfl _ Try.underlying25 rfl (by rfl) ?_)
  refine (pf _).out.mono ?_
  rintro e w1 ⟨rfl, hB⟩
  have S1 := Lib.hid (S0.out.on hB)
  clear hB S0
  clear pf
  obtain ⟨p0, hp0⟩ : ∃ p, p = w.heap.size := ⟨_, rfl⟩
  rw [← hp0] at S1 ⊢
  clear hp0
  have h2 := S1.out.cell 0 rfl 2 rfl
  have h5 := S1.out.cell 0 rfl 5 rfl
  go_wp2_with (refine wpList_loadg_st (by rfl) 25 _ rfl S1.out 0 _ _ rfl rfl _ Try.underlying25 rfl (by rfl) ?_)
  refine (K1 _ (S1.out.fact 0 rfl)).out.mono ?_
  rintro e w2 ⟨rfl, hB⟩
  have S2 := Lib.hid (S1.out.on hB)
  clear hB S1
  clear h2 h5
  go_wp2_with (refine wpList_loadg_st (by rfl) 25 _ rfl S2.out 0 _ _ rfl rfl _ Try.underlying25 rfl (by rfl) ?_)
  refine (K2 _ (S2.out.fact 0 rfl)).out.mono ?_
  rintro e w3 ⟨rfl, hB⟩
  have S3 := Lib.hid (S2.out.on hB)
  clear hB S2
  clear K1 K2
  go_wp2_with (refine wpList_store_st rfl 25 _ _ rfl S3.out _ #[.int .i64 xm, .string xk, .string xl, .int .i64 xn, .string xx, .string xy] _ rfl rfl (by rfl) rfl (sl_one15 _ _ _ _ _ _) ?_; intro b1 w4 hp hS hBn; (try rw [← hp]); have S4 := Lib.hid hS; clear hS hp hBn)
  refine (Lib.hid (HC.out _ (S4.out.fact 0 rfl))).out.mono ?_
  rintro e w5 ⟨rfl, hB⟩
  have S5 := Lib.hid (S4.out.on hB)
  clear hB S4
  go_wp2
  go_ret
  exact ⟨rfl, S5.out.below⟩

set_option maxHeartbeats 2000000 in
theorem slotsCrash_ok1 {E : World → Prop} (HS : Hid (SlotsK E)) (HC : Hid (SlottedK E)) (sm sn : Int) (sk sl sx sy : ByteArray) (t : ByteArray) (d n : Int) (w : World) (hE : E w) (j1 : sl.toList.isEmpty = true) (j2 : sy.toList.isEmpty = true) (s1 : ByteArray) (n1 : Int) (m1 : Int) (dn : Bool) (jm : wrap64 (m1 - 1) = n1) (xm xn : Int) (xk xl xx xy : ByteArray) (ym yn : Int) (yk yl yx yy : ByteArray)
    (pf : ∀ (W : World), Hid (Calls Try.prog 8 #[.agg #[.int .i64 sm, .string sk, .string sl, .int .i64 sn, .string sx, .string sy], .string t] W fun e w' => e = .returned (.bool false) ∧ Below W.heap.size W w'))
    (K1 : ∀ (W : World) (_h : E W), Hid (Calls Try.prog 9 #[.agg #[.int .i64 sm, .string sk, .string sl, .int .i64 sn, .string sx, .string sy]] W fun e w' => e = .returned (.tuple #[.string s1, .int .i64 n1, .int .i64 0]) ∧ Below W.heap.size W w'))
    (K2 : ∀ (W : World) (_h : E W), Hid (Calls Try.prog 11 #[.agg #[.int .i64 sm, .string sk, .string sl, .int .i64 sn, .string sx, .string sy], .string t, .int .i64 d] W fun e w' => e = .returned (.tuple #[.agg #[.int .i64 xm, .string xk, .string xl, .int .i64 xn, .string xx, .string xy], .bool dn, .int .i64 0]) ∧ Below W.heap.size W w'))
    (K3 : ∀ (W : World) (_h : E W), Hid (Calls Try.prog 13 #[.agg #[.int .i64 xm, .string xk, .string xl, .int .i64 xn, .string xx, .string xy], .int .i64 n] W fun e w' => e = .returned (.tuple #[.agg #[.int .i64 ym, .string yk, .string yl, .int .i64 yn, .string yx, .string yy], .int .i64 0]) ∧ Below W.heap.size W w'))
    (K4 : ∀ (W : World) (_h : E W), Hid (Calls Try.prog 9 #[.agg #[.int .i64 ym, .string yk, .string yl, .int .i64 yn, .string yx, .string yy]] W fun e w' => e = .returned (.tuple #[.string t, .int .i64 m1, .int .i64 0]) ∧ Below W.heap.size W w')) :
    Calls Try.prog 5 #[.agg #[.int .i64 sm, .string sk, .string sl, .int .i64 sn, .string sx, .string sy], .string t, .int .i64 d, .int .i64 n] w fun e w' => e = .returned (.bool true) ∧ Below w.heap.size w w' := by
  have S0 := Lib.hid (((St.start w).more (eSl HS) hE).new #[.int .i64 sm, .string sk, .string sl, .int .i64 sn, .string sx, .string sy] 25)
  clear hE
  go_enter Try.func5, Try.ntmps5
  go_wp2_with (refine wpList_loadg_st (by rfl) 25 _ rfl S0.out 0 _ _ rfl rfl _ Try.underlying25 rfl (by rfl) ?_)
  refine (pf _).out.mono ?_
  rintro e w1 ⟨rfl, hB⟩
  have S1 := Lib.hid (S0.out.on hB)
  clear hB S0
  clear pf
  obtain ⟨p0, hp0⟩ : ∃ p, p = w.heap.size := ⟨_, rfl⟩
  rw [← hp0] at S1 ⊢
  clear hp0
  have h2 := S1.out.cell 0 rfl 2 rfl
  have h5 := S1.out.cell 0 rfl 5 rfl
  go_wp2_with (refine wpList_loadg_st (by rfl) 25 _ rfl S1.out 0 _ _ rfl rfl _ Try.underlying25 rfl (by rfl) ?_)
  refine (K1 _ (S1.out.fact 0 rfl)).out.mono ?_
  rintro e w2 ⟨rfl, hB⟩
  have S2 := Lib.hid (S1.out.on hB)
  clear hB S1
  clear h2 h5
  go_wp2_with (refine wpList_loadg_st (by rfl) 25 _ rfl S2.out 0 _ _ rfl rfl _ Try.underlying25 rfl (by rfl) ?_)
  refine (K2 _ (S2.out.fact 0 rfl)).out.mono ?_
  rintro e w3 ⟨rfl, hB⟩
  have S3 := Lib.hid (S2.out.on hB)
  clear hB S2
  go_wp2_with (first
    | (refine wpList_store_st rfl 25 _ _ rfl S3.out _ #[.int .i64 xm, .string xk, .string xl, .int .i64 xn, .string xx, .string xy] _ rfl rfl (by rfl) rfl (sl_one15 _ _ _ _ _ _) ?_; intro b1 w4 hp hS hBn; (try rw [← hp]); have S4 := Lib.hid hS; clear hS hp hBn)
    | (refine wpList_loadg_st (by rfl) 25 _ rfl S4.out 0 _ _ rfl rfl _ Try.underlying25 rfl (by rfl) ?_))
  refine (K3 _ (S4.out.fact 0 rfl)).out.mono ?_
  rintro e w5 ⟨rfl, hB⟩
  have S5 := Lib.hid (S4.out.on hB)
  clear hB S4
  go_wp2_with (first
    | (refine wpList_store_st rfl 25 _ _ rfl S5.out _ #[.int .i64 ym, .string yk, .string yl, .int .i64 yn, .string yx, .string yy] _ rfl rfl (by rfl) rfl (sl_one15 _ _ _ _ _ _) ?_; intro b2 w6 hp hS hBn; (try rw [← hp]); have S6 := Lib.hid hS; clear hS hp hBn)
    | (refine wpList_loadg_st (by rfl) 25 _ rfl S6.out 0 _ _ rfl rfl _ Try.underlying25 rfl (by rfl) ?_))
  refine (K4 _ (S6.out.fact 0 rfl)).out.mono ?_
  rintro e w7 ⟨rfl, hB⟩
  have S7 := Lib.hid (S6.out.on hB)
  clear hB S6
  clear K1 K2 K3 K4
  go_wp2_with fail
  refine (Lib.hid (HC.out _ (S7.out.fact 0 rfl))).out.mono ?_
  rintro e w8 ⟨rfl, hB⟩
  have S8 := Lib.hid (S7.out.on hB)
  clear hB S7
  go_wp2
  go_ret
  exact ⟨rfl, S8.out.below⟩

set_option maxHeartbeats 2000000 in
theorem slotsCrash_ok2 {E : World → Prop} (HS : Hid (SlotsK E)) (HC : Hid (SlottedK E)) (sm sn : Int) (sk sl sx sy : ByteArray) (t : ByteArray) (d n : Int) (w : World) (hE : E w) (j1 : sl.toList.isEmpty = true) (j2 : sy.toList.isEmpty = true) (s1 : ByteArray) (n1 : Int) (jm : (wrap64 (n1 - 1) == n1) = false) (xm xn : Int) (xk xl xx xy : ByteArray) (ym yn : Int) (yk yl yx yy : ByteArray)
    (pf : ∀ (W : World), Hid (Calls Try.prog 8 #[.agg #[.int .i64 sm, .string sk, .string sl, .int .i64 sn, .string sx, .string sy], .string t] W fun e w' => e = .returned (.bool false) ∧ Below W.heap.size W w'))
    (K1 : ∀ (W : World) (_h : E W), Hid (Calls Try.prog 9 #[.agg #[.int .i64 sm, .string sk, .string sl, .int .i64 sn, .string sx, .string sy]] W fun e w' => e = .returned (.tuple #[.string s1, .int .i64 n1, .int .i64 0]) ∧ Below W.heap.size W w'))
    (K2 : ∀ (W : World) (_h : E W), Hid (Calls Try.prog 11 #[.agg #[.int .i64 sm, .string sk, .string sl, .int .i64 sn, .string sx, .string sy], .string t, .int .i64 d] W fun e w' => e = .returned (.tuple #[.agg #[.int .i64 xm, .string xk, .string xl, .int .i64 xn, .string xx, .string xy], .bool false, .int .i64 0]) ∧ Below W.heap.size W w'))
    (K3 : ∀ (W : World) (_h : E W), Hid (Calls Try.prog 13 #[.agg #[.int .i64 xm, .string xk, .string xl, .int .i64 xn, .string xx, .string xy], .int .i64 n] W fun e w' => e = .returned (.tuple #[.agg #[.int .i64 ym, .string yk, .string yl, .int .i64 yn, .string yx, .string yy], .int .i64 0]) ∧ Below W.heap.size W w'))
    (K4 : ∀ (W : World) (_h : E W), Hid (Calls Try.prog 9 #[.agg #[.int .i64 ym, .string yk, .string yl, .int .i64 yn, .string yx, .string yy]] W fun e w' => e = .returned (.tuple #[.string s1, .int .i64 n1, .int .i64 0]) ∧ Below W.heap.size W w')) :
    Calls Try.prog 5 #[.agg #[.int .i64 sm, .string sk, .string sl, .int .i64 sn, .string sx, .string sy], .string t, .int .i64 d, .int .i64 n] w fun e w' => e = .returned (.bool true) ∧ Below w.heap.size w w' := by
  have S0 := Lib.hid (((St.start w).more (eSl HS) hE).new #[.int .i64 sm, .string sk, .string sl, .int .i64 sn, .string sx, .string sy] 25)
  clear hE
  go_enter Try.func5, Try.ntmps5
  go_wp2_with (refine wpList_loadg_st (by rfl) 25 _ rfl S0.out 0 _ _ rfl rfl _ Try.underlying25 rfl (by rfl) ?_)
  refine (pf _).out.mono ?_
  rintro e w1 ⟨rfl, hB⟩
  have S1 := Lib.hid (S0.out.on hB)
  clear hB S0
  clear pf
  obtain ⟨p0, hp0⟩ : ∃ p, p = w.heap.size := ⟨_, rfl⟩
  rw [← hp0] at S1 ⊢
  clear hp0
  have h2 := S1.out.cell 0 rfl 2 rfl
  have h5 := S1.out.cell 0 rfl 5 rfl
  go_wp2_with (refine wpList_loadg_st (by rfl) 25 _ rfl S1.out 0 _ _ rfl rfl _ Try.underlying25 rfl (by rfl) ?_)
  refine (K1 _ (S1.out.fact 0 rfl)).out.mono ?_
  rintro e w2 ⟨rfl, hB⟩
  have S2 := Lib.hid (S1.out.on hB)
  clear hB S1
  clear h2 h5
  go_wp2_with (refine wpList_loadg_st (by rfl) 25 _ rfl S2.out 0 _ _ rfl rfl _ Try.underlying25 rfl (by rfl) ?_)
  refine (K2 _ (S2.out.fact 0 rfl)).out.mono ?_
  rintro e w3 ⟨rfl, hB⟩
  have S3 := Lib.hid (S2.out.on hB)
  clear hB S2
  go_wp2_with (first
    | (refine wpList_store_st rfl 25 _ _ rfl S3.out _ #[.int .i64 xm, .string xk, .string xl, .int .i64 xn, .string xx, .string xy] _ rfl rfl (by rfl) rfl (sl_one15 _ _ _ _ _ _) ?_; intro b1 w4 hp hS hBn; (try rw [← hp]); have S4 := Lib.hid hS; clear hS hp hBn)
    | (refine wpList_loadg_st (by rfl) 25 _ rfl S4.out 0 _ _ rfl rfl _ Try.underlying25 rfl (by rfl) ?_))
  refine (K3 _ (S4.out.fact 0 rfl)).out.mono ?_
  rintro e w5 ⟨rfl, hB⟩
  have S5 := Lib.hid (S4.out.on hB)
  clear hB S4
  go_wp2_with (first
    | (refine wpList_store_st rfl 25 _ _ rfl S5.out _ #[.int .i64 ym, .string yk, .string yl, .int .i64 yn, .string yx, .string yy] _ rfl rfl (by rfl) rfl (sl_one15 _ _ _ _ _ _) ?_; intro b2 w6 hp hS hBn; (try rw [← hp]); have S6 := Lib.hid hS; clear hS hp hBn)
    | (refine wpList_loadg_st (by rfl) 25 _ rfl S6.out 0 _ _ rfl rfl _ Try.underlying25 rfl (by rfl) ?_))
  refine (K4 _ (S6.out.fact 0 rfl)).out.mono ?_
  rintro e w7 ⟨rfl, hB⟩
  have S7 := Lib.hid (S6.out.on hB)
  clear hB S6
  clear K1 K2 K3 K4
  go_wp2_with fail
  refine (Lib.hid (HC.out _ (S7.out.fact 0 rfl))).out.mono ?_
  rintro e w8 ⟨rfl, hB⟩
  have S8 := Lib.hid (S7.out.on hB)
  clear hB S7
  go_wp2
  go_ret
  exact ⟨rfl, S8.out.below⟩

theorem empty_iff15 (x : ByteArray) : x.toList.isEmpty = true ↔ x.size = 0 := by
  rw [ByteArray.toList_eq, List.isEmpty_iff, ← List.length_eq_zero_iff, Array.length_toList]; rfl
theorem slotsCrash_walk {E : World → Prop} (HS : Hid (SlotsK E)) (HC : Hid (SlottedK E)) (s : Slo) (t : ByteArray) (d n : Int) (w : World) (hE : E w) :
    Calls Try.prog 5 #[.agg (Sl.v s), .string t, .int .i64 d, .int .i64 n] w fun e w' => e = .returned (.bool true) ∧ Below w.heap.size w w' := by
  have pf := fun W => Lib.hid (far15_any s t W)
  cases hf : Sl.farB s t
  case true => rw [hf] at pf; exact slotsCrash_far HS s.a.most s.b.most s.a.kept s.a.loose s.b.kept s.b.loose t d n w hE pf
  rw [hf] at pf
  obtain ⟨hsm, ht⟩ := Sl.small_far hf
  cases j1 : s.a.loose.toList.isEmpty
  · exact slotsCrash_l1 HS s.a.most s.b.most s.a.kept s.a.loose s.b.kept s.b.loose t d n w hE j1 pf
  cases j2 : s.b.loose.toList.isEmpty
  · exact slotsCrash_l2 HS s.a.most s.b.most s.a.kept s.a.loose s.b.kept s.b.loose t d n w hE j1 j2 pf
  have K1 := fun W (h : E W) => Lib.hid (HS.out.load s W h hsm)
  have K2 := fun W (h : E W) => Lib.hid (HS.out.save s t d W h hsm ht)
  by_cases hb : Sl.badE s = 0
  case neg => exact slotsCrash_bad1 HS HC s.a.most s.b.most s.a.kept s.a.loose s.b.kept s.b.loose t d n w hE j1 j2 _ _ _ _ (by rw [bne_iff_ne]; exact hb) _ _ _ _ _ _ _ pf K1 K2
  rw [hb] at K1
  by_cases h : Sl.saveE s (bl t) = 0
  case neg => exact slotsCrash_bad2 HS HC s.a.most s.b.most s.a.kept s.a.loose s.b.kept s.b.loose t d n w hE j1 j2 _ _ _ (by rw [bne_iff_ne]; exact h) _ _ _ _ _ _ _ pf K1 K2
  rw [h] at K2
  obtain ⟨hi, h2, h3, h4⟩ := Sl.saveE_zero.1 h
  have hn : Sl.loadN s = (Sl.best s).2.1 := by unfold Sl.loadN; rw [if_pos hi]
  have hn2 := Sl.best_num s
  have hc : Sl.calm s := ⟨hi, (empty_iff15 _).1 j1, (empty_iff15 _).1 j2⟩
  have hX := Sl.save_good (d := d) h
  have hxb : Sl.badE (Sl.save s (bl t) d) = 0 := by unfold Sl.badE; rw [if_pos hX]
  obtain ⟨c1, c2⟩ := Sl.crash_load d n hc h
  have hyb : Sl.badE (Sl.crash (Sl.save s (bl t) d) n) = 0 := by unfold Sl.badE; rw [if_pos c1.1]
  have K3 := fun W (h : E W) => Lib.hid (HS.out.crash (Sl.save s (bl t) d) n W h (Sl.is_small hX))
  have K4 := fun W (h : E W) => Lib.hid (HS.out.load (Sl.crash (Sl.save s (bl t) d) n) W h (Sl.is_small c1.1))
  rw [hxb] at K3
  rw [hyb] at K4
  rcases c2 with ⟨g1, g2⟩ | ⟨g0, g1, g2⟩
  · rw [g1, g2, strOf_bl] at K4
    exact slotsCrash_ok1 HS HC s.a.most s.b.most s.a.kept s.a.loose s.b.kept s.b.loose t d n w hE j1 j2 _ _ _ _ (by rw [hn]; unfold wrap64; omega) _ _ _ _ _ _ _ _ _ _ _ _ pf K1 K2 K3 K4
  · rw [g1, g2] at K4
    rw [g0] at K2
    exact slotsCrash_ok2 HS HC s.a.most s.b.most s.a.kept s.a.loose s.b.kept s.b.loose t d n w hE j1 j2 _ _ (by rw [beq_eq_false_iff_ne, hn]; unfold wrap64; omega) _ _ _ _ _ _ _ _ _ _ _ _ pf K1 K2 K3 K4
end Go.Proofs.Yteepemibmjpnfaa
