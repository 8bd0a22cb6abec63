/-
  Layer 15 (slots): the law SlotsDo, over the structure (printed by tools/gen-slotsdo.py).
-/
import Derived.Test.YteepemibmjpnfaaXSlotsBack
namespace Go.Proofs.Yteepemibmjpnfaa
set_option maxRecDepth 10000
open Go.RowKit

set_option maxHeartbeats 4000000 in
theorem slotsDo_far {E : World → Prop} (HS : Hid (SlotsK E)) (sm sn : Int) (sk sl sx sy : ByteArray) (t : ByteArray) (d n : Int) (a b : ByteArray) (w : World) (hE : E w) 
    (pf : ∀ (W : World), Hid (Calls Try.prog 8 #[.agg #[.int .i64 sm, .string sk, .string sl, .int .i64 sn, .string sx, .string sy], .string t] W fun e w' => e = .returned (.bool true) ∧ Below W.heap.size W w')) :
    Calls Try.prog 3 #[.agg #[.int .i64 sm, .string sk, .string sl, .int .i64 sn, .string sx, .string sy], .string t, .int .i64 d, .int .i64 n, .string a, .string b] w fun e w' => e = .returned (.bool true) ∧ Below w.heap.size w w' := by
  have S0 := Lib.hid (((St.start w).more (eSl HS) hE).new #[.int .i64 sm, .string sk, .string sl, .int .i64 sn, .string sx, .string sy] 25)
  clear hE
  go_enter Try.func3, Try.ntmps3
  go_wp2_with (refine wpList_loadg_st (by rfl) 25 _ rfl S0.out 0 _ _ rfl rfl _ Try.underlying25 rfl (by rfl) ?_)
  refine (pf _).out.mono ?_
  rintro e w1 ⟨rfl, hB⟩
  have S1 := Lib.hid (S0.out.on hB)
  clear hB S0
  go_wp2
  go_ret
  exact ⟨rfl, S1.out.below⟩

set_option maxHeartbeats 4000000 in
theorem slotsDo_a {E : World → Prop} (HS : Hid (SlotsK E)) (sm sn : Int) (sk sl sx sy : ByteArray) (t : ByteArray) (d n : Int) (a b : ByteArray) (w : World) (hE : E w) (j1 : ((600 : Int) < (a.size : Int)) = True)
    (pf : ∀ (W : World), Hid (Calls Try.prog 8 #[.agg #[.int .i64 sm, .string sk, .string sl, .int .i64 sn, .string sx, .string sy], .string t] W fun e w' => e = .returned (.bool false) ∧ Below W.heap.size W w')) :
    Calls Try.prog 3 #[.agg #[.int .i64 sm, .string sk, .string sl, .int .i64 sn, .string sx, .string sy], .string t, .int .i64 d, .int .i64 n, .string a, .string b] w fun e w' => e = .returned (.bool true) ∧ Below w.heap.size w w' := by
  have S0 := Lib.hid (((St.start w).more (eSl HS) hE).new #[.int .i64 sm, .string sk, .string sl, .int .i64 sn, .string sx, .string sy] 25)
  clear hE
  go_enter Try.func3, Try.ntmps3
  go_wp2_with (refine wpList_loadg_st (by rfl) 25 _ rfl S0.out 0 _ _ rfl rfl _ Try.underlying25 rfl (by rfl) ?_)
  refine (pf _).out.mono ?_
  rintro e w1 ⟨rfl, hB⟩
  have S1 := Lib.hid (S0.out.on hB)
  clear hB S0
  clear pf
  obtain ⟨p0, hp0⟩ : ∃ p, p = w.heap.size := ⟨_, rfl⟩
  rw [← hp0] at S1 ⊢
  clear hp0
  go_wp2
  go_ret
  exact ⟨rfl, S1.out.below⟩

set_option maxHeartbeats 4000000 in
theorem slotsDo_b {E : World → Prop} (HS : Hid (SlotsK E)) (sm sn : Int) (sk sl sx sy : ByteArray) (t : ByteArray) (d n : Int) (a b : ByteArray) (w : World) (hE : E w) (j1 : ((600 : Int) < (a.size : Int)) = False) (j2 : ((600 : Int) < (b.size : Int)) = True)
    (pf : ∀ (W : World), Hid (Calls Try.prog 8 #[.agg #[.int .i64 sm, .string sk, .string sl, .int .i64 sn, .string sx, .string sy], .string t] W fun e w' => e = .returned (.bool false) ∧ Below W.heap.size W w')) :
    Calls Try.prog 3 #[.agg #[.int .i64 sm, .string sk, .string sl, .int .i64 sn, .string sx, .string sy], .string t, .int .i64 d, .int .i64 n, .string a, .string b] w fun e w' => e = .returned (.bool true) ∧ Below w.heap.size w w' := by
  have S0 := Lib.hid (((St.start w).more (eSl HS) hE).new #[.int .i64 sm, .string sk, .string sl, .int .i64 sn, .string sx, .string sy] 25)
  clear hE
  go_enter Try.func3, Try.ntmps3
  go_wp2_with (refine wpList_loadg_st (by rfl) 25 _ rfl S0.out 0 _ _ rfl rfl _ Try.underlying25 rfl (by rfl) ?_)
  refine (pf _).out.mono ?_
  rintro e w1 ⟨rfl, hB⟩
  have S1 := Lib.hid (S0.out.on hB)
  clear hB S0
  clear pf
  obtain ⟨p0, hp0⟩ : ∃ p, p = w.heap.size := ⟨_, rfl⟩
  rw [← hp0] at S1 ⊢
  clear hp0
  go_wp2
  go_ret
  exact ⟨rfl, S1.out.below⟩

set_option maxHeartbeats 4000000 in
theorem slotsDo_go {E : World → Prop} (HS : Hid (SlotsK E)) (HC : Hid (SlottedK E)) (sm sn : Int) (sk sl sx sy : ByteArray) (t : ByteArray) (d n : Int) (a b : ByteArray) (w : World) (hE : E w) (j1 : ((600 : Int) < (a.size : Int)) = False) (j2 : ((600 : Int) < (b.size : Int)) = False) (c1 c4 : ByteArray) (d1 e1 e2 e3 d4 e4 e5 : Int) (dn : Bool) (xm xn : Int) (xk xl xx xy : ByteArray) (ym yn : Int) (yk yl yx yy : ByteArray) (zm zn : Int) (zk zl zx zy : ByteArray)
    (pf : ∀ (W : World), Hid (Calls Try.prog 8 #[.agg #[.int .i64 sm, .string sk, .string sl, .int .i64 sn, .string sx, .string sy], .string t] W fun e w' => e = .returned (.bool false) ∧ Below W.heap.size W w'))
    (K1 : ∀ (W : World) (_h : E W), Hid (Calls Try.prog 9 #[.agg #[.int .i64 sm, .string sk, .string sl, .int .i64 sn, .string sx, .string sy]] W fun e w' => e = .returned (.tuple #[.string c1, .int .i64 d1, .int .i64 e1]) ∧ Below W.heap.size W w'))
    (R1 : ∀ (W : World), Hid (Calls Try.prog 10 #[.agg #[.int .i64 sm, .string sk, .string sl, .int .i64 sn, .string sx, .string sy]] W fun e w' => e = .returned (.tuple #[.string c1, .int .i64 d1, .int .i64 e1]) ∧ Below W.heap.size W w'))
    (K2 : ∀ (W : World) (_h : E W), Hid (Calls Try.prog 11 #[.agg #[.int .i64 sm, .string sk, .string sl, .int .i64 sn, .string sx, .string sy], .string t, .int .i64 d] W fun e w' => e = .returned (.tuple #[.agg #[.int .i64 xm, .string xk, .string xl, .int .i64 xn, .string xx, .string xy], .bool dn, .int .i64 e2]) ∧ Below W.heap.size W w'))
    (R2 : ∀ (W : World), Hid (Calls Try.prog 12 #[.agg #[.int .i64 sm, .string sk, .string sl, .int .i64 sn, .string sx, .string sy], .string t, .int .i64 d] W fun e w' => e = .returned (.tuple #[.agg #[.int .i64 xm, .string xk, .string xl, .int .i64 xn, .string xx, .string xy], .bool dn, .int .i64 e2]) ∧ Below W.heap.size W w'))
    (K3 : ∀ (W : World) (_h : E W), Hid (Calls Try.prog 13 #[.agg #[.int .i64 sm, .string sk, .string sl, .int .i64 sn, .string sx, .string sy], .int .i64 n] W fun e w' => e = .returned (.tuple #[.agg #[.int .i64 ym, .string yk, .string yl, .int .i64 yn, .string yx, .string yy], .int .i64 e3]) ∧ Below W.heap.size W w'))
    (R3 : ∀ (W : World), Hid (Calls Try.prog 14 #[.agg #[.int .i64 sm, .string sk, .string sl, .int .i64 sn, .string sx, .string sy], .int .i64 n] W fun e w' => e = .returned (.tuple #[.agg #[.int .i64 ym, .string yk, .string yl, .int .i64 yn, .string yx, .string yy], .int .i64 e3]) ∧ Below W.heap.size W w'))
    (K4 : ∀ (W : World) (_h : E W), Hid (Calls Try.prog 15 #[.string a, .string b] W fun e w' => e = .returned (.tuple #[.string c4, .int .i64 d4, .int .i64 e4]) ∧ Below W.heap.size W w'))
    (R4 : ∀ (W : World), Hid (Calls Try.prog 16 #[.string a, .string b] W fun e w' => e = .returned (.tuple #[.string c4, .int .i64 d4, .int .i64 e4]) ∧ Below W.heap.size W w'))
    (K5 : ∀ (W : World) (_h : E W), Hid (Calls Try.prog 17 #[.int .i64 n] W fun e w' => e = .returned (.tuple #[.agg #[.int .i64 zm, .string zk, .string zl, .int .i64 zn, .string zx, .string zy], .int .i64 e5]) ∧ Below W.heap.size W w'))
    (R5 : ∀ (W : World), Hid (Calls Try.prog 18 #[.int .i64 n] W fun e w' => e = .returned (.tuple #[.agg #[.int .i64 zm, .string zk, .string zl, .int .i64 zn, .string zx, .string zy], .int .i64 e5]) ∧ Below W.heap.size W w')) :
    Calls Try.prog 3 #[.agg #[.int .i64 sm, .string sk, .string sl, .int .i64 sn, .string sx, .string sy], .string t, .int .i64 d, .int .i64 n, .string a, .string b] w fun e w' => e = .returned (.bool true) ∧ Below w.heap.size w w' := by
  have S0 := Lib.hid (((St.start w).more (eSl HS) hE).new #[.int .i64 sm, .string sk, .string sl, .int .i64 sn, .string sx, .string sy] 25)
  clear hE
  go_enter Try.func3, Try.ntmps3
  go_wp2_with (refine wpList_loadg_st (by rfl) 25 _ rfl S0.out 0 _ _ rfl rfl _ Try.underlying25 rfl (by rfl) ?_)
  refine (pf _).out.mono ?_
  rintro e w1 ⟨rfl, hB⟩
  have S1 := Lib.hid (S0.out.on hB)
  clear hB S0
  clear pf
  obtain ⟨p0, hp0⟩ : ∃ p, p = w.heap.size := ⟨_, rfl⟩
  rw [← hp0] at S1 ⊢
  clear hp0
  go_wp2_with (refine wpList_loadg_st (by rfl) 25 _ rfl S1.out 0 _ _ rfl rfl _ Try.underlying25 rfl (by rfl) ?_)
  refine (K1 _ (S1.out.fact 0 rfl)).out.mono ?_
  rintro e w2 ⟨rfl, hB⟩
  have S2 := Lib.hid (S1.out.on hB)
  clear hB S1
  go_wp2_with (refine wpList_loadg_st (by rfl) 25 _ rfl S2.out 0 _ _ rfl rfl _ Try.underlying25 rfl (by rfl) ?_)
  refine (R1 _).out.mono ?_
  rintro e w3 ⟨rfl, hB⟩
  have S3 := Lib.hid (S2.out.on hB)
  clear hB S2
  clear K1 R1
  go_wp2_with (refine wpList_loadg_st (by rfl) 25 _ rfl S3.out 0 _ _ rfl rfl _ Try.underlying25 rfl (by rfl) ?_)
  refine (K2 _ (S3.out.fact 0 rfl)).out.mono ?_
  rintro e w4 ⟨rfl, hB⟩
  have S4 := Lib.hid (S3.out.on hB)
  clear hB S3
  go_wp2_with (first
    | (refine wpList_store_st rfl 25 _ _ rfl S4.out _ #[.int .i64 xm, .string xk, .string xl, .int .i64 xn, .string xx, .string xy] _ rfl rfl (by rfl) rfl (sl_one15 _ _ _ _ _ _) ?_; intro k2 w5 hp hS hBn; (try rw [← hp]); have S5 := Lib.hid hS; clear hS hp hBn)
    | (refine wpList_loadg_st (by rfl) 25 _ rfl S5.out 1 _ _ rfl rfl _ Try.underlying25 rfl (by rfl) ?_))
  refine (R2 _).out.mono ?_
  rintro e w6 ⟨rfl, hB⟩
  have S6 := Lib.hid (S5.out.on hB)
  clear hB S5
  clear K2 R2
  go_wp2_with (first
    | (refine wpList_store_st rfl 25 _ _ rfl S6.out _ #[.int .i64 xm, .string xk, .string xl, .int .i64 xn, .string xx, .string xy] _ rfl rfl (by rfl) rfl (sl_one15 _ _ _ _ _ _) ?_; intro r2 w7 hp hS hBn; (try rw [← hp]); have S7 := Lib.hid hS; clear hS hp hBn)
    | (refine wpList_loadg_st (by rfl) 25 _ rfl S7.out 2 _ _ rfl rfl _ Try.underlying25 rfl (by rfl) ?_))
  refine (K3 _ (S7.out.fact 0 rfl)).out.mono ?_
  rintro e w8 ⟨rfl, hB⟩
  have S8 := Lib.hid (S7.out.on hB)
  clear hB S7
  go_wp2_with (first
    | (refine wpList_store_st rfl 25 _ _ rfl S8.out _ #[.int .i64 ym, .string yk, .string yl, .int .i64 yn, .string yx, .string yy] _ rfl rfl (by rfl) rfl (sl_one15 _ _ _ _ _ _) ?_; intro k3 w9 hp hS hBn; (try rw [← hp]); have S9 := Lib.hid hS; clear hS hp hBn)
    | (refine wpList_loadg_st (by rfl) 25 _ rfl S9.out 3 _ _ rfl rfl _ Try.underlying25 rfl (by rfl) ?_))
  refine (R3 _).out.mono ?_
  rintro e w10 ⟨rfl, hB⟩
  have S10 := Lib.hid (S9.out.on hB)
  clear hB S9
  clear K3 R3
  go_wp2_with (refine wpList_store_st rfl 25 _ _ rfl S10.out _ #[.int .i64 ym, .string yk, .string yl, .int .i64 yn, .string yx, .string yy] _ rfl rfl (by rfl) rfl (sl_one15 _ _ _ _ _ _) ?_; intro r3 w11 hp hS hBn; (try rw [← hp]); have S11 := Lib.hid hS; clear hS hp hBn)
  refine (K4 _ (S11.out.fact 0 rfl)).out.mono ?_
  rintro e w12 ⟨rfl, hB⟩
  have S12 := Lib.hid (S11.out.on hB)
  clear hB S11
  go_wp2_with fail
  refine (R4 _).out.mono ?_
  rintro e w13 ⟨rfl, hB⟩
  have S13 := Lib.hid (S12.out.on hB)
  clear hB S12
  clear K4 R4
  go_wp2_with fail
  refine (K5 _ (S13.out.fact 0 rfl)).out.mono ?_
  rintro e w14 ⟨rfl, hB⟩
  have S14 := Lib.hid (S13.out.on hB)
  clear hB S13
  go_wp2_with (refine wpList_store_st rfl 25 _ _ rfl S14.out _ #[.int .i64 zm, .string zk, .string zl, .int .i64 zn, .string zx, .string zy] _ rfl rfl (by rfl) rfl (sl_one15 _ _ _ _ _ _) ?_; intro k5 w15 hp hS hBn; (try rw [← hp]); have S15 := Lib.hid hS; clear hS hp hBn)
  refine (R5 _).out.mono ?_
  rintro e w16 ⟨rfl, hB⟩
  have S16 := Lib.hid (S15.out.on hB)
  clear hB S15
  clear K5 R5
  go_wp2_with (refine wpList_store_st rfl 25 _ _ rfl S16.out _ #[.int .i64 zm, .string zk, .string zl, .int .i64 zn, .string zx, .string zy] _ rfl rfl (by rfl) rfl (sl_one15 _ _ _ _ _ _) ?_; intro r5 w17 hp hS hBn; (try rw [← hp]); have S17 := Lib.hid hS; clear hS hp hBn)
  refine (Lib.hid (HC.out _ (S17.out.fact 0 rfl))).out.mono ?_
  rintro e w18 ⟨rfl, hB⟩
  have S18 := Lib.hid (S17.out.on hB)
  clear hB S17
  have q2 := fun W => run_eql_slots W xm xn xk xl xx xy
  have q3 := fun W => run_eql_slots W ym yn yk yl yx yy
  have q5 := fun W => run_eql_slots W zm zn zk zl zx zy
  have hk20 := S18.out.cell 5 rfl 0 rfl
  have hk21 := S18.out.cell 5 rfl 1 rfl
  have hk22 := S18.out.cell 5 rfl 2 rfl
  have hk23 := S18.out.cell 5 rfl 3 rfl
  have hk24 := S18.out.cell 5 rfl 4 rfl
  have hk25 := S18.out.cell 5 rfl 5 rfl
  have hr20 := S18.out.cell 4 rfl 0 rfl
  have hr21 := S18.out.cell 4 rfl 1 rfl
  have hr22 := S18.out.cell 4 rfl 2 rfl
  have hr23 := S18.out.cell 4 rfl 3 rfl
  have hr24 := S18.out.cell 4 rfl 4 rfl
  have hr25 := S18.out.cell 4 rfl 5 rfl
  have hk30 := S18.out.cell 3 rfl 0 rfl
  have hk31 := S18.out.cell 3 rfl 1 rfl
  have hk32 := S18.out.cell 3 rfl 2 rfl
  have hk33 := S18.out.cell 3 rfl 3 rfl
  have hk34 := S18.out.cell 3 rfl 4 rfl
  have hk35 := S18.out.cell 3 rfl 5 rfl
  have hr30 := S18.out.cell 2 rfl 0 rfl
  have hr31 := S18.out.cell 2 rfl 1 rfl
  have hr32 := S18.out.cell 2 rfl 2 rfl
  have hr33 := S18.out.cell 2 rfl 3 rfl
  have hr34 := S18.out.cell 2 rfl 4 rfl
  have hr35 := S18.out.cell 2 rfl 5 rfl
  have hk50 := S18.out.cell 1 rfl 0 rfl
  have hk51 := S18.out.cell 1 rfl 1 rfl
  have hk52 := S18.out.cell 1 rfl 2 rfl
  have hk53 := S18.out.cell 1 rfl 3 rfl
  have hk54 := S18.out.cell 1 rfl 4 rfl
  have hk55 := S18.out.cell 1 rfl 5 rfl
  have hr50 := S18.out.cell 0 rfl 0 rfl
  have hr51 := S18.out.cell 0 rfl 1 rfl
  have hr52 := S18.out.cell 0 rfl 2 rfl
  have hr53 := S18.out.cell 0 rfl 3 rfl
  have hr54 := S18.out.cell 0 rfl 4 rfl
  have hr55 := S18.out.cell 0 rfl 5 rfl
  go_wp2
  go_ret
  exact ⟨rfl, S18.out.below⟩
end Go.Proofs.Yteepemibmjpnfaa
