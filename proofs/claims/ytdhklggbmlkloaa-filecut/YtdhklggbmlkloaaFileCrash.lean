/-
  Layer 12 (file): the law FileCrash, over the structure (printed by tools/gen-filecrash.py).
-/
import Derived.Test.YtdhklggbmlkloaaFileTwice
namespace Go.Proofs.Ytdhklggbmlkloaa
set_option maxRecDepth 10000
open Go.RowKit

theorem fileCrash_big {E : World → Prop} (HS : Hid (FileK E)) (HC : Hid (FiledK E)) (m : Int) (k l : ByteArray) (n : Int) (w : World) (hE : E w) (hb : decide (2000 < k.size ∨ 2000 < l.size) = true) : Calls Try.prog 5 #[.agg #[.int .i64 m, .string k, .string l], .int .i64 n] w fun e w' => e = .returned (.bool true) ∧ Below w.heap.size w w' := by
  have p1 := fun W => Lib.hid (FRBig_any m k l W)
  rw [hb] at p1
  have S0 := Lib.hid (((St.start w).more (eFi HS) hE).new #[.int .i64 m, .string k, .string l] 23)
  clear hb hE
  go_enter Try.func5, Try.ntmps5
  go_wp2_with (refine wpList_load_st rfl 23 _ rfl S0.out 0 _ _ rfl rfl _ Try.underlying23 rfl (by rfl) ?_)
  refine (p1 _).out.mono ?_
  rintro e w1 ⟨rfl, hB⟩
  have S1 := Lib.hid (S0.out.on hB)
  clear hB S0
  go_wp2_with fail
  refine (Lib.hid (HC.out w1 (S1.out.fact 0 rfl))).out.mono ?_
  rintro e w2 ⟨rfl, hB⟩
  have S2 := Lib.hid (S1.out.on hB)
  clear hB S1
  go_wp2
  go_ret
  exact ⟨rfl, S2.out.below⟩
theorem fileCrash_not {E : World → Prop} (HS : Hid (FileK E)) (HC : Hid (FiledK E)) (m : Int) (k l : ByteArray) (n : Int) (w : World) (hE : E w) (hb : decide (2000 < k.size ∨ 2000 < l.size) = false)
    (KI : ∀ (W : World) (_h : E W), Hid (Calls Try.prog 22 #[.agg #[.int .i64 m, .string k, .string l]] W fun e w' => e = .returned (.bool false) ∧ Below W.heap.size W w')) : Calls Try.prog 5 #[.agg #[.int .i64 m, .string k, .string l], .int .i64 n] w fun e w' => e = .returned (.bool true) ∧ Below w.heap.size w w' := by
  have p1 := fun W => Lib.hid (FRBig_any m k l W)
  rw [hb] at p1
  have S0 := Lib.hid (((St.start w).more (eFi HS) hE).new #[.int .i64 m, .string k, .string l] 23)
  clear hb hE
  go_enter Try.func5, Try.ntmps5
  go_wp2_with (refine wpList_load_st rfl 23 _ rfl S0.out 0 _ _ rfl rfl _ Try.underlying23 rfl (by rfl) ?_)
  refine (p1 _).out.mono ?_
  rintro e w1 ⟨rfl, hB⟩
  have S1 := Lib.hid (S0.out.on hB)
  clear hB S0
  obtain ⟨p0, hp0⟩ : ∃ p, p = w.heap.size := ⟨_, rfl⟩
  rw [← hp0] at S1 ⊢
  clear hp0
  go_wp2_with (refine wpList_loadg_st (by rfl) 23 _ rfl S1.out 0 _ _ rfl rfl _ Try.underlying23 rfl (by rfl) ?_)
  refine (KI w1 (S1.out.fact 0 rfl)).out.mono ?_
  rintro e w2 ⟨rfl, hB⟩
  have S2 := Lib.hid (S1.out.on hB)
  clear hB S1
  go_wp2_with fail
  refine (Lib.hid (HC.out w2 (S2.out.fact 0 rfl))).out.mono ?_
  rintro e w3 ⟨rfl, hB⟩
  have S3 := Lib.hid (S2.out.on hB)
  clear hB S2
  go_wp2
  go_ret
  exact ⟨rfl, S3.out.below⟩

set_option maxHeartbeats 4000000 in
theorem fileCrash_neg {E : World → Prop} (HS : Hid (FileK E)) (HC : Hid (FiledK E)) (m : Int) (k l : ByteArray) (n : Int) (w : World) (hE : E w) (hb : decide (2000 < k.size ∨ 2000 < l.size) = false) (r v : ByteArray) (j1 : (n < 0) = True) (j2 : ((l.size : Int) < 0) = False) (hv : r.extract 0 v.size = v) (hvr : v.size ≤ r.size) (hkv : k.size ≤ v.size) (hvz : (v.size : Int) = (k.size : Int) + 0) (hr : r.size ≤ 9000)
    (KI : ∀ (W : World) (_h : E W), Hid (Calls Try.prog 22 #[.agg #[.int .i64 m, .string k, .string l]] W fun e w' => e = .returned (.bool true) ∧ Below W.heap.size W w'))
    (K1 : ∀ (W : World) (_h : E W), Hid (Calls Try.prog 13 #[.agg #[.int .i64 m, .string k, .string l]] W fun e w' => e = .returned (.tuple #[.agg #[.int .i64 m, .string r, .string ⟨#[]⟩], .int .i64 0]) ∧ Below W.heap.size W w'))
    (K2 : ∀ (W : World) (_h : E W), Hid (Calls Try.prog 15 #[.agg #[.int .i64 m, .string r, .string ⟨#[]⟩], .int .i64 n] W fun e w' => e = .returned (.tuple #[.agg #[.int .i64 m, .string r, .string ⟨#[]⟩], .int .i64 0]) ∧ Below W.heap.size W w'))
    (K3 : ∀ (W : World) (_h : E W), Hid (Calls Try.prog 15 #[.agg #[.int .i64 m, .string k, .string l], .int .i64 n] W fun e w' => e = .returned (.tuple #[.agg #[.int .i64 m, .string v, .string ⟨#[]⟩], .int .i64 0]) ∧ Below W.heap.size W w'))
    (K4 : ∀ (W : World) (_h : E W), Hid (Calls Try.prog 24 #[.agg #[.int .i64 m, .string v, .string ⟨#[]⟩]] W fun e w' => e = .returned (.string v) ∧ Below W.heap.size W w'))
    (K5 : ∀ (W : World) (_h : E W), Hid (Calls Try.prog 24 #[.agg #[.int .i64 m, .string k, .string l]] W fun e w' => e = .returned (.string r) ∧ Below W.heap.size W w'))
    (K6 : ∀ (W : World) (_h : E W), Hid (Calls Try.prog 24 #[.agg #[.int .i64 m, .string r, .string ⟨#[]⟩]] W fun e w' => e = .returned (.string r) ∧ Below W.heap.size W w'))
    (K7 : ∀ (W : World) (_h : E W), Hid (Calls Try.prog 22 #[.agg #[.int .i64 m, .string v, .string ⟨#[]⟩]] W fun e w' => e = .returned (.bool true) ∧ Below W.heap.size W w')) :
    Calls Try.prog 5 #[.agg #[.int .i64 m, .string k, .string l], .int .i64 n] w fun e w' => e = .returned (.bool true) ∧ Below w.heap.size w w' := by
  have p1 := fun W => Lib.hid (FRBig_any m k l W)
  rw [hb] at p1
  have S0 := Lib.hid (((St.start w).more (eFi HS) hE).new #[.int .i64 m, .string k, .string l] 23)
  have Iw : Hid (wrap64 ((k.size : Int)) = (v.size : Int)) := Lib.hid (by unfold wrap64; omega)
  have Hv := Lib.hid hv
  have Hvr := Lib.hid hvr
  have Hkv := Lib.hid hkv
  clear hb hE hv hvr hkv hvz hr
  go_enter Try.func5, Try.ntmps5
  go_wp2_with (refine wpList_load_st rfl 23 _ rfl S0.out 0 _ _ rfl rfl _ Try.underlying23 rfl (by rfl) ?_)
  refine (p1 _).out.mono ?_
  rintro e w1 ⟨rfl, hB⟩
  have S1 := Lib.hid (S0.out.on hB)
  clear hB S0
  clear p1
  obtain ⟨p0, hp0⟩ : ∃ p, p = w.heap.size := ⟨_, rfl⟩
  rw [← hp0] at S1 ⊢
  clear hp0
  go_wp2_with (refine wpList_loadg_st (by rfl) 23 _ rfl S1.out 0 _ _ rfl rfl _ Try.underlying23 rfl (by rfl) ?_)
  refine (KI w1 (S1.out.fact 0 rfl)).out.mono ?_
  rintro e w2 ⟨rfl, hB⟩
  have S2 := Lib.hid (S1.out.on hB)
  clear hB S1
  go_wp2_with (refine wpList_load_st rfl 23 _ rfl S2.out 0 _ _ rfl rfl _ Try.underlying23 rfl (by rfl) ?_)
  refine (K1 w2 (S2.out.fact 0 rfl)).out.mono ?_
  rintro e w3 ⟨rfl, hB⟩
  have S3 := Lib.hid (S2.out.on hB)
  clear hB S2
  go_wp2_with (first
    | (refine wpList_store_st rfl 23 _ _ rfl S3.out _ #[.int .i64 m, .string r, .string ⟨#[]⟩] _ rfl rfl (by rfl) rfl (fil_one3 _ _ _) ?_; intro pa w4 hp hS hBn; (try rw [← hp]); have S4 := Lib.hid hS; clear hS hp hBn)
    | (refine wpList_load_st rfl 23 _ rfl S4.out 0 _ _ rfl rfl _ Try.underlying23 rfl (by rfl) ?_))
  refine (K2 w4 (S4.out.fact 0 rfl)).out.mono ?_
  rintro e w5 ⟨rfl, hB⟩
  have S5 := Lib.hid (S4.out.on hB)
  clear hB S4
  go_wp2_with (first
    | (refine wpList_store_st rfl 23 _ _ rfl S5.out _ #[.int .i64 m, .string r, .string ⟨#[]⟩] _ rfl rfl (by rfl) rfl (fil_one3 _ _ _) ?_; intro pb w6 hp hS hBn; (try rw [← hp]); have S6 := Lib.hid hS; clear hS hp hBn)
    | (refine wpList_load_st rfl 23 _ rfl S6.out 2 _ _ rfl rfl _ Try.underlying23 rfl (by rfl) ?_))
  refine (K3 w6 (S6.out.fact 0 rfl)).out.mono ?_
  rintro e w7 ⟨rfl, hB⟩
  have S7 := Lib.hid (S6.out.on hB)
  clear hB S6
  go_wp2_with (first
    | (refine wpList_store_st rfl 23 _ _ rfl S7.out _ #[.int .i64 m, .string v, .string ⟨#[]⟩] _ rfl rfl (by rfl) rfl (fil_one3 _ _ _) ?_; intro pc w8 hp hS hBn; (try rw [← hp]); have S8 := Lib.hid hS; clear hS hp hBn)
    | (refine wpList_load_st rfl 23 _ rfl S8.out 0 _ _ rfl rfl _ Try.underlying23 rfl (by rfl) ?_))
  refine (K4 w8 (S8.out.fact 0 rfl)).out.mono ?_
  rintro e w9 ⟨rfl, hB⟩
  have S9 := Lib.hid (S8.out.on hB)
  clear hB S8
  go_wp2_with (refine wpList_load_st rfl 23 _ rfl S9.out 3 _ _ rfl rfl _ Try.underlying23 rfl (by rfl) ?_)
  refine (K5 w9 (S9.out.fact 0 rfl)).out.mono ?_
  rintro e w10 ⟨rfl, hB⟩
  have S10 := Lib.hid (S9.out.on hB)
  clear hB S9
  clear K1 K2 K3 K4 K5 KI
  go_wp2_with (first
    | (refine wpList_loadg_st (by rfl) 23 _ rfl S10.out 2 _ _ rfl rfl _ Try.underlying23 rfl (by rfl) ?_)
    | (refine wpList_loadg_st (by rfl) 23 _ rfl S10.out 1 _ _ rfl rfl _ Try.underlying23 rfl (by rfl) ?_))
  refine (K6 w10 (S10.out.fact 0 rfl)).out.mono ?_
  rintro e w11 ⟨rfl, hB⟩
  have S11 := Lib.hid (S10.out.on hB)
  clear hB S10
  have i2 : ((v.size : Int) < (k.size : Int)) = False := eq_false (by have := Hkv.out; omega)
  have i3 : ((r.size : Int) < (v.size : Int)) = False := eq_false (by have := Hvr.out; omega)
  have i4 : v.size ≤ r.size := Hvr.out
  have i5 : (v.size : Int) ≤ (r.size : Int) := by omega
  have hv := Hv.out
  have d1 := S11.out.cell 3 rfl 1 rfl
  have d2 := S11.out.cell 3 rfl 2 rfl
  have c2 := S11.out.cell 0 rfl 2 rfl
  go_wp2_with fail
  refine (Lib.hid (HC.out w11 (S11.out.fact 0 rfl))).out.mono ?_
  rintro e w12 ⟨rfl, hB⟩
  have S12 := Lib.hid (S11.out.on hB)
  clear hB S11
  clear hv d1 d2 c2 i2 i3 i4 i5 K6
  have d1 := S12.out.cell 3 rfl 1 rfl
  have iw := Iw.out
  go_wp2_with (refine wpList_loadg_st (by rfl) 23 _ rfl S12.out 0 _ _ rfl rfl _ Try.underlying23 rfl (by rfl) ?_)
  refine (K7 w12 (S12.out.fact 0 rfl)).out.mono ?_
  rintro e w13 ⟨rfl, hB⟩
  have S13 := Lib.hid (S12.out.on hB)
  clear hB S12
  go_wp2
  go_ret
  exact ⟨rfl, S13.out.below⟩

set_option maxHeartbeats 4000000 in
theorem fileCrash_far {E : World → Prop} (HS : Hid (FileK E)) (HC : Hid (FiledK E)) (m : Int) (k l : ByteArray) (n : Int) (w : World) (hE : E w) (hb : decide (2000 < k.size ∨ 2000 < l.size) = false) (r v : ByteArray) (j1 : (n < 0) = False) (j2 : ((l.size : Int) < n) = True) (hv : r.extract 0 v.size = v) (hvr : v.size ≤ r.size) (hkv : k.size ≤ v.size) (hvz : (v.size : Int) = (k.size : Int) + (l.size : Int)) (hr : r.size ≤ 9000)
    (KI : ∀ (W : World) (_h : E W), Hid (Calls Try.prog 22 #[.agg #[.int .i64 m, .string k, .string l]] W fun e w' => e = .returned (.bool true) ∧ Below W.heap.size W w'))
    (K1 : ∀ (W : World) (_h : E W), Hid (Calls Try.prog 13 #[.agg #[.int .i64 m, .string k, .string l]] W fun e w' => e = .returned (.tuple #[.agg #[.int .i64 m, .string r, .string ⟨#[]⟩], .int .i64 0]) ∧ Below W.heap.size W w'))
    (K2 : ∀ (W : World) (_h : E W), Hid (Calls Try.prog 15 #[.agg #[.int .i64 m, .string r, .string ⟨#[]⟩], .int .i64 n] W fun e w' => e = .returned (.tuple #[.agg #[.int .i64 m, .string r, .string ⟨#[]⟩], .int .i64 0]) ∧ Below W.heap.size W w'))
    (K3 : ∀ (W : World) (_h : E W), Hid (Calls Try.prog 15 #[.agg #[.int .i64 m, .string k, .string l], .int .i64 n] W fun e w' => e = .returned (.tuple #[.agg #[.int .i64 m, .string v, .string ⟨#[]⟩], .int .i64 0]) ∧ Below W.heap.size W w'))
    (K4 : ∀ (W : World) (_h : E W), Hid (Calls Try.prog 24 #[.agg #[.int .i64 m, .string v, .string ⟨#[]⟩]] W fun e w' => e = .returned (.string v) ∧ Below W.heap.size W w'))
    (K5 : ∀ (W : World) (_h : E W), Hid (Calls Try.prog 24 #[.agg #[.int .i64 m, .string k, .string l]] W fun e w' => e = .returned (.string r) ∧ Below W.heap.size W w'))
    (K6 : ∀ (W : World) (_h : E W), Hid (Calls Try.prog 24 #[.agg #[.int .i64 m, .string r, .string ⟨#[]⟩]] W fun e w' => e = .returned (.string r) ∧ Below W.heap.size W w'))
    (K7 : ∀ (W : World) (_h : E W), Hid (Calls Try.prog 22 #[.agg #[.int .i64 m, .string v, .string ⟨#[]⟩]] W fun e w' => e = .returned (.bool true) ∧ Below W.heap.size W w')) :
    Calls Try.prog 5 #[.agg #[.int .i64 m, .string k, .string l], .int .i64 n] w fun e w' => e = .returned (.bool true) ∧ Below w.heap.size w w' := by
  have p1 := fun W => Lib.hid (FRBig_any m k l W)
  rw [hb] at p1
  have S0 := Lib.hid (((St.start w).more (eFi HS) hE).new #[.int .i64 m, .string k, .string l] 23)
  have Iw : Hid (wrap64 ((k.size : Int) + (l.size : Int)) = (v.size : Int)) := Lib.hid (by unfold wrap64; omega)
  have Hv := Lib.hid hv
  have Hvr := Lib.hid hvr
  have Hkv := Lib.hid hkv
  clear hb hE hv hvr hkv hvz hr
  go_enter Try.func5, Try.ntmps5
  go_wp2_with (refine wpList_load_st rfl 23 _ rfl S0.out 0 _ _ rfl rfl _ Try.underlying23 rfl (by rfl) ?_)
  refine (p1 _).out.mono ?_
  rintro e w1 ⟨rfl, hB⟩
  have S1 := Lib.hid (S0.out.on hB)
  clear hB S0
  clear p1
  obtain ⟨p0, hp0⟩ : ∃ p, p = w.heap.size := ⟨_, rfl⟩
  rw [← hp0] at S1 ⊢
  clear hp0
  go_wp2_with (refine wpList_loadg_st (by rfl) 23 _ rfl S1.out 0 _ _ rfl rfl _ Try.underlying23 rfl (by rfl) ?_)
  refine (KI w1 (S1.out.fact 0 rfl)).out.mono ?_
  rintro e w2 ⟨rfl, hB⟩
  have S2 := Lib.hid (S1.out.on hB)
  clear hB S1
  go_wp2_with (refine wpList_load_st rfl 23 _ rfl S2.out 0 _ _ rfl rfl _ Try.underlying23 rfl (by rfl) ?_)
  refine (K1 w2 (S2.out.fact 0 rfl)).out.mono ?_
  rintro e w3 ⟨rfl, hB⟩
  have S3 := Lib.hid (S2.out.on hB)
  clear hB S2
  go_wp2_with (first
    | (refine wpList_store_st rfl 23 _ _ rfl S3.out _ #[.int .i64 m, .string r, .string ⟨#[]⟩] _ rfl rfl (by rfl) rfl (fil_one3 _ _ _) ?_; intro pa w4 hp hS hBn; (try rw [← hp]); have S4 := Lib.hid hS; clear hS hp hBn)
    | (refine wpList_load_st rfl 23 _ rfl S4.out 0 _ _ rfl rfl _ Try.underlying23 rfl (by rfl) ?_))
  refine (K2 w4 (S4.out.fact 0 rfl)).out.mono ?_
  rintro e w5 ⟨rfl, hB⟩
  have S5 := Lib.hid (S4.out.on hB)
  clear hB S4
  go_wp2_with (first
    | (refine wpList_store_st rfl 23 _ _ rfl S5.out _ #[.int .i64 m, .string r, .string ⟨#[]⟩] _ rfl rfl (by rfl) rfl (fil_one3 _ _ _) ?_; intro pb w6 hp hS hBn; (try rw [← hp]); have S6 := Lib.hid hS; clear hS hp hBn)
    | (refine wpList_load_st rfl 23 _ rfl S6.out 2 _ _ rfl rfl _ Try.underlying23 rfl (by rfl) ?_))
  refine (K3 w6 (S6.out.fact 0 rfl)).out.mono ?_
  rintro e w7 ⟨rfl, hB⟩
  have S7 := Lib.hid (S6.out.on hB)
  clear hB S6
  go_wp2_with (first
    | (refine wpList_store_st rfl 23 _ _ rfl S7.out _ #[.int .i64 m, .string v, .string ⟨#[]⟩] _ rfl rfl (by rfl) rfl (fil_one3 _ _ _) ?_; intro pc w8 hp hS hBn; (try rw [← hp]); have S8 := Lib.hid hS; clear hS hp hBn)
    | (refine wpList_load_st rfl 23 _ rfl S8.out 0 _ _ rfl rfl _ Try.underlying23 rfl (by rfl) ?_))
  refine (K4 w8 (S8.out.fact 0 rfl)).out.mono ?_
  rintro e w9 ⟨rfl, hB⟩
  have S9 := Lib.hid (S8.out.on hB)
  clear hB S8
  go_wp2_with (refine wpList_load_st rfl 23 _ rfl S9.out 3 _ _ rfl rfl _ Try.underlying23 rfl (by rfl) ?_)
  refine (K5 w9 (S9.out.fact 0 rfl)).out.mono ?_
  rintro e w10 ⟨rfl, hB⟩
  have S10 := Lib.hid (S9.out.on hB)
  clear hB S9
  clear K1 K2 K3 K4 K5 KI
  go_wp2_with (first
    | (refine wpList_loadg_st (by rfl) 23 _ rfl S10.out 2 _ _ rfl rfl _ Try.underlying23 rfl (by rfl) ?_)
    | (refine wpList_loadg_st (by rfl) 23 _ rfl S10.out 1 _ _ rfl rfl _ Try.underlying23 rfl (by rfl) ?_))
  refine (K6 w10 (S10.out.fact 0 rfl)).out.mono ?_
  rintro e w11 ⟨rfl, hB⟩
  have S11 := Lib.hid (S10.out.on hB)
  clear hB S10
  have i2 : ((v.size : Int) < (k.size : Int)) = False := eq_false (by have := Hkv.out; omega)
  have i3 : ((r.size : Int) < (v.size : Int)) = False := eq_false (by have := Hvr.out; omega)
  have i4 : v.size ≤ r.size := Hvr.out
  have i5 : (v.size : Int) ≤ (r.size : Int) := by omega
  have hv := Hv.out
  have d1 := S11.out.cell 3 rfl 1 rfl
  have d2 := S11.out.cell 3 rfl 2 rfl
  have c2 := S11.out.cell 0 rfl 2 rfl
  go_wp2_with fail
  refine (Lib.hid (HC.out w11 (S11.out.fact 0 rfl))).out.mono ?_
  rintro e w12 ⟨rfl, hB⟩
  have S12 := Lib.hid (S11.out.on hB)
  clear hB S11
  clear hv d1 d2 c2 i2 i3 i4 i5 K6
  have d1 := S12.out.cell 3 rfl 1 rfl
  have iw := Iw.out
  go_wp2_with (refine wpList_loadg_st (by rfl) 23 _ rfl S12.out 0 _ _ rfl rfl _ Try.underlying23 rfl (by rfl) ?_)
  refine (K7 w12 (S12.out.fact 0 rfl)).out.mono ?_
  rintro e w13 ⟨rfl, hB⟩
  have S13 := Lib.hid (S12.out.on hB)
  clear hB S12
  go_wp2
  go_ret
  exact ⟨rfl, S13.out.below⟩

set_option maxHeartbeats 4000000 in
theorem fileCrash_mid {E : World → Prop} (HS : Hid (FileK E)) (HC : Hid (FiledK E)) (m : Int) (k l : ByteArray) (n : Int) (w : World) (hE : E w) (hb : decide (2000 < k.size ∨ 2000 < l.size) = false) (r v : ByteArray) (j1 : (n < 0) = False) (j2 : ((l.size : Int) < n) = False) (hv : r.extract 0 v.size = v) (hvr : v.size ≤ r.size) (hkv : k.size ≤ v.size) (hvz : (v.size : Int) = (k.size : Int) + n) (hr : r.size ≤ 9000)
    (KI : ∀ (W : World) (_h : E W), Hid (Calls Try.prog 22 #[.agg #[.int .i64 m, .string k, .string l]] W fun e w' => e = .returned (.bool true) ∧ Below W.heap.size W w'))
    (K1 : ∀ (W : World) (_h : E W), Hid (Calls Try.prog 13 #[.agg #[.int .i64 m, .string k, .string l]] W fun e w' => e = .returned (.tuple #[.agg #[.int .i64 m, .string r, .string ⟨#[]⟩], .int .i64 0]) ∧ Below W.heap.size W w'))
    (K2 : ∀ (W : World) (_h : E W), Hid (Calls Try.prog 15 #[.agg #[.int .i64 m, .string r, .string ⟨#[]⟩], .int .i64 n] W fun e w' => e = .returned (.tuple #[.agg #[.int .i64 m, .string r, .string ⟨#[]⟩], .int .i64 0]) ∧ Below W.heap.size W w'))
    (K3 : ∀ (W : World) (_h : E W), Hid (Calls Try.prog 15 #[.agg #[.int .i64 m, .string k, .string l], .int .i64 n] W fun e w' => e = .returned (.tuple #[.agg #[.int .i64 m, .string v, .string ⟨#[]⟩], .int .i64 0]) ∧ Below W.heap.size W w'))
    (K4 : ∀ (W : World) (_h : E W), Hid (Calls Try.prog 24 #[.agg #[.int .i64 m, .string v, .string ⟨#[]⟩]] W fun e w' => e = .returned (.string v) ∧ Below W.heap.size W w'))
    (K5 : ∀ (W : World) (_h : E W), Hid (Calls Try.prog 24 #[.agg #[.int .i64 m, .string k, .string l]] W fun e w' => e = .returned (.string r) ∧ Below W.heap.size W w'))
    (K6 : ∀ (W : World) (_h : E W), Hid (Calls Try.prog 24 #[.agg #[.int .i64 m, .string r, .string ⟨#[]⟩]] W fun e w' => e = .returned (.string r) ∧ Below W.heap.size W w'))
    (K7 : ∀ (W : World) (_h : E W), Hid (Calls Try.prog 22 #[.agg #[.int .i64 m, .string v, .string ⟨#[]⟩]] W fun e w' => e = .returned (.bool true) ∧ Below W.heap.size W w')) :
    Calls Try.prog 5 #[.agg #[.int .i64 m, .string k, .string l], .int .i64 n] w fun e w' => e = .returned (.bool true) ∧ Below w.heap.size w w' := by
  have p1 := fun W => Lib.hid (FRBig_any m k l W)
  rw [hb] at p1
  have S0 := Lib.hid (((St.start w).more (eFi HS) hE).new #[.int .i64 m, .string k, .string l] 23)
  have Iw : Hid (wrap64 ((k.size : Int) + n) = (v.size : Int)) := Lib.hid (by unfold wrap64; omega)
  have Hv := Lib.hid hv
  have Hvr := Lib.hid hvr
  have Hkv := Lib.hid hkv
  clear hb hE hv hvr hkv hvz hr
  go_enter Try.func5, Try.ntmps5
  go_wp2_with (refine wpList_load_st rfl 23 _ rfl S0.out 0 _ _ rfl rfl _ Try.underlying23 rfl (by rfl) ?_)
  refine (p1 _).out.mono ?_
  rintro e w1 ⟨rfl, hB⟩
  have S1 := Lib.hid (S0.out.on hB)
  clear hB S0
  clear p1
  obtain ⟨p0, hp0⟩ : ∃ p, p = w.heap.size := ⟨_, rfl⟩
  rw [← hp0] at S1 ⊢
  clear hp0
  go_wp2_with (refine wpList_loadg_st (by rfl) 23 _ rfl S1.out 0 _ _ rfl rfl _ Try.underlying23 rfl (by rfl) ?_)
  refine (KI w1 (S1.out.fact 0 rfl)).out.mono ?_
  rintro e w2 ⟨rfl, hB⟩
  have S2 := Lib.hid (S1.out.on hB)
  clear hB S1
  go_wp2_with (refine wpList_load_st rfl 23 _ rfl S2.out 0 _ _ rfl rfl _ Try.underlying23 rfl (by rfl) ?_)
  refine (K1 w2 (S2.out.fact 0 rfl)).out.mono ?_
  rintro e w3 ⟨rfl, hB⟩
  have S3 := Lib.hid (S2.out.on hB)
  clear hB S2
  go_wp2_with (first
    | (refine wpList_store_st rfl 23 _ _ rfl S3.out _ #[.int .i64 m, .string r, .string ⟨#[]⟩] _ rfl rfl (by rfl) rfl (fil_one3 _ _ _) ?_; intro pa w4 hp hS hBn; (try rw [← hp]); have S4 := Lib.hid hS; clear hS hp hBn)
    | (refine wpList_load_st rfl 23 _ rfl S4.out 0 _ _ rfl rfl _ Try.underlying23 rfl (by rfl) ?_))
  refine (K2 w4 (S4.out.fact 0 rfl)).out.mono ?_
  rintro e w5 ⟨rfl, hB⟩
  have S5 := Lib.hid (S4.out.on hB)
  clear hB S4
  go_wp2_with (first
    | (refine wpList_store_st rfl 23 _ _ rfl S5.out _ #[.int .i64 m, .string r, .string ⟨#[]⟩] _ rfl rfl (by rfl) rfl (fil_one3 _ _ _) ?_; intro pb w6 hp hS hBn; (try rw [← hp]); have S6 := Lib.hid hS; clear hS hp hBn)
    | (refine wpList_load_st rfl 23 _ rfl S6.out 2 _ _ rfl rfl _ Try.underlying23 rfl (by rfl) ?_))
  refine (K3 w6 (S6.out.fact 0 rfl)).out.mono ?_
  rintro e w7 ⟨rfl, hB⟩
  have S7 := Lib.hid (S6.out.on hB)
  clear hB S6
  go_wp2_with (first
    | (refine wpList_store_st rfl 23 _ _ rfl S7.out _ #[.int .i64 m, .string v, .string ⟨#[]⟩] _ rfl rfl (by rfl) rfl (fil_one3 _ _ _) ?_; intro pc w8 hp hS hBn; (try rw [← hp]); have S8 := Lib.hid hS; clear hS hp hBn)
    | (refine wpList_load_st rfl 23 _ rfl S8.out 0 _ _ rfl rfl _ Try.underlying23 rfl (by rfl) ?_))
  refine (K4 w8 (S8.out.fact 0 rfl)).out.mono ?_
  rintro e w9 ⟨rfl, hB⟩
  have S9 := Lib.hid (S8.out.on hB)
  clear hB S8
  go_wp2_with (refine wpList_load_st rfl 23 _ rfl S9.out 3 _ _ rfl rfl _ Try.underlying23 rfl (by rfl) ?_)
  refine (K5 w9 (S9.out.fact 0 rfl)).out.mono ?_
  rintro e w10 ⟨rfl, hB⟩
  have S10 := Lib.hid (S9.out.on hB)
  clear hB S9
  clear K1 K2 K3 K4 K5 KI
  go_wp2_with (first
    | (refine wpList_loadg_st (by rfl) 23 _ rfl S10.out 2 _ _ rfl rfl _ Try.underlying23 rfl (by rfl) ?_)
    | (refine wpList_loadg_st (by rfl) 23 _ rfl S10.out 1 _ _ rfl rfl _ Try.underlying23 rfl (by rfl) ?_))
  refine (K6 w10 (S10.out.fact 0 rfl)).out.mono ?_
  rintro e w11 ⟨rfl, hB⟩
  have S11 := Lib.hid (S10.out.on hB)
  clear hB S10
  have i2 : ((v.size : Int) < (k.size : Int)) = False := eq_false (by have := Hkv.out; omega)
  have i3 : ((r.size : Int) < (v.size : Int)) = False := eq_false (by have := Hvr.out; omega)
  have i4 : v.size ≤ r.size := Hvr.out
  have i5 : (v.size : Int) ≤ (r.size : Int) := by omega
  have hv := Hv.out
  have d1 := S11.out.cell 3 rfl 1 rfl
  have d2 := S11.out.cell 3 rfl 2 rfl
  have c2 := S11.out.cell 0 rfl 2 rfl
  go_wp2_with fail
  refine (Lib.hid (HC.out w11 (S11.out.fact 0 rfl))).out.mono ?_
  rintro e w12 ⟨rfl, hB⟩
  have S12 := Lib.hid (S11.out.on hB)
  clear hB S11
  clear hv d1 d2 c2 i2 i3 i4 i5 K6
  have d1 := S12.out.cell 3 rfl 1 rfl
  have iw := Iw.out
  go_wp2_with (refine wpList_loadg_st (by rfl) 23 _ rfl S12.out 0 _ _ rfl rfl _ Try.underlying23 rfl (by rfl) ?_)
  refine (K7 w12 (S12.out.fact 0 rfl)).out.mono ?_
  rintro e w13 ⟨rfl, hB⟩
  have S13 := Lib.hid (S12.out.on hB)
  clear hB S12
  go_wp2
  go_ret
  exact ⟨rfl, S13.out.below⟩

theorem Fi.read_take (f : Fil) (q : Nat) (hq : q ≤ f.loose.size) : (Fi.read f).extract 0 (f.kept ++ f.loose.extract 0 q).size = f.kept ++ f.loose.extract 0 q := by
  apply bl_inj
  have hs : (f.kept ++ f.loose.extract 0 q).size = f.kept.size + q := by rw [ByteArray.size_append, ByteArray.size_extract]; omega
  rw [hs, bl_extract_to _ _ (by rw [Fi.read_size]; omega), bl_append, bl_extract_to _ _ hq]
  unfold Fi.read
  rw [bl_append, List.take_append, bl_length]
  have e1 : f.kept.size + q - f.kept.size = q := by omega
  rw [e1, List.take_of_length_le (by rw [bl_length]; omega)]
theorem Fi.sync_is {f : Fil} (h : Fi.is f = true) : Fi.sync f = ⟨f.most, Fi.read f, ⟨#[]⟩⟩ ∧ Fi.is (Fi.sync f) = true := by
  have e : Fi.sync f = ⟨f.most, Fi.read f, ⟨#[]⟩⟩ := by unfold Fi.sync; rw [if_pos h]
  refine ⟨e, ?_⟩
  rw [e]
  have := Fi.is_small h
  unfold Fi.is
  rw [decide_eq_true_iff]
  refine ⟨this.1, this.2.1, ?_⟩
  show ((Fi.read f).size : Int) + 0 ≤ f.most
  rw [Fi.read_size]; omega
theorem Fi.read_kept (m : Int) (x : ByteArray) : Fi.read ⟨m, x, ⟨#[]⟩⟩ = x := ba_nil x
theorem fileCrash_walk {E : World → Prop} (HS : Hid (FileK E)) (HC : Hid (FiledK E)) (m : Int) (k l : ByteArray) (n : Int) (w : World) (hE : E w) : Calls Try.prog 5 #[.agg #[.int .i64 m, .string k, .string l], .int .i64 n] w fun e w' => e = .returned (.bool true) ∧ Below w.heap.size w w' := by
  by_cases hb : decide (2000 < k.size ∨ 2000 < l.size) = true
  · exact fileCrash_big HS HC m k l n w hE hb
  have hb' : decide (2000 < k.size ∨ 2000 < l.size) = false := by simpa using hb
  have hkl : Fi.small ⟨m, k, l⟩ := by have := of_decide_eq_false hb'; unfold Fi.small; simp only; omega
  have KI := fun W (h : E W) => Lib.hid (HS.out.is ⟨m, k, l⟩ W h hkl)
  cases hi : Fi.is ⟨m, k, l⟩
  · rw [hi] at KI
    exact fileCrash_not HS HC m k l n w hE hb' KI
  rw [hi] at KI
  have e2 : Fi.badE ⟨m, k, l⟩ = 0 := by unfold Fi.badE; rw [hi]; rfl
  have c := Fi.crash_is hi n
  have y := Fi.sync_is hi
  have K1 := fun W (h : E W) => Lib.hid (HS.out.sync ⟨m, k, l⟩ W h hkl)
  have K3 := fun W (h : E W) => Lib.hid (HS.out.crash ⟨m, k, l⟩ n W h hkl)
  have K2 := fun W (h : E W) => Lib.hid (HS.out.crash (Fi.sync ⟨m, k, l⟩) n W h (small_of _ y.2))
  have e3 : Fi.badE (Fi.sync ⟨m, k, l⟩) = 0 := by unfold Fi.badE; rw [y.2]; rfl
  rw [Fi.crash_twice y.2 (by rw [y.1]) n, e3, y.1] at K2
  rw [e2, y.1] at K1
  rw [e2, c.1] at K3
  have hcs := small_of _ c.2
  have hys := small_of _ y.2
  rw [c.1] at hcs c
  rw [y.1] at hys y
  have K4 := fun W (h : E W) => Lib.hid (HS.out.read _ W h hcs)
  have K5 := fun W (h : E W) => Lib.hid (HS.out.read ⟨m, k, l⟩ W h hkl)
  have K6 := fun W (h : E W) => Lib.hid (HS.out.read _ W h hys)
  have K7 := fun W (h : E W) => Lib.hid (HS.out.is _ W h hcs)
  rw [c.2] at K7
  have r4 : Fi.read ⟨m, k ++ l.extract 0 (Fi.many ⟨m, k, l⟩ n), ⟨#[]⟩⟩ = k ++ l.extract 0 (Fi.many ⟨m, k, l⟩ n) := by unfold Fi.read; exact ba_nil _
  have r6 : Fi.read ⟨m, Fi.read ⟨m, k, l⟩, ⟨#[]⟩⟩ = Fi.read ⟨m, k, l⟩ := Fi.read_kept _ _
  rw [r4] at K4
  rw [r6] at K6
  have hq : Fi.many ⟨m, k, l⟩ n ≤ l.size := by unfold Fi.many; exact Nat.min_le_right _ _
  have hv := Fi.read_take ⟨m, k, l⟩ _ hq
  have hz : (k ++ l.extract 0 (Fi.many ⟨m, k, l⟩ n)).size = k.size + Fi.many ⟨m, k, l⟩ n := by rw [ByteArray.size_append, ByteArray.size_extract]; omega
  have hrs : (Fi.read ⟨m, k, l⟩).size = k.size + l.size := Fi.read_size _
  have hm : Fi.many ⟨m, k, l⟩ n = min n.toNat l.size := rfl
  have hsm : k.size ≤ 2000 ∧ l.size ≤ 2000 := by have := of_decide_eq_false hb'; omega
  by_cases h1 : n < 0
  · exact fileCrash_neg HS HC m k l n w hE hb' _ _ (eq_true h1) (eq_false (by omega)) hv (by rw [hz, hrs]; omega) (by rw [hz]; omega) (by rw [hz, hm]; omega) (by rw [hrs]; omega) KI K1 K2 K3 K4 K5 K6 K7
  by_cases h2 : (l.size : Int) < n
  · exact fileCrash_far HS HC m k l n w hE hb' _ _ (eq_false h1) (eq_true h2) hv (by rw [hz, hrs]; omega) (by rw [hz]; omega) (by rw [hz, hm]; omega) (by rw [hrs]; omega) KI K1 K2 K3 K4 K5 K6 K7
  · exact fileCrash_mid HS HC m k l n w hE hb' _ _ (eq_false h1) (eq_false h2) hv (by rw [hz, hrs]; omega) (by rw [hz]; omega) (by rw [hz, hm]; omega) (by rw [hrs]; omega) KI K1 K2 K3 K4 K5 K6 K7

end Go.Proofs.Ytdhklggbmlkloaa
