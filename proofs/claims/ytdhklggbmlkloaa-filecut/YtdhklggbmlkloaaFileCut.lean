/-
  Layer 12 (file): the law FileCut, over the structure (printed by tools/gen-filecut.py).
-/
import Derived.Test.YtdhklggbmlkloaaFileCrash
namespace Go.Proofs.Ytdhklggbmlkloaa
set_option maxRecDepth 10000
open Go.RowKit

theorem fileCut_big {E : World → Prop} (HS : Hid (FileK E)) (HC : Hid (FiledK E)) (m : Int) (k l : ByteArray) (n : Int) (w : World) (hE : E w) (hb : decide (2000 < k.size ∨ 2000 < l.size) = true) : Calls Try.prog 6 #[.agg #[.int .i64 m, .string k, .string l], .int .i64 n] w fun e w' => e = .returned (.bool true) ∧ Below w.heap.size w w' := by
  have p1 := fun W => Lib.hid (FRBig_any m k l W)
  rw [hb] at p1
  have S0 := Lib.hid (((St.start w).more (eFi HS) hE).new #[.int .i64 m, .string k, .string l] 23)
  clear hb hE
  go_enter Try.func6, Try.ntmps6
  go_wp2_with (refine wpList_load_st rfl 23 _ rfl S0.out 0 _ _ rfl rfl _ Try.underlying23 rfl (by rfl) ?_)
  refine (p1 _).out.mono ?_
  rintro e w1 ⟨rfl, hB⟩
  have S1 := Lib.hid (S0.out.on hB)
  clear hB S0
  go_wp2_with fail
  refine (Lib.hid (HC.out w1 (S1.out.fact 0 rfl))).out.mono ?_
  rintro e w2 ⟨rfl, hB⟩
  have S2 := Lib.hid (S1.out.on hB)
  clear hB S1
  go_wp2
  go_ret
  exact ⟨rfl, S2.out.below⟩
theorem fileCut_not {E : World → Prop} (HS : Hid (FileK E)) (HC : Hid (FiledK E)) (m : Int) (k l : ByteArray) (n : Int) (w : World) (hE : E w) (hb : decide (2000 < k.size ∨ 2000 < l.size) = false)
    (KI : ∀ (W : World) (_h : E W), Hid (Calls Try.prog 22 #[.agg #[.int .i64 m, .string k, .string l]] W fun e w' => e = .returned (.bool false) ∧ Below W.heap.size W w')) : Calls Try.prog 6 #[.agg #[.int .i64 m, .string k, .string l], .int .i64 n] w fun e w' => e = .returned (.bool true) ∧ Below w.heap.size w w' := by
  have p1 := fun W => Lib.hid (FRBig_any m k l W)
  rw [hb] at p1
  have S0 := Lib.hid (((St.start w).more (eFi HS) hE).new #[.int .i64 m, .string k, .string l] 23)
  clear hb hE
  go_enter Try.func6, Try.ntmps6
  go_wp2_with (refine wpList_load_st rfl 23 _ rfl S0.out 0 _ _ rfl rfl _ Try.underlying23 rfl (by rfl) ?_)
  refine (p1 _).out.mono ?_
  rintro e w1 ⟨rfl, hB⟩
  have S1 := Lib.hid (S0.out.on hB)
  clear hB S0
  obtain ⟨p0, hp0⟩ : ∃ p, p = w.heap.size := ⟨_, rfl⟩
  rw [← hp0] at S1 ⊢
  clear hp0
  go_wp2_with (refine wpList_loadg_st (by rfl) 23 _ rfl S1.out 0 _ _ rfl rfl _ Try.underlying23 rfl (by rfl) ?_)
  refine (KI w1 (S1.out.fact 0 rfl)).out.mono ?_
  rintro e w2 ⟨rfl, hB⟩
  have S2 := Lib.hid (S1.out.on hB)
  clear hB S1
  go_wp2_with fail
  refine (Lib.hid (HC.out w2 (S2.out.fact 0 rfl))).out.mono ?_
  rintro e w3 ⟨rfl, hB⟩
  have S3 := Lib.hid (S2.out.on hB)
  clear hB S2
  go_wp2
  go_ret
  exact ⟨rfl, S3.out.below⟩

set_option maxHeartbeats 4000000 in
theorem fileCut_low {E : World → Prop} (HS : Hid (FileK E)) (HC : Hid (FiledK E)) (m : Int) (k l : ByteArray) (n : Int) (w : World) (hE : E w) (hb : decide (2000 < k.size ∨ 2000 < l.size) = false) (r : ByteArray) (j1 : (n < 0) = True)
    (KI : ∀ (W : World) (_h : E W), Hid (Calls Try.prog 22 #[.agg #[.int .i64 m, .string k, .string l]] W fun e w' => e = .returned (.bool true) ∧ Below W.heap.size W w'))
    (K1 : ∀ (W : World) (_h : E W), Hid (Calls Try.prog 24 #[.agg #[.int .i64 m, .string k, .string l]] W fun e w' => e = .returned (.string r) ∧ Below W.heap.size W w'))
    (K2 : ∀ (W : World) (_h : E W), Hid (Calls Try.prog 17 #[.agg #[.int .i64 m, .string k, .string l], .int .i64 n] W fun e w' => e = .returned (.tuple #[.agg #[.int .i64 0, .string ⟨#[]⟩, .string ⟨#[]⟩], .int .i64 1]) ∧ Below W.heap.size W w'))
    (K3 : ∀ (W : World) (_h : E W), Hid (Calls Try.prog 24 #[.agg #[.int .i64 0, .string ⟨#[]⟩, .string ⟨#[]⟩]] W fun e w' => e = .returned (.string ⟨#[]⟩) ∧ Below W.heap.size W w')) :
    Calls Try.prog 6 #[.agg #[.int .i64 m, .string k, .string l], .int .i64 n] w fun e w' => e = .returned (.bool true) ∧ Below w.heap.size w w' := by
  have p1 := fun W => Lib.hid (FRBig_any m k l W)
  rw [hb] at p1
  have S0 := Lib.hid (((St.start w).more (eFi HS) hE).new #[.int .i64 m, .string k, .string l] 23)
  clear hb hE
  go_enter Try.func6, Try.ntmps6
  go_wp2_with (refine wpList_load_st rfl 23 _ rfl S0.out 0 _ _ rfl rfl _ Try.underlying23 rfl (by rfl) ?_)
  refine (p1 _).out.mono ?_
  rintro e w1 ⟨rfl, hB⟩
  have S1 := Lib.hid (S0.out.on hB)
  clear hB S0
  clear p1
  obtain ⟨p0, hp0⟩ : ∃ p, p = w.heap.size := ⟨_, rfl⟩
  rw [← hp0] at S1 ⊢
  clear hp0
  go_wp2_with (refine wpList_loadg_st (by rfl) 23 _ rfl S1.out 0 _ _ rfl rfl _ Try.underlying23 rfl (by rfl) ?_)
  refine (KI w1 (S1.out.fact 0 rfl)).out.mono ?_
  rintro e w2 ⟨rfl, hB⟩
  have S2 := Lib.hid (S1.out.on hB)
  clear hB S1
  go_wp2_with (refine wpList_load_st rfl 23 _ rfl S2.out 0 _ _ rfl rfl _ Try.underlying23 rfl (by rfl) ?_)
  refine (K1 w2 (S2.out.fact 0 rfl)).out.mono ?_
  rintro e w3 ⟨rfl, hB⟩
  have S3 := Lib.hid (S2.out.on hB)
  clear hB S2
  go_wp2_with (refine wpList_load_st rfl 23 _ rfl S3.out 0 _ _ rfl rfl _ Try.underlying23 rfl (by rfl) ?_)
  refine (K2 w3 (S3.out.fact 0 rfl)).out.mono ?_
  rintro e w4 ⟨rfl, hB⟩
  have S4 := Lib.hid (S3.out.on hB)
  clear hB S3
  go_wp2_with (refine wpList_store_st rfl 23 _ _ rfl S4.out _ #[.int .i64 0, .string ⟨#[]⟩, .string ⟨#[]⟩] _ rfl rfl (by rfl) rfl (fil_one3 _ _ _) ?_; intro pa w5 hp hS hBn; (try rw [← hp]); have S5 := Lib.hid hS; clear hS hp hBn)
  refine (Lib.hid (HC.out w5 (S5.out.fact 0 rfl))).out.mono ?_
  rintro e w6 ⟨rfl, hB⟩
  have S6 := Lib.hid (S5.out.on hB)
  clear hB S5
  go_wp2_with (refine wpList_loadg_st (by rfl) 23 _ rfl S6.out 0 _ _ rfl rfl _ Try.underlying23 rfl (by rfl) ?_)
  refine (K3 w6 (S6.out.fact 0 rfl)).out.mono ?_
  rintro e w7 ⟨rfl, hB⟩
  have S7 := Lib.hid (S6.out.on hB)
  clear hB S6
  go_wp2
  go_ret
  exact ⟨rfl, S7.out.below⟩

set_option maxHeartbeats 4000000 in
theorem fileCut_high {E : World → Prop} (HS : Hid (FileK E)) (HC : Hid (FiledK E)) (m : Int) (k l : ByteArray) (n : Int) (w : World) (hE : E w) (hb : decide (2000 < k.size ∨ 2000 < l.size) = false) (r : ByteArray) (j1 : (n < 0) = False) (j2 : ((r.size : Int) < n) = True)
    (KI : ∀ (W : World) (_h : E W), Hid (Calls Try.prog 22 #[.agg #[.int .i64 m, .string k, .string l]] W fun e w' => e = .returned (.bool true) ∧ Below W.heap.size W w'))
    (K1 : ∀ (W : World) (_h : E W), Hid (Calls Try.prog 24 #[.agg #[.int .i64 m, .string k, .string l]] W fun e w' => e = .returned (.string r) ∧ Below W.heap.size W w'))
    (K2 : ∀ (W : World) (_h : E W), Hid (Calls Try.prog 17 #[.agg #[.int .i64 m, .string k, .string l], .int .i64 n] W fun e w' => e = .returned (.tuple #[.agg #[.int .i64 0, .string ⟨#[]⟩, .string ⟨#[]⟩], .int .i64 1]) ∧ Below W.heap.size W w'))
    (K3 : ∀ (W : World) (_h : E W), Hid (Calls Try.prog 24 #[.agg #[.int .i64 0, .string ⟨#[]⟩, .string ⟨#[]⟩]] W fun e w' => e = .returned (.string ⟨#[]⟩) ∧ Below W.heap.size W w')) :
    Calls Try.prog 6 #[.agg #[.int .i64 m, .string k, .string l], .int .i64 n] w fun e w' => e = .returned (.bool true) ∧ Below w.heap.size w w' := by
  have p1 := fun W => Lib.hid (FRBig_any m k l W)
  rw [hb] at p1
  have S0 := Lib.hid (((St.start w).more (eFi HS) hE).new #[.int .i64 m, .string k, .string l] 23)
  clear hb hE
  go_enter Try.func6, Try.ntmps6
  go_wp2_with (refine wpList_load_st rfl 23 _ rfl S0.out 0 _ _ rfl rfl _ Try.underlying23 rfl (by rfl) ?_)
  refine (p1 _).out.mono ?_
  rintro e w1 ⟨rfl, hB⟩
  have S1 := Lib.hid (S0.out.on hB)
  clear hB S0
  clear p1
  obtain ⟨p0, hp0⟩ : ∃ p, p = w.heap.size := ⟨_, rfl⟩
  rw [← hp0] at S1 ⊢
  clear hp0
  go_wp2_with (refine wpList_loadg_st (by rfl) 23 _ rfl S1.out 0 _ _ rfl rfl _ Try.underlying23 rfl (by rfl) ?_)
  refine (KI w1 (S1.out.fact 0 rfl)).out.mono ?_
  rintro e w2 ⟨rfl, hB⟩
  have S2 := Lib.hid (S1.out.on hB)
  clear hB S1
  go_wp2_with (refine wpList_load_st rfl 23 _ rfl S2.out 0 _ _ rfl rfl _ Try.underlying23 rfl (by rfl) ?_)
  refine (K1 w2 (S2.out.fact 0 rfl)).out.mono ?_
  rintro e w3 ⟨rfl, hB⟩
  have S3 := Lib.hid (S2.out.on hB)
  clear hB S2
  go_wp2_with (refine wpList_load_st rfl 23 _ rfl S3.out 0 _ _ rfl rfl _ Try.underlying23 rfl (by rfl) ?_)
  refine (K2 w3 (S3.out.fact 0 rfl)).out.mono ?_
  rintro e w4 ⟨rfl, hB⟩
  have S4 := Lib.hid (S3.out.on hB)
  clear hB S3
  go_wp2_with (refine wpList_store_st rfl 23 _ _ rfl S4.out _ #[.int .i64 0, .string ⟨#[]⟩, .string ⟨#[]⟩] _ rfl rfl (by rfl) rfl (fil_one3 _ _ _) ?_; intro pa w5 hp hS hBn; (try rw [← hp]); have S5 := Lib.hid hS; clear hS hp hBn)
  refine (Lib.hid (HC.out w5 (S5.out.fact 0 rfl))).out.mono ?_
  rintro e w6 ⟨rfl, hB⟩
  have S6 := Lib.hid (S5.out.on hB)
  clear hB S5
  go_wp2_with (refine wpList_loadg_st (by rfl) 23 _ rfl S6.out 0 _ _ rfl rfl _ Try.underlying23 rfl (by rfl) ?_)
  refine (K3 w6 (S6.out.fact 0 rfl)).out.mono ?_
  rintro e w7 ⟨rfl, hB⟩
  have S7 := Lib.hid (S6.out.on hB)
  clear hB S6
  go_wp2
  go_ret
  exact ⟨rfl, S7.out.below⟩

set_option maxHeartbeats 4000000 in
theorem fileCut_fare {E : World → Prop} (HS : Hid (FileK E)) (HC : Hid (FiledK E)) (m : Int) (k l : ByteArray) (r x : ByteArray) (w : World) (hE : E w) (hb : decide (2000 < k.size ∨ 2000 < l.size) = false) (j2 : ((l.size : Int) < (r.size : Int)) = True) (hv : r.extract 0 r.size = r) (Iw : Hid (wrap64 ((k.size : Int) + (l.size : Int)) = (k.size : Int) + (l.size : Int)))
    (KI : ∀ (W : World) (_h : E W), Hid (Calls Try.prog 22 #[.agg #[.int .i64 m, .string k, .string l]] W fun e w' => e = .returned (.bool true) ∧ Below W.heap.size W w'))
    (K1 : ∀ (W : World) (_h : E W), Hid (Calls Try.prog 24 #[.agg #[.int .i64 m, .string k, .string l]] W fun e w' => e = .returned (.string r) ∧ Below W.heap.size W w'))
    (K2 : ∀ (W : World) (_h : E W), Hid (Calls Try.prog 17 #[.agg #[.int .i64 m, .string k, .string l], .int .i64 (r.size : Int)] W fun e w' => e = .returned (.tuple #[.agg #[.int .i64 m, .string r, .string ⟨#[]⟩], .int .i64 0]) ∧ Below W.heap.size W w'))
    (K3 : ∀ (W : World) (_h : E W), Hid (Calls Try.prog 13 #[.agg #[.int .i64 m, .string k, .string l]] W fun e w' => e = .returned (.tuple #[.agg #[.int .i64 m, .string r, .string ⟨#[]⟩], .int .i64 0]) ∧ Below W.heap.size W w'))
    (K4 : ∀ (W : World) (_h : E W), Hid (Calls Try.prog 15 #[.agg #[.int .i64 m, .string k, .string l], .int .i64 (r.size : Int)] W fun e w' => e = .returned (.tuple #[.agg #[.int .i64 m, .string x, .string ⟨#[]⟩], .int .i64 0]) ∧ Below W.heap.size W w'))
    (K5 : ∀ (W : World) (_h : E W), Hid (Calls Try.prog 17 #[.agg #[.int .i64 m, .string k, .string l], .int .i64 ((k.size : Int) + (l.size : Int))] W fun e w' => e = .returned (.tuple #[.agg #[.int .i64 m, .string x, .string ⟨#[]⟩], .int .i64 0]) ∧ Below W.heap.size W w'))
    (K6 : ∀ (W : World) (_h : E W), Hid (Calls Try.prog 24 #[.agg #[.int .i64 m, .string r, .string ⟨#[]⟩]] W fun e w' => e = .returned (.string r) ∧ Below W.heap.size W w')) :
    Calls Try.prog 6 #[.agg #[.int .i64 m, .string k, .string l], .int .i64 (r.size : Int)] w fun e w' => e = .returned (.bool true) ∧ Below w.heap.size w w' := by
  have p1 := fun W => Lib.hid (FRBig_any m k l W)
  rw [hb] at p1
  have S0 := Lib.hid (((St.start w).more (eFi HS) hE).new #[.int .i64 m, .string k, .string l] 23)
  clear hb hE
  have Hv := Lib.hid hv
  clear hv
  go_enter Try.func6, Try.ntmps6
  go_wp2_with (refine wpList_load_st rfl 23 _ rfl S0.out 0 _ _ rfl rfl _ Try.underlying23 rfl (by rfl) ?_)
  refine (p1 _).out.mono ?_
  rintro e w1 ⟨rfl, hB⟩
  have S1 := Lib.hid (S0.out.on hB)
  clear hB S0
  clear p1
  obtain ⟨p0, hp0⟩ : ∃ p, p = w.heap.size := ⟨_, rfl⟩
  rw [← hp0] at S1 ⊢
  clear hp0
  go_wp2_with (refine wpList_loadg_st (by rfl) 23 _ rfl S1.out 0 _ _ rfl rfl _ Try.underlying23 rfl (by rfl) ?_)
  refine (KI w1 (S1.out.fact 0 rfl)).out.mono ?_
  rintro e w2 ⟨rfl, hB⟩
  have S2 := Lib.hid (S1.out.on hB)
  clear hB S1
  go_wp2_with (refine wpList_load_st rfl 23 _ rfl S2.out 0 _ _ rfl rfl _ Try.underlying23 rfl (by rfl) ?_)
  refine (K1 w2 (S2.out.fact 0 rfl)).out.mono ?_
  rintro e w3 ⟨rfl, hB⟩
  have S3 := Lib.hid (S2.out.on hB)
  clear hB S2
  go_wp2_with (refine wpList_load_st rfl 23 _ rfl S3.out 0 _ _ rfl rfl _ Try.underlying23 rfl (by rfl) ?_)
  refine (K2 w3 (S3.out.fact 0 rfl)).out.mono ?_
  rintro e w4 ⟨rfl, hB⟩
  have S4 := Lib.hid (S3.out.on hB)
  clear hB S3
  go_wp2_with (first
    | (refine wpList_store_st rfl 23 _ _ rfl S4.out _ #[.int .i64 m, .string r, .string ⟨#[]⟩] _ rfl rfl (by rfl) rfl (fil_one3 _ _ _) ?_; intro pa w5 hp hS hBn; (try rw [← hp]); have S5 := Lib.hid hS; clear hS hp hBn)
    | (refine wpList_load_st rfl 23 _ rfl S5.out 1 _ _ rfl rfl _ Try.underlying23 rfl (by rfl) ?_))
  refine (K3 w5 (S5.out.fact 0 rfl)).out.mono ?_
  rintro e w6 ⟨rfl, hB⟩
  have S6 := Lib.hid (S5.out.on hB)
  clear hB S5
  go_wp2_with (first
    | (refine wpList_store_st rfl 23 _ _ rfl S6.out _ #[.int .i64 m, .string r, .string ⟨#[]⟩] _ rfl rfl (by rfl) rfl (fil_one3 _ _ _) ?_; intro pb w7 hp hS hBn; (try rw [← hp]); have S7 := Lib.hid hS; clear hS hp hBn)
    | (refine wpList_load_st rfl 23 _ rfl S7.out 2 _ _ rfl rfl _ Try.underlying23 rfl (by rfl) ?_))
  refine (K4 w7 (S7.out.fact 0 rfl)).out.mono ?_
  rintro e w8 ⟨rfl, hB⟩
  have S8 := Lib.hid (S7.out.on hB)
  clear hB S7
  have iw := Iw.out
  go_wp2_with (first
    | (refine wpList_store_st rfl 23 _ _ rfl S8.out _ #[.int .i64 m, .string x, .string ⟨#[]⟩] _ rfl rfl (by rfl) rfl (fil_one3 _ _ _) ?_; intro pc w9 hp hS hBn; (try rw [← hp]); have S9 := Lib.hid hS; clear hS hp hBn; have d1 := S9.out.cell 3 rfl 1 rfl; have d2 := S9.out.cell 3 rfl 2 rfl)
    | (refine wpList_load_st rfl 23 _ rfl S9.out 3 _ _ rfl rfl _ Try.underlying23 rfl (by rfl) ?_))
  refine (K5 w9 (S9.out.fact 0 rfl)).out.mono ?_
  rintro e w10 ⟨rfl, hB⟩
  have S10 := Lib.hid (S9.out.on hB)
  clear hB S9
  clear d1 d2 iw K1 K2 K3 K4 K5 KI
  go_upto_region 10 with (refine wpList_store_st rfl 23 _ _ rfl S10.out _ #[.int .i64 m, .string x, .string ⟨#[]⟩] _ rfl rfl (by rfl) rfl (fil_one3 _ _ _) ?_; intro pd w11 hp hS hBn; (try rw [← hp]); have S11 := Lib.hid hS; clear hS hp hBn)
  clear S10
  go_wp2_with fail
  have hS : St w w11.drew [(pd, #[.int .i64 m, .string x, .string ⟨#[]⟩]), (pc, #[.int .i64 m, .string x, .string ⟨#[]⟩]), (pb, #[.int .i64 m, .string r, .string ⟨#[]⟩]), (pa, #[.int .i64 m, .string r, .string ⟨#[]⟩]), (p0, #[.int .i64 m, .string k, .string l])] [eFi HS] := S11.out.drew
  clear S11
  refine wp_region_held_drew (S := (fun W : World => St w W [(pd, #[.int .i64 m, .string x, .string ⟨#[]⟩]), (pc, #[.int .i64 m, .string x, .string ⟨#[]⟩]), (pb, #[.int .i64 m, .string r, .string ⟨#[]⟩]), (pa, #[.int .i64 m, .string r, .string ⟨#[]⟩]), (p0, #[.int .i64 m, .string k, .string l])] [eFi HS])) (by kernel_rfl) hS (fun hHeld => ?_)
  refine wpAnyH_ready (rs := [0]) (by kernel_rfl) (by simp) ?_
  refine AllReadyH.cons (o := { dst := some 73, op := Op.call { callee := Callee.value (Operand.func 21), args := #[], argTypes := #[] }, type := 4, pos := _, after := #[], guard := none }) rfl (fun K hK => ?_) AllReadyH.nil
  go_simp
  refine (HC.out _ (hS.fact 0 rfl)).mono ?_
  rintro e y1 ⟨rfl, hB'⟩
  replace hS := hS.on hB'
  clear hB'
  go_wp2_with fail
  refine hK.out _ _ hS (fun hHeld => ?_)
  clear hK K
  (try simp only [Act.put, List.setIfInBounds_toArray, List.set_cons_zero, List.set_cons_succ])
  refine wpAnyH_take (i := 1) (oi := { dst := some 74, op := Op.move (Operand.tmp 73), type := 4, pos := _, after := #[{ on := 0, ground := Ground.data }, { on := 0, ground := Ground.chain }], guard := none }) (v := ?_) rfl (by kernel_rfl) (by kernel_rfl) (by kernel_rfl) (fun _ _ _ h => h) (Or.inl ⟨by rfl, ?hy⟩) hHeld ?_
  case hy => intro w0 hSw; (try dsimp only at hSw); go_simp; (try with_reducible rfl)
  (try simp only [Act.put, List.setIfInBounds_toArray, List.set_cons_zero, List.set_cons_succ])
  refine wpAnyH_take (i := 2) (oi := { dst := some 75, op := Op.load 23 (Operand.tmp 6), type := 23, pos := _, after := #[{ on := 1, ground := Ground.guard }], guard := some (1, true) }) (v := ?_) rfl (by kernel_rfl) (by kernel_rfl) (by kernel_rfl) (fun _ _ _ h => h) (Or.inl ⟨by rfl, ?hy⟩) hHeld ?_
  case hy => intro w0 hSw; have d0 := hSw.cell 3 rfl 0 rfl; have d1 := hSw.cell 3 rfl 1 rfl; have d2 := hSw.cell 3 rfl 2 rfl; clear hSw; go_simp; (try with_reducible rfl)
  (try simp only [Act.put, List.setIfInBounds_toArray, List.set_cons_zero, List.set_cons_succ])
  refine wpAnyH_take (i := 4) (oi := { dst := some 77, op := Op.move (Operand.tmp 5), type := 9, pos := _, after := #[{ on := 1, ground := Ground.guard }], guard := some (1, true) }) (v := ?_) rfl (by kernel_rfl) (by kernel_rfl) (by kernel_rfl) (fun _ _ _ h => h) (Or.inl ⟨by rfl, ?hy⟩) hHeld ?_
  case hy => intro w0 hSw; (try dsimp only at hSw); go_simp; (try with_reducible rfl)
  (try simp only [Act.put, List.setIfInBounds_toArray, List.set_cons_zero, List.set_cons_succ])
  refine wpAnyH_take (i := 5) (oi := { dst := some 78, op := Op.move (Operand.tmp 1), type := 3, pos := _, after := #[{ on := 1, ground := Ground.guard }], guard := some (1, true) }) (v := ?_) rfl (by kernel_rfl) (by kernel_rfl) (by kernel_rfl) (fun _ _ _ h => h) (Or.inl ⟨by rfl, ?hy⟩) hHeld ?_
  case hy => intro w0 hSw; (try dsimp only at hSw); go_simp; (try with_reducible rfl)
  (try simp only [Act.put, List.setIfInBounds_toArray, List.set_cons_zero, List.set_cons_succ])
  refine wpAnyH_take (i := 6) (oi := { dst := some 79, op := Op.slice 9 (Operand.tmp 77) none (some (Operand.tmp 78)) none, type := 9, pos := _, after := #[{ on := 4, ground := Ground.data }, { on := 5, ground := Ground.data }, { on := 1, ground := Ground.guard }], guard := some (1, true) }) (v := ?_) rfl (by kernel_rfl) (by kernel_rfl) (by kernel_rfl) (fun _ _ _ h => h) (Or.inl ⟨by rfl, ?hy⟩) hHeld ?_
  case hy => intro w0 hSw; (try dsimp only at hSw); have hv := Hv.out; go_simp; (try with_reducible rfl)
  (try simp only [Act.put, List.setIfInBounds_toArray, List.set_cons_zero, List.set_cons_succ])
  refine wpAnyH_ready (rs := [3]) (by kernel_rfl) (by simp) ?_
  refine AllReadyH.cons (o := { dst := some 76, op := Op.call { callee := Callee.value (Operand.func 24), args := #[Operand.tmp 75], argTypes := #[23] }, type := 9, pos := _, after := #[{ on := 2, ground := Ground.data }, { on := 1, ground := Ground.chain }, { on := 1, ground := Ground.guard }], guard := some (1, true) }) rfl (fun K hK => ?_) AllReadyH.nil
  go_simp
  refine (K6 _ (hS.fact 0 rfl)).out.mono ?_
  rintro e y2 ⟨rfl, hB'⟩
  replace hS := hS.on hB'
  clear hB'
  go_wp2_with fail
  refine hK.out _ _ hS (fun hHeld => ?_)
  clear hK K
  (try simp only [Act.put, List.setIfInBounds_toArray, List.set_cons_zero, List.set_cons_succ])
  refine wpAnyH_take (i := 7) (oi := { dst := some 80, op := Op.binOp BinOp.eql 9 (Operand.tmp 76) (Operand.tmp 79) 9, type := 4, pos := _, after := #[{ on := 3, ground := Ground.data }, { on := 6, ground := Ground.data }, { on := 1, ground := Ground.guard }], guard := some (1, true) }) (v := ?_) rfl (by kernel_rfl) (by kernel_rfl) (by kernel_rfl) (fun _ _ _ h => h) (Or.inl ⟨by rfl, ?hy⟩) hHeld ?_
  case hy => intro w0 hSw; (try dsimp only at hSw); go_simp; (try with_reducible rfl)
  (try simp only [Act.put, List.setIfInBounds_toArray, List.set_cons_zero, List.set_cons_succ])
  refine wpAnyH_take (i := 8) (oi := { dst := some 81, op := Op.pick (Operand.tmp 74) (Operand.tmp 80) (Operand.const (Value.bool false)), type := 4, pos := _, after := #[{ on := 1, ground := Ground.data }, { on := 7, ground := Ground.data }], guard := none }) (v := ?_) rfl (by kernel_rfl) (by kernel_rfl) (by kernel_rfl) (fun _ _ _ h => h) (Or.inl ⟨by rfl, ?hy⟩) hHeld ?_
  case hy => intro w0 hSw; (try dsimp only at hSw); go_simp; (try with_reducible rfl)
  (try simp only [Act.put, List.setIfInBounds_toArray, List.set_cons_zero, List.set_cons_succ])
  refine wpAnyH_take (i := 9) (oi := { dst := some 82, op := Op.move (Operand.tmp 81), type := 4, pos := _, after := #[{ on := 8, ground := Ground.data }, { on := 3, ground := Ground.chain }], guard := none }) (v := ?_) rfl (by kernel_rfl) (by kernel_rfl) (by kernel_rfl) (fun _ _ _ h => h) (Or.inl ⟨by rfl, ?hy⟩) hHeld ?_
  case hy => intro w0 hSw; (try dsimp only at hSw); go_simp; (try with_reducible rfl)
  (try simp only [Act.put, List.setIfInBounds_toArray, List.set_cons_zero, List.set_cons_succ])
  refine wpAnyH_take (i := 10) (oi := { dst := some 83, op := Op.move (Operand.tmp 1), type := 3, pos := _, after := #[{ on := 9, ground := Ground.guard }], guard := some (9, true) }) (v := ?_) rfl (by kernel_rfl) (by kernel_rfl) (by kernel_rfl) (fun _ _ _ h => h) (Or.inl ⟨by rfl, ?hy⟩) hHeld ?_
  case hy => intro w0 hSw; (try dsimp only at hSw); go_simp; (try with_reducible rfl)
  (try simp only [Act.put, List.setIfInBounds_toArray, List.set_cons_zero, List.set_cons_succ])
  refine wpAnyH_take (i := 11) (oi := { dst := some 84, op := Op.move (Operand.tmp 5), type := 9, pos := _, after := #[{ on := 9, ground := Ground.guard }], guard := some (9, true) }) (v := ?_) rfl (by kernel_rfl) (by kernel_rfl) (by kernel_rfl) (fun _ _ _ h => h) (Or.inl ⟨by rfl, ?hy⟩) hHeld ?_
  case hy => intro w0 hSw; (try dsimp only at hSw); go_simp; (try with_reducible rfl)
  (try simp only [Act.put, List.setIfInBounds_toArray, List.set_cons_zero, List.set_cons_succ])
  refine wpAnyH_take (i := 12) (oi := { dst := some 85, op := Op.call { callee := Callee.builtin Builtin.len, args := #[Operand.tmp 84], argTypes := #[9] }, type := 3, pos := _, after := #[{ on := 11, ground := Ground.data }, { on := 9, ground := Ground.guard }], guard := some (9, true) }) (v := ?_) rfl (by kernel_rfl) (by kernel_rfl) (by kernel_rfl) (fun _ _ _ h => h) (Or.inl ⟨by rfl, ?hy⟩) hHeld ?_
  case hy => intro w0 hSw; (try dsimp only at hSw); go_simp; (try with_reducible rfl)
  (try simp only [Act.put, List.setIfInBounds_toArray, List.set_cons_zero, List.set_cons_succ])
  refine wpAnyH_take (i := 13) (oi := { dst := some 86, op := Op.binOp BinOp.neq 3 (Operand.tmp 83) (Operand.tmp 85) 3, type := 4, pos := _, after := #[{ on := 10, ground := Ground.data }, { on := 12, ground := Ground.data }, { on := 9, ground := Ground.guard }], guard := some (9, true) }) (v := ?_) rfl (by kernel_rfl) (by kernel_rfl) (by kernel_rfl) (fun _ _ _ h => h) (Or.inl ⟨by rfl, ?hy⟩) hHeld ?_
  case hy => intro w0 hSw; (try dsimp only at hSw); go_simp; (try with_reducible rfl)
  (try simp only [Act.put, List.setIfInBounds_toArray, List.set_cons_zero, List.set_cons_succ])
  refine wpAnyH_take (i := 14) (oi := { dst := some 87, op := Op.move (Operand.tmp 86), type := 4, pos := _, after := #[{ on := 13, ground := Ground.data }, { on := 9, ground := Ground.chain }, { on := 9, ground := Ground.guard }], guard := some (9, true) }) (v := ?_) rfl (by kernel_rfl) (by kernel_rfl) (by kernel_rfl) (fun _ _ _ h => h) (Or.inl ⟨by rfl, ?hy⟩) hHeld ?_
  case hy => intro w0 hSw; (try dsimp only at hSw); go_simp; (try with_reducible rfl)
  (try simp only [Act.put, List.setIfInBounds_toArray, List.set_cons_zero, List.set_cons_succ])
  refine wpAnyH_take (i := 15) (oi := { dst := some 88, op := Op.load 23 (Operand.tmp 6), type := 23, pos := _, after := #[{ on := 14, ground := Ground.guard }], guard := some (14, false) }) (v := ?_) rfl (by kernel_rfl) (by kernel_rfl) (by kernel_rfl) (fun _ _ _ h => h) (Or.inl ⟨by rfl, ?hy⟩) hHeld ?_
  case hy => intro w0 hSw; have d0 := hSw.cell 3 rfl 0 rfl; have d1 := hSw.cell 3 rfl 1 rfl; have d2 := hSw.cell 3 rfl 2 rfl; clear hSw; go_simp; (try with_reducible rfl)
  (try simp only [Act.put, List.setIfInBounds_toArray, List.set_cons_zero, List.set_cons_succ])
  refine wpAnyH_take (i := 16) (oi := { dst := some 89, op := Op.load 23 (Operand.tmp 8), type := 23, pos := _, after := #[{ on := 14, ground := Ground.guard }], guard := some (14, false) }) (v := ?_) rfl (by kernel_rfl) (by kernel_rfl) (by kernel_rfl) (fun _ _ _ h => h) (Or.inl ⟨by rfl, ?hy⟩) hHeld ?_
  case hy => intro w0 hSw; have d0 := hSw.cell 2 rfl 0 rfl; have d1 := hSw.cell 2 rfl 1 rfl; have d2 := hSw.cell 2 rfl 2 rfl; clear hSw; go_simp; (try with_reducible rfl)
  (try simp only [Act.put, List.setIfInBounds_toArray, List.set_cons_zero, List.set_cons_succ])
  refine wpAnyH_take (i := 17) (oi := { dst := some 90, op := Op.binOp BinOp.eql 23 (Operand.tmp 88) (Operand.tmp 89) 23, type := 4, pos := _, after := #[{ on := 15, ground := Ground.data }, { on := 16, ground := Ground.data }, { on := 14, ground := Ground.guard }], guard := some (14, false) }) (v := ?_) rfl (by kernel_rfl) (by kernel_rfl) (by kernel_rfl) (fun _ _ _ h => h) (Or.inl ⟨by rfl, ?hy⟩) hHeld ?_
  case hy => intro w0 hSw; (try dsimp only at hSw); go_simp; (try with_reducible rfl)
  (try simp only [Act.put, List.setIfInBounds_toArray, List.set_cons_zero, List.set_cons_succ])
  refine wpAnyH_take (i := 18) (oi := { dst := some 91, op := Op.pick (Operand.tmp 87) (Operand.const (Value.bool true)) (Operand.tmp 90), type := 4, pos := _, after := #[{ on := 14, ground := Ground.data }, { on := 17, ground := Ground.data }, { on := 9, ground := Ground.guard }], guard := some (9, true) }) (v := ?_) rfl (by kernel_rfl) (by kernel_rfl) (by kernel_rfl) (fun _ _ _ h => h) (Or.inl ⟨by rfl, ?hy⟩) hHeld ?_
  case hy => intro w0 hSw; (try dsimp only at hSw); go_simp; (try with_reducible rfl)
  (try simp only [Act.put, List.setIfInBounds_toArray, List.set_cons_zero, List.set_cons_succ])
  refine wpAnyH_take (i := 19) (oi := { dst := some 92, op := Op.pick (Operand.tmp 82) (Operand.tmp 91) (Operand.const (Value.bool false)), type := 4, pos := _, after := #[{ on := 9, ground := Ground.data }, { on := 18, ground := Ground.data }], guard := none }) (v := ?_) rfl (by kernel_rfl) (by kernel_rfl) (by kernel_rfl) (fun _ _ _ h => h) (Or.inl ⟨by rfl, ?hy⟩) hHeld ?_
  case hy => intro w0 hSw; (try dsimp only at hSw); go_simp; (try with_reducible rfl)
  (try simp only [Act.put, List.setIfInBounds_toArray, List.set_cons_zero, List.set_cons_succ])
  refine wpAnyH_take (i := 20) (oi := { dst := some 93, op := Op.move (Operand.tmp 92), type := 4, pos := _, after := #[{ on := 19, ground := Ground.data }, { on := 14, ground := Ground.chain }], guard := none }) (v := ?_) rfl (by kernel_rfl) (by kernel_rfl) (by kernel_rfl) (fun _ _ _ h => h) (Or.inl ⟨by rfl, ?hy⟩) hHeld ?_
  case hy => intro w0 hSw; (try dsimp only at hSw); go_simp; (try with_reducible rfl)
  (try simp only [Act.put, List.setIfInBounds_toArray, List.set_cons_zero, List.set_cons_succ])
  refine wpAnyH_take (i := 21) (oi := { dst := some 94, op := Op.move (Operand.tmp 9), type := 28, pos := _, after := #[{ on := 20, ground := Ground.guard }], guard := some (20, true) }) (v := ?_) rfl (by kernel_rfl) (by kernel_rfl) (by kernel_rfl) (fun _ _ _ h => h) (Or.inl ⟨by rfl, ?hy⟩) hHeld ?_
  case hy => intro w0 hSw; (try dsimp only at hSw); go_simp; (try with_reducible rfl)
  (try simp only [Act.put, List.setIfInBounds_toArray, List.set_cons_zero, List.set_cons_succ])
  refine wpAnyH_take (i := 22) (oi := { dst := some 95, op := Op.binOp BinOp.eql 28 (Operand.tmp 94) (Operand.const (Value.int IntKind.i64 0)) 28, type := 4, pos := _, after := #[{ on := 21, ground := Ground.data }, { on := 20, ground := Ground.guard }], guard := some (20, true) }) (v := ?_) rfl (by kernel_rfl) (by kernel_rfl) (by kernel_rfl) (fun _ _ _ h => h) (Or.inl ⟨by rfl, ?hy⟩) hHeld ?_
  case hy => intro w0 hSw; (try dsimp only at hSw); go_simp; (try with_reducible rfl)
  (try simp only [Act.put, List.setIfInBounds_toArray, List.set_cons_zero, List.set_cons_succ])
  refine wpAnyH_take (i := 23) (oi := { dst := some 96, op := Op.pick (Operand.tmp 93) (Operand.tmp 95) (Operand.const (Value.bool false)), type := 4, pos := _, after := #[{ on := 20, ground := Ground.data }, { on := 22, ground := Ground.data }], guard := none }) (v := ?_) rfl (by kernel_rfl) (by kernel_rfl) (by kernel_rfl) (fun _ _ _ h => h) (Or.inl ⟨by rfl, ?hy⟩) hHeld ?_
  case hy => intro w0 hSw; (try dsimp only at hSw); go_simp; (try with_reducible rfl)
  (try simp only [Act.put, List.setIfInBounds_toArray, List.set_cons_zero, List.set_cons_succ])
  refine wpAnyH_take (i := 24) (oi := { dst := some 97, op := Op.move (Operand.tmp 96), type := 4, pos := _, after := #[{ on := 23, ground := Ground.data }, { on := 20, ground := Ground.chain }], guard := none }) (v := ?_) rfl (by kernel_rfl) (by kernel_rfl) (by kernel_rfl) (fun _ _ _ h => h) (Or.inl ⟨by rfl, ?hy⟩) hHeld ?_
  case hy => intro w0 hSw; (try dsimp only at hSw); go_simp; (try with_reducible rfl)
  (try simp only [Act.put, List.setIfInBounds_toArray, List.set_cons_zero, List.set_cons_succ])
  refine wpAnyH_take (i := 25) (oi := { dst := some 98, op := Op.move (Operand.tmp 11), type := 28, pos := _, after := #[{ on := 24, ground := Ground.guard }], guard := some (24, true) }) (v := ?_) rfl (by kernel_rfl) (by kernel_rfl) (by kernel_rfl) (fun _ _ _ h => h) (Or.inl ⟨by rfl, ?hy⟩) hHeld ?_
  case hy => intro w0 hSw; (try dsimp only at hSw); go_simp; (try with_reducible rfl)
  (try simp only [Act.put, List.setIfInBounds_toArray, List.set_cons_zero, List.set_cons_succ])
  refine wpAnyH_take (i := 26) (oi := { dst := some 99, op := Op.move (Operand.tmp 9), type := 28, pos := _, after := #[{ on := 24, ground := Ground.guard }], guard := some (24, true) }) (v := ?_) rfl (by kernel_rfl) (by kernel_rfl) (by kernel_rfl) (fun _ _ _ h => h) (Or.inl ⟨by rfl, ?hy⟩) hHeld ?_
  case hy => intro w0 hSw; (try dsimp only at hSw); go_simp; (try with_reducible rfl)
  (try simp only [Act.put, List.setIfInBounds_toArray, List.set_cons_zero, List.set_cons_succ])
  refine wpAnyH_take (i := 27) (oi := { dst := some 100, op := Op.binOp BinOp.eql 28 (Operand.tmp 98) (Operand.tmp 99) 28, type := 4, pos := _, after := #[{ on := 25, ground := Ground.data }, { on := 26, ground := Ground.data }, { on := 24, ground := Ground.guard }], guard := some (24, true) }) (v := ?_) rfl (by kernel_rfl) (by kernel_rfl) (by kernel_rfl) (fun _ _ _ h => h) (Or.inl ⟨by rfl, ?hy⟩) hHeld ?_
  case hy => intro w0 hSw; (try dsimp only at hSw); go_simp; (try with_reducible rfl)
  (try simp only [Act.put, List.setIfInBounds_toArray, List.set_cons_zero, List.set_cons_succ])
  refine wpAnyH_take (i := 28) (oi := { dst := some 101, op := Op.pick (Operand.tmp 97) (Operand.tmp 100) (Operand.const (Value.bool false)), type := 4, pos := _, after := #[{ on := 24, ground := Ground.data }, { on := 27, ground := Ground.data }], guard := none }) (v := ?_) rfl (by kernel_rfl) (by kernel_rfl) (by kernel_rfl) (fun _ _ _ h => h) (Or.inl ⟨by rfl, ?hy⟩) hHeld ?_
  case hy => intro w0 hSw; (try dsimp only at hSw); go_simp; (try with_reducible rfl)
  (try simp only [Act.put, List.setIfInBounds_toArray, List.set_cons_zero, List.set_cons_succ])
  refine wpAnyH_take (i := 29) (oi := { dst := some 102, op := Op.move (Operand.tmp 101), type := 4, pos := _, after := #[{ on := 28, ground := Ground.data }, { on := 24, ground := Ground.chain }], guard := none }) (v := ?_) rfl (by kernel_rfl) (by kernel_rfl) (by kernel_rfl) (fun _ _ _ h => h) (Or.inl ⟨by rfl, ?hy⟩) hHeld ?_
  case hy => intro w0 hSw; (try dsimp only at hSw); go_simp; (try with_reducible rfl)
  (try simp only [Act.put, List.setIfInBounds_toArray, List.set_cons_zero, List.set_cons_succ])
  refine wpAnyH_take (i := 30) (oi := { dst := some 103, op := Op.move (Operand.tmp 13), type := 28, pos := _, after := #[{ on := 29, ground := Ground.guard }], guard := some (29, true) }) (v := ?_) rfl (by kernel_rfl) (by kernel_rfl) (by kernel_rfl) (fun _ _ _ h => h) (Or.inl ⟨by rfl, ?hy⟩) hHeld ?_
  case hy => intro w0 hSw; (try dsimp only at hSw); go_simp; (try with_reducible rfl)
  (try simp only [Act.put, List.setIfInBounds_toArray, List.set_cons_zero, List.set_cons_succ])
  refine wpAnyH_take (i := 31) (oi := { dst := some 104, op := Op.move (Operand.tmp 9), type := 28, pos := _, after := #[{ on := 29, ground := Ground.guard }], guard := some (29, true) }) (v := ?_) rfl (by kernel_rfl) (by kernel_rfl) (by kernel_rfl) (fun _ _ _ h => h) (Or.inl ⟨by rfl, ?hy⟩) hHeld ?_
  case hy => intro w0 hSw; (try dsimp only at hSw); go_simp; (try with_reducible rfl)
  (try simp only [Act.put, List.setIfInBounds_toArray, List.set_cons_zero, List.set_cons_succ])
  refine wpAnyH_take (i := 32) (oi := { dst := some 105, op := Op.binOp BinOp.eql 28 (Operand.tmp 103) (Operand.tmp 104) 28, type := 4, pos := _, after := #[{ on := 30, ground := Ground.data }, { on := 31, ground := Ground.data }, { on := 29, ground := Ground.guard }], guard := some (29, true) }) (v := ?_) rfl (by kernel_rfl) (by kernel_rfl) (by kernel_rfl) (fun _ _ _ h => h) (Or.inl ⟨by rfl, ?hy⟩) hHeld ?_
  case hy => intro w0 hSw; (try dsimp only at hSw); go_simp; (try with_reducible rfl)
  (try simp only [Act.put, List.setIfInBounds_toArray, List.set_cons_zero, List.set_cons_succ])
  refine wpAnyH_take (i := 33) (oi := { dst := some 106, op := Op.pick (Operand.tmp 102) (Operand.tmp 105) (Operand.const (Value.bool false)), type := 4, pos := _, after := #[{ on := 29, ground := Ground.data }, { on := 32, ground := Ground.data }], guard := none }) (v := ?_) rfl (by kernel_rfl) (by kernel_rfl) (by kernel_rfl) (fun _ _ _ h => h) (Or.inl ⟨by rfl, ?hy⟩) hHeld ?_
  case hy => intro w0 hSw; (try dsimp only at hSw); go_simp; (try with_reducible rfl)
  (try simp only [Act.put, List.setIfInBounds_toArray, List.set_cons_zero, List.set_cons_succ])
  refine wpAnyH_take (i := 34) (oi := { dst := some 107, op := Op.move (Operand.tmp 106), type := 4, pos := _, after := #[{ on := 33, ground := Ground.data }, { on := 29, ground := Ground.chain }], guard := none }) (v := ?_) rfl (by kernel_rfl) (by kernel_rfl) (by kernel_rfl) (fun _ _ _ h => h) (Or.inl ⟨by rfl, ?hy⟩) hHeld ?_
  case hy => intro w0 hSw; (try dsimp only at hSw); go_simp; (try with_reducible rfl)
  (try simp only [Act.put, List.setIfInBounds_toArray, List.set_cons_zero, List.set_cons_succ])
  refine wpAnyH_take (i := 35) (oi := { dst := some 108, op := Op.load 23 (Operand.tmp 10), type := 23, pos := _, after := #[{ on := 34, ground := Ground.guard }], guard := some (34, true) }) (v := ?_) rfl (by kernel_rfl) (by kernel_rfl) (by kernel_rfl) (fun _ _ _ h => h) (Or.inl ⟨by rfl, ?hy⟩) hHeld ?_
  case hy => intro w0 hSw; have d0 := hSw.cell 1 rfl 0 rfl; have d1 := hSw.cell 1 rfl 1 rfl; have d2 := hSw.cell 1 rfl 2 rfl; clear hSw; go_simp; (try with_reducible rfl)
  (try simp only [Act.put, List.setIfInBounds_toArray, List.set_cons_zero, List.set_cons_succ])
  refine wpAnyH_take (i := 36) (oi := { dst := some 109, op := Op.load 23 (Operand.tmp 12), type := 23, pos := _, after := #[{ on := 34, ground := Ground.guard }], guard := some (34, true) }) (v := ?_) rfl (by kernel_rfl) (by kernel_rfl) (by kernel_rfl) (fun _ _ _ h => h) (Or.inl ⟨by rfl, ?hy⟩) hHeld ?_
  case hy => intro w0 hSw; have d0 := hSw.cell 0 rfl 0 rfl; have d1 := hSw.cell 0 rfl 1 rfl; have d2 := hSw.cell 0 rfl 2 rfl; clear hSw; go_simp; (try with_reducible rfl)
  (try simp only [Act.put, List.setIfInBounds_toArray, List.set_cons_zero, List.set_cons_succ])
  refine wpAnyH_take (i := 37) (oi := { dst := some 110, op := Op.binOp BinOp.eql 23 (Operand.tmp 108) (Operand.tmp 109) 23, type := 4, pos := _, after := #[{ on := 35, ground := Ground.data }, { on := 36, ground := Ground.data }, { on := 34, ground := Ground.guard }], guard := some (34, true) }) (v := ?_) rfl (by kernel_rfl) (by kernel_rfl) (by kernel_rfl) (fun _ _ _ h => h) (Or.inl ⟨by rfl, ?hy⟩) hHeld ?_
  case hy => intro w0 hSw; (try dsimp only at hSw); go_simp; (try with_reducible rfl)
  (try simp only [Act.put, List.setIfInBounds_toArray, List.set_cons_zero, List.set_cons_succ])
  refine wpAnyH_take (i := 38) (oi := { dst := some 111, op := Op.pick (Operand.tmp 107) (Operand.tmp 110) (Operand.const (Value.bool false)), type := 4, pos := _, after := #[{ on := 34, ground := Ground.data }, { on := 37, ground := Ground.data }], guard := none }) (v := ?_) rfl (by kernel_rfl) (by kernel_rfl) (by kernel_rfl) (fun _ _ _ h => h) (Or.inl ⟨by rfl, ?hy⟩) hHeld ?_
  case hy => intro w0 hSw; (try dsimp only at hSw); go_simp; (try with_reducible rfl)
  (try simp only [Act.put, List.setIfInBounds_toArray, List.set_cons_zero, List.set_cons_succ])
  refine wpAnyH_take (i := 39) (oi := { dst := some 4, op := Op.assign (Operand.tmp 111), type := 4, pos := _, after := #[{ on := 38, ground := Ground.data }, { on := 34, ground := Ground.chain }, { on := 0, ground := Ground.phase }, { on := 1, ground := Ground.phase }, { on := 2, ground := Ground.phase }, { on := 3, ground := Ground.phase }, { on := 4, ground := Ground.phase }, { on := 5, ground := Ground.phase }, { on := 6, ground := Ground.phase }, { on := 7, ground := Ground.phase }, { on := 8, ground := Ground.phase }, { on := 9, ground := Ground.phase }, { on := 10, ground := Ground.phase }, { on := 11, ground := Ground.phase }, { on := 12, ground := Ground.phase }, { on := 13, ground := Ground.phase }, { on := 14, ground := Ground.phase }, { on := 15, ground := Ground.phase }, { on := 16, ground := Ground.phase }, { on := 17, ground := Ground.phase }, { on := 18, ground := Ground.phase }, { on := 19, ground := Ground.phase }, { on := 20, ground := Ground.phase }, { on := 21, ground := Ground.phase }, { on := 22, ground := Ground.phase }, { on := 23, ground := Ground.phase }, { on := 24, ground := Ground.phase }, { on := 25, ground := Ground.phase }, { on := 26, ground := Ground.phase }, { on := 27, ground := Ground.phase }, { on := 28, ground := Ground.phase }, { on := 29, ground := Ground.phase }, { on := 30, ground := Ground.phase }, { on := 31, ground := Ground.phase }, { on := 32, ground := Ground.phase }, { on := 33, ground := Ground.phase }, { on := 34, ground := Ground.phase }, { on := 35, ground := Ground.phase }, { on := 36, ground := Ground.phase }, { on := 37, ground := Ground.phase }, { on := 38, ground := Ground.phase }], guard := none }) (v := ?_) rfl (by kernel_rfl) (by kernel_rfl) (by kernel_rfl) (fun _ _ _ h => h) (Or.inl ⟨by rfl, ?hy⟩) hHeld ?_
  case hy => intro w0 hSw; (try dsimp only at hSw); go_simp; (try with_reducible rfl)
  (try simp only [Act.put, List.setIfInBounds_toArray, List.set_cons_zero, List.set_cons_succ])
  refine wpAnyH_done (by kernel_rfl) ?_ _
  clear hHeld
  have HSe := Lib.hid hS
  clear hS
  go_wp2
  go_ret
  exact ⟨rfl, HSe.out.below⟩

set_option maxHeartbeats 4000000 in
theorem fileCut_farn {E : World → Prop} (HS : Hid (FileK E)) (HC : Hid (FiledK E)) (m : Int) (k l : ByteArray) (n : Int) (r x v : ByteArray) (w : World) (hE : E w) (hb : decide (2000 < k.size ∨ 2000 < l.size) = false) (j2 : ((l.size : Int) < n) = True) (j3 : (n = (r.size : Int)) = False) (hv : r.extract 0 n.toNat = v) (h0 : 0 ≤ n) (hnr : n ≤ (r.size : Int)) (Iw : Hid (wrap64 ((k.size : Int) + (l.size : Int)) = (k.size : Int) + (l.size : Int)))
    (KI : ∀ (W : World) (_h : E W), Hid (Calls Try.prog 22 #[.agg #[.int .i64 m, .string k, .string l]] W fun e w' => e = .returned (.bool true) ∧ Below W.heap.size W w'))
    (K1 : ∀ (W : World) (_h : E W), Hid (Calls Try.prog 24 #[.agg #[.int .i64 m, .string k, .string l]] W fun e w' => e = .returned (.string r) ∧ Below W.heap.size W w'))
    (K2 : ∀ (W : World) (_h : E W), Hid (Calls Try.prog 17 #[.agg #[.int .i64 m, .string k, .string l], .int .i64 n] W fun e w' => e = .returned (.tuple #[.agg #[.int .i64 m, .string v, .string ⟨#[]⟩], .int .i64 0]) ∧ Below W.heap.size W w'))
    (K3 : ∀ (W : World) (_h : E W), Hid (Calls Try.prog 13 #[.agg #[.int .i64 m, .string k, .string l]] W fun e w' => e = .returned (.tuple #[.agg #[.int .i64 m, .string r, .string ⟨#[]⟩], .int .i64 0]) ∧ Below W.heap.size W w'))
    (K4 : ∀ (W : World) (_h : E W), Hid (Calls Try.prog 15 #[.agg #[.int .i64 m, .string k, .string l], .int .i64 n] W fun e w' => e = .returned (.tuple #[.agg #[.int .i64 m, .string x, .string ⟨#[]⟩], .int .i64 0]) ∧ Below W.heap.size W w'))
    (K5 : ∀ (W : World) (_h : E W), Hid (Calls Try.prog 17 #[.agg #[.int .i64 m, .string k, .string l], .int .i64 ((k.size : Int) + (l.size : Int))] W fun e w' => e = .returned (.tuple #[.agg #[.int .i64 m, .string x, .string ⟨#[]⟩], .int .i64 0]) ∧ Below W.heap.size W w'))
    (K6 : ∀ (W : World) (_h : E W), Hid (Calls Try.prog 24 #[.agg #[.int .i64 m, .string v, .string ⟨#[]⟩]] W fun e w' => e = .returned (.string v) ∧ Below W.heap.size W w')) :
    Calls Try.prog 6 #[.agg #[.int .i64 m, .string k, .string l], .int .i64 n] w fun e w' => e = .returned (.bool true) ∧ Below w.heap.size w w' := by
  have p1 := fun W => Lib.hid (FRBig_any m k l W)
  rw [hb] at p1
  have S0 := Lib.hid (((St.start w).more (eFi HS) hE).new #[.int .i64 m, .string k, .string l] 23)
  clear hb hE
  have Hv := Lib.hid hv
  clear hv
  have Hnr := Lib.hid hnr
  have J3 := Lib.hid j3
  have H0 := Lib.hid h0
  clear hnr j3 h0
  go_enter Try.func6, Try.ntmps6
  go_wp2_with (refine wpList_load_st rfl 23 _ rfl S0.out 0 _ _ rfl rfl _ Try.underlying23 rfl (by rfl) ?_)
  refine (p1 _).out.mono ?_
  rintro e w1 ⟨rfl, hB⟩
  have S1 := Lib.hid (S0.out.on hB)
  clear hB S0
  clear p1
  obtain ⟨p0, hp0⟩ : ∃ p, p = w.heap.size := ⟨_, rfl⟩
  rw [← hp0] at S1 ⊢
  clear hp0
  go_wp2_with (refine wpList_loadg_st (by rfl) 23 _ rfl S1.out 0 _ _ rfl rfl _ Try.underlying23 rfl (by rfl) ?_)
  refine (KI w1 (S1.out.fact 0 rfl)).out.mono ?_
  rintro e w2 ⟨rfl, hB⟩
  have S2 := Lib.hid (S1.out.on hB)
  clear hB S1
  go_wp2_with (refine wpList_load_st rfl 23 _ rfl S2.out 0 _ _ rfl rfl _ Try.underlying23 rfl (by rfl) ?_)
  refine (K1 w2 (S2.out.fact 0 rfl)).out.mono ?_
  rintro e w3 ⟨rfl, hB⟩
  have S3 := Lib.hid (S2.out.on hB)
  clear hB S2
  go_wp2_with (refine wpList_load_st rfl 23 _ rfl S3.out 0 _ _ rfl rfl _ Try.underlying23 rfl (by rfl) ?_)
  refine (K2 w3 (S3.out.fact 0 rfl)).out.mono ?_
  rintro e w4 ⟨rfl, hB⟩
  have S4 := Lib.hid (S3.out.on hB)
  clear hB S3
  go_wp2_with (first
    | (refine wpList_store_st rfl 23 _ _ rfl S4.out _ #[.int .i64 m, .string v, .string ⟨#[]⟩] _ rfl rfl (by rfl) rfl (fil_one3 _ _ _) ?_; intro pa w5 hp hS hBn; (try rw [← hp]); have S5 := Lib.hid hS; clear hS hp hBn)
    | (refine wpList_load_st rfl 23 _ rfl S5.out 1 _ _ rfl rfl _ Try.underlying23 rfl (by rfl) ?_))
  refine (K3 w5 (S5.out.fact 0 rfl)).out.mono ?_
  rintro e w6 ⟨rfl, hB⟩
  have S6 := Lib.hid (S5.out.on hB)
  clear hB S5
  go_wp2_with (first
    | (refine wpList_store_st rfl 23 _ _ rfl S6.out _ #[.int .i64 m, .string r, .string ⟨#[]⟩] _ rfl rfl (by rfl) rfl (fil_one3 _ _ _) ?_; intro pb w7 hp hS hBn; (try rw [← hp]); have S7 := Lib.hid hS; clear hS hp hBn)
    | (refine wpList_load_st rfl 23 _ rfl S7.out 2 _ _ rfl rfl _ Try.underlying23 rfl (by rfl) ?_))
  refine (K4 w7 (S7.out.fact 0 rfl)).out.mono ?_
  rintro e w8 ⟨rfl, hB⟩
  have S8 := Lib.hid (S7.out.on hB)
  clear hB S7
  have iw := Iw.out
  go_wp2_with (first
    | (refine wpList_store_st rfl 23 _ _ rfl S8.out _ #[.int .i64 m, .string x, .string ⟨#[]⟩] _ rfl rfl (by rfl) rfl (fil_one3 _ _ _) ?_; intro pc w9 hp hS hBn; (try rw [← hp]); have S9 := Lib.hid hS; clear hS hp hBn; have d1 := S9.out.cell 3 rfl 1 rfl; have d2 := S9.out.cell 3 rfl 2 rfl)
    | (refine wpList_load_st rfl 23 _ rfl S9.out 3 _ _ rfl rfl _ Try.underlying23 rfl (by rfl) ?_))
  refine (K5 w9 (S9.out.fact 0 rfl)).out.mono ?_
  rintro e w10 ⟨rfl, hB⟩
  have S10 := Lib.hid (S9.out.on hB)
  clear hB S9
  clear d1 d2 iw K1 K2 K3 K4 K5 KI
  go_upto_region 10 with (refine wpList_store_st rfl 23 _ _ rfl S10.out _ #[.int .i64 m, .string x, .string ⟨#[]⟩] _ rfl rfl (by rfl) rfl (fil_one3 _ _ _) ?_; intro pd w11 hp hS hBn; (try rw [← hp]); have S11 := Lib.hid hS; clear hS hp hBn)
  clear S10
  go_wp2_with fail
  have hS : St w w11.drew [(pd, #[.int .i64 m, .string x, .string ⟨#[]⟩]), (pc, #[.int .i64 m, .string x, .string ⟨#[]⟩]), (pb, #[.int .i64 m, .string r, .string ⟨#[]⟩]), (pa, #[.int .i64 m, .string v, .string ⟨#[]⟩]), (p0, #[.int .i64 m, .string k, .string l])] [eFi HS] := S11.out.drew
  clear S11
  refine wp_region_held_drew (S := (fun W : World => St w W [(pd, #[.int .i64 m, .string x, .string ⟨#[]⟩]), (pc, #[.int .i64 m, .string x, .string ⟨#[]⟩]), (pb, #[.int .i64 m, .string r, .string ⟨#[]⟩]), (pa, #[.int .i64 m, .string v, .string ⟨#[]⟩]), (p0, #[.int .i64 m, .string k, .string l])] [eFi HS])) (by kernel_rfl) hS (fun hHeld => ?_)
  refine wpAnyH_ready (rs := [0]) (by kernel_rfl) (by simp) ?_
  refine AllReadyH.cons (o := { dst := some 73, op := Op.call { callee := Callee.value (Operand.func 21), args := #[], argTypes := #[] }, type := 4, pos := _, after := #[], guard := none }) rfl (fun K hK => ?_) AllReadyH.nil
  go_simp
  refine (HC.out _ (hS.fact 0 rfl)).mono ?_
  rintro e y1 ⟨rfl, hB'⟩
  replace hS := hS.on hB'
  clear hB'
  go_wp2_with fail
  refine hK.out _ _ hS (fun hHeld => ?_)
  clear hK K
  (try simp only [Act.put, List.setIfInBounds_toArray, List.set_cons_zero, List.set_cons_succ])
  refine wpAnyH_take (i := 1) (oi := { dst := some 74, op := Op.move (Operand.tmp 73), type := 4, pos := _, after := #[{ on := 0, ground := Ground.data }, { on := 0, ground := Ground.chain }], guard := none }) (v := ?_) rfl (by kernel_rfl) (by kernel_rfl) (by kernel_rfl) (fun _ _ _ h => h) (Or.inl ⟨by rfl, ?hy⟩) hHeld ?_
  case hy => intro w0 hSw; (try dsimp only at hSw); go_simp; (try with_reducible rfl)
  (try simp only [Act.put, List.setIfInBounds_toArray, List.set_cons_zero, List.set_cons_succ])
  refine wpAnyH_take (i := 2) (oi := { dst := some 75, op := Op.load 23 (Operand.tmp 6), type := 23, pos := _, after := #[{ on := 1, ground := Ground.guard }], guard := some (1, true) }) (v := ?_) rfl (by kernel_rfl) (by kernel_rfl) (by kernel_rfl) (fun _ _ _ h => h) (Or.inl ⟨by rfl, ?hy⟩) hHeld ?_
  case hy => intro w0 hSw; have d0 := hSw.cell 3 rfl 0 rfl; have d1 := hSw.cell 3 rfl 1 rfl; have d2 := hSw.cell 3 rfl 2 rfl; clear hSw; go_simp; (try with_reducible rfl)
  (try simp only [Act.put, List.setIfInBounds_toArray, List.set_cons_zero, List.set_cons_succ])
  refine wpAnyH_take (i := 4) (oi := { dst := some 77, op := Op.move (Operand.tmp 5), type := 9, pos := _, after := #[{ on := 1, ground := Ground.guard }], guard := some (1, true) }) (v := ?_) rfl (by kernel_rfl) (by kernel_rfl) (by kernel_rfl) (fun _ _ _ h => h) (Or.inl ⟨by rfl, ?hy⟩) hHeld ?_
  case hy => intro w0 hSw; (try dsimp only at hSw); go_simp; (try with_reducible rfl)
  (try simp only [Act.put, List.setIfInBounds_toArray, List.set_cons_zero, List.set_cons_succ])
  refine wpAnyH_take (i := 5) (oi := { dst := some 78, op := Op.move (Operand.tmp 1), type := 3, pos := _, after := #[{ on := 1, ground := Ground.guard }], guard := some (1, true) }) (v := ?_) rfl (by kernel_rfl) (by kernel_rfl) (by kernel_rfl) (fun _ _ _ h => h) (Or.inl ⟨by rfl, ?hy⟩) hHeld ?_
  case hy => intro w0 hSw; (try dsimp only at hSw); go_simp; (try with_reducible rfl)
  (try simp only [Act.put, List.setIfInBounds_toArray, List.set_cons_zero, List.set_cons_succ])
  refine wpAnyH_take (i := 6) (oi := { dst := some 79, op := Op.slice 9 (Operand.tmp 77) none (some (Operand.tmp 78)) none, type := 9, pos := _, after := #[{ on := 4, ground := Ground.data }, { on := 5, ground := Ground.data }, { on := 1, ground := Ground.guard }], guard := some (1, true) }) (v := ?_) rfl (by kernel_rfl) (by kernel_rfl) (by kernel_rfl) (fun _ _ _ h => h) (Or.inl ⟨by rfl, ?hy⟩) hHeld ?_
  case hy => intro w0 hSw; (try dsimp only at hSw); have hv := Hv.out; have hnr := Hnr.out; have h0 := H0.out; go_simp; (try with_reducible rfl)
  (try simp only [Act.put, List.setIfInBounds_toArray, List.set_cons_zero, List.set_cons_succ])
  refine wpAnyH_ready (rs := [3]) (by kernel_rfl) (by simp) ?_
  refine AllReadyH.cons (o := { dst := some 76, op := Op.call { callee := Callee.value (Operand.func 24), args := #[Operand.tmp 75], argTypes := #[23] }, type := 9, pos := _, after := #[{ on := 2, ground := Ground.data }, { on := 1, ground := Ground.chain }, { on := 1, ground := Ground.guard }], guard := some (1, true) }) rfl (fun K hK => ?_) AllReadyH.nil
  go_simp
  refine (K6 _ (hS.fact 0 rfl)).out.mono ?_
  rintro e y2 ⟨rfl, hB'⟩
  replace hS := hS.on hB'
  clear hB'
  go_wp2_with fail
  refine hK.out _ _ hS (fun hHeld => ?_)
  clear hK K
  (try simp only [Act.put, List.setIfInBounds_toArray, List.set_cons_zero, List.set_cons_succ])
  refine wpAnyH_take (i := 7) (oi := { dst := some 80, op := Op.binOp BinOp.eql 9 (Operand.tmp 76) (Operand.tmp 79) 9, type := 4, pos := _, after := #[{ on := 3, ground := Ground.data }, { on := 6, ground := Ground.data }, { on := 1, ground := Ground.guard }], guard := some (1, true) }) (v := ?_) rfl (by kernel_rfl) (by kernel_rfl) (by kernel_rfl) (fun _ _ _ h => h) (Or.inl ⟨by rfl, ?hy⟩) hHeld ?_
  case hy => intro w0 hSw; (try dsimp only at hSw); go_simp; (try with_reducible rfl)
  (try simp only [Act.put, List.setIfInBounds_toArray, List.set_cons_zero, List.set_cons_succ])
  refine wpAnyH_take (i := 8) (oi := { dst := some 81, op := Op.pick (Operand.tmp 74) (Operand.tmp 80) (Operand.const (Value.bool false)), type := 4, pos := _, after := #[{ on := 1, ground := Ground.data }, { on := 7, ground := Ground.data }], guard := none }) (v := ?_) rfl (by kernel_rfl) (by kernel_rfl) (by kernel_rfl) (fun _ _ _ h => h) (Or.inl ⟨by rfl, ?hy⟩) hHeld ?_
  case hy => intro w0 hSw; (try dsimp only at hSw); go_simp; (try with_reducible rfl)
  (try simp only [Act.put, List.setIfInBounds_toArray, List.set_cons_zero, List.set_cons_succ])
  refine wpAnyH_take (i := 9) (oi := { dst := some 82, op := Op.move (Operand.tmp 81), type := 4, pos := _, after := #[{ on := 8, ground := Ground.data }, { on := 3, ground := Ground.chain }], guard := none }) (v := ?_) rfl (by kernel_rfl) (by kernel_rfl) (by kernel_rfl) (fun _ _ _ h => h) (Or.inl ⟨by rfl, ?hy⟩) hHeld ?_
  case hy => intro w0 hSw; (try dsimp only at hSw); go_simp; (try with_reducible rfl)
  (try simp only [Act.put, List.setIfInBounds_toArray, List.set_cons_zero, List.set_cons_succ])
  refine wpAnyH_take (i := 10) (oi := { dst := some 83, op := Op.move (Operand.tmp 1), type := 3, pos := _, after := #[{ on := 9, ground := Ground.guard }], guard := some (9, true) }) (v := ?_) rfl (by kernel_rfl) (by kernel_rfl) (by kernel_rfl) (fun _ _ _ h => h) (Or.inl ⟨by rfl, ?hy⟩) hHeld ?_
  case hy => intro w0 hSw; (try dsimp only at hSw); go_simp; (try with_reducible rfl)
  (try simp only [Act.put, List.setIfInBounds_toArray, List.set_cons_zero, List.set_cons_succ])
  refine wpAnyH_take (i := 11) (oi := { dst := some 84, op := Op.move (Operand.tmp 5), type := 9, pos := _, after := #[{ on := 9, ground := Ground.guard }], guard := some (9, true) }) (v := ?_) rfl (by kernel_rfl) (by kernel_rfl) (by kernel_rfl) (fun _ _ _ h => h) (Or.inl ⟨by rfl, ?hy⟩) hHeld ?_
  case hy => intro w0 hSw; (try dsimp only at hSw); go_simp; (try with_reducible rfl)
  (try simp only [Act.put, List.setIfInBounds_toArray, List.set_cons_zero, List.set_cons_succ])
  refine wpAnyH_take (i := 12) (oi := { dst := some 85, op := Op.call { callee := Callee.builtin Builtin.len, args := #[Operand.tmp 84], argTypes := #[9] }, type := 3, pos := _, after := #[{ on := 11, ground := Ground.data }, { on := 9, ground := Ground.guard }], guard := some (9, true) }) (v := ?_) rfl (by kernel_rfl) (by kernel_rfl) (by kernel_rfl) (fun _ _ _ h => h) (Or.inl ⟨by rfl, ?hy⟩) hHeld ?_
  case hy => intro w0 hSw; (try dsimp only at hSw); go_simp; (try with_reducible rfl)
  (try simp only [Act.put, List.setIfInBounds_toArray, List.set_cons_zero, List.set_cons_succ])
  refine wpAnyH_take (i := 13) (oi := { dst := some 86, op := Op.binOp BinOp.neq 3 (Operand.tmp 83) (Operand.tmp 85) 3, type := 4, pos := _, after := #[{ on := 10, ground := Ground.data }, { on := 12, ground := Ground.data }, { on := 9, ground := Ground.guard }], guard := some (9, true) }) (v := ?_) rfl (by kernel_rfl) (by kernel_rfl) (by kernel_rfl) (fun _ _ _ h => h) (Or.inl ⟨by rfl, ?hy⟩) hHeld ?_
  case hy => intro w0 hSw; (try dsimp only at hSw); have j3 := J3.out; have j4 : (n != (r.size : Int)) = true := (by rw [bne_iff_ne]; intro hh; exact cast J3.out hh); have j5 : decide (n = (r.size : Int)) = false := decide_eq_false (fun hh => cast J3.out hh); go_simp; (try simp only [j3, j4, j5, decide_false, Bool.not_false]); (try with_reducible rfl)
  (try simp only [Act.put, List.setIfInBounds_toArray, List.set_cons_zero, List.set_cons_succ])
  refine wpAnyH_take (i := 14) (oi := { dst := some 87, op := Op.move (Operand.tmp 86), type := 4, pos := _, after := #[{ on := 13, ground := Ground.data }, { on := 9, ground := Ground.chain }, { on := 9, ground := Ground.guard }], guard := some (9, true) }) (v := ?_) rfl (by kernel_rfl) (by kernel_rfl) (by kernel_rfl) (fun _ _ _ h => h) (Or.inl ⟨by rfl, ?hy⟩) hHeld ?_
  case hy => intro w0 hSw; (try dsimp only at hSw); go_simp; (try with_reducible rfl)
  (try simp only [Act.put, List.setIfInBounds_toArray, List.set_cons_zero, List.set_cons_succ])
  refine wpAnyH_take (i := 15) (oi := { dst := some 88, op := Op.load 23 (Operand.tmp 6), type := 23, pos := _, after := #[{ on := 14, ground := Ground.guard }], guard := some (14, false) }) (v := undef) rfl (by kernel_rfl) (by kernel_rfl) (by kernel_rfl) (fun _ _ _ h => h) (Or.inr ⟨by rfl, rfl⟩) hHeld ?_
  (try simp only [Act.put, List.setIfInBounds_toArray, List.set_cons_zero, List.set_cons_succ])
  refine wpAnyH_take (i := 16) (oi := { dst := some 89, op := Op.load 23 (Operand.tmp 8), type := 23, pos := _, after := #[{ on := 14, ground := Ground.guard }], guard := some (14, false) }) (v := undef) rfl (by kernel_rfl) (by kernel_rfl) (by kernel_rfl) (fun _ _ _ h => h) (Or.inr ⟨by rfl, rfl⟩) hHeld ?_
  (try simp only [Act.put, List.setIfInBounds_toArray, List.set_cons_zero, List.set_cons_succ])
  refine wpAnyH_take (i := 17) (oi := { dst := some 90, op := Op.binOp BinOp.eql 23 (Operand.tmp 88) (Operand.tmp 89) 23, type := 4, pos := _, after := #[{ on := 15, ground := Ground.data }, { on := 16, ground := Ground.data }, { on := 14, ground := Ground.guard }], guard := some (14, false) }) (v := undef) rfl (by kernel_rfl) (by kernel_rfl) (by kernel_rfl) (fun _ _ _ h => h) (Or.inr ⟨by rfl, rfl⟩) hHeld ?_
  (try simp only [Act.put, List.setIfInBounds_toArray, List.set_cons_zero, List.set_cons_succ])
  refine wpAnyH_take (i := 18) (oi := { dst := some 91, op := Op.pick (Operand.tmp 87) (Operand.const (Value.bool true)) (Operand.tmp 90), type := 4, pos := _, after := #[{ on := 14, ground := Ground.data }, { on := 17, ground := Ground.data }, { on := 9, ground := Ground.guard }], guard := some (9, true) }) (v := ?_) rfl (by kernel_rfl) (by kernel_rfl) (by kernel_rfl) (fun _ _ _ h => h) (Or.inl ⟨by rfl, ?hy⟩) hHeld ?_
  case hy => intro w0 hSw; (try dsimp only at hSw); go_simp; (try with_reducible rfl)
  (try simp only [Act.put, List.setIfInBounds_toArray, List.set_cons_zero, List.set_cons_succ])
  refine wpAnyH_take (i := 19) (oi := { dst := some 92, op := Op.pick (Operand.tmp 82) (Operand.tmp 91) (Operand.const (Value.bool false)), type := 4, pos := _, after := #[{ on := 9, ground := Ground.data }, { on := 18, ground := Ground.data }], guard := none }) (v := ?_) rfl (by kernel_rfl) (by kernel_rfl) (by kernel_rfl) (fun _ _ _ h => h) (Or.inl ⟨by rfl, ?hy⟩) hHeld ?_
  case hy => intro w0 hSw; (try dsimp only at hSw); go_simp; (try with_reducible rfl)
  (try simp only [Act.put, List.setIfInBounds_toArray, List.set_cons_zero, List.set_cons_succ])
  refine wpAnyH_take (i := 20) (oi := { dst := some 93, op := Op.move (Operand.tmp 92), type := 4, pos := _, after := #[{ on := 19, ground := Ground.data }, { on := 14, ground := Ground.chain }], guard := none }) (v := ?_) rfl (by kernel_rfl) (by kernel_rfl) (by kernel_rfl) (fun _ _ _ h => h) (Or.inl ⟨by rfl, ?hy⟩) hHeld ?_
  case hy => intro w0 hSw; (try dsimp only at hSw); go_simp; (try with_reducible rfl)
  (try simp only [Act.put, List.setIfInBounds_toArray, List.set_cons_zero, List.set_cons_succ])
  refine wpAnyH_take (i := 21) (oi := { dst := some 94, op := Op.move (Operand.tmp 9), type := 28, pos := _, after := #[{ on := 20, ground := Ground.guard }], guard := some (20, true) }) (v := ?_) rfl (by kernel_rfl) (by kernel_rfl) (by kernel_rfl) (fun _ _ _ h => h) (Or.inl ⟨by rfl, ?hy⟩) hHeld ?_
  case hy => intro w0 hSw; (try dsimp only at hSw); go_simp; (try with_reducible rfl)
  (try simp only [Act.put, List.setIfInBounds_toArray, List.set_cons_zero, List.set_cons_succ])
  refine wpAnyH_take (i := 22) (oi := { dst := some 95, op := Op.binOp BinOp.eql 28 (Operand.tmp 94) (Operand.const (Value.int IntKind.i64 0)) 28, type := 4, pos := _, after := #[{ on := 21, ground := Ground.data }, { on := 20, ground := Ground.guard }], guard := some (20, true) }) (v := ?_) rfl (by kernel_rfl) (by kernel_rfl) (by kernel_rfl) (fun _ _ _ h => h) (Or.inl ⟨by rfl, ?hy⟩) hHeld ?_
  case hy => intro w0 hSw; (try dsimp only at hSw); go_simp; (try with_reducible rfl)
  (try simp only [Act.put, List.setIfInBounds_toArray, List.set_cons_zero, List.set_cons_succ])
  refine wpAnyH_take (i := 23) (oi := { dst := some 96, op := Op.pick (Operand.tmp 93) (Operand.tmp 95) (Operand.const (Value.bool false)), type := 4, pos := _, after := #[{ on := 20, ground := Ground.data }, { on := 22, ground := Ground.data }], guard := none }) (v := ?_) rfl (by kernel_rfl) (by kernel_rfl) (by kernel_rfl) (fun _ _ _ h => h) (Or.inl ⟨by rfl, ?hy⟩) hHeld ?_
  case hy => intro w0 hSw; (try dsimp only at hSw); go_simp; (try with_reducible rfl)
  (try simp only [Act.put, List.setIfInBounds_toArray, List.set_cons_zero, List.set_cons_succ])
  refine wpAnyH_take (i := 24) (oi := { dst := some 97, op := Op.move (Operand.tmp 96), type := 4, pos := _, after := #[{ on := 23, ground := Ground.data }, { on := 20, ground := Ground.chain }], guard := none }) (v := ?_) rfl (by kernel_rfl) (by kernel_rfl) (by kernel_rfl) (fun _ _ _ h => h) (Or.inl ⟨by rfl, ?hy⟩) hHeld ?_
  case hy => intro w0 hSw; (try dsimp only at hSw); go_simp; (try with_reducible rfl)
  (try simp only [Act.put, List.setIfInBounds_toArray, List.set_cons_zero, List.set_cons_succ])
  refine wpAnyH_take (i := 25) (oi := { dst := some 98, op := Op.move (Operand.tmp 11), type := 28, pos := _, after := #[{ on := 24, ground := Ground.guard }], guard := some (24, true) }) (v := ?_) rfl (by kernel_rfl) (by kernel_rfl) (by kernel_rfl) (fun _ _ _ h => h) (Or.inl ⟨by rfl, ?hy⟩) hHeld ?_
  case hy => intro w0 hSw; (try dsimp only at hSw); go_simp; (try with_reducible rfl)
  (try simp only [Act.put, List.setIfInBounds_toArray, List.set_cons_zero, List.set_cons_succ])
  refine wpAnyH_take (i := 26) (oi := { dst := some 99, op := Op.move (Operand.tmp 9), type := 28, pos := _, after := #[{ on := 24, ground := Ground.guard }], guard := some (24, true) }) (v := ?_) rfl (by kernel_rfl) (by kernel_rfl) (by kernel_rfl) (fun _ _ _ h => h) (Or.inl ⟨by rfl, ?hy⟩) hHeld ?_
  case hy => intro w0 hSw; (try dsimp only at hSw); go_simp; (try with_reducible rfl)
  (try simp only [Act.put, List.setIfInBounds_toArray, List.set_cons_zero, List.set_cons_succ])
  refine wpAnyH_take (i := 27) (oi := { dst := some 100, op := Op.binOp BinOp.eql 28 (Operand.tmp 98) (Operand.tmp 99) 28, type := 4, pos := _, after := #[{ on := 25, ground := Ground.data }, { on := 26, ground := Ground.data }, { on := 24, ground := Ground.guard }], guard := some (24, true) }) (v := ?_) rfl (by kernel_rfl) (by kernel_rfl) (by kernel_rfl) (fun _ _ _ h => h) (Or.inl ⟨by rfl, ?hy⟩) hHeld ?_
  case hy => intro w0 hSw; (try dsimp only at hSw); go_simp; (try with_reducible rfl)
  (try simp only [Act.put, List.setIfInBounds_toArray, List.set_cons_zero, List.set_cons_succ])
  refine wpAnyH_take (i := 28) (oi := { dst := some 101, op := Op.pick (Operand.tmp 97) (Operand.tmp 100) (Operand.const (Value.bool false)), type := 4, pos := _, after := #[{ on := 24, ground := Ground.data }, { on := 27, ground := Ground.data }], guard := none }) (v := ?_) rfl (by kernel_rfl) (by kernel_rfl) (by kernel_rfl) (fun _ _ _ h => h) (Or.inl ⟨by rfl, ?hy⟩) hHeld ?_
  case hy => intro w0 hSw; (try dsimp only at hSw); go_simp; (try with_reducible rfl)
  (try simp only [Act.put, List.setIfInBounds_toArray, List.set_cons_zero, List.set_cons_succ])
  refine wpAnyH_take (i := 29) (oi := { dst := some 102, op := Op.move (Operand.tmp 101), type := 4, pos := _, after := #[{ on := 28, ground := Ground.data }, { on := 24, ground := Ground.chain }], guard := none }) (v := ?_) rfl (by kernel_rfl) (by kernel_rfl) (by kernel_rfl) (fun _ _ _ h => h) (Or.inl ⟨by rfl, ?hy⟩) hHeld ?_
  case hy => intro w0 hSw; (try dsimp only at hSw); go_simp; (try with_reducible rfl)
  (try simp only [Act.put, List.setIfInBounds_toArray, List.set_cons_zero, List.set_cons_succ])
  refine wpAnyH_take (i := 30) (oi := { dst := some 103, op := Op.move (Operand.tmp 13), type := 28, pos := _, after := #[{ on := 29, ground := Ground.guard }], guard := some (29, true) }) (v := ?_) rfl (by kernel_rfl) (by kernel_rfl) (by kernel_rfl) (fun _ _ _ h => h) (Or.inl ⟨by rfl, ?hy⟩) hHeld ?_
  case hy => intro w0 hSw; (try dsimp only at hSw); go_simp; (try with_reducible rfl)
  (try simp only [Act.put, List.setIfInBounds_toArray, List.set_cons_zero, List.set_cons_succ])
  refine wpAnyH_take (i := 31) (oi := { dst := some 104, op := Op.move (Operand.tmp 9), type := 28, pos := _, after := #[{ on := 29, ground := Ground.guard }], guard := some (29, true) }) (v := ?_) rfl (by kernel_rfl) (by kernel_rfl) (by kernel_rfl) (fun _ _ _ h => h) (Or.inl ⟨by rfl, ?hy⟩) hHeld ?_
  case hy => intro w0 hSw; (try dsimp only at hSw); go_simp; (try with_reducible rfl)
  (try simp only [Act.put, List.setIfInBounds_toArray, List.set_cons_zero, List.set_cons_succ])
  refine wpAnyH_take (i := 32) (oi := { dst := some 105, op := Op.binOp BinOp.eql 28 (Operand.tmp 103) (Operand.tmp 104) 28, type := 4, pos := _, after := #[{ on := 30, ground := Ground.data }, { on := 31, ground := Ground.data }, { on := 29, ground := Ground.guard }], guard := some (29, true) }) (v := ?_) rfl (by kernel_rfl) (by kernel_rfl) (by kernel_rfl) (fun _ _ _ h => h) (Or.inl ⟨by rfl, ?hy⟩) hHeld ?_
  case hy => intro w0 hSw; (try dsimp only at hSw); go_simp; (try with_reducible rfl)
  (try simp only [Act.put, List.setIfInBounds_toArray, List.set_cons_zero, List.set_cons_succ])
  refine wpAnyH_take (i := 33) (oi := { dst := some 106, op := Op.pick (Operand.tmp 102) (Operand.tmp 105) (Operand.const (Value.bool false)), type := 4, pos := _, after := #[{ on := 29, ground := Ground.data }, { on := 32, ground := Ground.data }], guard := none }) (v := ?_) rfl (by kernel_rfl) (by kernel_rfl) (by kernel_rfl) (fun _ _ _ h => h) (Or.inl ⟨by rfl, ?hy⟩) hHeld ?_
  case hy => intro w0 hSw; (try dsimp only at hSw); go_simp; (try with_reducible rfl)
  (try simp only [Act.put, List.setIfInBounds_toArray, List.set_cons_zero, List.set_cons_succ])
  refine wpAnyH_take (i := 34) (oi := { dst := some 107, op := Op.move (Operand.tmp 106), type := 4, pos := _, after := #[{ on := 33, ground := Ground.data }, { on := 29, ground := Ground.chain }], guard := none }) (v := ?_) rfl (by kernel_rfl) (by kernel_rfl) (by kernel_rfl) (fun _ _ _ h => h) (Or.inl ⟨by rfl, ?hy⟩) hHeld ?_
  case hy => intro w0 hSw; (try dsimp only at hSw); go_simp; (try with_reducible rfl)
  (try simp only [Act.put, List.setIfInBounds_toArray, List.set_cons_zero, List.set_cons_succ])
  refine wpAnyH_take (i := 35) (oi := { dst := some 108, op := Op.load 23 (Operand.tmp 10), type := 23, pos := _, after := #[{ on := 34, ground := Ground.guard }], guard := some (34, true) }) (v := ?_) rfl (by kernel_rfl) (by kernel_rfl) (by kernel_rfl) (fun _ _ _ h => h) (Or.inl ⟨by rfl, ?hy⟩) hHeld ?_
  case hy => intro w0 hSw; have d0 := hSw.cell 1 rfl 0 rfl; have d1 := hSw.cell 1 rfl 1 rfl; have d2 := hSw.cell 1 rfl 2 rfl; clear hSw; go_simp; (try with_reducible rfl)
  (try simp only [Act.put, List.setIfInBounds_toArray, List.set_cons_zero, List.set_cons_succ])
  refine wpAnyH_take (i := 36) (oi := { dst := some 109, op := Op.load 23 (Operand.tmp 12), type := 23, pos := _, after := #[{ on := 34, ground := Ground.guard }], guard := some (34, true) }) (v := ?_) rfl (by kernel_rfl) (by kernel_rfl) (by kernel_rfl) (fun _ _ _ h => h) (Or.inl ⟨by rfl, ?hy⟩) hHeld ?_
  case hy => intro w0 hSw; have d0 := hSw.cell 0 rfl 0 rfl; have d1 := hSw.cell 0 rfl 1 rfl; have d2 := hSw.cell 0 rfl 2 rfl; clear hSw; go_simp; (try with_reducible rfl)
  (try simp only [Act.put, List.setIfInBounds_toArray, List.set_cons_zero, List.set_cons_succ])
  refine wpAnyH_take (i := 37) (oi := { dst := some 110, op := Op.binOp BinOp.eql 23 (Operand.tmp 108) (Operand.tmp 109) 23, type := 4, pos := _, after := #[{ on := 35, ground := Ground.data }, { on := 36, ground := Ground.data }, { on := 34, ground := Ground.guard }], guard := some (34, true) }) (v := ?_) rfl (by kernel_rfl) (by kernel_rfl) (by kernel_rfl) (fun _ _ _ h => h) (Or.inl ⟨by rfl, ?hy⟩) hHeld ?_
  case hy => intro w0 hSw; (try dsimp only at hSw); go_simp; (try with_reducible rfl)
  (try simp only [Act.put, List.setIfInBounds_toArray, List.set_cons_zero, List.set_cons_succ])
  refine wpAnyH_take (i := 38) (oi := { dst := some 111, op := Op.pick (Operand.tmp 107) (Operand.tmp 110) (Operand.const (Value.bool false)), type := 4, pos := _, after := #[{ on := 34, ground := Ground.data }, { on := 37, ground := Ground.data }], guard := none }) (v := ?_) rfl (by kernel_rfl) (by kernel_rfl) (by kernel_rfl) (fun _ _ _ h => h) (Or.inl ⟨by rfl, ?hy⟩) hHeld ?_
  case hy => intro w0 hSw; (try dsimp only at hSw); go_simp; (try with_reducible rfl)
  (try simp only [Act.put, List.setIfInBounds_toArray, List.set_cons_zero, List.set_cons_succ])
  refine wpAnyH_take (i := 39) (oi := { dst := some 4, op := Op.assign (Operand.tmp 111), type := 4, pos := _, after := #[{ on := 38, ground := Ground.data }, { on := 34, ground := Ground.chain }, { on := 0, ground := Ground.phase }, { on := 1, ground := Ground.phase }, { on := 2, ground := Ground.phase }, { on := 3, ground := Ground.phase }, { on := 4, ground := Ground.phase }, { on := 5, ground := Ground.phase }, { on := 6, ground := Ground.phase }, { on := 7, ground := Ground.phase }, { on := 8, ground := Ground.phase }, { on := 9, ground := Ground.phase }, { on := 10, ground := Ground.phase }, { on := 11, ground := Ground.phase }, { on := 12, ground := Ground.phase }, { on := 13, ground := Ground.phase }, { on := 14, ground := Ground.phase }, { on := 15, ground := Ground.phase }, { on := 16, ground := Ground.phase }, { on := 17, ground := Ground.phase }, { on := 18, ground := Ground.phase }, { on := 19, ground := Ground.phase }, { on := 20, ground := Ground.phase }, { on := 21, ground := Ground.phase }, { on := 22, ground := Ground.phase }, { on := 23, ground := Ground.phase }, { on := 24, ground := Ground.phase }, { on := 25, ground := Ground.phase }, { on := 26, ground := Ground.phase }, { on := 27, ground := Ground.phase }, { on := 28, ground := Ground.phase }, { on := 29, ground := Ground.phase }, { on := 30, ground := Ground.phase }, { on := 31, ground := Ground.phase }, { on := 32, ground := Ground.phase }, { on := 33, ground := Ground.phase }, { on := 34, ground := Ground.phase }, { on := 35, ground := Ground.phase }, { on := 36, ground := Ground.phase }, { on := 37, ground := Ground.phase }, { on := 38, ground := Ground.phase }], guard := none }) (v := ?_) rfl (by kernel_rfl) (by kernel_rfl) (by kernel_rfl) (fun _ _ _ h => h) (Or.inl ⟨by rfl, ?hy⟩) hHeld ?_
  case hy => intro w0 hSw; (try dsimp only at hSw); go_simp; (try with_reducible rfl)
  (try simp only [Act.put, List.setIfInBounds_toArray, List.set_cons_zero, List.set_cons_succ])
  refine wpAnyH_done (by kernel_rfl) ?_ _
  clear hHeld
  have HSe := Lib.hid hS
  clear hS
  go_wp2
  go_ret
  exact ⟨rfl, HSe.out.below⟩

set_option maxHeartbeats 4000000 in
theorem fileCut_mide {E : World → Prop} (HS : Hid (FileK E)) (HC : Hid (FiledK E)) (m : Int) (k l : ByteArray) (r x : ByteArray) (w : World) (hE : E w) (hb : decide (2000 < k.size ∨ 2000 < l.size) = false) (j2 : ((l.size : Int) < (r.size : Int)) = False) (hv : r.extract 0 r.size = r) (Iw : Hid (wrap64 ((k.size : Int) + (r.size : Int)) = (k.size : Int) + (r.size : Int)))
    (KI : ∀ (W : World) (_h : E W), Hid (Calls Try.prog 22 #[.agg #[.int .i64 m, .string k, .string l]] W fun e w' => e = .returned (.bool true) ∧ Below W.heap.size W w'))
    (K1 : ∀ (W : World) (_h : E W), Hid (Calls Try.prog 24 #[.agg #[.int .i64 m, .string k, .string l]] W fun e w' => e = .returned (.string r) ∧ Below W.heap.size W w'))
    (K2 : ∀ (W : World) (_h : E W), Hid (Calls Try.prog 17 #[.agg #[.int .i64 m, .string k, .string l], .int .i64 (r.size : Int)] W fun e w' => e = .returned (.tuple #[.agg #[.int .i64 m, .string r, .string ⟨#[]⟩], .int .i64 0]) ∧ Below W.heap.size W w'))
    (K3 : ∀ (W : World) (_h : E W), Hid (Calls Try.prog 13 #[.agg #[.int .i64 m, .string k, .string l]] W fun e w' => e = .returned (.tuple #[.agg #[.int .i64 m, .string r, .string ⟨#[]⟩], .int .i64 0]) ∧ Below W.heap.size W w'))
    (K4 : ∀ (W : World) (_h : E W), Hid (Calls Try.prog 15 #[.agg #[.int .i64 m, .string k, .string l], .int .i64 (r.size : Int)] W fun e w' => e = .returned (.tuple #[.agg #[.int .i64 m, .string x, .string ⟨#[]⟩], .int .i64 0]) ∧ Below W.heap.size W w'))
    (K5 : ∀ (W : World) (_h : E W), Hid (Calls Try.prog 17 #[.agg #[.int .i64 m, .string k, .string l], .int .i64 ((k.size : Int) + (r.size : Int))] W fun e w' => e = .returned (.tuple #[.agg #[.int .i64 m, .string x, .string ⟨#[]⟩], .int .i64 0]) ∧ Below W.heap.size W w'))
    (K6 : ∀ (W : World) (_h : E W), Hid (Calls Try.prog 24 #[.agg #[.int .i64 m, .string r, .string ⟨#[]⟩]] W fun e w' => e = .returned (.string r) ∧ Below W.heap.size W w')) :
    Calls Try.prog 6 #[.agg #[.int .i64 m, .string k, .string l], .int .i64 (r.size : Int)] w fun e w' => e = .returned (.bool true) ∧ Below w.heap.size w w' := by
  have p1 := fun W => Lib.hid (FRBig_any m k l W)
  rw [hb] at p1
  have S0 := Lib.hid (((St.start w).more (eFi HS) hE).new #[.int .i64 m, .string k, .string l] 23)
  clear hb hE
  have Hv := Lib.hid hv
  clear hv
  go_enter Try.func6, Try.ntmps6
  go_wp2_with (refine wpList_load_st rfl 23 _ rfl S0.out 0 _ _ rfl rfl _ Try.underlying23 rfl (by rfl) ?_)
  refine (p1 _).out.mono ?_
  rintro e w1 ⟨rfl, hB⟩
  have S1 := Lib.hid (S0.out.on hB)
  clear hB S0
  clear p1
  obtain ⟨p0, hp0⟩ : ∃ p, p = w.heap.size := ⟨_, rfl⟩
  rw [← hp0] at S1 ⊢
  clear hp0
  go_wp2_with (refine wpList_loadg_st (by rfl) 23 _ rfl S1.out 0 _ _ rfl rfl _ Try.underlying23 rfl (by rfl) ?_)
  refine (KI w1 (S1.out.fact 0 rfl)).out.mono ?_
  rintro e w2 ⟨rfl, hB⟩
  have S2 := Lib.hid (S1.out.on hB)
  clear hB S1
  go_wp2_with (refine wpList_load_st rfl 23 _ rfl S2.out 0 _ _ rfl rfl _ Try.underlying23 rfl (by rfl) ?_)
  refine (K1 w2 (S2.out.fact 0 rfl)).out.mono ?_
  rintro e w3 ⟨rfl, hB⟩
  have S3 := Lib.hid (S2.out.on hB)
  clear hB S2
  go_wp2_with (refine wpList_load_st rfl 23 _ rfl S3.out 0 _ _ rfl rfl _ Try.underlying23 rfl (by rfl) ?_)
  refine (K2 w3 (S3.out.fact 0 rfl)).out.mono ?_
  rintro e w4 ⟨rfl, hB⟩
  have S4 := Lib.hid (S3.out.on hB)
  clear hB S3
  go_wp2_with (first
    | (refine wpList_store_st rfl 23 _ _ rfl S4.out _ #[.int .i64 m, .string r, .string ⟨#[]⟩] _ rfl rfl (by rfl) rfl (fil_one3 _ _ _) ?_; intro pa w5 hp hS hBn; (try rw [← hp]); have S5 := Lib.hid hS; clear hS hp hBn)
    | (refine wpList_load_st rfl 23 _ rfl S5.out 1 _ _ rfl rfl _ Try.underlying23 rfl (by rfl) ?_))
  refine (K3 w5 (S5.out.fact 0 rfl)).out.mono ?_
  rintro e w6 ⟨rfl, hB⟩
  have S6 := Lib.hid (S5.out.on hB)
  clear hB S5
  go_wp2_with (first
    | (refine wpList_store_st rfl 23 _ _ rfl S6.out _ #[.int .i64 m, .string r, .string ⟨#[]⟩] _ rfl rfl (by rfl) rfl (fil_one3 _ _ _) ?_; intro pb w7 hp hS hBn; (try rw [← hp]); have S7 := Lib.hid hS; clear hS hp hBn)
    | (refine wpList_load_st rfl 23 _ rfl S7.out 2 _ _ rfl rfl _ Try.underlying23 rfl (by rfl) ?_))
  refine (K4 w7 (S7.out.fact 0 rfl)).out.mono ?_
  rintro e w8 ⟨rfl, hB⟩
  have S8 := Lib.hid (S7.out.on hB)
  clear hB S7
  have iw := Iw.out
  go_wp2_with (first
    | (refine wpList_store_st rfl 23 _ _ rfl S8.out _ #[.int .i64 m, .string x, .string ⟨#[]⟩] _ rfl rfl (by rfl) rfl (fil_one3 _ _ _) ?_; intro pc w9 hp hS hBn; (try rw [← hp]); have S9 := Lib.hid hS; clear hS hp hBn; have d1 := S9.out.cell 3 rfl 1 rfl; have d2 := S9.out.cell 3 rfl 2 rfl)
    | (refine wpList_load_st rfl 23 _ rfl S9.out 3 _ _ rfl rfl _ Try.underlying23 rfl (by rfl) ?_))
  refine (K5 w9 (S9.out.fact 0 rfl)).out.mono ?_
  rintro e w10 ⟨rfl, hB⟩
  have S10 := Lib.hid (S9.out.on hB)
  clear hB S9
  clear d1 d2 iw K1 K2 K3 K4 K5 KI
  go_upto_region 10 with (refine wpList_store_st rfl 23 _ _ rfl S10.out _ #[.int .i64 m, .string x, .string ⟨#[]⟩] _ rfl rfl (by rfl) rfl (fil_one3 _ _ _) ?_; intro pd w11 hp hS hBn; (try rw [← hp]); have S11 := Lib.hid hS; clear hS hp hBn)
  clear S10
  go_wp2_with fail
  have hS : St w w11.drew [(pd, #[.int .i64 m, .string x, .string ⟨#[]⟩]), (pc, #[.int .i64 m, .string x, .string ⟨#[]⟩]), (pb, #[.int .i64 m, .string r, .string ⟨#[]⟩]), (pa, #[.int .i64 m, .string r, .string ⟨#[]⟩]), (p0, #[.int .i64 m, .string k, .string l])] [eFi HS] := S11.out.drew
  clear S11
  refine wp_region_held_drew (S := (fun W : World => St w W [(pd, #[.int .i64 m, .string x, .string ⟨#[]⟩]), (pc, #[.int .i64 m, .string x, .string ⟨#[]⟩]), (pb, #[.int .i64 m, .string r, .string ⟨#[]⟩]), (pa, #[.int .i64 m, .string r, .string ⟨#[]⟩]), (p0, #[.int .i64 m, .string k, .string l])] [eFi HS])) (by kernel_rfl) hS (fun hHeld => ?_)
  refine wpAnyH_ready (rs := [0]) (by kernel_rfl) (by simp) ?_
  refine AllReadyH.cons (o := { dst := some 73, op := Op.call { callee := Callee.value (Operand.func 21), args := #[], argTypes := #[] }, type := 4, pos := _, after := #[], guard := none }) rfl (fun K hK => ?_) AllReadyH.nil
  go_simp
  refine (HC.out _ (hS.fact 0 rfl)).mono ?_
  rintro e y1 ⟨rfl, hB'⟩
  replace hS := hS.on hB'
  clear hB'
  go_wp2_with fail
  refine hK.out _ _ hS (fun hHeld => ?_)
  clear hK K
  (try simp only [Act.put, List.setIfInBounds_toArray, List.set_cons_zero, List.set_cons_succ])
  refine wpAnyH_take (i := 1) (oi := { dst := some 74, op := Op.move (Operand.tmp 73), type := 4, pos := _, after := #[{ on := 0, ground := Ground.data }, { on := 0, ground := Ground.chain }], guard := none }) (v := ?_) rfl (by kernel_rfl) (by kernel_rfl) (by kernel_rfl) (fun _ _ _ h => h) (Or.inl ⟨by rfl, ?hy⟩) hHeld ?_
  case hy => intro w0 hSw; (try dsimp only at hSw); go_simp; (try with_reducible rfl)
  (try simp only [Act.put, List.setIfInBounds_toArray, List.set_cons_zero, List.set_cons_succ])
  refine wpAnyH_take (i := 2) (oi := { dst := some 75, op := Op.load 23 (Operand.tmp 6), type := 23, pos := _, after := #[{ on := 1, ground := Ground.guard }], guard := some (1, true) }) (v := ?_) rfl (by kernel_rfl) (by kernel_rfl) (by kernel_rfl) (fun _ _ _ h => h) (Or.inl ⟨by rfl, ?hy⟩) hHeld ?_
  case hy => intro w0 hSw; have d0 := hSw.cell 3 rfl 0 rfl; have d1 := hSw.cell 3 rfl 1 rfl; have d2 := hSw.cell 3 rfl 2 rfl; clear hSw; go_simp; (try with_reducible rfl)
  (try simp only [Act.put, List.setIfInBounds_toArray, List.set_cons_zero, List.set_cons_succ])
  refine wpAnyH_take (i := 4) (oi := { dst := some 77, op := Op.move (Operand.tmp 5), type := 9, pos := _, after := #[{ on := 1, ground := Ground.guard }], guard := some (1, true) }) (v := ?_) rfl (by kernel_rfl) (by kernel_rfl) (by kernel_rfl) (fun _ _ _ h => h) (Or.inl ⟨by rfl, ?hy⟩) hHeld ?_
  case hy => intro w0 hSw; (try dsimp only at hSw); go_simp; (try with_reducible rfl)
  (try simp only [Act.put, List.setIfInBounds_toArray, List.set_cons_zero, List.set_cons_succ])
  refine wpAnyH_take (i := 5) (oi := { dst := some 78, op := Op.move (Operand.tmp 1), type := 3, pos := _, after := #[{ on := 1, ground := Ground.guard }], guard := some (1, true) }) (v := ?_) rfl (by kernel_rfl) (by kernel_rfl) (by kernel_rfl) (fun _ _ _ h => h) (Or.inl ⟨by rfl, ?hy⟩) hHeld ?_
  case hy => intro w0 hSw; (try dsimp only at hSw); go_simp; (try with_reducible rfl)
  (try simp only [Act.put, List.setIfInBounds_toArray, List.set_cons_zero, List.set_cons_succ])
  refine wpAnyH_take (i := 6) (oi := { dst := some 79, op := Op.slice 9 (Operand.tmp 77) none (some (Operand.tmp 78)) none, type := 9, pos := _, after := #[{ on := 4, ground := Ground.data }, { on := 5, ground := Ground.data }, { on := 1, ground := Ground.guard }], guard := some (1, true) }) (v := ?_) rfl (by kernel_rfl) (by kernel_rfl) (by kernel_rfl) (fun _ _ _ h => h) (Or.inl ⟨by rfl, ?hy⟩) hHeld ?_
  case hy => intro w0 hSw; (try dsimp only at hSw); have hv := Hv.out; go_simp; (try with_reducible rfl)
  (try simp only [Act.put, List.setIfInBounds_toArray, List.set_cons_zero, List.set_cons_succ])
  refine wpAnyH_ready (rs := [3]) (by kernel_rfl) (by simp) ?_
  refine AllReadyH.cons (o := { dst := some 76, op := Op.call { callee := Callee.value (Operand.func 24), args := #[Operand.tmp 75], argTypes := #[23] }, type := 9, pos := _, after := #[{ on := 2, ground := Ground.data }, { on := 1, ground := Ground.chain }, { on := 1, ground := Ground.guard }], guard := some (1, true) }) rfl (fun K hK => ?_) AllReadyH.nil
  go_simp
  refine (K6 _ (hS.fact 0 rfl)).out.mono ?_
  rintro e y2 ⟨rfl, hB'⟩
  replace hS := hS.on hB'
  clear hB'
  go_wp2_with fail
  refine hK.out _ _ hS (fun hHeld => ?_)
  clear hK K
  (try simp only [Act.put, List.setIfInBounds_toArray, List.set_cons_zero, List.set_cons_succ])
  refine wpAnyH_take (i := 7) (oi := { dst := some 80, op := Op.binOp BinOp.eql 9 (Operand.tmp 76) (Operand.tmp 79) 9, type := 4, pos := _, after := #[{ on := 3, ground := Ground.data }, { on := 6, ground := Ground.data }, { on := 1, ground := Ground.guard }], guard := some (1, true) }) (v := ?_) rfl (by kernel_rfl) (by kernel_rfl) (by kernel_rfl) (fun _ _ _ h => h) (Or.inl ⟨by rfl, ?hy⟩) hHeld ?_
  case hy => intro w0 hSw; (try dsimp only at hSw); go_simp; (try with_reducible rfl)
  (try simp only [Act.put, List.setIfInBounds_toArray, List.set_cons_zero, List.set_cons_succ])
  refine wpAnyH_take (i := 8) (oi := { dst := some 81, op := Op.pick (Operand.tmp 74) (Operand.tmp 80) (Operand.const (Value.bool false)), type := 4, pos := _, after := #[{ on := 1, ground := Ground.data }, { on := 7, ground := Ground.data }], guard := none }) (v := ?_) rfl (by kernel_rfl) (by kernel_rfl) (by kernel_rfl) (fun _ _ _ h => h) (Or.inl ⟨by rfl, ?hy⟩) hHeld ?_
  case hy => intro w0 hSw; (try dsimp only at hSw); go_simp; (try with_reducible rfl)
  (try simp only [Act.put, List.setIfInBounds_toArray, List.set_cons_zero, List.set_cons_succ])
  refine wpAnyH_take (i := 9) (oi := { dst := some 82, op := Op.move (Operand.tmp 81), type := 4, pos := _, after := #[{ on := 8, ground := Ground.data }, { on := 3, ground := Ground.chain }], guard := none }) (v := ?_) rfl (by kernel_rfl) (by kernel_rfl) (by kernel_rfl) (fun _ _ _ h => h) (Or.inl ⟨by rfl, ?hy⟩) hHeld ?_
  case hy => intro w0 hSw; (try dsimp only at hSw); go_simp; (try with_reducible rfl)
  (try simp only [Act.put, List.setIfInBounds_toArray, List.set_cons_zero, List.set_cons_succ])
  refine wpAnyH_take (i := 10) (oi := { dst := some 83, op := Op.move (Operand.tmp 1), type := 3, pos := _, after := #[{ on := 9, ground := Ground.guard }], guard := some (9, true) }) (v := ?_) rfl (by kernel_rfl) (by kernel_rfl) (by kernel_rfl) (fun _ _ _ h => h) (Or.inl ⟨by rfl, ?hy⟩) hHeld ?_
  case hy => intro w0 hSw; (try dsimp only at hSw); go_simp; (try with_reducible rfl)
  (try simp only [Act.put, List.setIfInBounds_toArray, List.set_cons_zero, List.set_cons_succ])
  refine wpAnyH_take (i := 11) (oi := { dst := some 84, op := Op.move (Operand.tmp 5), type := 9, pos := _, after := #[{ on := 9, ground := Ground.guard }], guard := some (9, true) }) (v := ?_) rfl (by kernel_rfl) (by kernel_rfl) (by kernel_rfl) (fun _ _ _ h => h) (Or.inl ⟨by rfl, ?hy⟩) hHeld ?_
  case hy => intro w0 hSw; (try dsimp only at hSw); go_simp; (try with_reducible rfl)
  (try simp only [Act.put, List.setIfInBounds_toArray, List.set_cons_zero, List.set_cons_succ])
  refine wpAnyH_take (i := 12) (oi := { dst := some 85, op := Op.call { callee := Callee.builtin Builtin.len, args := #[Operand.tmp 84], argTypes := #[9] }, type := 3, pos := _, after := #[{ on := 11, ground := Ground.data }, { on := 9, ground := Ground.guard }], guard := some (9, true) }) (v := ?_) rfl (by kernel_rfl) (by kernel_rfl) (by kernel_rfl) (fun _ _ _ h => h) (Or.inl ⟨by rfl, ?hy⟩) hHeld ?_
  case hy => intro w0 hSw; (try dsimp only at hSw); go_simp; (try with_reducible rfl)
  (try simp only [Act.put, List.setIfInBounds_toArray, List.set_cons_zero, List.set_cons_succ])
  refine wpAnyH_take (i := 13) (oi := { dst := some 86, op := Op.binOp BinOp.neq 3 (Operand.tmp 83) (Operand.tmp 85) 3, type := 4, pos := _, after := #[{ on := 10, ground := Ground.data }, { on := 12, ground := Ground.data }, { on := 9, ground := Ground.guard }], guard := some (9, true) }) (v := ?_) rfl (by kernel_rfl) (by kernel_rfl) (by kernel_rfl) (fun _ _ _ h => h) (Or.inl ⟨by rfl, ?hy⟩) hHeld ?_
  case hy => intro w0 hSw; (try dsimp only at hSw); go_simp; (try with_reducible rfl)
  (try simp only [Act.put, List.setIfInBounds_toArray, List.set_cons_zero, List.set_cons_succ])
  refine wpAnyH_take (i := 14) (oi := { dst := some 87, op := Op.move (Operand.tmp 86), type := 4, pos := _, after := #[{ on := 13, ground := Ground.data }, { on := 9, ground := Ground.chain }, { on := 9, ground := Ground.guard }], guard := some (9, true) }) (v := ?_) rfl (by kernel_rfl) (by kernel_rfl) (by kernel_rfl) (fun _ _ _ h => h) (Or.inl ⟨by rfl, ?hy⟩) hHeld ?_
  case hy => intro w0 hSw; (try dsimp only at hSw); go_simp; (try with_reducible rfl)
  (try simp only [Act.put, List.setIfInBounds_toArray, List.set_cons_zero, List.set_cons_succ])
  refine wpAnyH_take (i := 15) (oi := { dst := some 88, op := Op.load 23 (Operand.tmp 6), type := 23, pos := _, after := #[{ on := 14, ground := Ground.guard }], guard := some (14, false) }) (v := ?_) rfl (by kernel_rfl) (by kernel_rfl) (by kernel_rfl) (fun _ _ _ h => h) (Or.inl ⟨by rfl, ?hy⟩) hHeld ?_
  case hy => intro w0 hSw; have d0 := hSw.cell 3 rfl 0 rfl; have d1 := hSw.cell 3 rfl 1 rfl; have d2 := hSw.cell 3 rfl 2 rfl; clear hSw; go_simp; (try with_reducible rfl)
  (try simp only [Act.put, List.setIfInBounds_toArray, List.set_cons_zero, List.set_cons_succ])
  refine wpAnyH_take (i := 16) (oi := { dst := some 89, op := Op.load 23 (Operand.tmp 8), type := 23, pos := _, after := #[{ on := 14, ground := Ground.guard }], guard := some (14, false) }) (v := ?_) rfl (by kernel_rfl) (by kernel_rfl) (by kernel_rfl) (fun _ _ _ h => h) (Or.inl ⟨by rfl, ?hy⟩) hHeld ?_
  case hy => intro w0 hSw; have d0 := hSw.cell 2 rfl 0 rfl; have d1 := hSw.cell 2 rfl 1 rfl; have d2 := hSw.cell 2 rfl 2 rfl; clear hSw; go_simp; (try with_reducible rfl)
  (try simp only [Act.put, List.setIfInBounds_toArray, List.set_cons_zero, List.set_cons_succ])
  refine wpAnyH_take (i := 17) (oi := { dst := some 90, op := Op.binOp BinOp.eql 23 (Operand.tmp 88) (Operand.tmp 89) 23, type := 4, pos := _, after := #[{ on := 15, ground := Ground.data }, { on := 16, ground := Ground.data }, { on := 14, ground := Ground.guard }], guard := some (14, false) }) (v := ?_) rfl (by kernel_rfl) (by kernel_rfl) (by kernel_rfl) (fun _ _ _ h => h) (Or.inl ⟨by rfl, ?hy⟩) hHeld ?_
  case hy => intro w0 hSw; (try dsimp only at hSw); go_simp; (try with_reducible rfl)
  (try simp only [Act.put, List.setIfInBounds_toArray, List.set_cons_zero, List.set_cons_succ])
  refine wpAnyH_take (i := 18) (oi := { dst := some 91, op := Op.pick (Operand.tmp 87) (Operand.const (Value.bool true)) (Operand.tmp 90), type := 4, pos := _, after := #[{ on := 14, ground := Ground.data }, { on := 17, ground := Ground.data }, { on := 9, ground := Ground.guard }], guard := some (9, true) }) (v := ?_) rfl (by kernel_rfl) (by kernel_rfl) (by kernel_rfl) (fun _ _ _ h => h) (Or.inl ⟨by rfl, ?hy⟩) hHeld ?_
  case hy => intro w0 hSw; (try dsimp only at hSw); go_simp; (try with_reducible rfl)
  (try simp only [Act.put, List.setIfInBounds_toArray, List.set_cons_zero, List.set_cons_succ])
  refine wpAnyH_take (i := 19) (oi := { dst := some 92, op := Op.pick (Operand.tmp 82) (Operand.tmp 91) (Operand.const (Value.bool false)), type := 4, pos := _, after := #[{ on := 9, ground := Ground.data }, { on := 18, ground := Ground.data }], guard := none }) (v := ?_) rfl (by kernel_rfl) (by kernel_rfl) (by kernel_rfl) (fun _ _ _ h => h) (Or.inl ⟨by rfl, ?hy⟩) hHeld ?_
  case hy => intro w0 hSw; (try dsimp only at hSw); go_simp; (try with_reducible rfl)
  (try simp only [Act.put, List.setIfInBounds_toArray, List.set_cons_zero, List.set_cons_succ])
  refine wpAnyH_take (i := 20) (oi := { dst := some 93, op := Op.move (Operand.tmp 92), type := 4, pos := _, after := #[{ on := 19, ground := Ground.data }, { on := 14, ground := Ground.chain }], guard := none }) (v := ?_) rfl (by kernel_rfl) (by kernel_rfl) (by kernel_rfl) (fun _ _ _ h => h) (Or.inl ⟨by rfl, ?hy⟩) hHeld ?_
  case hy => intro w0 hSw; (try dsimp only at hSw); go_simp; (try with_reducible rfl)
  (try simp only [Act.put, List.setIfInBounds_toArray, List.set_cons_zero, List.set_cons_succ])
  refine wpAnyH_take (i := 21) (oi := { dst := some 94, op := Op.move (Operand.tmp 9), type := 28, pos := _, after := #[{ on := 20, ground := Ground.guard }], guard := some (20, true) }) (v := ?_) rfl (by kernel_rfl) (by kernel_rfl) (by kernel_rfl) (fun _ _ _ h => h) (Or.inl ⟨by rfl, ?hy⟩) hHeld ?_
  case hy => intro w0 hSw; (try dsimp only at hSw); go_simp; (try with_reducible rfl)
  (try simp only [Act.put, List.setIfInBounds_toArray, List.set_cons_zero, List.set_cons_succ])
  refine wpAnyH_take (i := 22) (oi := { dst := some 95, op := Op.binOp BinOp.eql 28 (Operand.tmp 94) (Operand.const (Value.int IntKind.i64 0)) 28, type := 4, pos := _, after := #[{ on := 21, ground := Ground.data }, { on := 20, ground := Ground.guard }], guard := some (20, true) }) (v := ?_) rfl (by kernel_rfl) (by kernel_rfl) (by kernel_rfl) (fun _ _ _ h => h) (Or.inl ⟨by rfl, ?hy⟩) hHeld ?_
  case hy => intro w0 hSw; (try dsimp only at hSw); go_simp; (try with_reducible rfl)
  (try simp only [Act.put, List.setIfInBounds_toArray, List.set_cons_zero, List.set_cons_succ])
  refine wpAnyH_take (i := 23) (oi := { dst := some 96, op := Op.pick (Operand.tmp 93) (Operand.tmp 95) (Operand.const (Value.bool false)), type := 4, pos := _, after := #[{ on := 20, ground := Ground.data }, { on := 22, ground := Ground.data }], guard := none }) (v := ?_) rfl (by kernel_rfl) (by kernel_rfl) (by kernel_rfl) (fun _ _ _ h => h) (Or.inl ⟨by rfl, ?hy⟩) hHeld ?_
  case hy => intro w0 hSw; (try dsimp only at hSw); go_simp; (try with_reducible rfl)
  (try simp only [Act.put, List.setIfInBounds_toArray, List.set_cons_zero, List.set_cons_succ])
  refine wpAnyH_take (i := 24) (oi := { dst := some 97, op := Op.move (Operand.tmp 96), type := 4, pos := _, after := #[{ on := 23, ground := Ground.data }, { on := 20, ground := Ground.chain }], guard := none }) (v := ?_) rfl (by kernel_rfl) (by kernel_rfl) (by kernel_rfl) (fun _ _ _ h => h) (Or.inl ⟨by rfl, ?hy⟩) hHeld ?_
  case hy => intro w0 hSw; (try dsimp only at hSw); go_simp; (try with_reducible rfl)
  (try simp only [Act.put, List.setIfInBounds_toArray, List.set_cons_zero, List.set_cons_succ])
  refine wpAnyH_take (i := 25) (oi := { dst := some 98, op := Op.move (Operand.tmp 11), type := 28, pos := _, after := #[{ on := 24, ground := Ground.guard }], guard := some (24, true) }) (v := ?_) rfl (by kernel_rfl) (by kernel_rfl) (by kernel_rfl) (fun _ _ _ h => h) (Or.inl ⟨by rfl, ?hy⟩) hHeld ?_
  case hy => intro w0 hSw; (try dsimp only at hSw); go_simp; (try with_reducible rfl)
  (try simp only [Act.put, List.setIfInBounds_toArray, List.set_cons_zero, List.set_cons_succ])
  refine wpAnyH_take (i := 26) (oi := { dst := some 99, op := Op.move (Operand.tmp 9), type := 28, pos := _, after := #[{ on := 24, ground := Ground.guard }], guard := some (24, true) }) (v := ?_) rfl (by kernel_rfl) (by kernel_rfl) (by kernel_rfl) (fun _ _ _ h => h) (Or.inl ⟨by rfl, ?hy⟩) hHeld ?_
  case hy => intro w0 hSw; (try dsimp only at hSw); go_simp; (try with_reducible rfl)
  (try simp only [Act.put, List.setIfInBounds_toArray, List.set_cons_zero, List.set_cons_succ])
  refine wpAnyH_take (i := 27) (oi := { dst := some 100, op := Op.binOp BinOp.eql 28 (Operand.tmp 98) (Operand.tmp 99) 28, type := 4, pos := _, after := #[{ on := 25, ground := Ground.data }, { on := 26, ground := Ground.data }, { on := 24, ground := Ground.guard }], guard := some (24, true) }) (v := ?_) rfl (by kernel_rfl) (by kernel_rfl) (by kernel_rfl) (fun _ _ _ h => h) (Or.inl ⟨by rfl, ?hy⟩) hHeld ?_
  case hy => intro w0 hSw; (try dsimp only at hSw); go_simp; (try with_reducible rfl)
  (try simp only [Act.put, List.setIfInBounds_toArray, List.set_cons_zero, List.set_cons_succ])
  refine wpAnyH_take (i := 28) (oi := { dst := some 101, op := Op.pick (Operand.tmp 97) (Operand.tmp 100) (Operand.const (Value.bool false)), type := 4, pos := _, after := #[{ on := 24, ground := Ground.data }, { on := 27, ground := Ground.data }], guard := none }) (v := ?_) rfl (by kernel_rfl) (by kernel_rfl) (by kernel_rfl) (fun _ _ _ h => h) (Or.inl ⟨by rfl, ?hy⟩) hHeld ?_
  case hy => intro w0 hSw; (try dsimp only at hSw); go_simp; (try with_reducible rfl)
  (try simp only [Act.put, List.setIfInBounds_toArray, List.set_cons_zero, List.set_cons_succ])
  refine wpAnyH_take (i := 29) (oi := { dst := some 102, op := Op.move (Operand.tmp 101), type := 4, pos := _, after := #[{ on := 28, ground := Ground.data }, { on := 24, ground := Ground.chain }], guard := none }) (v := ?_) rfl (by kernel_rfl) (by kernel_rfl) (by kernel_rfl) (fun _ _ _ h => h) (Or.inl ⟨by rfl, ?hy⟩) hHeld ?_
  case hy => intro w0 hSw; (try dsimp only at hSw); go_simp; (try with_reducible rfl)
  (try simp only [Act.put, List.setIfInBounds_toArray, List.set_cons_zero, List.set_cons_succ])
  refine wpAnyH_take (i := 30) (oi := { dst := some 103, op := Op.move (Operand.tmp 13), type := 28, pos := _, after := #[{ on := 29, ground := Ground.guard }], guard := some (29, true) }) (v := ?_) rfl (by kernel_rfl) (by kernel_rfl) (by kernel_rfl) (fun _ _ _ h => h) (Or.inl ⟨by rfl, ?hy⟩) hHeld ?_
  case hy => intro w0 hSw; (try dsimp only at hSw); go_simp; (try with_reducible rfl)
  (try simp only [Act.put, List.setIfInBounds_toArray, List.set_cons_zero, List.set_cons_succ])
  refine wpAnyH_take (i := 31) (oi := { dst := some 104, op := Op.move (Operand.tmp 9), type := 28, pos := _, after := #[{ on := 29, ground := Ground.guard }], guard := some (29, true) }) (v := ?_) rfl (by kernel_rfl) (by kernel_rfl) (by kernel_rfl) (fun _ _ _ h => h) (Or.inl ⟨by rfl, ?hy⟩) hHeld ?_
  case hy => intro w0 hSw; (try dsimp only at hSw); go_simp; (try with_reducible rfl)
  (try simp only [Act.put, List.setIfInBounds_toArray, List.set_cons_zero, List.set_cons_succ])
  refine wpAnyH_take (i := 32) (oi := { dst := some 105, op := Op.binOp BinOp.eql 28 (Operand.tmp 103) (Operand.tmp 104) 28, type := 4, pos := _, after := #[{ on := 30, ground := Ground.data }, { on := 31, ground := Ground.data }, { on := 29, ground := Ground.guard }], guard := some (29, true) }) (v := ?_) rfl (by kernel_rfl) (by kernel_rfl) (by kernel_rfl) (fun _ _ _ h => h) (Or.inl ⟨by rfl, ?hy⟩) hHeld ?_
  case hy => intro w0 hSw; (try dsimp only at hSw); go_simp; (try with_reducible rfl)
  (try simp only [Act.put, List.setIfInBounds_toArray, List.set_cons_zero, List.set_cons_succ])
  refine wpAnyH_take (i := 33) (oi := { dst := some 106, op := Op.pick (Operand.tmp 102) (Operand.tmp 105) (Operand.const (Value.bool false)), type := 4, pos := _, after := #[{ on := 29, ground := Ground.data }, { on := 32, ground := Ground.data }], guard := none }) (v := ?_) rfl (by kernel_rfl) (by kernel_rfl) (by kernel_rfl) (fun _ _ _ h => h) (Or.inl ⟨by rfl, ?hy⟩) hHeld ?_
  case hy => intro w0 hSw; (try dsimp only at hSw); go_simp; (try with_reducible rfl)
  (try simp only [Act.put, List.setIfInBounds_toArray, List.set_cons_zero, List.set_cons_succ])
  refine wpAnyH_take (i := 34) (oi := { dst := some 107, op := Op.move (Operand.tmp 106), type := 4, pos := _, after := #[{ on := 33, ground := Ground.data }, { on := 29, ground := Ground.chain }], guard := none }) (v := ?_) rfl (by kernel_rfl) (by kernel_rfl) (by kernel_rfl) (fun _ _ _ h => h) (Or.inl ⟨by rfl, ?hy⟩) hHeld ?_
  case hy => intro w0 hSw; (try dsimp only at hSw); go_simp; (try with_reducible rfl)
  (try simp only [Act.put, List.setIfInBounds_toArray, List.set_cons_zero, List.set_cons_succ])
  refine wpAnyH_take (i := 35) (oi := { dst := some 108, op := Op.load 23 (Operand.tmp 10), type := 23, pos := _, after := #[{ on := 34, ground := Ground.guard }], guard := some (34, true) }) (v := ?_) rfl (by kernel_rfl) (by kernel_rfl) (by kernel_rfl) (fun _ _ _ h => h) (Or.inl ⟨by rfl, ?hy⟩) hHeld ?_
  case hy => intro w0 hSw; have d0 := hSw.cell 1 rfl 0 rfl; have d1 := hSw.cell 1 rfl 1 rfl; have d2 := hSw.cell 1 rfl 2 rfl; clear hSw; go_simp; (try with_reducible rfl)
  (try simp only [Act.put, List.setIfInBounds_toArray, List.set_cons_zero, List.set_cons_succ])
  refine wpAnyH_take (i := 36) (oi := { dst := some 109, op := Op.load 23 (Operand.tmp 12), type := 23, pos := _, after := #[{ on := 34, ground := Ground.guard }], guard := some (34, true) }) (v := ?_) rfl (by kernel_rfl) (by kernel_rfl) (by kernel_rfl) (fun _ _ _ h => h) (Or.inl ⟨by rfl, ?hy⟩) hHeld ?_
  case hy => intro w0 hSw; have d0 := hSw.cell 0 rfl 0 rfl; have d1 := hSw.cell 0 rfl 1 rfl; have d2 := hSw.cell 0 rfl 2 rfl; clear hSw; go_simp; (try with_reducible rfl)
  (try simp only [Act.put, List.setIfInBounds_toArray, List.set_cons_zero, List.set_cons_succ])
  refine wpAnyH_take (i := 37) (oi := { dst := some 110, op := Op.binOp BinOp.eql 23 (Operand.tmp 108) (Operand.tmp 109) 23, type := 4, pos := _, after := #[{ on := 35, ground := Ground.data }, { on := 36, ground := Ground.data }, { on := 34, ground := Ground.guard }], guard := some (34, true) }) (v := ?_) rfl (by kernel_rfl) (by kernel_rfl) (by kernel_rfl) (fun _ _ _ h => h) (Or.inl ⟨by rfl, ?hy⟩) hHeld ?_
  case hy => intro w0 hSw; (try dsimp only at hSw); go_simp; (try with_reducible rfl)
  (try simp only [Act.put, List.setIfInBounds_toArray, List.set_cons_zero, List.set_cons_succ])
  refine wpAnyH_take (i := 38) (oi := { dst := some 111, op := Op.pick (Operand.tmp 107) (Operand.tmp 110) (Operand.const (Value.bool false)), type := 4, pos := _, after := #[{ on := 34, ground := Ground.data }, { on := 37, ground := Ground.data }], guard := none }) (v := ?_) rfl (by kernel_rfl) (by kernel_rfl) (by kernel_rfl) (fun _ _ _ h => h) (Or.inl ⟨by rfl, ?hy⟩) hHeld ?_
  case hy => intro w0 hSw; (try dsimp only at hSw); go_simp; (try with_reducible rfl)
  (try simp only [Act.put, List.setIfInBounds_toArray, List.set_cons_zero, List.set_cons_succ])
  refine wpAnyH_take (i := 39) (oi := { dst := some 4, op := Op.assign (Operand.tmp 111), type := 4, pos := _, after := #[{ on := 38, ground := Ground.data }, { on := 34, ground := Ground.chain }, { on := 0, ground := Ground.phase }, { on := 1, ground := Ground.phase }, { on := 2, ground := Ground.phase }, { on := 3, ground := Ground.phase }, { on := 4, ground := Ground.phase }, { on := 5, ground := Ground.phase }, { on := 6, ground := Ground.phase }, { on := 7, ground := Ground.phase }, { on := 8, ground := Ground.phase }, { on := 9, ground := Ground.phase }, { on := 10, ground := Ground.phase }, { on := 11, ground := Ground.phase }, { on := 12, ground := Ground.phase }, { on := 13, ground := Ground.phase }, { on := 14, ground := Ground.phase }, { on := 15, ground := Ground.phase }, { on := 16, ground := Ground.phase }, { on := 17, ground := Ground.phase }, { on := 18, ground := Ground.phase }, { on := 19, ground := Ground.phase }, { on := 20, ground := Ground.phase }, { on := 21, ground := Ground.phase }, { on := 22, ground := Ground.phase }, { on := 23, ground := Ground.phase }, { on := 24, ground := Ground.phase }, { on := 25, ground := Ground.phase }, { on := 26, ground := Ground.phase }, { on := 27, ground := Ground.phase }, { on := 28, ground := Ground.phase }, { on := 29, ground := Ground.phase }, { on := 30, ground := Ground.phase }, { on := 31, ground := Ground.phase }, { on := 32, ground := Ground.phase }, { on := 33, ground := Ground.phase }, { on := 34, ground := Ground.phase }, { on := 35, ground := Ground.phase }, { on := 36, ground := Ground.phase }, { on := 37, ground := Ground.phase }, { on := 38, ground := Ground.phase }], guard := none }) (v := ?_) rfl (by kernel_rfl) (by kernel_rfl) (by kernel_rfl) (fun _ _ _ h => h) (Or.inl ⟨by rfl, ?hy⟩) hHeld ?_
  case hy => intro w0 hSw; (try dsimp only at hSw); go_simp; (try with_reducible rfl)
  (try simp only [Act.put, List.setIfInBounds_toArray, List.set_cons_zero, List.set_cons_succ])
  refine wpAnyH_done (by kernel_rfl) ?_ _
  clear hHeld
  have HSe := Lib.hid hS
  clear hS
  go_wp2
  go_ret
  exact ⟨rfl, HSe.out.below⟩

set_option maxHeartbeats 4000000 in
theorem fileCut_midn {E : World → Prop} (HS : Hid (FileK E)) (HC : Hid (FiledK E)) (m : Int) (k l : ByteArray) (n : Int) (r x v : ByteArray) (w : World) (hE : E w) (hb : decide (2000 < k.size ∨ 2000 < l.size) = false) (j2 : ((l.size : Int) < n) = False) (j3 : (n = (r.size : Int)) = False) (hv : r.extract 0 n.toNat = v) (h0 : 0 ≤ n) (hnr : n ≤ (r.size : Int)) (Iw : Hid (wrap64 ((k.size : Int) + n) = (k.size : Int) + n))
    (KI : ∀ (W : World) (_h : E W), Hid (Calls Try.prog 22 #[.agg #[.int .i64 m, .string k, .string l]] W fun e w' => e = .returned (.bool true) ∧ Below W.heap.size W w'))
    (K1 : ∀ (W : World) (_h : E W), Hid (Calls Try.prog 24 #[.agg #[.int .i64 m, .string k, .string l]] W fun e w' => e = .returned (.string r) ∧ Below W.heap.size W w'))
    (K2 : ∀ (W : World) (_h : E W), Hid (Calls Try.prog 17 #[.agg #[.int .i64 m, .string k, .string l], .int .i64 n] W fun e w' => e = .returned (.tuple #[.agg #[.int .i64 m, .string v, .string ⟨#[]⟩], .int .i64 0]) ∧ Below W.heap.size W w'))
    (K3 : ∀ (W : World) (_h : E W), Hid (Calls Try.prog 13 #[.agg #[.int .i64 m, .string k, .string l]] W fun e w' => e = .returned (.tuple #[.agg #[.int .i64 m, .string r, .string ⟨#[]⟩], .int .i64 0]) ∧ Below W.heap.size W w'))
    (K4 : ∀ (W : World) (_h : E W), Hid (Calls Try.prog 15 #[.agg #[.int .i64 m, .string k, .string l], .int .i64 n] W fun e w' => e = .returned (.tuple #[.agg #[.int .i64 m, .string x, .string ⟨#[]⟩], .int .i64 0]) ∧ Below W.heap.size W w'))
    (K5 : ∀ (W : World) (_h : E W), Hid (Calls Try.prog 17 #[.agg #[.int .i64 m, .string k, .string l], .int .i64 ((k.size : Int) + n)] W fun e w' => e = .returned (.tuple #[.agg #[.int .i64 m, .string x, .string ⟨#[]⟩], .int .i64 0]) ∧ Below W.heap.size W w'))
    (K6 : ∀ (W : World) (_h : E W), Hid (Calls Try.prog 24 #[.agg #[.int .i64 m, .string v, .string ⟨#[]⟩]] W fun e w' => e = .returned (.string v) ∧ Below W.heap.size W w')) :
    Calls Try.prog 6 #[.agg #[.int .i64 m, .string k, .string l], .int .i64 n] w fun e w' => e = .returned (.bool true) ∧ Below w.heap.size w w' := by
  have p1 := fun W => Lib.hid (FRBig_any m k l W)
  rw [hb] at p1
  have S0 := Lib.hid (((St.start w).more (eFi HS) hE).new #[.int .i64 m, .string k, .string l] 23)
  clear hb hE
  have Hv := Lib.hid hv
  clear hv
  have Hnr := Lib.hid hnr
  have J3 := Lib.hid j3
  have H0 := Lib.hid h0
  clear hnr j3 h0
  go_enter Try.func6, Try.ntmps6
  go_wp2_with (refine wpList_load_st rfl 23 _ rfl S0.out 0 _ _ rfl rfl _ Try.underlying23 rfl (by rfl) ?_)
  refine (p1 _).out.mono ?_
  rintro e w1 ⟨rfl, hB⟩
  have S1 := Lib.hid (S0.out.on hB)
  clear hB S0
  clear p1
  obtain ⟨p0, hp0⟩ : ∃ p, p = w.heap.size := ⟨_, rfl⟩
  rw [← hp0] at S1 ⊢
  clear hp0
  go_wp2_with (refine wpList_loadg_st (by rfl) 23 _ rfl S1.out 0 _ _ rfl rfl _ Try.underlying23 rfl (by rfl) ?_)
  refine (KI w1 (S1.out.fact 0 rfl)).out.mono ?_
  rintro e w2 ⟨rfl, hB⟩
  have S2 := Lib.hid (S1.out.on hB)
  clear hB S1
  go_wp2_with (refine wpList_load_st rfl 23 _ rfl S2.out 0 _ _ rfl rfl _ Try.underlying23 rfl (by rfl) ?_)
  refine (K1 w2 (S2.out.fact 0 rfl)).out.mono ?_
  rintro e w3 ⟨rfl, hB⟩
  have S3 := Lib.hid (S2.out.on hB)
  clear hB S2
  go_wp2_with (refine wpList_load_st rfl 23 _ rfl S3.out 0 _ _ rfl rfl _ Try.underlying23 rfl (by rfl) ?_)
  refine (K2 w3 (S3.out.fact 0 rfl)).out.mono ?_
  rintro e w4 ⟨rfl, hB⟩
  have S4 := Lib.hid (S3.out.on hB)
  clear hB S3
  go_wp2_with (first
    | (refine wpList_store_st rfl 23 _ _ rfl S4.out _ #[.int .i64 m, .string v, .string ⟨#[]⟩] _ rfl rfl (by rfl) rfl (fil_one3 _ _ _) ?_; intro pa w5 hp hS hBn; (try rw [← hp]); have S5 := Lib.hid hS; clear hS hp hBn)
    | (refine wpList_load_st rfl 23 _ rfl S5.out 1 _ _ rfl rfl _ Try.underlying23 rfl (by rfl) ?_))
  refine (K3 w5 (S5.out.fact 0 rfl)).out.mono ?_
  rintro e w6 ⟨rfl, hB⟩
  have S6 := Lib.hid (S5.out.on hB)
  clear hB S5
  go_wp2_with (first
    | (refine wpList_store_st rfl 23 _ _ rfl S6.out _ #[.int .i64 m, .string r, .string ⟨#[]⟩] _ rfl rfl (by rfl) rfl (fil_one3 _ _ _) ?_; intro pb w7 hp hS hBn; (try rw [← hp]); have S7 := Lib.hid hS; clear hS hp hBn)
    | (refine wpList_load_st rfl 23 _ rfl S7.out 2 _ _ rfl rfl _ Try.underlying23 rfl (by rfl) ?_))
  refine (K4 w7 (S7.out.fact 0 rfl)).out.mono ?_
  rintro e w8 ⟨rfl, hB⟩
  have S8 := Lib.hid (S7.out.on hB)
  clear hB S7
  have iw := Iw.out
  go_wp2_with (first
    | (refine wpList_store_st rfl 23 _ _ rfl S8.out _ #[.int .i64 m, .string x, .string ⟨#[]⟩] _ rfl rfl (by rfl) rfl (fil_one3 _ _ _) ?_; intro pc w9 hp hS hBn; (try rw [← hp]); have S9 := Lib.hid hS; clear hS hp hBn; have d1 := S9.out.cell 3 rfl 1 rfl; have d2 := S9.out.cell 3 rfl 2 rfl)
    | (refine wpList_load_st rfl 23 _ rfl S9.out 3 _ _ rfl rfl _ Try.underlying23 rfl (by rfl) ?_))
  refine (K5 w9 (S9.out.fact 0 rfl)).out.mono ?_
  rintro e w10 ⟨rfl, hB⟩
  have S10 := Lib.hid (S9.out.on hB)
  clear hB S9
  clear d1 d2 iw K1 K2 K3 K4 K5 KI
  go_upto_region 10 with (refine wpList_store_st rfl 23 _ _ rfl S10.out _ #[.int .i64 m, .string x, .string ⟨#[]⟩] _ rfl rfl (by rfl) rfl (fil_one3 _ _ _) ?_; intro pd w11 hp hS hBn; (try rw [← hp]); have S11 := Lib.hid hS; clear hS hp hBn)
  clear S10
  go_wp2_with fail
  have hS : St w w11.drew [(pd, #[.int .i64 m, .string x, .string ⟨#[]⟩]), (pc, #[.int .i64 m, .string x, .string ⟨#[]⟩]), (pb, #[.int .i64 m, .string r, .string ⟨#[]⟩]), (pa, #[.int .i64 m, .string v, .string ⟨#[]⟩]), (p0, #[.int .i64 m, .string k, .string l])] [eFi HS] := S11.out.drew
  clear S11
  refine wp_region_held_drew (S := (fun W : World => St w W [(pd, #[.int .i64 m, .string x, .string ⟨#[]⟩]), (pc, #[.int .i64 m, .string x, .string ⟨#[]⟩]), (pb, #[.int .i64 m, .string r, .string ⟨#[]⟩]), (pa, #[.int .i64 m, .string v, .string ⟨#[]⟩]), (p0, #[.int .i64 m, .string k, .string l])] [eFi HS])) (by kernel_rfl) hS (fun hHeld => ?_)
  refine wpAnyH_ready (rs := [0]) (by kernel_rfl) (by simp) ?_
  refine AllReadyH.cons (o := { dst := some 73, op := Op.call { callee := Callee.value (Operand.func 21), args := #[], argTypes := #[] }, type := 4, pos := _, after := #[], guard := none }) rfl (fun K hK => ?_) AllReadyH.nil
  go_simp
  refine (HC.out _ (hS.fact 0 rfl)).mono ?_
  rintro e y1 ⟨rfl, hB'⟩
  replace hS := hS.on hB'
  clear hB'
  go_wp2_with fail
  refine hK.out _ _ hS (fun hHeld => ?_)
  clear hK K
  (try simp only [Act.put, List.setIfInBounds_toArray, List.set_cons_zero, List.set_cons_succ])
  refine wpAnyH_take (i := 1) (oi := { dst := some 74, op := Op.move (Operand.tmp 73), type := 4, pos := _, after := #[{ on := 0, ground := Ground.data }, { on := 0, ground := Ground.chain }], guard := none }) (v := ?_) rfl (by kernel_rfl) (by kernel_rfl) (by kernel_rfl) (fun _ _ _ h => h) (Or.inl ⟨by rfl, ?hy⟩) hHeld ?_
  case hy => intro w0 hSw; (try dsimp only at hSw); go_simp; (try with_reducible rfl)
  (try simp only [Act.put, List.setIfInBounds_toArray, List.set_cons_zero, List.set_cons_succ])
  refine wpAnyH_take (i := 2) (oi := { dst := some 75, op := Op.load 23 (Operand.tmp 6), type := 23, pos := _, after := #[{ on := 1, ground := Ground.guard }], guard := some (1, true) }) (v := ?_) rfl (by kernel_rfl) (by kernel_rfl) (by kernel_rfl) (fun _ _ _ h => h) (Or.inl ⟨by rfl, ?hy⟩) hHeld ?_
  case hy => intro w0 hSw; have d0 := hSw.cell 3 rfl 0 rfl; have d1 := hSw.cell 3 rfl 1 rfl; have d2 := hSw.cell 3 rfl 2 rfl; clear hSw; go_simp; (try with_reducible rfl)
  (try simp only [Act.put, List.setIfInBounds_toArray, List.set_cons_zero, List.set_cons_succ])
  refine wpAnyH_take (i := 4) (oi := { dst := some 77, op := Op.move (Operand.tmp 5), type := 9, pos := _, after := #[{ on := 1, ground := Ground.guard }], guard := some (1, true) }) (v := ?_) rfl (by kernel_rfl) (by kernel_rfl) (by kernel_rfl) (fun _ _ _ h => h) (Or.inl ⟨by rfl, ?hy⟩) hHeld ?_
  case hy => intro w0 hSw; (try dsimp only at hSw); go_simp; (try with_reducible rfl)
  (try simp only [Act.put, List.setIfInBounds_toArray, List.set_cons_zero, List.set_cons_succ])
  refine wpAnyH_take (i := 5) (oi := { dst := some 78, op := Op.move (Operand.tmp 1), type := 3, pos := _, after := #[{ on := 1, ground := Ground.guard }], guard := some (1, true) }) (v := ?_) rfl (by kernel_rfl) (by kernel_rfl) (by kernel_rfl) (fun _ _ _ h => h) (Or.inl ⟨by rfl, ?hy⟩) hHeld ?_
  case hy => intro w0 hSw; (try dsimp only at hSw); go_simp; (try with_reducible rfl)
  (try simp only [Act.put, List.setIfInBounds_toArray, List.set_cons_zero, List.set_cons_succ])
  refine wpAnyH_take (i := 6) (oi := { dst := some 79, op := Op.slice 9 (Operand.tmp 77) none (some (Operand.tmp 78)) none, type := 9, pos := _, after := #[{ on := 4, ground := Ground.data }, { on := 5, ground := Ground.data }, { on := 1, ground := Ground.guard }], guard := some (1, true) }) (v := ?_) rfl (by kernel_rfl) (by kernel_rfl) (by kernel_rfl) (fun _ _ _ h => h) (Or.inl ⟨by rfl, ?hy⟩) hHeld ?_
  case hy => intro w0 hSw; (try dsimp only at hSw); have hv := Hv.out; have hnr := Hnr.out; have h0 := H0.out; go_simp; (try with_reducible rfl)
  (try simp only [Act.put, List.setIfInBounds_toArray, List.set_cons_zero, List.set_cons_succ])
  refine wpAnyH_ready (rs := [3]) (by kernel_rfl) (by simp) ?_
  refine AllReadyH.cons (o := { dst := some 76, op := Op.call { callee := Callee.value (Operand.func 24), args := #[Operand.tmp 75], argTypes := #[23] }, type := 9, pos := _, after := #[{ on := 2, ground := Ground.data }, { on := 1, ground := Ground.chain }, { on := 1, ground := Ground.guard }], guard := some (1, true) }) rfl (fun K hK => ?_) AllReadyH.nil
  go_simp
  refine (K6 _ (hS.fact 0 rfl)).out.mono ?_
  rintro e y2 ⟨rfl, hB'⟩
  replace hS := hS.on hB'
  clear hB'
  go_wp2_with fail
  refine hK.out _ _ hS (fun hHeld => ?_)
  clear hK K
  (try simp only [Act.put, List.setIfInBounds_toArray, List.set_cons_zero, List.set_cons_succ])
  refine wpAnyH_take (i := 7) (oi := { dst := some 80, op := Op.binOp BinOp.eql 9 (Operand.tmp 76) (Operand.tmp 79) 9, type := 4, pos := _, after := #[{ on := 3, ground := Ground.data }, { on := 6, ground := Ground.data }, { on := 1, ground := Ground.guard }], guard := some (1, true) }) (v := ?_) rfl (by kernel_rfl) (by kernel_rfl) (by kernel_rfl) (fun _ _ _ h => h) (Or.inl ⟨by rfl, ?hy⟩) hHeld ?_
  case hy => intro w0 hSw; (try dsimp only at hSw); go_simp; (try with_reducible rfl)
  (try simp only [Act.put, List.setIfInBounds_toArray, List.set_cons_zero, List.set_cons_succ])
  refine wpAnyH_take (i := 8) (oi := { dst := some 81, op := Op.pick (Operand.tmp 74) (Operand.tmp 80) (Operand.const (Value.bool false)), type := 4, pos := _, after := #[{ on := 1, ground := Ground.data }, { on := 7, ground := Ground.data }], guard := none }) (v := ?_) rfl (by kernel_rfl) (by kernel_rfl) (by kernel_rfl) (fun _ _ _ h => h) (Or.inl ⟨by rfl, ?hy⟩) hHeld ?_
  case hy => intro w0 hSw; (try dsimp only at hSw); go_simp; (try with_reducible rfl)
  (try simp only [Act.put, List.setIfInBounds_toArray, List.set_cons_zero, List.set_cons_succ])
  refine wpAnyH_take (i := 9) (oi := { dst := some 82, op := Op.move (Operand.tmp 81), type := 4, pos := _, after := #[{ on := 8, ground := Ground.data }, { on := 3, ground := Ground.chain }], guard := none }) (v := ?_) rfl (by kernel_rfl) (by kernel_rfl) (by kernel_rfl) (fun _ _ _ h => h) (Or.inl ⟨by rfl, ?hy⟩) hHeld ?_
  case hy => intro w0 hSw; (try dsimp only at hSw); go_simp; (try with_reducible rfl)
  (try simp only [Act.put, List.setIfInBounds_toArray, List.set_cons_zero, List.set_cons_succ])
  refine wpAnyH_take (i := 10) (oi := { dst := some 83, op := Op.move (Operand.tmp 1), type := 3, pos := _, after := #[{ on := 9, ground := Ground.guard }], guard := some (9, true) }) (v := ?_) rfl (by kernel_rfl) (by kernel_rfl) (by kernel_rfl) (fun _ _ _ h => h) (Or.inl ⟨by rfl, ?hy⟩) hHeld ?_
  case hy => intro w0 hSw; (try dsimp only at hSw); go_simp; (try with_reducible rfl)
  (try simp only [Act.put, List.setIfInBounds_toArray, List.set_cons_zero, List.set_cons_succ])
  refine wpAnyH_take (i := 11) (oi := { dst := some 84, op := Op.move (Operand.tmp 5), type := 9, pos := _, after := #[{ on := 9, ground := Ground.guard }], guard := some (9, true) }) (v := ?_) rfl (by kernel_rfl) (by kernel_rfl) (by kernel_rfl) (fun _ _ _ h => h) (Or.inl ⟨by rfl, ?hy⟩) hHeld ?_
  case hy => intro w0 hSw; (try dsimp only at hSw); go_simp; (try with_reducible rfl)
  (try simp only [Act.put, List.setIfInBounds_toArray, List.set_cons_zero, List.set_cons_succ])
  refine wpAnyH_take (i := 12) (oi := { dst := some 85, op := Op.call { callee := Callee.builtin Builtin.len, args := #[Operand.tmp 84], argTypes := #[9] }, type := 3, pos := _, after := #[{ on := 11, ground := Ground.data }, { on := 9, ground := Ground.guard }], guard := some (9, true) }) (v := ?_) rfl (by kernel_rfl) (by kernel_rfl) (by kernel_rfl) (fun _ _ _ h => h) (Or.inl ⟨by rfl, ?hy⟩) hHeld ?_
  case hy => intro w0 hSw; (try dsimp only at hSw); go_simp; (try with_reducible rfl)
  (try simp only [Act.put, List.setIfInBounds_toArray, List.set_cons_zero, List.set_cons_succ])
  refine wpAnyH_take (i := 13) (oi := { dst := some 86, op := Op.binOp BinOp.neq 3 (Operand.tmp 83) (Operand.tmp 85) 3, type := 4, pos := _, after := #[{ on := 10, ground := Ground.data }, { on := 12, ground := Ground.data }, { on := 9, ground := Ground.guard }], guard := some (9, true) }) (v := ?_) rfl (by kernel_rfl) (by kernel_rfl) (by kernel_rfl) (fun _ _ _ h => h) (Or.inl ⟨by rfl, ?hy⟩) hHeld ?_
  case hy => intro w0 hSw; (try dsimp only at hSw); have j3 := J3.out; have j4 : (n != (r.size : Int)) = true := (by rw [bne_iff_ne]; intro hh; exact cast J3.out hh); have j5 : decide (n = (r.size : Int)) = false := decide_eq_false (fun hh => cast J3.out hh); go_simp; (try simp only [j3, j4, j5, decide_false, Bool.not_false]); (try with_reducible rfl)
  (try simp only [Act.put, List.setIfInBounds_toArray, List.set_cons_zero, List.set_cons_succ])
  refine wpAnyH_take (i := 14) (oi := { dst := some 87, op := Op.move (Operand.tmp 86), type := 4, pos := _, after := #[{ on := 13, ground := Ground.data }, { on := 9, ground := Ground.chain }, { on := 9, ground := Ground.guard }], guard := some (9, true) }) (v := ?_) rfl (by kernel_rfl) (by kernel_rfl) (by kernel_rfl) (fun _ _ _ h => h) (Or.inl ⟨by rfl, ?hy⟩) hHeld ?_
  case hy => intro w0 hSw; (try dsimp only at hSw); go_simp; (try with_reducible rfl)
  (try simp only [Act.put, List.setIfInBounds_toArray, List.set_cons_zero, List.set_cons_succ])
  refine wpAnyH_take (i := 15) (oi := { dst := some 88, op := Op.load 23 (Operand.tmp 6), type := 23, pos := _, after := #[{ on := 14, ground := Ground.guard }], guard := some (14, false) }) (v := undef) rfl (by kernel_rfl) (by kernel_rfl) (by kernel_rfl) (fun _ _ _ h => h) (Or.inr ⟨by rfl, rfl⟩) hHeld ?_
  (try simp only [Act.put, List.setIfInBounds_toArray, List.set_cons_zero, List.set_cons_succ])
  refine wpAnyH_take (i := 16) (oi := { dst := some 89, op := Op.load 23 (Operand.tmp 8), type := 23, pos := _, after := #[{ on := 14, ground := Ground.guard }], guard := some (14, false) }) (v := undef) rfl (by kernel_rfl) (by kernel_rfl) (by kernel_rfl) (fun _ _ _ h => h) (Or.inr ⟨by rfl, rfl⟩) hHeld ?_
  (try simp only [Act.put, List.setIfInBounds_toArray, List.set_cons_zero, List.set_cons_succ])
  refine wpAnyH_take (i := 17) (oi := { dst := some 90, op := Op.binOp BinOp.eql 23 (Operand.tmp 88) (Operand.tmp 89) 23, type := 4, pos := _, after := #[{ on := 15, ground := Ground.data }, { on := 16, ground := Ground.data }, { on := 14, ground := Ground.guard }], guard := some (14, false) }) (v := undef) rfl (by kernel_rfl) (by kernel_rfl) (by kernel_rfl) (fun _ _ _ h => h) (Or.inr ⟨by rfl, rfl⟩) hHeld ?_
  (try simp only [Act.put, List.setIfInBounds_toArray, List.set_cons_zero, List.set_cons_succ])
  refine wpAnyH_take (i := 18) (oi := { dst := some 91, op := Op.pick (Operand.tmp 87) (Operand.const (Value.bool true)) (Operand.tmp 90), type := 4, pos := _, after := #[{ on := 14, ground := Ground.data }, { on := 17, ground := Ground.data }, { on := 9, ground := Ground.guard }], guard := some (9, true) }) (v := ?_) rfl (by kernel_rfl) (by kernel_rfl) (by kernel_rfl) (fun _ _ _ h => h) (Or.inl ⟨by rfl, ?hy⟩) hHeld ?_
  case hy => intro w0 hSw; (try dsimp only at hSw); go_simp; (try with_reducible rfl)
  (try simp only [Act.put, List.setIfInBounds_toArray, List.set_cons_zero, List.set_cons_succ])
  refine wpAnyH_take (i := 19) (oi := { dst := some 92, op := Op.pick (Operand.tmp 82) (Operand.tmp 91) (Operand.const (Value.bool false)), type := 4, pos := _, after := #[{ on := 9, ground := Ground.data }, { on := 18, ground := Ground.data }], guard := none }) (v := ?_) rfl (by kernel_rfl) (by kernel_rfl) (by kernel_rfl) (fun _ _ _ h => h) (Or.inl ⟨by rfl, ?hy⟩) hHeld ?_
  case hy => intro w0 hSw; (try dsimp only at hSw); go_simp; (try with_reducible rfl)
  (try simp only [Act.put, List.setIfInBounds_toArray, List.set_cons_zero, List.set_cons_succ])
  refine wpAnyH_take (i := 20) (oi := { dst := some 93, op := Op.move (Operand.tmp 92), type := 4, pos := _, after := #[{ on := 19, ground := Ground.data }, { on := 14, ground := Ground.chain }], guard := none }) (v := ?_) rfl (by kernel_rfl) (by kernel_rfl) (by kernel_rfl) (fun _ _ _ h => h) (Or.inl ⟨by rfl, ?hy⟩) hHeld ?_
  case hy => intro w0 hSw; (try dsimp only at hSw); go_simp; (try with_reducible rfl)
  (try simp only [Act.put, List.setIfInBounds_toArray, List.set_cons_zero, List.set_cons_succ])
  refine wpAnyH_take (i := 21) (oi := { dst := some 94, op := Op.move (Operand.tmp 9), type := 28, pos := _, after := #[{ on := 20, ground := Ground.guard }], guard := some (20, true) }) (v := ?_) rfl (by kernel_rfl) (by kernel_rfl) (by kernel_rfl) (fun _ _ _ h => h) (Or.inl ⟨by rfl, ?hy⟩) hHeld ?_
  case hy => intro w0 hSw; (try dsimp only at hSw); go_simp; (try with_reducible rfl)
  (try simp only [Act.put, List.setIfInBounds_toArray, List.set_cons_zero, List.set_cons_succ])
  refine wpAnyH_take (i := 22) (oi := { dst := some 95, op := Op.binOp BinOp.eql 28 (Operand.tmp 94) (Operand.const (Value.int IntKind.i64 0)) 28, type := 4, pos := _, after := #[{ on := 21, ground := Ground.data }, { on := 20, ground := Ground.guard }], guard := some (20, true) }) (v := ?_) rfl (by kernel_rfl) (by kernel_rfl) (by kernel_rfl) (fun _ _ _ h => h) (Or.inl ⟨by rfl, ?hy⟩) hHeld ?_
  case hy => intro w0 hSw; (try dsimp only at hSw); go_simp; (try with_reducible rfl)
  (try simp only [Act.put, List.setIfInBounds_toArray, List.set_cons_zero, List.set_cons_succ])
  refine wpAnyH_take (i := 23) (oi := { dst := some 96, op := Op.pick (Operand.tmp 93) (Operand.tmp 95) (Operand.const (Value.bool false)), type := 4, pos := _, after := #[{ on := 20, ground := Ground.data }, { on := 22, ground := Ground.data }], guard := none }) (v := ?_) rfl (by kernel_rfl) (by kernel_rfl) (by kernel_rfl) (fun _ _ _ h => h) (Or.inl ⟨by rfl, ?hy⟩) hHeld ?_
  case hy => intro w0 hSw; (try dsimp only at hSw); go_simp; (try with_reducible rfl)
  (try simp only [Act.put, List.setIfInBounds_toArray, List.set_cons_zero, List.set_cons_succ])
  refine wpAnyH_take (i := 24) (oi := { dst := some 97, op := Op.move (Operand.tmp 96), type := 4, pos := _, after := #[{ on := 23, ground := Ground.data }, { on := 20, ground := Ground.chain }], guard := none }) (v := ?_) rfl (by kernel_rfl) (by kernel_rfl) (by kernel_rfl) (fun _ _ _ h => h) (Or.inl ⟨by rfl, ?hy⟩) hHeld ?_
  case hy => intro w0 hSw; (try dsimp only at hSw); go_simp; (try with_reducible rfl)
  (try simp only [Act.put, List.setIfInBounds_toArray, List.set_cons_zero, List.set_cons_succ])
  refine wpAnyH_take (i := 25) (oi := { dst := some 98, op := Op.move (Operand.tmp 11), type := 28, pos := _, after := #[{ on := 24, ground := Ground.guard }], guard := some (24, true) }) (v := ?_) rfl (by kernel_rfl) (by kernel_rfl) (by kernel_rfl) (fun _ _ _ h => h) (Or.inl ⟨by rfl, ?hy⟩) hHeld ?_
  case hy => intro w0 hSw; (try dsimp only at hSw); go_simp; (try with_reducible rfl)
  (try simp only [Act.put, List.setIfInBounds_toArray, List.set_cons_zero, List.set_cons_succ])
  refine wpAnyH_take (i := 26) (oi := { dst := some 99, op := Op.move (Operand.tmp 9), type := 28, pos := _, after := #[{ on := 24, ground := Ground.guard }], guard := some (24, true) }) (v := ?_) rfl (by kernel_rfl) (by kernel_rfl) (by kernel_rfl) (fun _ _ _ h => h) (Or.inl ⟨by rfl, ?hy⟩) hHeld ?_
  case hy => intro w0 hSw; (try dsimp only at hSw); go_simp; (try with_reducible rfl)
  (try simp only [Act.put, List.setIfInBounds_toArray, List.set_cons_zero, List.set_cons_succ])
  refine wpAnyH_take (i := 27) (oi := { dst := some 100, op := Op.binOp BinOp.eql 28 (Operand.tmp 98) (Operand.tmp 99) 28, type := 4, pos := _, after := #[{ on := 25, ground := Ground.data }, { on := 26, ground := Ground.data }, { on := 24, ground := Ground.guard }], guard := some (24, true) }) (v := ?_) rfl (by kernel_rfl) (by kernel_rfl) (by kernel_rfl) (fun _ _ _ h => h) (Or.inl ⟨by rfl, ?hy⟩) hHeld ?_
  case hy => intro w0 hSw; (try dsimp only at hSw); go_simp; (try with_reducible rfl)
  (try simp only [Act.put, List.setIfInBounds_toArray, List.set_cons_zero, List.set_cons_succ])
  refine wpAnyH_take (i := 28) (oi := { dst := some 101, op := Op.pick (Operand.tmp 97) (Operand.tmp 100) (Operand.const (Value.bool false)), type := 4, pos := _, after := #[{ on := 24, ground := Ground.data }, { on := 27, ground := Ground.data }], guard := none }) (v := ?_) rfl (by kernel_rfl) (by kernel_rfl) (by kernel_rfl) (fun _ _ _ h => h) (Or.inl ⟨by rfl, ?hy⟩) hHeld ?_
  case hy => intro w0 hSw; (try dsimp only at hSw); go_simp; (try with_reducible rfl)
  (try simp only [Act.put, List.setIfInBounds_toArray, List.set_cons_zero, List.set_cons_succ])
  refine wpAnyH_take (i := 29) (oi := { dst := some 102, op := Op.move (Operand.tmp 101), type := 4, pos := _, after := #[{ on := 28, ground := Ground.data }, { on := 24, ground := Ground.chain }], guard := none }) (v := ?_) rfl (by kernel_rfl) (by kernel_rfl) (by kernel_rfl) (fun _ _ _ h => h) (Or.inl ⟨by rfl, ?hy⟩) hHeld ?_
  case hy => intro w0 hSw; (try dsimp only at hSw); go_simp; (try with_reducible rfl)
  (try simp only [Act.put, List.setIfInBounds_toArray, List.set_cons_zero, List.set_cons_succ])
  refine wpAnyH_take (i := 30) (oi := { dst := some 103, op := Op.move (Operand.tmp 13), type := 28, pos := _, after := #[{ on := 29, ground := Ground.guard }], guard := some (29, true) }) (v := ?_) rfl (by kernel_rfl) (by kernel_rfl) (by kernel_rfl) (fun _ _ _ h => h) (Or.inl ⟨by rfl, ?hy⟩) hHeld ?_
  case hy => intro w0 hSw; (try dsimp only at hSw); go_simp; (try with_reducible rfl)
  (try simp only [Act.put, List.setIfInBounds_toArray, List.set_cons_zero, List.set_cons_succ])
  refine wpAnyH_take (i := 31) (oi := { dst := some 104, op := Op.move (Operand.tmp 9), type := 28, pos := _, after := #[{ on := 29, ground := Ground.guard }], guard := some (29, true) }) (v := ?_) rfl (by kernel_rfl) (by kernel_rfl) (by kernel_rfl) (fun _ _ _ h => h) (Or.inl ⟨by rfl, ?hy⟩) hHeld ?_
  case hy => intro w0 hSw; (try dsimp only at hSw); go_simp; (try with_reducible rfl)
  (try simp only [Act.put, List.setIfInBounds_toArray, List.set_cons_zero, List.set_cons_succ])
  refine wpAnyH_take (i := 32) (oi := { dst := some 105, op := Op.binOp BinOp.eql 28 (Operand.tmp 103) (Operand.tmp 104) 28, type := 4, pos := _, after := #[{ on := 30, ground := Ground.data }, { on := 31, ground := Ground.data }, { on := 29, ground := Ground.guard }], guard := some (29, true) }) (v := ?_) rfl (by kernel_rfl) (by kernel_rfl) (by kernel_rfl) (fun _ _ _ h => h) (Or.inl ⟨by rfl, ?hy⟩) hHeld ?_
  case hy => intro w0 hSw; (try dsimp only at hSw); go_simp; (try with_reducible rfl)
  (try simp only [Act.put, List.setIfInBounds_toArray, List.set_cons_zero, List.set_cons_succ])
  refine wpAnyH_take (i := 33) (oi := { dst := some 106, op := Op.pick (Operand.tmp 102) (Operand.tmp 105) (Operand.const (Value.bool false)), type := 4, pos := _, after := #[{ on := 29, ground := Ground.data }, { on := 32, ground := Ground.data }], guard := none }) (v := ?_) rfl (by kernel_rfl) (by kernel_rfl) (by kernel_rfl) (fun _ _ _ h => h) (Or.inl ⟨by rfl, ?hy⟩) hHeld ?_
  case hy => intro w0 hSw; (try dsimp only at hSw); go_simp; (try with_reducible rfl)
  (try simp only [Act.put, List.setIfInBounds_toArray, List.set_cons_zero, List.set_cons_succ])
  refine wpAnyH_take (i := 34) (oi := { dst := some 107, op := Op.move (Operand.tmp 106), type := 4, pos := _, after := #[{ on := 33, ground := Ground.data }, { on := 29, ground := Ground.chain }], guard := none }) (v := ?_) rfl (by kernel_rfl) (by kernel_rfl) (by kernel_rfl) (fun _ _ _ h => h) (Or.inl ⟨by rfl, ?hy⟩) hHeld ?_
  case hy => intro w0 hSw; (try dsimp only at hSw); go_simp; (try with_reducible rfl)
  (try simp only [Act.put, List.setIfInBounds_toArray, List.set_cons_zero, List.set_cons_succ])
  refine wpAnyH_take (i := 35) (oi := { dst := some 108, op := Op.load 23 (Operand.tmp 10), type := 23, pos := _, after := #[{ on := 34, ground := Ground.guard }], guard := some (34, true) }) (v := ?_) rfl (by kernel_rfl) (by kernel_rfl) (by kernel_rfl) (fun _ _ _ h => h) (Or.inl ⟨by rfl, ?hy⟩) hHeld ?_
  case hy => intro w0 hSw; have d0 := hSw.cell 1 rfl 0 rfl; have d1 := hSw.cell 1 rfl 1 rfl; have d2 := hSw.cell 1 rfl 2 rfl; clear hSw; go_simp; (try with_reducible rfl)
  (try simp only [Act.put, List.setIfInBounds_toArray, List.set_cons_zero, List.set_cons_succ])
  refine wpAnyH_take (i := 36) (oi := { dst := some 109, op := Op.load 23 (Operand.tmp 12), type := 23, pos := _, after := #[{ on := 34, ground := Ground.guard }], guard := some (34, true) }) (v := ?_) rfl (by kernel_rfl) (by kernel_rfl) (by kernel_rfl) (fun _ _ _ h => h) (Or.inl ⟨by rfl, ?hy⟩) hHeld ?_
  case hy => intro w0 hSw; have d0 := hSw.cell 0 rfl 0 rfl; have d1 := hSw.cell 0 rfl 1 rfl; have d2 := hSw.cell 0 rfl 2 rfl; clear hSw; go_simp; (try with_reducible rfl)
  (try simp only [Act.put, List.setIfInBounds_toArray, List.set_cons_zero, List.set_cons_succ])
  refine wpAnyH_take (i := 37) (oi := { dst := some 110, op := Op.binOp BinOp.eql 23 (Operand.tmp 108) (Operand.tmp 109) 23, type := 4, pos := _, after := #[{ on := 35, ground := Ground.data }, { on := 36, ground := Ground.data }, { on := 34, ground := Ground.guard }], guard := some (34, true) }) (v := ?_) rfl (by kernel_rfl) (by kernel_rfl) (by kernel_rfl) (fun _ _ _ h => h) (Or.inl ⟨by rfl, ?hy⟩) hHeld ?_
  case hy => intro w0 hSw; (try dsimp only at hSw); go_simp; (try with_reducible rfl)
  (try simp only [Act.put, List.setIfInBounds_toArray, List.set_cons_zero, List.set_cons_succ])
  refine wpAnyH_take (i := 38) (oi := { dst := some 111, op := Op.pick (Operand.tmp 107) (Operand.tmp 110) (Operand.const (Value.bool false)), type := 4, pos := _, after := #[{ on := 34, ground := Ground.data }, { on := 37, ground := Ground.data }], guard := none }) (v := ?_) rfl (by kernel_rfl) (by kernel_rfl) (by kernel_rfl) (fun _ _ _ h => h) (Or.inl ⟨by rfl, ?hy⟩) hHeld ?_
  case hy => intro w0 hSw; (try dsimp only at hSw); go_simp; (try with_reducible rfl)
  (try simp only [Act.put, List.setIfInBounds_toArray, List.set_cons_zero, List.set_cons_succ])
  refine wpAnyH_take (i := 39) (oi := { dst := some 4, op := Op.assign (Operand.tmp 111), type := 4, pos := _, after := #[{ on := 38, ground := Ground.data }, { on := 34, ground := Ground.chain }, { on := 0, ground := Ground.phase }, { on := 1, ground := Ground.phase }, { on := 2, ground := Ground.phase }, { on := 3, ground := Ground.phase }, { on := 4, ground := Ground.phase }, { on := 5, ground := Ground.phase }, { on := 6, ground := Ground.phase }, { on := 7, ground := Ground.phase }, { on := 8, ground := Ground.phase }, { on := 9, ground := Ground.phase }, { on := 10, ground := Ground.phase }, { on := 11, ground := Ground.phase }, { on := 12, ground := Ground.phase }, { on := 13, ground := Ground.phase }, { on := 14, ground := Ground.phase }, { on := 15, ground := Ground.phase }, { on := 16, ground := Ground.phase }, { on := 17, ground := Ground.phase }, { on := 18, ground := Ground.phase }, { on := 19, ground := Ground.phase }, { on := 20, ground := Ground.phase }, { on := 21, ground := Ground.phase }, { on := 22, ground := Ground.phase }, { on := 23, ground := Ground.phase }, { on := 24, ground := Ground.phase }, { on := 25, ground := Ground.phase }, { on := 26, ground := Ground.phase }, { on := 27, ground := Ground.phase }, { on := 28, ground := Ground.phase }, { on := 29, ground := Ground.phase }, { on := 30, ground := Ground.phase }, { on := 31, ground := Ground.phase }, { on := 32, ground := Ground.phase }, { on := 33, ground := Ground.phase }, { on := 34, ground := Ground.phase }, { on := 35, ground := Ground.phase }, { on := 36, ground := Ground.phase }, { on := 37, ground := Ground.phase }, { on := 38, ground := Ground.phase }], guard := none }) (v := ?_) rfl (by kernel_rfl) (by kernel_rfl) (by kernel_rfl) (fun _ _ _ h => h) (Or.inl ⟨by rfl, ?hy⟩) hHeld ?_
  case hy => intro w0 hSw; (try dsimp only at hSw); go_simp; (try with_reducible rfl)
  (try simp only [Act.put, List.setIfInBounds_toArray, List.set_cons_zero, List.set_cons_succ])
  refine wpAnyH_done (by kernel_rfl) ?_ _
  clear hHeld
  have HSe := Lib.hid hS
  clear hS
  go_wp2
  go_ret
  exact ⟨rfl, HSe.out.below⟩

theorem Fi.cut_crash {m : Int} {k l : ByteArray} (h : Fi.is ⟨m, k, l⟩ = true) {n : Int} (_hn : 0 ≤ n) {z : Int} (hz : z = (Fi.many ⟨m, k, l⟩ n : Nat)) : Fi.cut ⟨m, k, l⟩ ((k.size : Int) + z) = Fi.crash ⟨m, k, l⟩ n ∧ Fi.cutE ⟨m, k, l⟩ ((k.size : Int) + z) = 0 := by
  have hq : Fi.many ⟨m, k, l⟩ n ≤ l.size := by unfold Fi.many; exact Nat.min_le_right _ _
  have hc : Fi.cutOk ⟨m, k, l⟩ ((k.size : Int) + z) = true := by
    unfold Fi.cutOk; rw [h, Bool.true_and, decide_eq_true_iff]; simp only; omega
  have e : ((k.size : Int) + z).toNat = (k ++ l.extract 0 (Fi.many ⟨m, k, l⟩ n)).size := by rw [ByteArray.size_append, ByteArray.size_extract]; omega
  have t := Fi.read_take ⟨m, k, l⟩ _ hq
  unfold Fi.cut Fi.cutE
  rw [if_pos hc, if_pos hc, (Fi.crash_is h n).1, e, t]
  exact ⟨rfl, rfl⟩
theorem fileCut_walk {E : World → Prop} (HS : Hid (FileK E)) (HC : Hid (FiledK E)) (m : Int) (k l : ByteArray) (n : Int) (w : World) (hE : E w) : Calls Try.prog 6 #[.agg #[.int .i64 m, .string k, .string l], .int .i64 n] w fun e w' => e = .returned (.bool true) ∧ Below w.heap.size w w' := by
  by_cases hb : decide (2000 < k.size ∨ 2000 < l.size) = true
  · exact fileCut_big HS HC m k l n w hE hb
  have hb' : decide (2000 < k.size ∨ 2000 < l.size) = false := by simpa using hb
  have hkl : Fi.small ⟨m, k, l⟩ := by have := of_decide_eq_false hb'; unfold Fi.small; simp only; omega
  have KI := fun W (h : E W) => Lib.hid (HS.out.is ⟨m, k, l⟩ W h hkl)
  cases hi : Fi.is ⟨m, k, l⟩
  · rw [hi] at KI
    exact fileCut_not HS HC m k l n w hE hb' KI
  rw [hi] at KI
  have K1 := fun W (h : E W) => Lib.hid (HS.out.read ⟨m, k, l⟩ W h hkl)
  have K2 := fun W (h : E W) => Lib.hid (HS.out.cut ⟨m, k, l⟩ n W h hkl)
  obtain ⟨r, hr⟩ : ∃ r, r = Fi.read ⟨m, k, l⟩ := ⟨_, rfl⟩
  have hrs : r.size = k.size + l.size := by rw [hr]; exact Fi.read_size _
  rw [← hr] at K1
  by_cases hc : Fi.cutOk ⟨m, k, l⟩ n = true
  · have hc2 : 0 ≤ n ∧ n ≤ (k.size : Int) + l.size := by
      unfold Fi.cutOk at hc; rw [Bool.and_eq_true] at hc; exact of_decide_eq_true hc.2
    have e1 : Fi.cut ⟨m, k, l⟩ n = ⟨m, r.extract 0 n.toNat, ⟨#[]⟩⟩ := by unfold Fi.cut; rw [if_pos hc, hr]
    have e2 : Fi.cutE ⟨m, k, l⟩ n = 0 := by unfold Fi.cutE; rw [if_pos hc]
    have eb : Fi.badE ⟨m, k, l⟩ = 0 := by unfold Fi.badE; rw [hi]; rfl
    have y := Fi.sync_is hi
    have c := Fi.crash_is hi n
    have K3 := fun W (h : E W) => Lib.hid (HS.out.sync ⟨m, k, l⟩ W h hkl)
    have K4 := fun W (h : E W) => Lib.hid (HS.out.crash ⟨m, k, l⟩ n W h hkl)
    rw [y.1, eb] at K3
    simp only [← hr] at K3
    rw [c.1, eb] at K4
    rw [e1, e2] at K2
    have hm : Fi.many ⟨m, k, l⟩ n = min n.toNat l.size := rfl
    have hsm := Fi.is_small hi
    simp only at hsm
    have hv0 : Fi.small ⟨m, r.extract 0 n.toNat, ⟨#[]⟩⟩ := by unfold Fi.small; rw [ByteArray.size_extract]; exact ⟨by omega, Nat.zero_le _⟩
    have K6 := fun W (h : E W) => Lib.hid (HS.out.read ⟨m, r.extract 0 n.toNat, ⟨#[]⟩⟩ W h hv0)
    rw [Fi.read_kept] at K6
    have K5 := fun (z : Int) (hz : z = (Fi.many ⟨m, k, l⟩ n : Nat)) => fun W (h : E W) => by
      have g := HS.out.cut ⟨m, k, l⟩ ((k.size : Int) + z) W h hkl
      rw [(Fi.cut_crash hi hc2.1 hz).1, (Fi.cut_crash hi hc2.1 hz).2, c.1] at g
      exact Lib.hid g
    have iw : ∀ z : Int, 0 ≤ z → z ≤ 4000 → Hid (wrap64 ((k.size : Int) + z) = (k.size : Int) + z) := fun z h1 h2 => Lib.hid (by unfold wrap64; omega)
    by_cases h3 : n = (r.size : Int)
    · subst h3
      have hv : r.extract 0 r.size = r := ba_extract_all r
      have hn : ((r.size : Int)).toNat = r.size := Int.toNat_natCast _
      rw [hn, hv] at K2 K6
      by_cases h2 : (l.size : Int) < (r.size : Int)
      · exact fileCut_fare HS HC m k l r _ w hE hb' (eq_true h2) hv (iw _ (by omega) (by omega)) KI K1 K2 K3 K4 (K5 _ (by rw [hm]; omega)) K6
      · exact fileCut_mide HS HC m k l r _ w hE hb' (eq_false h2) hv (iw _ (by omega) (by omega)) KI K1 K2 K3 K4 (K5 _ (by rw [hm]; omega)) K6
    · by_cases h2 : (l.size : Int) < n
      · exact fileCut_farn HS HC m k l n r _ _ w hE hb' (eq_true h2) (eq_false h3) rfl hc2.1 (by omega) (iw _ (by omega) (by omega)) KI K1 K2 K3 K4 (K5 _ (by rw [hm]; omega)) K6
      · exact fileCut_midn HS HC m k l n r _ _ w hE hb' (eq_false h2) (eq_false h3) rfl hc2.1 (by omega) (iw _ (by omega) (by omega)) KI K1 K2 K3 K4 (K5 _ (by rw [hm]; omega)) K6
  · have e1 : Fi.cut ⟨m, k, l⟩ n = Fi.no := by unfold Fi.cut; rw [if_neg hc]
    have e2 : Fi.cutE ⟨m, k, l⟩ n = 1 := by unfold Fi.cutE; rw [if_neg hc]
    rw [e1, e2] at K2
    have hno : Fi.small Fi.no := by unfold Fi.small; decide
    have K3 := fun W (h : E W) => Lib.hid (HS.out.read Fi.no W h hno)
    rw [Fi.no_read] at K3
    by_cases hn : n < 0
    · exact fileCut_low HS HC m k l n w hE hb' r (eq_true hn) KI K1 K2 K3
    · refine fileCut_high HS HC m k l n w hE hb' r (eq_false hn) (eq_true ?_) KI K1 K2 K3
      have : ¬ (0 ≤ n ∧ n ≤ (k.size : Int) + l.size) := fun hh => hc (by unfold Fi.cutOk; rw [hi, Bool.true_and]; exact decide_eq_true hh)
      omega

end Go.Proofs.Ytdhklggbmlkloaa
