/-
  Layer 15 (slots): the references' New, Crash, Save (printed by tools/gen-refslo3.py).
-/
import Derived.Test.YteepemibmjpnfaaXRefSlo2
namespace Go.Proofs.Yteepemibmjpnfaa
set_option maxRecDepth 10000
open Go.RowKit

theorem lt15 {w : World} {k : Nat} {cs : Array Value} (h : ∃ t, w.heap[k]? = some (.cells cs t (0, 0))) : k < w.heap.size := by
  obtain ⟨t, h⟩ := h; exact (Array.getElem?_eq_some_iff.1 h).1

set_option maxHeartbeats 4000000 in
theorem slCrash_no (sm sn : Int) (sk sl sx sy : ByteArray) (d : Int) (w : World)
    (pI : ∀ (W : World), Hid (Calls Try.prog 24 #[.agg #[.int .i64 sm, .string sk, .string sl, .int .i64 sn, .string sx, .string sy]] W fun e w' => e = .returned (.bool false) ∧ Below W.heap.size W w')) :
    Calls Try.prog 14 #[.agg #[.int .i64 sm, .string sk, .string sl, .int .i64 sn, .string sx, .string sy], .int .i64 d] w fun e w' => e = .returned (.tuple #[.agg #[.int .i64 0, .string ⟨#[]⟩, .string ⟨#[]⟩, .int .i64 0, .string ⟨#[]⟩, .string ⟨#[]⟩], .int .i64 1]) ∧ Below w.heap.size w w' := by
  have S0 := Lib.hid ((St.start w).box2 #[.int .i64 sm, .string sk, .string sl, .int .i64 sn, .string sx, .string sy] #[.int .i64 0, .string ⟨#[]⟩, .string ⟨#[]⟩, .int .i64 0, .string ⟨#[]⟩, .string ⟨#[]⟩] 25 25)
  go_enter Try.func14, Try.ntmps14
  go_wp2_with (refine wpList_loadg_st (by rfl) 25 _ rfl S0.out 1 _ _ rfl rfl _ Try.underlying25 rfl (by rfl) ?_)
  refine (pI _).out.mono ?_
  rintro e w1 ⟨rfl, hB⟩
  have S1 := Lib.hid (S0.out.on hB)
  clear hB S0
  clear pI
  obtain ⟨p0, hp0⟩ : ∃ p, p = w.heap.size := ⟨_, rfl⟩
  obtain ⟨k0, hk0⟩ : ∃ p, p = w.heap.size + 1 := ⟨_, rfl⟩
  have Hk : Hid (w.heap.size ≤ k0) := Lib.hid (by omega)
  have Hp : Hid (w.heap.size ≤ p0) := Lib.hid (by omega)
  have Hne : Hid (p0 ≠ k0) := Lib.hid (by omega)
  have Hlt : Hid (p0 < k0) := Lib.hid (by omega)
  rw [← hk0, ← hp0] at S1
  (try rw [← hk0])
  (try rw [← hp0])
  clear hp0 hk0
  go_wp2_with (refine wpList_storew_st rfl 25 _ _ rfl S1.out Hk.out (by intro u hu; rcases List.mem_singleton.1 hu with rfl; exact Hne.out) #[.int .i64 0, .string ⟨#[]⟩, .string ⟨#[]⟩, .int .i64 0, .string ⟨#[]⟩, .string ⟨#[]⟩] rfl rfl (by rfl) rfl (sl_one15 _ _ _ _ _ _) ?_; intro w2 hS; have S2 := Lib.hid hS; clear hS)
  (try simp only [Exit.inBlock, Exit.then]); refine bodyPost_ret (ret_slots rfl rfl S2.out rfl) rfl ?_
  exact ⟨rfl, S2.out.below⟩

set_option maxHeartbeats 4000000 in
theorem slCrash_yes (sm sn : Int) (sk sl sx sy : ByteArray) (d am bm ea eb : Int) (ak al bk bl2 : ByteArray) (w : World)
    (pI : ∀ (W : World), Hid (Calls Try.prog 24 #[.agg #[.int .i64 sm, .string sk, .string sl, .int .i64 sn, .string sx, .string sy]] W fun e w' => e = .returned (.bool true) ∧ Below W.heap.size W w'))
    (pA : ∀ (W : World), Hid (Calls Try.prog 35 #[.agg #[.int .i64 sm, .string sk, .string sl], .int .i64 d] W fun e w' => e = .returned (.tuple #[.agg #[.int .i64 am, .string ak, .string al], .int .i64 ea]) ∧ Below W.heap.size W w'))
    (pB : ∀ (W : World), Hid (Calls Try.prog 35 #[.agg #[.int .i64 sn, .string sx, .string sy], .int .i64 d] W fun e w' => e = .returned (.tuple #[.agg #[.int .i64 bm, .string bk, .string bl2], .int .i64 eb]) ∧ Below W.heap.size W w')) :
    Calls Try.prog 14 #[.agg #[.int .i64 sm, .string sk, .string sl, .int .i64 sn, .string sx, .string sy], .int .i64 d] w fun e w' => e = .returned (.tuple #[.agg #[.int .i64 am, .string ak, .string al, .int .i64 bm, .string bk, .string bl2], .int .i64 0]) ∧ Below w.heap.size w w' := by
  have S0 := Lib.hid ((St.start w).box2 #[.int .i64 sm, .string sk, .string sl, .int .i64 sn, .string sx, .string sy] #[.int .i64 0, .string ⟨#[]⟩, .string ⟨#[]⟩, .int .i64 0, .string ⟨#[]⟩, .string ⟨#[]⟩] 25 25)
  go_enter Try.func14, Try.ntmps14
  go_wp2_with (refine wpList_loadg_st (by rfl) 25 _ rfl S0.out 1 _ _ rfl rfl _ Try.underlying25 rfl (by rfl) ?_)
  refine (pI _).out.mono ?_
  rintro e w1 ⟨rfl, hB⟩
  have S1 := Lib.hid (S0.out.on hB)
  clear hB S0
  clear pI
  obtain ⟨p0, hp0⟩ : ∃ p, p = w.heap.size := ⟨_, rfl⟩
  obtain ⟨k0, hk0⟩ : ∃ p, p = w.heap.size + 1 := ⟨_, rfl⟩
  have Hk : Hid (w.heap.size ≤ k0) := Lib.hid (by omega)
  have Hp : Hid (w.heap.size ≤ p0) := Lib.hid (by omega)
  have Hne : Hid (p0 ≠ k0) := Lib.hid (by omega)
  have Hlt : Hid (p0 < k0) := Lib.hid (by omega)
  rw [← hk0, ← hp0] at S1
  (try rw [← hk0])
  (try rw [← hp0])
  clear hp0 hk0
  go_wp2_with (refine wpList_loadm_st (by rfl) 23 _ rfl S1.out 1 _ _ rfl 0 rfl [.int .i64 sm, .string sk, .string sl] rfl _ Try.underlying23 rfl (by rfl) ?_)
  refine (pA _).out.mono ?_
  rintro e w2 ⟨rfl, hB⟩
  have S2 := Lib.hid (S1.out.on hB)
  clear hB S1
  go_wp2_with (first
    | (refine wpList_store_st rfl 23 _ _ rfl S2.out _ #[.int .i64 am, .string ak, .string al] _ rfl rfl (by rfl) rfl (fil_one15 _ _ _) ?_; intro k6 w3 hp hS hBn; (try rw [← hp]); have S3 := Lib.hid hS; have Hpk6 := Lib.hid hp; clear hS hp hBn)
    | (refine wpList_loadm_st (by rfl) 23 _ rfl S3.out 2 _ _ rfl 3 rfl [.int .i64 sn, .string sx, .string sy] rfl _ Try.underlying23 rfl (by rfl) ?_))
  refine (pB _).out.mono ?_
  rintro e w4 ⟨rfl, hB⟩
  have S4 := Lib.hid (S3.out.on hB)
  clear hB S3
  go_wp2_with (first
    | (refine wpList_store_st rfl 23 _ _ rfl S4.out _ #[.int .i64 bm, .string bk, .string bl2] _ rfl rfl (by rfl) rfl (fil_one15 _ _ _) ?_; intro k8 w5 hp hS hBn; (try rw [← hp]); have S5 := Lib.hid hS; have Hpk8 := Lib.hid hp; clear hS hp hBn)
    | (refine wpList_loadg_st (by rfl) 23 _ rfl S5.out 1 _ _ rfl rfl _ Try.underlying23 rfl (by rfl) ?_)
    | (refine wpList_loadg_st (by rfl) 23 _ rfl S5.out 0 _ _ rfl rfl _ Try.underlying23 rfl (by rfl) ?_)
    | (refine wpList_storew_st rfl 25 _ _ rfl (S5.out.sub (L' := [(k0, #[.int .i64 0, .string ⟨#[]⟩, .string ⟨#[]⟩, .int .i64 0, .string ⟨#[]⟩, .string ⟨#[]⟩])]) (by simp)) Hk.out (by simp) #[.int .i64 am, .string ak, .string al, .int .i64 bm, .string bk, .string bl2] rfl rfl (by rfl) rfl (sl_one15 _ _ _ _ _ _) ?_; intro w6 hS; have S6 := Lib.hid hS; clear hS))
  (try simp only [Exit.inBlock, Exit.then]); refine bodyPost_ret (ret_slots rfl rfl S6.out rfl) rfl ?_
  exact ⟨rfl, S6.out.below⟩

set_option maxHeartbeats 4000000 in
theorem slNew_no (n am : Int) (ak al : ByteArray) (e1 : Int) (je : (e1 != 0) = true) (w : World)
    (pN : ∀ (W : World), Hid (Calls Try.prog 40 #[.int .i64 n] W fun e w' => e = .returned (.tuple #[.agg #[.int .i64 am, .string ak, .string al], .int .i64 e1]) ∧ Below W.heap.size W w')) :
    Calls Try.prog 18 #[.int .i64 n] w fun e w' => e = .returned (.tuple #[.agg #[.int .i64 0, .string ⟨#[]⟩, .string ⟨#[]⟩, .int .i64 0, .string ⟨#[]⟩, .string ⟨#[]⟩], .int .i64 e1]) ∧ Below w.heap.size w w' := by
  have S0 := Lib.hid ((St.start w).new #[.int .i64 0, .string ⟨#[]⟩, .string ⟨#[]⟩, .int .i64 0, .string ⟨#[]⟩, .string ⟨#[]⟩] 25)
  go_enter Try.func18, Try.ntmps18
  go_wp2_with fail
  refine (pN _).out.mono ?_
  rintro e w1 ⟨rfl, hB⟩
  have S1 := Lib.hid (S0.out.on hB)
  clear hB S0
  clear pN
  obtain ⟨k0, hk0⟩ : ∃ p, p = w.heap.size := ⟨_, rfl⟩
  have Hk : Hid (w.heap.size ≤ k0) := Lib.hid (by omega)
  rw [← hk0] at S1
  (try rw [← hk0])
  clear hk0
  go_wp2_with (first
    | (refine wpList_store_st rfl 23 _ _ rfl S1.out _ #[.int .i64 am, .string ak, .string al] _ rfl rfl (by rfl) rfl (fil_one15 _ _ _) ?_; intro k4 w2 hp hS hBn; (try rw [← hp]); have S2 := Lib.hid hS; have Hpk4 := Lib.hid hp; clear hS hp hBn)
    | (refine wpList_storew_st rfl 25 _ _ rfl (S2.out.sub (L' := [(k0, #[.int .i64 0, .string ⟨#[]⟩, .string ⟨#[]⟩, .int .i64 0, .string ⟨#[]⟩, .string ⟨#[]⟩])]) (by simp)) Hk.out (by simp) #[.int .i64 0, .string ⟨#[]⟩, .string ⟨#[]⟩, .int .i64 0, .string ⟨#[]⟩, .string ⟨#[]⟩] rfl rfl (by rfl) rfl (sl_one15 _ _ _ _ _ _) ?_; intro w3 hS; have S3 := Lib.hid hS; clear hS))
  (try simp only [Exit.inBlock, Exit.then]); refine bodyPost_ret (ret_slots rfl rfl S3.out rfl) rfl ?_
  exact ⟨rfl, S3.out.below⟩

set_option maxHeartbeats 4000000 in
theorem slNew_yes (n am : Int) (ak al : ByteArray) (w : World)
    (pN : ∀ (W : World), Hid (Calls Try.prog 40 #[.int .i64 n] W fun e w' => e = .returned (.tuple #[.agg #[.int .i64 am, .string ak, .string al], .int .i64 0]) ∧ Below W.heap.size W w')) :
    Calls Try.prog 18 #[.int .i64 n] w fun e w' => e = .returned (.tuple #[.agg #[.int .i64 am, .string ak, .string al, .int .i64 am, .string ak, .string al], .int .i64 0]) ∧ Below w.heap.size w w' := by
  have S0 := Lib.hid ((St.start w).new #[.int .i64 0, .string ⟨#[]⟩, .string ⟨#[]⟩, .int .i64 0, .string ⟨#[]⟩, .string ⟨#[]⟩] 25)
  go_enter Try.func18, Try.ntmps18
  go_wp2_with fail
  refine (pN _).out.mono ?_
  rintro e w1 ⟨rfl, hB⟩
  have S1 := Lib.hid (S0.out.on hB)
  clear hB S0
  clear pN
  obtain ⟨k0, hk0⟩ : ∃ p, p = w.heap.size := ⟨_, rfl⟩
  have Hk : Hid (w.heap.size ≤ k0) := Lib.hid (by omega)
  rw [← hk0] at S1
  (try rw [← hk0])
  clear hk0
  go_wp2_with (first
    | (refine wpList_store_st rfl 23 _ _ rfl S1.out _ #[.int .i64 am, .string ak, .string al] _ rfl rfl (by rfl) rfl (fil_one15 _ _ _) ?_; intro k4 w2 hp hS hBn; (try rw [← hp]); have S2 := Lib.hid hS; have Hpk4 := Lib.hid hp; clear hS hp hBn)
    | (refine wpList_loadg_st (by rfl) 23 _ rfl S2.out 0 _ _ rfl rfl _ Try.underlying23 rfl (by rfl) ?_)
    | (refine wpList_storew_st rfl 25 _ _ rfl (S2.out.sub (L' := [(k0, #[.int .i64 0, .string ⟨#[]⟩, .string ⟨#[]⟩, .int .i64 0, .string ⟨#[]⟩, .string ⟨#[]⟩])]) (by simp)) Hk.out (by simp) #[.int .i64 am, .string ak, .string al, .int .i64 am, .string ak, .string al] rfl rfl (by rfl) rfl (sl_one15 _ _ _ _ _ _) ?_; intro w3 hS; have S3 := Lib.hid hS; clear hS))
  (try simp only [Exit.inBlock, Exit.then]); refine bodyPost_ret (ret_slots rfl rfl S3.out rfl) rfl ?_
  exact ⟨rfl, S3.out.below⟩

set_option maxHeartbeats 4000000 in
theorem slSave_no (sm sn : Int) (sk sl sx sy : ByteArray) (t : ByteArray) (d : Int) (w : World)
    (pI : ∀ (W : World), Hid (Calls Try.prog 24 #[.agg #[.int .i64 sm, .string sk, .string sl, .int .i64 sn, .string sx, .string sy]] W fun e w' => e = .returned (.bool false) ∧ Below W.heap.size W w')) :
    Calls Try.prog 12 #[.agg #[.int .i64 sm, .string sk, .string sl, .int .i64 sn, .string sx, .string sy], .string t, .int .i64 d] w fun e w' => e = .returned (.tuple #[.agg #[.int .i64 0, .string ⟨#[]⟩, .string ⟨#[]⟩, .int .i64 0, .string ⟨#[]⟩, .string ⟨#[]⟩], .bool false, .int .i64 1]) ∧ Below w.heap.size w w' := by
  have S0 := Lib.hid ((St.start w).box2 #[.int .i64 sm, .string sk, .string sl, .int .i64 sn, .string sx, .string sy] #[.int .i64 0, .string ⟨#[]⟩, .string ⟨#[]⟩, .int .i64 0, .string ⟨#[]⟩, .string ⟨#[]⟩] 25 25)
  go_enter Try.func12, Try.ntmps12
  go_wp2_with (refine wpList_loadg_st (by rfl) 25 _ rfl S0.out 1 _ _ rfl rfl _ Try.underlying25 rfl (by rfl) ?_)
  refine (pI _).out.mono ?_
  rintro e w1 ⟨rfl, hB⟩
  have S1 := Lib.hid (S0.out.on hB)
  clear hB S0
  clear pI
  obtain ⟨p0, hp0⟩ : ∃ p, p = w.heap.size := ⟨_, rfl⟩
  obtain ⟨k0, hk0⟩ : ∃ p, p = w.heap.size + 1 := ⟨_, rfl⟩
  have Hk : Hid (w.heap.size ≤ k0) := Lib.hid (by omega)
  have Hp : Hid (w.heap.size ≤ p0) := Lib.hid (by omega)
  have Hne : Hid (p0 ≠ k0) := Lib.hid (by omega)
  have Hlt : Hid (p0 < k0) := Lib.hid (by omega)
  rw [← hk0, ← hp0] at S1
  (try rw [← hk0])
  (try rw [← hp0])
  clear hp0 hk0
  go_wp2_with (refine wpList_storew_st rfl 25 _ _ rfl S1.out Hk.out (by intro u hu; rcases List.mem_singleton.1 hu with rfl; exact Hne.out) #[.int .i64 0, .string ⟨#[]⟩, .string ⟨#[]⟩, .int .i64 0, .string ⟨#[]⟩, .string ⟨#[]⟩] rfl rfl (by rfl) rfl (sl_one15 _ _ _ _ _ _) ?_; intro w2 hS; have S2 := Lib.hid hS; clear hS)
  (try simp only [Exit.inBlock, Exit.then]); refine bodyPost_ret (ret_slots3 rfl rfl S2.out rfl) rfl ?_
  exact ⟨rfl, S2.out.below⟩

set_option maxHeartbeats 4000000 in
theorem slSave_lim1 (sm sn : Int) (sk sl sx sy : ByteArray) (t : ByteArray) (d : Int) (ra rb c : ByteArray) (n i : Int) (jt : ((1000 : Int) < (t.size : Int)) = True) (w : World)
    (pI : ∀ (W : World), Hid (Calls Try.prog 24 #[.agg #[.int .i64 sm, .string sk, .string sl, .int .i64 sn, .string sx, .string sy]] W fun e w' => e = .returned (.bool true) ∧ Below W.heap.size W w'))
    (pA : ∀ (W : World), Hid (Calls Try.prog 25 #[.agg #[.int .i64 sm, .string sk, .string sl]] W fun e w' => e = .returned (.string ra) ∧ Below W.heap.size W w'))
    (pB : ∀ (W : World), Hid (Calls Try.prog 25 #[.agg #[.int .i64 sn, .string sx, .string sy]] W fun e w' => e = .returned (.string rb) ∧ Below W.heap.size W w'))
    (pC : ∀ (W : World), Hid (Calls Try.prog 16 #[.string ra, .string rb] W fun e w' => e = .returned (.tuple #[.string c, .int .i64 n, .int .i64 i]) ∧ Below W.heap.size W w')) :
    Calls Try.prog 12 #[.agg #[.int .i64 sm, .string sk, .string sl, .int .i64 sn, .string sx, .string sy], .string t, .int .i64 d] w fun e w' => e = .returned (.tuple #[.agg #[.int .i64 0, .string ⟨#[]⟩, .string ⟨#[]⟩, .int .i64 0, .string ⟨#[]⟩, .string ⟨#[]⟩], .bool false, .int .i64 2]) ∧ Below w.heap.size w w' := by
  have S0 := Lib.hid ((St.start w).box2 #[.int .i64 sm, .string sk, .string sl, .int .i64 sn, .string sx, .string sy] #[.int .i64 0, .string ⟨#[]⟩, .string ⟨#[]⟩, .int .i64 0, .string ⟨#[]⟩, .string ⟨#[]⟩] 25 25)
  go_enter Try.func12, Try.ntmps12
  go_wp2_with (refine wpList_loadg_st (by rfl) 25 _ rfl S0.out 1 _ _ rfl rfl _ Try.underlying25 rfl (by rfl) ?_)
  refine (pI _).out.mono ?_
  rintro e w1 ⟨rfl, hB⟩
  have S1 := Lib.hid (S0.out.on hB)
  clear hB S0
  clear pI
  obtain ⟨p0, hp0⟩ : ∃ p, p = w.heap.size := ⟨_, rfl⟩
  obtain ⟨k0, hk0⟩ : ∃ p, p = w.heap.size + 1 := ⟨_, rfl⟩
  have Hk : Hid (w.heap.size ≤ k0) := Lib.hid (by omega)
  have Hp : Hid (w.heap.size ≤ p0) := Lib.hid (by omega)
  have Hne : Hid (p0 ≠ k0) := Lib.hid (by omega)
  have Hlt : Hid (p0 < k0) := Lib.hid (by omega)
  rw [← hk0, ← hp0] at S1
  (try rw [← hk0])
  (try rw [← hp0])
  clear hp0 hk0
  go_wp2_with fail
  have hS : St w w1.drew [(k0, #[.int .i64 0, .string ⟨#[]⟩, .string ⟨#[]⟩, .int .i64 0, .string ⟨#[]⟩, .string ⟨#[]⟩]), (p0, #[.int .i64 sm, .string sk, .string sl, .int .i64 sn, .string sx, .string sy])] [] := S1.out.drew
  clear S1
  refine wp_region_held_drew (S := (fun W : World => St w W [(k0, #[.int .i64 0, .string ⟨#[]⟩, .string ⟨#[]⟩, .int .i64 0, .string ⟨#[]⟩, .string ⟨#[]⟩]), (p0, #[.int .i64 sm, .string sk, .string sl, .int .i64 sn, .string sx, .string sy])] [])) (by kernel_rfl) hS (fun hHeld => ?_)
  refine wpAnyH_take (i := 0) (oi := { dst := some 19, op := Op.fieldAddr 25 (Operand.tmp 3) 0, type := 0, pos := _, after := #[], guard := none }) (v := ?_) rfl (by kernel_rfl) (by kernel_rfl) (by kernel_rfl) (fun _ _ _ h => h) (Or.inl ⟨by rfl, ?hy⟩) hHeld ?_
  case hy => intro w0 hSw; (try dsimp only at hSw); go_simp; (try with_reducible rfl)
  (try simp only [Act.put, List.setIfInBounds_toArray, List.set_cons_zero, List.set_cons_succ])
  refine wpAnyH_take (i := 1) (oi := { dst := some 20, op := Op.load 23 (Operand.tmp 19), type := 23, pos := _, after := #[{ on := 0, ground := Ground.data }], guard := none }) (v := ?_) rfl (by kernel_rfl) (by kernel_rfl) (by kernel_rfl) (fun _ _ _ h => h) (Or.inl ⟨by rfl, ?hy⟩) hHeld ?_
  case hy => intro w0 hSw; have d0 := hSw.cell 1 rfl 0 rfl; have d1 := hSw.cell 1 rfl 1 rfl; have d2 := hSw.cell 1 rfl 2 rfl; clear hSw; go_simp; (try with_reducible rfl)
  (try simp only [Act.put, List.setIfInBounds_toArray, List.set_cons_zero, List.set_cons_succ])
  refine wpAnyH_take (i := 3) (oi := { dst := some 22, op := Op.fieldAddr 25 (Operand.tmp 3) 1, type := 0, pos := _, after := #[], guard := none }) (v := ?_) rfl (by kernel_rfl) (by kernel_rfl) (by kernel_rfl) (fun _ _ _ h => h) (Or.inl ⟨by rfl, ?hy⟩) hHeld ?_
  case hy => intro w0 hSw; (try dsimp only at hSw); go_simp; (try with_reducible rfl)
  (try simp only [Act.put, List.setIfInBounds_toArray, List.set_cons_zero, List.set_cons_succ])
  refine wpAnyH_take (i := 4) (oi := { dst := some 23, op := Op.load 23 (Operand.tmp 22), type := 23, pos := _, after := #[{ on := 3, ground := Ground.data }], guard := none }) (v := ?_) rfl (by kernel_rfl) (by kernel_rfl) (by kernel_rfl) (fun _ _ _ h => h) (Or.inl ⟨by rfl, ?hy⟩) hHeld ?_
  case hy => intro w0 hSw; have d0 := hSw.cell 1 rfl 3 rfl; have d1 := hSw.cell 1 rfl 4 rfl; have d2 := hSw.cell 1 rfl 5 rfl; clear hSw; go_simp; (try with_reducible rfl)
  (try simp only [Act.put, List.setIfInBounds_toArray, List.set_cons_zero, List.set_cons_succ])
  refine wpAnyH_ready (rs := [2]) (by kernel_rfl) (by simp) ?_
  refine AllReadyH.cons (o := { dst := some 21, op := Op.call { callee := Callee.value (Operand.func 25), args := #[Operand.tmp 20], argTypes := #[23] }, type := 9, pos := _, after := #[{ on := 1, ground := Ground.data }], guard := none }) rfl (fun K hK => ?_) AllReadyH.nil
  go_simp
  refine (pA _).out.mono ?_
  rintro e y1 ⟨rfl, hB'⟩
  replace hS := hS.on hB'
  clear hB'
  go_wp2_with fail
  refine hK.out _ _ hS (fun hHeld => ?_)
  clear hK K
  (try simp only [Act.put, List.setIfInBounds_toArray, List.set_cons_zero, List.set_cons_succ])
  refine wpAnyH_ready (rs := [5]) (by kernel_rfl) (by simp) ?_
  refine AllReadyH.cons (o := { dst := some 24, op := Op.call { callee := Callee.value (Operand.func 25), args := #[Operand.tmp 23], argTypes := #[23] }, type := 9, pos := _, after := #[{ on := 4, ground := Ground.data }, { on := 2, ground := Ground.chain }], guard := none }) rfl (fun K hK => ?_) AllReadyH.nil
  go_simp
  refine (pB _).out.mono ?_
  rintro e y2 ⟨rfl, hB'⟩
  replace hS := hS.on hB'
  clear hB'
  go_wp2_with fail
  refine hK.out _ _ hS (fun hHeld => ?_)
  clear hK K
  (try simp only [Act.put, List.setIfInBounds_toArray, List.set_cons_zero, List.set_cons_succ])
  refine wpAnyH_ready (rs := [6]) (by kernel_rfl) (by simp) ?_
  refine AllReadyH.cons (o := { dst := some 25, op := Op.call { callee := Callee.value (Operand.func 16), args := #[Operand.tmp 21, Operand.tmp 24], argTypes := #[9, 9] }, type := 34, pos := _, after := #[{ on := 2, ground := Ground.data }, { on := 5, ground := Ground.data }, { on := 5, ground := Ground.chain }], guard := none }) rfl (fun K hK => ?_) AllReadyH.nil
  go_simp
  refine (pC _).out.mono ?_
  rintro e y3 ⟨rfl, hB'⟩
  replace hS := hS.on hB'
  clear hB'
  go_wp2_with fail
  refine hK.out _ _ hS (fun hHeld => ?_)
  clear hK K
  (try simp only [Act.put, List.setIfInBounds_toArray, List.set_cons_zero, List.set_cons_succ])
  refine wpAnyH_take (i := 7) (oi := { dst := some 18, op := Op.move (Operand.tmp 25), type := 34, pos := _, after := #[{ on := 6, ground := Ground.data }], guard := none }) (v := ?_) rfl (by kernel_rfl) (by kernel_rfl) (by kernel_rfl) (fun _ _ _ h => h) (Or.inl ⟨by rfl, ?hy⟩) hHeld ?_
  case hy => intro w0 hSw; (try dsimp only at hSw); go_simp; (try with_reducible rfl)
  (try simp only [Act.put, List.setIfInBounds_toArray, List.set_cons_zero, List.set_cons_succ])
  refine wpAnyH_take (i := 8) (oi := { dst := some 26, op := Op.extract (Operand.tmp 18) 0, type := 9, pos := _, after := #[{ on := 7, ground := Ground.data }], guard := none }) (v := ?_) rfl (by kernel_rfl) (by kernel_rfl) (by kernel_rfl) (fun _ _ _ h => h) (Or.inl ⟨by rfl, ?hy⟩) hHeld ?_
  case hy => intro w0 hSw; (try dsimp only at hSw); go_simp; (try with_reducible rfl)
  (try simp only [Act.put, List.setIfInBounds_toArray, List.set_cons_zero, List.set_cons_succ])
  refine wpAnyH_take (i := 9) (oi := { dst := some 27, op := Op.extract (Operand.tmp 18) 1, type := 3, pos := _, after := #[{ on := 7, ground := Ground.data }, { on := 11, ground := Ground.gcOnly Departure.lateStores }], guard := none }) (v := ?_) rfl (by kernel_rfl) (by kernel_rfl) (by kernel_rfl) (fun _ _ _ h => h) (Or.inl ⟨by rfl, ?hy⟩) hHeld ?_
  case hy => intro w0 hSw; (try dsimp only at hSw); go_simp; (try with_reducible rfl)
  (try simp only [Act.put, List.setIfInBounds_toArray, List.set_cons_zero, List.set_cons_succ])
  refine wpAnyH_take (i := 10) (oi := { dst := some 28, op := Op.extract (Operand.tmp 18) 2, type := 3, pos := _, after := #[{ on := 7, ground := Ground.data }, { on := 12, ground := Ground.gcOnly Departure.lateStores }], guard := none }) (v := ?_) rfl (by kernel_rfl) (by kernel_rfl) (by kernel_rfl) (fun _ _ _ h => h) (Or.inl ⟨by rfl, ?hy⟩) hHeld ?_
  case hy => intro w0 hSw; (try dsimp only at hSw); go_simp; (try with_reducible rfl)
  (try simp only [Act.put, List.setIfInBounds_toArray, List.set_cons_zero, List.set_cons_succ])
  refine wpAnyH_take (i := 11) (oi := { dst := some 9, op := Op.assign (Operand.tmp 26), type := 9, pos := _, after := #[{ on := 8, ground := Ground.data }, { on := 6, ground := Ground.chain }, { on := 0, ground := Ground.phase }, { on := 1, ground := Ground.phase }, { on := 2, ground := Ground.phase }, { on := 3, ground := Ground.phase }, { on := 4, ground := Ground.phase }, { on := 5, ground := Ground.phase }, { on := 6, ground := Ground.phase }, { on := 7, ground := Ground.phase }, { on := 8, ground := Ground.phase }, { on := 9, ground := Ground.textOnly Departure.lateStores }, { on := 10, ground := Ground.textOnly Departure.lateStores }], guard := none }) (v := ?_) rfl (by kernel_rfl) (by kernel_rfl) (by kernel_rfl) (fun _ _ _ h => h) (Or.inl ⟨by rfl, ?hy⟩) hHeld ?_
  case hy => intro w0 hSw; (try dsimp only at hSw); go_simp; (try with_reducible rfl)
  (try simp only [Act.put, List.setIfInBounds_toArray, List.set_cons_zero, List.set_cons_succ])
  refine wpAnyH_take (i := 12) (oi := { dst := some 10, op := Op.assign (Operand.tmp 27), type := 3, pos := _, after := #[{ on := 9, ground := Ground.data }, { on := 11, ground := Ground.chain }, { on := 0, ground := Ground.phase }, { on := 1, ground := Ground.phase }, { on := 2, ground := Ground.phase }, { on := 3, ground := Ground.phase }, { on := 4, ground := Ground.phase }, { on := 5, ground := Ground.phase }, { on := 6, ground := Ground.phase }, { on := 7, ground := Ground.phase }, { on := 8, ground := Ground.phase }, { on := 9, ground := Ground.phase }, { on := 10, ground := Ground.textOnly Departure.lateStores }, { on := 11, ground := Ground.phase }], guard := none }) (v := ?_) rfl (by kernel_rfl) (by kernel_rfl) (by kernel_rfl) (fun _ _ _ h => h) (Or.inl ⟨by rfl, ?hy⟩) hHeld ?_
  case hy => intro w0 hSw; (try dsimp only at hSw); go_simp; (try with_reducible rfl)
  (try simp only [Act.put, List.setIfInBounds_toArray, List.set_cons_zero, List.set_cons_succ])
  refine wpAnyH_take (i := 13) (oi := { dst := some 11, op := Op.assign (Operand.tmp 28), type := 3, pos := _, after := #[{ on := 10, ground := Ground.data }, { on := 12, ground := Ground.chain }, { on := 0, ground := Ground.phase }, { on := 1, ground := Ground.phase }, { on := 2, ground := Ground.phase }, { on := 3, ground := Ground.phase }, { on := 4, ground := Ground.phase }, { on := 5, ground := Ground.phase }, { on := 6, ground := Ground.phase }, { on := 7, ground := Ground.phase }, { on := 8, ground := Ground.phase }, { on := 9, ground := Ground.phase }, { on := 10, ground := Ground.phase }, { on := 11, ground := Ground.phase }, { on := 12, ground := Ground.phase }], guard := none }) (v := ?_) rfl (by kernel_rfl) (by kernel_rfl) (by kernel_rfl) (fun _ _ _ h => h) (Or.inl ⟨by rfl, ?hy⟩) hHeld ?_
  case hy => intro w0 hSw; (try dsimp only at hSw); go_simp; (try with_reducible rfl)
  (try simp only [Act.put, List.setIfInBounds_toArray, List.set_cons_zero, List.set_cons_succ])
  refine wpAnyH_done (by kernel_rfl) ?_ _
  clear hHeld pA pB pC
  have S2 := Lib.hid hS
  clear hS
  go_wp2_with (refine wpList_storew_st rfl 25 _ _ rfl S2.out Hk.out (by intro u hu; rcases List.mem_singleton.1 hu with rfl; exact Hne.out) #[.int .i64 0, .string ⟨#[]⟩, .string ⟨#[]⟩, .int .i64 0, .string ⟨#[]⟩, .string ⟨#[]⟩] rfl rfl (by rfl) rfl (sl_one15 _ _ _ _ _ _) ?_; intro w3 hS; have S3 := Lib.hid hS; clear hS)
  (try simp only [Exit.inBlock, Exit.then]); refine bodyPost_ret (ret_slots3 rfl rfl S3.out rfl) rfl ?_
  exact ⟨rfl, S3.out.below⟩

set_option maxHeartbeats 4000000 in
theorem slSave_lim2 (sm sn : Int) (sk sl sx sy : ByteArray) (t : ByteArray) (d : Int) (ra rb c : ByteArray) (n i : Int) (jt : ((1000 : Int) < (t.size : Int)) = False) (jn : ((1000000000 : Int) ≤ n) = True) (w : World)
    (pI : ∀ (W : World), Hid (Calls Try.prog 24 #[.agg #[.int .i64 sm, .string sk, .string sl, .int .i64 sn, .string sx, .string sy]] W fun e w' => e = .returned (.bool true) ∧ Below W.heap.size W w'))
    (pA : ∀ (W : World), Hid (Calls Try.prog 25 #[.agg #[.int .i64 sm, .string sk, .string sl]] W fun e w' => e = .returned (.string ra) ∧ Below W.heap.size W w'))
    (pB : ∀ (W : World), Hid (Calls Try.prog 25 #[.agg #[.int .i64 sn, .string sx, .string sy]] W fun e w' => e = .returned (.string rb) ∧ Below W.heap.size W w'))
    (pC : ∀ (W : World), Hid (Calls Try.prog 16 #[.string ra, .string rb] W fun e w' => e = .returned (.tuple #[.string c, .int .i64 n, .int .i64 i]) ∧ Below W.heap.size W w')) :
    Calls Try.prog 12 #[.agg #[.int .i64 sm, .string sk, .string sl, .int .i64 sn, .string sx, .string sy], .string t, .int .i64 d] w fun e w' => e = .returned (.tuple #[.agg #[.int .i64 0, .string ⟨#[]⟩, .string ⟨#[]⟩, .int .i64 0, .string ⟨#[]⟩, .string ⟨#[]⟩], .bool false, .int .i64 2]) ∧ Below w.heap.size w w' := by
  have S0 := Lib.hid ((St.start w).box2 #[.int .i64 sm, .string sk, .string sl, .int .i64 sn, .string sx, .string sy] #[.int .i64 0, .string ⟨#[]⟩, .string ⟨#[]⟩, .int .i64 0, .string ⟨#[]⟩, .string ⟨#[]⟩] 25 25)
  go_enter Try.func12, Try.ntmps12
  go_wp2_with (refine wpList_loadg_st (by rfl) 25 _ rfl S0.out 1 _ _ rfl rfl _ Try.underlying25 rfl (by rfl) ?_)
  refine (pI _).out.mono ?_
  rintro e w1 ⟨rfl, hB⟩
  have S1 := Lib.hid (S0.out.on hB)
  clear hB S0
  clear pI
  obtain ⟨p0, hp0⟩ : ∃ p, p = w.heap.size := ⟨_, rfl⟩
  obtain ⟨k0, hk0⟩ : ∃ p, p = w.heap.size + 1 := ⟨_, rfl⟩
  have Hk : Hid (w.heap.size ≤ k0) := Lib.hid (by omega)
  have Hp : Hid (w.heap.size ≤ p0) := Lib.hid (by omega)
  have Hne : Hid (p0 ≠ k0) := Lib.hid (by omega)
  have Hlt : Hid (p0 < k0) := Lib.hid (by omega)
  rw [← hk0, ← hp0] at S1
  (try rw [← hk0])
  (try rw [← hp0])
  clear hp0 hk0
  go_wp2_with fail
  have hS : St w w1.drew [(k0, #[.int .i64 0, .string ⟨#[]⟩, .string ⟨#[]⟩, .int .i64 0, .string ⟨#[]⟩, .string ⟨#[]⟩]), (p0, #[.int .i64 sm, .string sk, .string sl, .int .i64 sn, .string sx, .string sy])] [] := S1.out.drew
  clear S1
  refine wp_region_held_drew (S := (fun W : World => St w W [(k0, #[.int .i64 0, .string ⟨#[]⟩, .string ⟨#[]⟩, .int .i64 0, .string ⟨#[]⟩, .string ⟨#[]⟩]), (p0, #[.int .i64 sm, .string sk, .string sl, .int .i64 sn, .string sx, .string sy])] [])) (by kernel_rfl) hS (fun hHeld => ?_)
  refine wpAnyH_take (i := 0) (oi := { dst := some 19, op := Op.fieldAddr 25 (Operand.tmp 3) 0, type := 0, pos := _, after := #[], guard := none }) (v := ?_) rfl (by kernel_rfl) (by kernel_rfl) (by kernel_rfl) (fun _ _ _ h => h) (Or.inl ⟨by rfl, ?hy⟩) hHeld ?_
  case hy => intro w0 hSw; (try dsimp only at hSw); go_simp; (try with_reducible rfl)
  (try simp only [Act.put, List.setIfInBounds_toArray, List.set_cons_zero, List.set_cons_succ])
  refine wpAnyH_take (i := 1) (oi := { dst := some 20, op := Op.load 23 (Operand.tmp 19), type := 23, pos := _, after := #[{ on := 0, ground := Ground.data }], guard := none }) (v := ?_) rfl (by kernel_rfl) (by kernel_rfl) (by kernel_rfl) (fun _ _ _ h => h) (Or.inl ⟨by rfl, ?hy⟩) hHeld ?_
  case hy => intro w0 hSw; have d0 := hSw.cell 1 rfl 0 rfl; have d1 := hSw.cell 1 rfl 1 rfl; have d2 := hSw.cell 1 rfl 2 rfl; clear hSw; go_simp; (try with_reducible rfl)
  (try simp only [Act.put, List.setIfInBounds_toArray, List.set_cons_zero, List.set_cons_succ])
  refine wpAnyH_take (i := 3) (oi := { dst := some 22, op := Op.fieldAddr 25 (Operand.tmp 3) 1, type := 0, pos := _, after := #[], guard := none }) (v := ?_) rfl (by kernel_rfl) (by kernel_rfl) (by kernel_rfl) (fun _ _ _ h => h) (Or.inl ⟨by rfl, ?hy⟩) hHeld ?_
  case hy => intro w0 hSw; (try dsimp only at hSw); go_simp; (try with_reducible rfl)
  (try simp only [Act.put, List.setIfInBounds_toArray, List.set_cons_zero, List.set_cons_succ])
  refine wpAnyH_take (i := 4) (oi := { dst := some 23, op := Op.load 23 (Operand.tmp 22), type := 23, pos := _, after := #[{ on := 3, ground := Ground.data }], guard := none }) (v := ?_) rfl (by kernel_rfl) (by kernel_rfl) (by kernel_rfl) (fun _ _ _ h => h) (Or.inl ⟨by rfl, ?hy⟩) hHeld ?_
  case hy => intro w0 hSw; have d0 := hSw.cell 1 rfl 3 rfl; have d1 := hSw.cell 1 rfl 4 rfl; have d2 := hSw.cell 1 rfl 5 rfl; clear hSw; go_simp; (try with_reducible rfl)
  (try simp only [Act.put, List.setIfInBounds_toArray, List.set_cons_zero, List.set_cons_succ])
  refine wpAnyH_ready (rs := [2]) (by kernel_rfl) (by simp) ?_
  refine AllReadyH.cons (o := { dst := some 21, op := Op.call { callee := Callee.value (Operand.func 25), args := #[Operand.tmp 20], argTypes := #[23] }, type := 9, pos := _, after := #[{ on := 1, ground := Ground.data }], guard := none }) rfl (fun K hK => ?_) AllReadyH.nil
  go_simp
  refine (pA _).out.mono ?_
  rintro e y1 ⟨rfl, hB'⟩
  replace hS := hS.on hB'
  clear hB'
  go_wp2_with fail
  refine hK.out _ _ hS (fun hHeld => ?_)
  clear hK K
  (try simp only [Act.put, List.setIfInBounds_toArray, List.set_cons_zero, List.set_cons_succ])
  refine wpAnyH_ready (rs := [5]) (by kernel_rfl) (by simp) ?_
  refine AllReadyH.cons (o := { dst := some 24, op := Op.call { callee := Callee.value (Operand.func 25), args := #[Operand.tmp 23], argTypes := #[23] }, type := 9, pos := _, after := #[{ on := 4, ground := Ground.data }, { on := 2, ground := Ground.chain }], guard := none }) rfl (fun K hK => ?_) AllReadyH.nil
  go_simp
  refine (pB _).out.mono ?_
  rintro e y2 ⟨rfl, hB'⟩
  replace hS := hS.on hB'
  clear hB'
  go_wp2_with fail
  refine hK.out _ _ hS (fun hHeld => ?_)
  clear hK K
  (try simp only [Act.put, List.setIfInBounds_toArray, List.set_cons_zero, List.set_cons_succ])
  refine wpAnyH_ready (rs := [6]) (by kernel_rfl) (by simp) ?_
  refine AllReadyH.cons (o := { dst := some 25, op := Op.call { callee := Callee.value (Operand.func 16), args := #[Operand.tmp 21, Operand.tmp 24], argTypes := #[9, 9] }, type := 34, pos := _, after := #[{ on := 2, ground := Ground.data }, { on := 5, ground := Ground.data }, { on := 5, ground := Ground.chain }], guard := none }) rfl (fun K hK => ?_) AllReadyH.nil
  go_simp
  refine (pC _).out.mono ?_
  rintro e y3 ⟨rfl, hB'⟩
  replace hS := hS.on hB'
  clear hB'
  go_wp2_with fail
  refine hK.out _ _ hS (fun hHeld => ?_)
  clear hK K
  (try simp only [Act.put, List.setIfInBounds_toArray, List.set_cons_zero, List.set_cons_succ])
  refine wpAnyH_take (i := 7) (oi := { dst := some 18, op := Op.move (Operand.tmp 25), type := 34, pos := _, after := #[{ on := 6, ground := Ground.data }], guard := none }) (v := ?_) rfl (by kernel_rfl) (by kernel_rfl) (by kernel_rfl) (fun _ _ _ h => h) (Or.inl ⟨by rfl, ?hy⟩) hHeld ?_
  case hy => intro w0 hSw; (try dsimp only at hSw); go_simp; (try with_reducible rfl)
  (try simp only [Act.put, List.setIfInBounds_toArray, List.set_cons_zero, List.set_cons_succ])
  refine wpAnyH_take (i := 8) (oi := { dst := some 26, op := Op.extract (Operand.tmp 18) 0, type := 9, pos := _, after := #[{ on := 7, ground := Ground.data }], guard := none }) (v := ?_) rfl (by kernel_rfl) (by kernel_rfl) (by kernel_rfl) (fun _ _ _ h => h) (Or.inl ⟨by rfl, ?hy⟩) hHeld ?_
  case hy => intro w0 hSw; (try dsimp only at hSw); go_simp; (try with_reducible rfl)
  (try simp only [Act.put, List.setIfInBounds_toArray, List.set_cons_zero, List.set_cons_succ])
  refine wpAnyH_take (i := 9) (oi := { dst := some 27, op := Op.extract (Operand.tmp 18) 1, type := 3, pos := _, after := #[{ on := 7, ground := Ground.data }, { on := 11, ground := Ground.gcOnly Departure.lateStores }], guard := none }) (v := ?_) rfl (by kernel_rfl) (by kernel_rfl) (by kernel_rfl) (fun _ _ _ h => h) (Or.inl ⟨by rfl, ?hy⟩) hHeld ?_
  case hy => intro w0 hSw; (try dsimp only at hSw); go_simp; (try with_reducible rfl)
  (try simp only [Act.put, List.setIfInBounds_toArray, List.set_cons_zero, List.set_cons_succ])
  refine wpAnyH_take (i := 10) (oi := { dst := some 28, op := Op.extract (Operand.tmp 18) 2, type := 3, pos := _, after := #[{ on := 7, ground := Ground.data }, { on := 12, ground := Ground.gcOnly Departure.lateStores }], guard := none }) (v := ?_) rfl (by kernel_rfl) (by kernel_rfl) (by kernel_rfl) (fun _ _ _ h => h) (Or.inl ⟨by rfl, ?hy⟩) hHeld ?_
  case hy => intro w0 hSw; (try dsimp only at hSw); go_simp; (try with_reducible rfl)
  (try simp only [Act.put, List.setIfInBounds_toArray, List.set_cons_zero, List.set_cons_succ])
  refine wpAnyH_take (i := 11) (oi := { dst := some 9, op := Op.assign (Operand.tmp 26), type := 9, pos := _, after := #[{ on := 8, ground := Ground.data }, { on := 6, ground := Ground.chain }, { on := 0, ground := Ground.phase }, { on := 1, ground := Ground.phase }, { on := 2, ground := Ground.phase }, { on := 3, ground := Ground.phase }, { on := 4, ground := Ground.phase }, { on := 5, ground := Ground.phase }, { on := 6, ground := Ground.phase }, { on := 7, ground := Ground.phase }, { on := 8, ground := Ground.phase }, { on := 9, ground := Ground.textOnly Departure.lateStores }, { on := 10, ground := Ground.textOnly Departure.lateStores }], guard := none }) (v := ?_) rfl (by kernel_rfl) (by kernel_rfl) (by kernel_rfl) (fun _ _ _ h => h) (Or.inl ⟨by rfl, ?hy⟩) hHeld ?_
  case hy => intro w0 hSw; (try dsimp only at hSw); go_simp; (try with_reducible rfl)
  (try simp only [Act.put, List.setIfInBounds_toArray, List.set_cons_zero, List.set_cons_succ])
  refine wpAnyH_take (i := 12) (oi := { dst := some 10, op := Op.assign (Operand.tmp 27), type := 3, pos := _, after := #[{ on := 9, ground := Ground.data }, { on := 11, ground := Ground.chain }, { on := 0, ground := Ground.phase }, { on := 1, ground := Ground.phase }, { on := 2, ground := Ground.phase }, { on := 3, ground := Ground.phase }, { on := 4, ground := Ground.phase }, { on := 5, ground := Ground.phase }, { on := 6, ground := Ground.phase }, { on := 7, ground := Ground.phase }, { on := 8, ground := Ground.phase }, { on := 9, ground := Ground.phase }, { on := 10, ground := Ground.textOnly Departure.lateStores }, { on := 11, ground := Ground.phase }], guard := none }) (v := ?_) rfl (by kernel_rfl) (by kernel_rfl) (by kernel_rfl) (fun _ _ _ h => h) (Or.inl ⟨by rfl, ?hy⟩) hHeld ?_
  case hy => intro w0 hSw; (try dsimp only at hSw); go_simp; (try with_reducible rfl)
  (try simp only [Act.put, List.setIfInBounds_toArray, List.set_cons_zero, List.set_cons_succ])
  refine wpAnyH_take (i := 13) (oi := { dst := some 11, op := Op.assign (Operand.tmp 28), type := 3, pos := _, after := #[{ on := 10, ground := Ground.data }, { on := 12, ground := Ground.chain }, { on := 0, ground := Ground.phase }, { on := 1, ground := Ground.phase }, { on := 2, ground := Ground.phase }, { on := 3, ground := Ground.phase }, { on := 4, ground := Ground.phase }, { on := 5, ground := Ground.phase }, { on := 6, ground := Ground.phase }, { on := 7, ground := Ground.phase }, { on := 8, ground := Ground.phase }, { on := 9, ground := Ground.phase }, { on := 10, ground := Ground.phase }, { on := 11, ground := Ground.phase }, { on := 12, ground := Ground.phase }], guard := none }) (v := ?_) rfl (by kernel_rfl) (by kernel_rfl) (by kernel_rfl) (fun _ _ _ h => h) (Or.inl ⟨by rfl, ?hy⟩) hHeld ?_
  case hy => intro w0 hSw; (try dsimp only at hSw); go_simp; (try with_reducible rfl)
  (try simp only [Act.put, List.setIfInBounds_toArray, List.set_cons_zero, List.set_cons_succ])
  refine wpAnyH_done (by kernel_rfl) ?_ _
  clear hHeld pA pB pC
  have S2 := Lib.hid hS
  clear hS
  go_wp2_with (refine wpList_storew_st rfl 25 _ _ rfl S2.out Hk.out (by intro u hu; rcases List.mem_singleton.1 hu with rfl; exact Hne.out) #[.int .i64 0, .string ⟨#[]⟩, .string ⟨#[]⟩, .int .i64 0, .string ⟨#[]⟩, .string ⟨#[]⟩] rfl rfl (by rfl) rfl (sl_one15 _ _ _ _ _ _) ?_; intro w3 hS; have S3 := Lib.hid hS; clear hS)
  (try simp only [Exit.inBlock, Exit.then]); refine bodyPost_ret (ret_slots3 rfl rfl S3.out rfl) rfl ?_
  exact ⟨rfl, S3.out.below⟩

set_option maxHeartbeats 4000000 in
theorem slSave_full (sm sn : Int) (sk sl sx sy : ByteArray) (t : ByteArray) (d : Int) (ra rb c : ByteArray) (n i : Int) (jt : ((1000 : Int) < (t.size : Int)) = False) (jn : ((1000000000 : Int) ≤ n) = False) (n1 : Int) (jw : wrap64 (n + 1) = n1) (b : ByteArray) (jb : (sm < (b.size : Int)) = True) (w : World)
    (pI : ∀ (W : World), Hid (Calls Try.prog 24 #[.agg #[.int .i64 sm, .string sk, .string sl, .int .i64 sn, .string sx, .string sy]] W fun e w' => e = .returned (.bool true) ∧ Below W.heap.size W w'))
    (pA : ∀ (W : World), Hid (Calls Try.prog 25 #[.agg #[.int .i64 sm, .string sk, .string sl]] W fun e w' => e = .returned (.string ra) ∧ Below W.heap.size W w'))
    (pB : ∀ (W : World), Hid (Calls Try.prog 25 #[.agg #[.int .i64 sn, .string sx, .string sy]] W fun e w' => e = .returned (.string rb) ∧ Below W.heap.size W w'))
    (pC : ∀ (W : World), Hid (Calls Try.prog 16 #[.string ra, .string rb] W fun e w' => e = .returned (.tuple #[.string c, .int .i64 n, .int .i64 i]) ∧ Below W.heap.size W w'))
    (pN : ∀ (W : World), Hid (Calls Try.prog 31 #[.int .i64 n1, .string t] W fun e w' => e = .returned (.string b) ∧ Below W.heap.size W w')) :
    Calls Try.prog 12 #[.agg #[.int .i64 sm, .string sk, .string sl, .int .i64 sn, .string sx, .string sy], .string t, .int .i64 d] w fun e w' => e = .returned (.tuple #[.agg #[.int .i64 0, .string ⟨#[]⟩, .string ⟨#[]⟩, .int .i64 0, .string ⟨#[]⟩, .string ⟨#[]⟩], .bool false, .int .i64 81]) ∧ Below w.heap.size w w' := by
  have S0 := Lib.hid ((St.start w).box2 #[.int .i64 sm, .string sk, .string sl, .int .i64 sn, .string sx, .string sy] #[.int .i64 0, .string ⟨#[]⟩, .string ⟨#[]⟩, .int .i64 0, .string ⟨#[]⟩, .string ⟨#[]⟩] 25 25)
  go_enter Try.func12, Try.ntmps12
  go_wp2_with (refine wpList_loadg_st (by rfl) 25 _ rfl S0.out 1 _ _ rfl rfl _ Try.underlying25 rfl (by rfl) ?_)
  refine (pI _).out.mono ?_
  rintro e w1 ⟨rfl, hB⟩
  have S1 := Lib.hid (S0.out.on hB)
  clear hB S0
  clear pI
  obtain ⟨p0, hp0⟩ : ∃ p, p = w.heap.size := ⟨_, rfl⟩
  obtain ⟨k0, hk0⟩ : ∃ p, p = w.heap.size + 1 := ⟨_, rfl⟩
  have Hk : Hid (w.heap.size ≤ k0) := Lib.hid (by omega)
  have Hp : Hid (w.heap.size ≤ p0) := Lib.hid (by omega)
  have Hne : Hid (p0 ≠ k0) := Lib.hid (by omega)
  have Hlt : Hid (p0 < k0) := Lib.hid (by omega)
  rw [← hk0, ← hp0] at S1
  (try rw [← hk0])
  (try rw [← hp0])
  clear hp0 hk0
  go_wp2_with fail
  have hS : St w w1.drew [(k0, #[.int .i64 0, .string ⟨#[]⟩, .string ⟨#[]⟩, .int .i64 0, .string ⟨#[]⟩, .string ⟨#[]⟩]), (p0, #[.int .i64 sm, .string sk, .string sl, .int .i64 sn, .string sx, .string sy])] [] := S1.out.drew
  clear S1
  refine wp_region_held_drew (S := (fun W : World => St w W [(k0, #[.int .i64 0, .string ⟨#[]⟩, .string ⟨#[]⟩, .int .i64 0, .string ⟨#[]⟩, .string ⟨#[]⟩]), (p0, #[.int .i64 sm, .string sk, .string sl, .int .i64 sn, .string sx, .string sy])] [])) (by kernel_rfl) hS (fun hHeld => ?_)
  refine wpAnyH_take (i := 0) (oi := { dst := some 19, op := Op.fieldAddr 25 (Operand.tmp 3) 0, type := 0, pos := _, after := #[], guard := none }) (v := ?_) rfl (by kernel_rfl) (by kernel_rfl) (by kernel_rfl) (fun _ _ _ h => h) (Or.inl ⟨by rfl, ?hy⟩) hHeld ?_
  case hy => intro w0 hSw; (try dsimp only at hSw); go_simp; (try with_reducible rfl)
  (try simp only [Act.put, List.setIfInBounds_toArray, List.set_cons_zero, List.set_cons_succ])
  refine wpAnyH_take (i := 1) (oi := { dst := some 20, op := Op.load 23 (Operand.tmp 19), type := 23, pos := _, after := #[{ on := 0, ground := Ground.data }], guard := none }) (v := ?_) rfl (by kernel_rfl) (by kernel_rfl) (by kernel_rfl) (fun _ _ _ h => h) (Or.inl ⟨by rfl, ?hy⟩) hHeld ?_
  case hy => intro w0 hSw; have d0 := hSw.cell 1 rfl 0 rfl; have d1 := hSw.cell 1 rfl 1 rfl; have d2 := hSw.cell 1 rfl 2 rfl; clear hSw; go_simp; (try with_reducible rfl)
  (try simp only [Act.put, List.setIfInBounds_toArray, List.set_cons_zero, List.set_cons_succ])
  refine wpAnyH_take (i := 3) (oi := { dst := some 22, op := Op.fieldAddr 25 (Operand.tmp 3) 1, type := 0, pos := _, after := #[], guard := none }) (v := ?_) rfl (by kernel_rfl) (by kernel_rfl) (by kernel_rfl) (fun _ _ _ h => h) (Or.inl ⟨by rfl, ?hy⟩) hHeld ?_
  case hy => intro w0 hSw; (try dsimp only at hSw); go_simp; (try with_reducible rfl)
  (try simp only [Act.put, List.setIfInBounds_toArray, List.set_cons_zero, List.set_cons_succ])
  refine wpAnyH_take (i := 4) (oi := { dst := some 23, op := Op.load 23 (Operand.tmp 22), type := 23, pos := _, after := #[{ on := 3, ground := Ground.data }], guard := none }) (v := ?_) rfl (by kernel_rfl) (by kernel_rfl) (by kernel_rfl) (fun _ _ _ h => h) (Or.inl ⟨by rfl, ?hy⟩) hHeld ?_
  case hy => intro w0 hSw; have d0 := hSw.cell 1 rfl 3 rfl; have d1 := hSw.cell 1 rfl 4 rfl; have d2 := hSw.cell 1 rfl 5 rfl; clear hSw; go_simp; (try with_reducible rfl)
  (try simp only [Act.put, List.setIfInBounds_toArray, List.set_cons_zero, List.set_cons_succ])
  refine wpAnyH_ready (rs := [2]) (by kernel_rfl) (by simp) ?_
  refine AllReadyH.cons (o := { dst := some 21, op := Op.call { callee := Callee.value (Operand.func 25), args := #[Operand.tmp 20], argTypes := #[23] }, type := 9, pos := _, after := #[{ on := 1, ground := Ground.data }], guard := none }) rfl (fun K hK => ?_) AllReadyH.nil
  go_simp
  refine (pA _).out.mono ?_
  rintro e y1 ⟨rfl, hB'⟩
  replace hS := hS.on hB'
  clear hB'
  go_wp2_with fail
  refine hK.out _ _ hS (fun hHeld => ?_)
  clear hK K
  (try simp only [Act.put, List.setIfInBounds_toArray, List.set_cons_zero, List.set_cons_succ])
  refine wpAnyH_ready (rs := [5]) (by kernel_rfl) (by simp) ?_
  refine AllReadyH.cons (o := { dst := some 24, op := Op.call { callee := Callee.value (Operand.func 25), args := #[Operand.tmp 23], argTypes := #[23] }, type := 9, pos := _, after := #[{ on := 4, ground := Ground.data }, { on := 2, ground := Ground.chain }], guard := none }) rfl (fun K hK => ?_) AllReadyH.nil
  go_simp
  refine (pB _).out.mono ?_
  rintro e y2 ⟨rfl, hB'⟩
  replace hS := hS.on hB'
  clear hB'
  go_wp2_with fail
  refine hK.out _ _ hS (fun hHeld => ?_)
  clear hK K
  (try simp only [Act.put, List.setIfInBounds_toArray, List.set_cons_zero, List.set_cons_succ])
  refine wpAnyH_ready (rs := [6]) (by kernel_rfl) (by simp) ?_
  refine AllReadyH.cons (o := { dst := some 25, op := Op.call { callee := Callee.value (Operand.func 16), args := #[Operand.tmp 21, Operand.tmp 24], argTypes := #[9, 9] }, type := 34, pos := _, after := #[{ on := 2, ground := Ground.data }, { on := 5, ground := Ground.data }, { on := 5, ground := Ground.chain }], guard := none }) rfl (fun K hK => ?_) AllReadyH.nil
  go_simp
  refine (pC _).out.mono ?_
  rintro e y3 ⟨rfl, hB'⟩
  replace hS := hS.on hB'
  clear hB'
  go_wp2_with fail
  refine hK.out _ _ hS (fun hHeld => ?_)
  clear hK K
  (try simp only [Act.put, List.setIfInBounds_toArray, List.set_cons_zero, List.set_cons_succ])
  refine wpAnyH_take (i := 7) (oi := { dst := some 18, op := Op.move (Operand.tmp 25), type := 34, pos := _, after := #[{ on := 6, ground := Ground.data }], guard := none }) (v := ?_) rfl (by kernel_rfl) (by kernel_rfl) (by kernel_rfl) (fun _ _ _ h => h) (Or.inl ⟨by rfl, ?hy⟩) hHeld ?_
  case hy => intro w0 hSw; (try dsimp only at hSw); go_simp; (try with_reducible rfl)
  (try simp only [Act.put, List.setIfInBounds_toArray, List.set_cons_zero, List.set_cons_succ])
  refine wpAnyH_take (i := 8) (oi := { dst := some 26, op := Op.extract (Operand.tmp 18) 0, type := 9, pos := _, after := #[{ on := 7, ground := Ground.data }], guard := none }) (v := ?_) rfl (by kernel_rfl) (by kernel_rfl) (by kernel_rfl) (fun _ _ _ h => h) (Or.inl ⟨by rfl, ?hy⟩) hHeld ?_
  case hy => intro w0 hSw; (try dsimp only at hSw); go_simp; (try with_reducible rfl)
  (try simp only [Act.put, List.setIfInBounds_toArray, List.set_cons_zero, List.set_cons_succ])
  refine wpAnyH_take (i := 9) (oi := { dst := some 27, op := Op.extract (Operand.tmp 18) 1, type := 3, pos := _, after := #[{ on := 7, ground := Ground.data }, { on := 11, ground := Ground.gcOnly Departure.lateStores }], guard := none }) (v := ?_) rfl (by kernel_rfl) (by kernel_rfl) (by kernel_rfl) (fun _ _ _ h => h) (Or.inl ⟨by rfl, ?hy⟩) hHeld ?_
  case hy => intro w0 hSw; (try dsimp only at hSw); go_simp; (try with_reducible rfl)
  (try simp only [Act.put, List.setIfInBounds_toArray, List.set_cons_zero, List.set_cons_succ])
  refine wpAnyH_take (i := 10) (oi := { dst := some 28, op := Op.extract (Operand.tmp 18) 2, type := 3, pos := _, after := #[{ on := 7, ground := Ground.data }, { on := 12, ground := Ground.gcOnly Departure.lateStores }], guard := none }) (v := ?_) rfl (by kernel_rfl) (by kernel_rfl) (by kernel_rfl) (fun _ _ _ h => h) (Or.inl ⟨by rfl, ?hy⟩) hHeld ?_
  case hy => intro w0 hSw; (try dsimp only at hSw); go_simp; (try with_reducible rfl)
  (try simp only [Act.put, List.setIfInBounds_toArray, List.set_cons_zero, List.set_cons_succ])
  refine wpAnyH_take (i := 11) (oi := { dst := some 9, op := Op.assign (Operand.tmp 26), type := 9, pos := _, after := #[{ on := 8, ground := Ground.data }, { on := 6, ground := Ground.chain }, { on := 0, ground := Ground.phase }, { on := 1, ground := Ground.phase }, { on := 2, ground := Ground.phase }, { on := 3, ground := Ground.phase }, { on := 4, ground := Ground.phase }, { on := 5, ground := Ground.phase }, { on := 6, ground := Ground.phase }, { on := 7, ground := Ground.phase }, { on := 8, ground := Ground.phase }, { on := 9, ground := Ground.textOnly Departure.lateStores }, { on := 10, ground := Ground.textOnly Departure.lateStores }], guard := none }) (v := ?_) rfl (by kernel_rfl) (by kernel_rfl) (by kernel_rfl) (fun _ _ _ h => h) (Or.inl ⟨by rfl, ?hy⟩) hHeld ?_
  case hy => intro w0 hSw; (try dsimp only at hSw); go_simp; (try with_reducible rfl)
  (try simp only [Act.put, List.setIfInBounds_toArray, List.set_cons_zero, List.set_cons_succ])
  refine wpAnyH_take (i := 12) (oi := { dst := some 10, op := Op.assign (Operand.tmp 27), type := 3, pos := _, after := #[{ on := 9, ground := Ground.data }, { on := 11, ground := Ground.chain }, { on := 0, ground := Ground.phase }, { on := 1, ground := Ground.phase }, { on := 2, ground := Ground.phase }, { on := 3, ground := Ground.phase }, { on := 4, ground := Ground.phase }, { on := 5, ground := Ground.phase }, { on := 6, ground := Ground.phase }, { on := 7, ground := Ground.phase }, { on := 8, ground := Ground.phase }, { on := 9, ground := Ground.phase }, { on := 10, ground := Ground.textOnly Departure.lateStores }, { on := 11, ground := Ground.phase }], guard := none }) (v := ?_) rfl (by kernel_rfl) (by kernel_rfl) (by kernel_rfl) (fun _ _ _ h => h) (Or.inl ⟨by rfl, ?hy⟩) hHeld ?_
  case hy => intro w0 hSw; (try dsimp only at hSw); go_simp; (try with_reducible rfl)
  (try simp only [Act.put, List.setIfInBounds_toArray, List.set_cons_zero, List.set_cons_succ])
  refine wpAnyH_take (i := 13) (oi := { dst := some 11, op := Op.assign (Operand.tmp 28), type := 3, pos := _, after := #[{ on := 10, ground := Ground.data }, { on := 12, ground := Ground.chain }, { on := 0, ground := Ground.phase }, { on := 1, ground := Ground.phase }, { on := 2, ground := Ground.phase }, { on := 3, ground := Ground.phase }, { on := 4, ground := Ground.phase }, { on := 5, ground := Ground.phase }, { on := 6, ground := Ground.phase }, { on := 7, ground := Ground.phase }, { on := 8, ground := Ground.phase }, { on := 9, ground := Ground.phase }, { on := 10, ground := Ground.phase }, { on := 11, ground := Ground.phase }, { on := 12, ground := Ground.phase }], guard := none }) (v := ?_) rfl (by kernel_rfl) (by kernel_rfl) (by kernel_rfl) (fun _ _ _ h => h) (Or.inl ⟨by rfl, ?hy⟩) hHeld ?_
  case hy => intro w0 hSw; (try dsimp only at hSw); go_simp; (try with_reducible rfl)
  (try simp only [Act.put, List.setIfInBounds_toArray, List.set_cons_zero, List.set_cons_succ])
  refine wpAnyH_done (by kernel_rfl) ?_ _
  clear hHeld pA pB pC
  have S2 := Lib.hid hS
  clear hS
  go_wp2_with fail
  refine (pN _).out.mono ?_
  rintro e w3 ⟨rfl, hB⟩
  have S3 := Lib.hid (S2.out.on hB)
  clear hB S2
  clear pN
  have c0 := S3.out.cell 1 rfl 0 rfl
  go_wp2_with (refine wpList_storew_st rfl 25 _ _ rfl S3.out Hk.out (by intro u hu; rcases List.mem_singleton.1 hu with rfl; exact Hne.out) #[.int .i64 0, .string ⟨#[]⟩, .string ⟨#[]⟩, .int .i64 0, .string ⟨#[]⟩, .string ⟨#[]⟩] rfl rfl (by rfl) rfl (sl_one15 _ _ _ _ _ _) ?_; intro w4 hS; have S4 := Lib.hid hS; clear hS)
  (try simp only [Exit.inBlock, Exit.then]); refine bodyPost_ret (ret_slots3 rfl rfl S4.out rfl) rfl ?_
  exact ⟨rfl, S4.out.below⟩

set_option maxHeartbeats 4000000 in
theorem slSave_zero (sm sn : Int) (sk sl sx sy : ByteArray) (t : ByteArray) (ra rb c : ByteArray) (n i : Int) (jt : ((1000 : Int) < (t.size : Int)) = False) (jn : ((1000000000 : Int) ≤ n) = False) (n1 : Int) (jw : wrap64 (n + 1) = n1) (b : ByteArray) (jb : (sm < (b.size : Int)) = False) (w : World)
    (pI : ∀ (W : World), Hid (Calls Try.prog 24 #[.agg #[.int .i64 sm, .string sk, .string sl, .int .i64 sn, .string sx, .string sy]] W fun e w' => e = .returned (.bool true) ∧ Below W.heap.size W w'))
    (pA : ∀ (W : World), Hid (Calls Try.prog 25 #[.agg #[.int .i64 sm, .string sk, .string sl]] W fun e w' => e = .returned (.string ra) ∧ Below W.heap.size W w'))
    (pB : ∀ (W : World), Hid (Calls Try.prog 25 #[.agg #[.int .i64 sn, .string sx, .string sy]] W fun e w' => e = .returned (.string rb) ∧ Below W.heap.size W w'))
    (pC : ∀ (W : World), Hid (Calls Try.prog 16 #[.string ra, .string rb] W fun e w' => e = .returned (.tuple #[.string c, .int .i64 n, .int .i64 i]) ∧ Below W.heap.size W w'))
    (pN : ∀ (W : World), Hid (Calls Try.prog 31 #[.int .i64 n1, .string t] W fun e w' => e = .returned (.string b) ∧ Below W.heap.size W w')) :
    Calls Try.prog 12 #[.agg #[.int .i64 sm, .string sk, .string sl, .int .i64 sn, .string sx, .string sy], .string t, .int .i64 0] w fun e w' => e = .returned (.tuple #[.agg #[.int .i64 sm, .string sk, .string sl, .int .i64 sn, .string sx, .string sy], .bool false, .int .i64 0]) ∧ Below w.heap.size w w' := by
  have S0 := Lib.hid ((St.start w).box2 #[.int .i64 sm, .string sk, .string sl, .int .i64 sn, .string sx, .string sy] #[.int .i64 0, .string ⟨#[]⟩, .string ⟨#[]⟩, .int .i64 0, .string ⟨#[]⟩, .string ⟨#[]⟩] 25 25)
  go_enter Try.func12, Try.ntmps12
  go_wp2_with (refine wpList_loadg_st (by rfl) 25 _ rfl S0.out 1 _ _ rfl rfl _ Try.underlying25 rfl (by rfl) ?_)
  refine (pI _).out.mono ?_
  rintro e w1 ⟨rfl, hB⟩
  have S1 := Lib.hid (S0.out.on hB)
  clear hB S0
  clear pI
  obtain ⟨p0, hp0⟩ : ∃ p, p = w.heap.size := ⟨_, rfl⟩
  obtain ⟨k0, hk0⟩ : ∃ p, p = w.heap.size + 1 := ⟨_, rfl⟩
  have Hk : Hid (w.heap.size ≤ k0) := Lib.hid (by omega)
  have Hp : Hid (w.heap.size ≤ p0) := Lib.hid (by omega)
  have Hne : Hid (p0 ≠ k0) := Lib.hid (by omega)
  have Hlt : Hid (p0 < k0) := Lib.hid (by omega)
  rw [← hk0, ← hp0] at S1
  (try rw [← hk0])
  (try rw [← hp0])
  clear hp0 hk0
  go_wp2_with fail
  have hS : St w w1.drew [(k0, #[.int .i64 0, .string ⟨#[]⟩, .string ⟨#[]⟩, .int .i64 0, .string ⟨#[]⟩, .string ⟨#[]⟩]), (p0, #[.int .i64 sm, .string sk, .string sl, .int .i64 sn, .string sx, .string sy])] [] := S1.out.drew
  clear S1
  refine wp_region_held_drew (S := (fun W : World => St w W [(k0, #[.int .i64 0, .string ⟨#[]⟩, .string ⟨#[]⟩, .int .i64 0, .string ⟨#[]⟩, .string ⟨#[]⟩]), (p0, #[.int .i64 sm, .string sk, .string sl, .int .i64 sn, .string sx, .string sy])] [])) (by kernel_rfl) hS (fun hHeld => ?_)
  refine wpAnyH_take (i := 0) (oi := { dst := some 19, op := Op.fieldAddr 25 (Operand.tmp 3) 0, type := 0, pos := _, after := #[], guard := none }) (v := ?_) rfl (by kernel_rfl) (by kernel_rfl) (by kernel_rfl) (fun _ _ _ h => h) (Or.inl ⟨by rfl, ?hy⟩) hHeld ?_
  case hy => intro w0 hSw; (try dsimp only at hSw); go_simp; (try with_reducible rfl)
  (try simp only [Act.put, List.setIfInBounds_toArray, List.set_cons_zero, List.set_cons_succ])
  refine wpAnyH_take (i := 1) (oi := { dst := some 20, op := Op.load 23 (Operand.tmp 19), type := 23, pos := _, after := #[{ on := 0, ground := Ground.data }], guard := none }) (v := ?_) rfl (by kernel_rfl) (by kernel_rfl) (by kernel_rfl) (fun _ _ _ h => h) (Or.inl ⟨by rfl, ?hy⟩) hHeld ?_
  case hy => intro w0 hSw; have d0 := hSw.cell 1 rfl 0 rfl; have d1 := hSw.cell 1 rfl 1 rfl; have d2 := hSw.cell 1 rfl 2 rfl; clear hSw; go_simp; (try with_reducible rfl)
  (try simp only [Act.put, List.setIfInBounds_toArray, List.set_cons_zero, List.set_cons_succ])
  refine wpAnyH_take (i := 3) (oi := { dst := some 22, op := Op.fieldAddr 25 (Operand.tmp 3) 1, type := 0, pos := _, after := #[], guard := none }) (v := ?_) rfl (by kernel_rfl) (by kernel_rfl) (by kernel_rfl) (fun _ _ _ h => h) (Or.inl ⟨by rfl, ?hy⟩) hHeld ?_
  case hy => intro w0 hSw; (try dsimp only at hSw); go_simp; (try with_reducible rfl)
  (try simp only [Act.put, List.setIfInBounds_toArray, List.set_cons_zero, List.set_cons_succ])
  refine wpAnyH_take (i := 4) (oi := { dst := some 23, op := Op.load 23 (Operand.tmp 22), type := 23, pos := _, after := #[{ on := 3, ground := Ground.data }], guard := none }) (v := ?_) rfl (by kernel_rfl) (by kernel_rfl) (by kernel_rfl) (fun _ _ _ h => h) (Or.inl ⟨by rfl, ?hy⟩) hHeld ?_
  case hy => intro w0 hSw; have d0 := hSw.cell 1 rfl 3 rfl; have d1 := hSw.cell 1 rfl 4 rfl; have d2 := hSw.cell 1 rfl 5 rfl; clear hSw; go_simp; (try with_reducible rfl)
  (try simp only [Act.put, List.setIfInBounds_toArray, List.set_cons_zero, List.set_cons_succ])
  refine wpAnyH_ready (rs := [2]) (by kernel_rfl) (by simp) ?_
  refine AllReadyH.cons (o := { dst := some 21, op := Op.call { callee := Callee.value (Operand.func 25), args := #[Operand.tmp 20], argTypes := #[23] }, type := 9, pos := _, after := #[{ on := 1, ground := Ground.data }], guard := none }) rfl (fun K hK => ?_) AllReadyH.nil
  go_simp
  refine (pA _).out.mono ?_
  rintro e y1 ⟨rfl, hB'⟩
  replace hS := hS.on hB'
  clear hB'
  go_wp2_with fail
  refine hK.out _ _ hS (fun hHeld => ?_)
  clear hK K
  (try simp only [Act.put, List.setIfInBounds_toArray, List.set_cons_zero, List.set_cons_succ])
  refine wpAnyH_ready (rs := [5]) (by kernel_rfl) (by simp) ?_
  refine AllReadyH.cons (o := { dst := some 24, op := Op.call { callee := Callee.value (Operand.func 25), args := #[Operand.tmp 23], argTypes := #[23] }, type := 9, pos := _, after := #[{ on := 4, ground := Ground.data }, { on := 2, ground := Ground.chain }], guard := none }) rfl (fun K hK => ?_) AllReadyH.nil
  go_simp
  refine (pB _).out.mono ?_
  rintro e y2 ⟨rfl, hB'⟩
  replace hS := hS.on hB'
  clear hB'
  go_wp2_with fail
  refine hK.out _ _ hS (fun hHeld => ?_)
  clear hK K
  (try simp only [Act.put, List.setIfInBounds_toArray, List.set_cons_zero, List.set_cons_succ])
  refine wpAnyH_ready (rs := [6]) (by kernel_rfl) (by simp) ?_
  refine AllReadyH.cons (o := { dst := some 25, op := Op.call { callee := Callee.value (Operand.func 16), args := #[Operand.tmp 21, Operand.tmp 24], argTypes := #[9, 9] }, type := 34, pos := _, after := #[{ on := 2, ground := Ground.data }, { on := 5, ground := Ground.data }, { on := 5, ground := Ground.chain }], guard := none }) rfl (fun K hK => ?_) AllReadyH.nil
  go_simp
  refine (pC _).out.mono ?_
  rintro e y3 ⟨rfl, hB'⟩
  replace hS := hS.on hB'
  clear hB'
  go_wp2_with fail
  refine hK.out _ _ hS (fun hHeld => ?_)
  clear hK K
  (try simp only [Act.put, List.setIfInBounds_toArray, List.set_cons_zero, List.set_cons_succ])
  refine wpAnyH_take (i := 7) (oi := { dst := some 18, op := Op.move (Operand.tmp 25), type := 34, pos := _, after := #[{ on := 6, ground := Ground.data }], guard := none }) (v := ?_) rfl (by kernel_rfl) (by kernel_rfl) (by kernel_rfl) (fun _ _ _ h => h) (Or.inl ⟨by rfl, ?hy⟩) hHeld ?_
  case hy => intro w0 hSw; (try dsimp only at hSw); go_simp; (try with_reducible rfl)
  (try simp only [Act.put, List.setIfInBounds_toArray, List.set_cons_zero, List.set_cons_succ])
  refine wpAnyH_take (i := 8) (oi := { dst := some 26, op := Op.extract (Operand.tmp 18) 0, type := 9, pos := _, after := #[{ on := 7, ground := Ground.data }], guard := none }) (v := ?_) rfl (by kernel_rfl) (by kernel_rfl) (by kernel_rfl) (fun _ _ _ h => h) (Or.inl ⟨by rfl, ?hy⟩) hHeld ?_
  case hy => intro w0 hSw; (try dsimp only at hSw); go_simp; (try with_reducible rfl)
  (try simp only [Act.put, List.setIfInBounds_toArray, List.set_cons_zero, List.set_cons_succ])
  refine wpAnyH_take (i := 9) (oi := { dst := some 27, op := Op.extract (Operand.tmp 18) 1, type := 3, pos := _, after := #[{ on := 7, ground := Ground.data }, { on := 11, ground := Ground.gcOnly Departure.lateStores }], guard := none }) (v := ?_) rfl (by kernel_rfl) (by kernel_rfl) (by kernel_rfl) (fun _ _ _ h => h) (Or.inl ⟨by rfl, ?hy⟩) hHeld ?_
  case hy => intro w0 hSw; (try dsimp only at hSw); go_simp; (try with_reducible rfl)
  (try simp only [Act.put, List.setIfInBounds_toArray, List.set_cons_zero, List.set_cons_succ])
  refine wpAnyH_take (i := 10) (oi := { dst := some 28, op := Op.extract (Operand.tmp 18) 2, type := 3, pos := _, after := #[{ on := 7, ground := Ground.data }, { on := 12, ground := Ground.gcOnly Departure.lateStores }], guard := none }) (v := ?_) rfl (by kernel_rfl) (by kernel_rfl) (by kernel_rfl) (fun _ _ _ h => h) (Or.inl ⟨by rfl, ?hy⟩) hHeld ?_
  case hy => intro w0 hSw; (try dsimp only at hSw); go_simp; (try with_reducible rfl)
  (try simp only [Act.put, List.setIfInBounds_toArray, List.set_cons_zero, List.set_cons_succ])
  refine wpAnyH_take (i := 11) (oi := { dst := some 9, op := Op.assign (Operand.tmp 26), type := 9, pos := _, after := #[{ on := 8, ground := Ground.data }, { on := 6, ground := Ground.chain }, { on := 0, ground := Ground.phase }, { on := 1, ground := Ground.phase }, { on := 2, ground := Ground.phase }, { on := 3, ground := Ground.phase }, { on := 4, ground := Ground.phase }, { on := 5, ground := Ground.phase }, { on := 6, ground := Ground.phase }, { on := 7, ground := Ground.phase }, { on := 8, ground := Ground.phase }, { on := 9, ground := Ground.textOnly Departure.lateStores }, { on := 10, ground := Ground.textOnly Departure.lateStores }], guard := none }) (v := ?_) rfl (by kernel_rfl) (by kernel_rfl) (by kernel_rfl) (fun _ _ _ h => h) (Or.inl ⟨by rfl, ?hy⟩) hHeld ?_
  case hy => intro w0 hSw; (try dsimp only at hSw); go_simp; (try with_reducible rfl)
  (try simp only [Act.put, List.setIfInBounds_toArray, List.set_cons_zero, List.set_cons_succ])
  refine wpAnyH_take (i := 12) (oi := { dst := some 10, op := Op.assign (Operand.tmp 27), type := 3, pos := _, after := #[{ on := 9, ground := Ground.data }, { on := 11, ground := Ground.chain }, { on := 0, ground := Ground.phase }, { on := 1, ground := Ground.phase }, { on := 2, ground := Ground.phase }, { on := 3, ground := Ground.phase }, { on := 4, ground := Ground.phase }, { on := 5, ground := Ground.phase }, { on := 6, ground := Ground.phase }, { on := 7, ground := Ground.phase }, { on := 8, ground := Ground.phase }, { on := 9, ground := Ground.phase }, { on := 10, ground := Ground.textOnly Departure.lateStores }, { on := 11, ground := Ground.phase }], guard := none }) (v := ?_) rfl (by kernel_rfl) (by kernel_rfl) (by kernel_rfl) (fun _ _ _ h => h) (Or.inl ⟨by rfl, ?hy⟩) hHeld ?_
  case hy => intro w0 hSw; (try dsimp only at hSw); go_simp; (try with_reducible rfl)
  (try simp only [Act.put, List.setIfInBounds_toArray, List.set_cons_zero, List.set_cons_succ])
  refine wpAnyH_take (i := 13) (oi := { dst := some 11, op := Op.assign (Operand.tmp 28), type := 3, pos := _, after := #[{ on := 10, ground := Ground.data }, { on := 12, ground := Ground.chain }, { on := 0, ground := Ground.phase }, { on := 1, ground := Ground.phase }, { on := 2, ground := Ground.phase }, { on := 3, ground := Ground.phase }, { on := 4, ground := Ground.phase }, { on := 5, ground := Ground.phase }, { on := 6, ground := Ground.phase }, { on := 7, ground := Ground.phase }, { on := 8, ground := Ground.phase }, { on := 9, ground := Ground.phase }, { on := 10, ground := Ground.phase }, { on := 11, ground := Ground.phase }, { on := 12, ground := Ground.phase }], guard := none }) (v := ?_) rfl (by kernel_rfl) (by kernel_rfl) (by kernel_rfl) (fun _ _ _ h => h) (Or.inl ⟨by rfl, ?hy⟩) hHeld ?_
  case hy => intro w0 hSw; (try dsimp only at hSw); go_simp; (try with_reducible rfl)
  (try simp only [Act.put, List.setIfInBounds_toArray, List.set_cons_zero, List.set_cons_succ])
  refine wpAnyH_done (by kernel_rfl) ?_ _
  clear hHeld pA pB pC
  have S2 := Lib.hid hS
  clear hS
  go_wp2_with fail
  refine (pN _).out.mono ?_
  rintro e w3 ⟨rfl, hB⟩
  have S3 := Lib.hid (S2.out.on hB)
  clear hB S2
  clear pN
  have c0 := S3.out.cell 1 rfl 0 rfl
  go_wp2_with (first
    | (refine wpList_loadg_st (by rfl) 25 _ rfl S3.out 1 _ _ rfl rfl _ Try.underlying25 rfl (by rfl) ?_)
    | (refine wpList_storew_st rfl 25 _ _ rfl S3.out Hk.out (by intro u hu; rcases List.mem_singleton.1 hu with rfl; exact Hne.out) #[.int .i64 sm, .string sk, .string sl, .int .i64 sn, .string sx, .string sy] rfl rfl (by rfl) rfl (sl_one15 _ _ _ _ _ _) ?_; intro w4 hS; have S4 := Lib.hid hS; clear hS))
  (try simp only [Exit.inBlock, Exit.then]); refine bodyPost_ret (ret_slots3 rfl rfl S4.out rfl) rfl ?_
  exact ⟨rfl, S4.out.below⟩

set_option maxHeartbeats 4000000 in
theorem slSave_oneB (sm sn : Int) (sk sl sx sy : ByteArray) (t : ByteArray) (d : Int) (ra rb c : ByteArray) (n i : Int) (jt : ((1000 : Int) < (t.size : Int)) = False) (jn : ((1000000000 : Int) ≤ n) = False) (n1 : Int) (jw : wrap64 (n + 1) = n1) (b : ByteArray) (jb : (sm < (b.size : Int)) = False) (jd : (d == 0) = false) (jd1 : (d != 1) = false) (ji : (i == 0) = true) (w : World)
    (pI : ∀ (W : World), Hid (Calls Try.prog 24 #[.agg #[.int .i64 sm, .string sk, .string sl, .int .i64 sn, .string sx, .string sy]] W fun e w' => e = .returned (.bool true) ∧ Below W.heap.size W w'))
    (pA : ∀ (W : World), Hid (Calls Try.prog 25 #[.agg #[.int .i64 sm, .string sk, .string sl]] W fun e w' => e = .returned (.string ra) ∧ Below W.heap.size W w'))
    (pB : ∀ (W : World), Hid (Calls Try.prog 25 #[.agg #[.int .i64 sn, .string sx, .string sy]] W fun e w' => e = .returned (.string rb) ∧ Below W.heap.size W w'))
    (pC : ∀ (W : World), Hid (Calls Try.prog 16 #[.string ra, .string rb] W fun e w' => e = .returned (.tuple #[.string c, .int .i64 n, .int .i64 i]) ∧ Below W.heap.size W w'))
    (pN : ∀ (W : World), Hid (Calls Try.prog 31 #[.int .i64 n1, .string t] W fun e w' => e = .returned (.string b) ∧ Below W.heap.size W w')) :
    Calls Try.prog 12 #[.agg #[.int .i64 sm, .string sk, .string sl, .int .i64 sn, .string sx, .string sy], .string t, .int .i64 d] w fun e w' => e = .returned (.tuple #[.agg #[.int .i64 sm, .string sk, .string sl, .int .i64 sm, .string ⟨#[]⟩, .string b], .bool false, .int .i64 0]) ∧ Below w.heap.size w w' := by
  have S0 := Lib.hid ((St.start w).box2 #[.int .i64 sm, .string sk, .string sl, .int .i64 sn, .string sx, .string sy] #[.int .i64 0, .string ⟨#[]⟩, .string ⟨#[]⟩, .int .i64 0, .string ⟨#[]⟩, .string ⟨#[]⟩] 25 25)
  go_enter Try.func12, Try.ntmps12
  go_wp2_with (refine wpList_loadg_st (by rfl) 25 _ rfl S0.out 1 _ _ rfl rfl _ Try.underlying25 rfl (by rfl) ?_)
  refine (pI _).out.mono ?_
  rintro e w1 ⟨rfl, hB⟩
  have S1 := Lib.hid (S0.out.on hB)
  clear hB S0
  clear pI
  obtain ⟨p0, hp0⟩ : ∃ p, p = w.heap.size := ⟨_, rfl⟩
  obtain ⟨k0, hk0⟩ : ∃ p, p = w.heap.size + 1 := ⟨_, rfl⟩
  have Hk : Hid (w.heap.size ≤ k0) := Lib.hid (by omega)
  have Hp : Hid (w.heap.size ≤ p0) := Lib.hid (by omega)
  have Hne : Hid (p0 ≠ k0) := Lib.hid (by omega)
  have Hlt : Hid (p0 < k0) := Lib.hid (by omega)
  rw [← hk0, ← hp0] at S1
  (try rw [← hk0])
  (try rw [← hp0])
  clear hp0 hk0
  go_wp2_with fail
  have hS : St w w1.drew [(k0, #[.int .i64 0, .string ⟨#[]⟩, .string ⟨#[]⟩, .int .i64 0, .string ⟨#[]⟩, .string ⟨#[]⟩]), (p0, #[.int .i64 sm, .string sk, .string sl, .int .i64 sn, .string sx, .string sy])] [] := S1.out.drew
  clear S1
  refine wp_region_held_drew (S := (fun W : World => St w W [(k0, #[.int .i64 0, .string ⟨#[]⟩, .string ⟨#[]⟩, .int .i64 0, .string ⟨#[]⟩, .string ⟨#[]⟩]), (p0, #[.int .i64 sm, .string sk, .string sl, .int .i64 sn, .string sx, .string sy])] [])) (by kernel_rfl) hS (fun hHeld => ?_)
  refine wpAnyH_take (i := 0) (oi := { dst := some 19, op := Op.fieldAddr 25 (Operand.tmp 3) 0, type := 0, pos := _, after := #[], guard := none }) (v := ?_) rfl (by kernel_rfl) (by kernel_rfl) (by kernel_rfl) (fun _ _ _ h => h) (Or.inl ⟨by rfl, ?hy⟩) hHeld ?_
  case hy => intro w0 hSw; (try dsimp only at hSw); go_simp; (try with_reducible rfl)
  (try simp only [Act.put, List.setIfInBounds_toArray, List.set_cons_zero, List.set_cons_succ])
  refine wpAnyH_take (i := 1) (oi := { dst := some 20, op := Op.load 23 (Operand.tmp 19), type := 23, pos := _, after := #[{ on := 0, ground := Ground.data }], guard := none }) (v := ?_) rfl (by kernel_rfl) (by kernel_rfl) (by kernel_rfl) (fun _ _ _ h => h) (Or.inl ⟨by rfl, ?hy⟩) hHeld ?_
  case hy => intro w0 hSw; have d0 := hSw.cell 1 rfl 0 rfl; have d1 := hSw.cell 1 rfl 1 rfl; have d2 := hSw.cell 1 rfl 2 rfl; clear hSw; go_simp; (try with_reducible rfl)
  (try simp only [Act.put, List.setIfInBounds_toArray, List.set_cons_zero, List.set_cons_succ])
  refine wpAnyH_take (i := 3) (oi := { dst := some 22, op := Op.fieldAddr 25 (Operand.tmp 3) 1, type := 0, pos := _, after := #[], guard := none }) (v := ?_) rfl (by kernel_rfl) (by kernel_rfl) (by kernel_rfl) (fun _ _ _ h => h) (Or.inl ⟨by rfl, ?hy⟩) hHeld ?_
  case hy => intro w0 hSw; (try dsimp only at hSw); go_simp; (try with_reducible rfl)
  (try simp only [Act.put, List.setIfInBounds_toArray, List.set_cons_zero, List.set_cons_succ])
  refine wpAnyH_take (i := 4) (oi := { dst := some 23, op := Op.load 23 (Operand.tmp 22), type := 23, pos := _, after := #[{ on := 3, ground := Ground.data }], guard := none }) (v := ?_) rfl (by kernel_rfl) (by kernel_rfl) (by kernel_rfl) (fun _ _ _ h => h) (Or.inl ⟨by rfl, ?hy⟩) hHeld ?_
  case hy => intro w0 hSw; have d0 := hSw.cell 1 rfl 3 rfl; have d1 := hSw.cell 1 rfl 4 rfl; have d2 := hSw.cell 1 rfl 5 rfl; clear hSw; go_simp; (try with_reducible rfl)
  (try simp only [Act.put, List.setIfInBounds_toArray, List.set_cons_zero, List.set_cons_succ])
  refine wpAnyH_ready (rs := [2]) (by kernel_rfl) (by simp) ?_
  refine AllReadyH.cons (o := { dst := some 21, op := Op.call { callee := Callee.value (Operand.func 25), args := #[Operand.tmp 20], argTypes := #[23] }, type := 9, pos := _, after := #[{ on := 1, ground := Ground.data }], guard := none }) rfl (fun K hK => ?_) AllReadyH.nil
  go_simp
  refine (pA _).out.mono ?_
  rintro e y1 ⟨rfl, hB'⟩
  replace hS := hS.on hB'
  clear hB'
  go_wp2_with fail
  refine hK.out _ _ hS (fun hHeld => ?_)
  clear hK K
  (try simp only [Act.put, List.setIfInBounds_toArray, List.set_cons_zero, List.set_cons_succ])
  refine wpAnyH_ready (rs := [5]) (by kernel_rfl) (by simp) ?_
  refine AllReadyH.cons (o := { dst := some 24, op := Op.call { callee := Callee.value (Operand.func 25), args := #[Operand.tmp 23], argTypes := #[23] }, type := 9, pos := _, after := #[{ on := 4, ground := Ground.data }, { on := 2, ground := Ground.chain }], guard := none }) rfl (fun K hK => ?_) AllReadyH.nil
  go_simp
  refine (pB _).out.mono ?_
  rintro e y2 ⟨rfl, hB'⟩
  replace hS := hS.on hB'
  clear hB'
  go_wp2_with fail
  refine hK.out _ _ hS (fun hHeld => ?_)
  clear hK K
  (try simp only [Act.put, List.setIfInBounds_toArray, List.set_cons_zero, List.set_cons_succ])
  refine wpAnyH_ready (rs := [6]) (by kernel_rfl) (by simp) ?_
  refine AllReadyH.cons (o := { dst := some 25, op := Op.call { callee := Callee.value (Operand.func 16), args := #[Operand.tmp 21, Operand.tmp 24], argTypes := #[9, 9] }, type := 34, pos := _, after := #[{ on := 2, ground := Ground.data }, { on := 5, ground := Ground.data }, { on := 5, ground := Ground.chain }], guard := none }) rfl (fun K hK => ?_) AllReadyH.nil
  go_simp
  refine (pC _).out.mono ?_
  rintro e y3 ⟨rfl, hB'⟩
  replace hS := hS.on hB'
  clear hB'
  go_wp2_with fail
  refine hK.out _ _ hS (fun hHeld => ?_)
  clear hK K
  (try simp only [Act.put, List.setIfInBounds_toArray, List.set_cons_zero, List.set_cons_succ])
  refine wpAnyH_take (i := 7) (oi := { dst := some 18, op := Op.move (Operand.tmp 25), type := 34, pos := _, after := #[{ on := 6, ground := Ground.data }], guard := none }) (v := ?_) rfl (by kernel_rfl) (by kernel_rfl) (by kernel_rfl) (fun _ _ _ h => h) (Or.inl ⟨by rfl, ?hy⟩) hHeld ?_
  case hy => intro w0 hSw; (try dsimp only at hSw); go_simp; (try with_reducible rfl)
  (try simp only [Act.put, List.setIfInBounds_toArray, List.set_cons_zero, List.set_cons_succ])
  refine wpAnyH_take (i := 8) (oi := { dst := some 26, op := Op.extract (Operand.tmp 18) 0, type := 9, pos := _, after := #[{ on := 7, ground := Ground.data }], guard := none }) (v := ?_) rfl (by kernel_rfl) (by kernel_rfl) (by kernel_rfl) (fun _ _ _ h => h) (Or.inl ⟨by rfl, ?hy⟩) hHeld ?_
  case hy => intro w0 hSw; (try dsimp only at hSw); go_simp; (try with_reducible rfl)
  (try simp only [Act.put, List.setIfInBounds_toArray, List.set_cons_zero, List.set_cons_succ])
  refine wpAnyH_take (i := 9) (oi := { dst := some 27, op := Op.extract (Operand.tmp 18) 1, type := 3, pos := _, after := #[{ on := 7, ground := Ground.data }, { on := 11, ground := Ground.gcOnly Departure.lateStores }], guard := none }) (v := ?_) rfl (by kernel_rfl) (by kernel_rfl) (by kernel_rfl) (fun _ _ _ h => h) (Or.inl ⟨by rfl, ?hy⟩) hHeld ?_
  case hy => intro w0 hSw; (try dsimp only at hSw); go_simp; (try with_reducible rfl)
  (try simp only [Act.put, List.setIfInBounds_toArray, List.set_cons_zero, List.set_cons_succ])
  refine wpAnyH_take (i := 10) (oi := { dst := some 28, op := Op.extract (Operand.tmp 18) 2, type := 3, pos := _, after := #[{ on := 7, ground := Ground.data }, { on := 12, ground := Ground.gcOnly Departure.lateStores }], guard := none }) (v := ?_) rfl (by kernel_rfl) (by kernel_rfl) (by kernel_rfl) (fun _ _ _ h => h) (Or.inl ⟨by rfl, ?hy⟩) hHeld ?_
  case hy => intro w0 hSw; (try dsimp only at hSw); go_simp; (try with_reducible rfl)
  (try simp only [Act.put, List.setIfInBounds_toArray, List.set_cons_zero, List.set_cons_succ])
  refine wpAnyH_take (i := 11) (oi := { dst := some 9, op := Op.assign (Operand.tmp 26), type := 9, pos := _, after := #[{ on := 8, ground := Ground.data }, { on := 6, ground := Ground.chain }, { on := 0, ground := Ground.phase }, { on := 1, ground := Ground.phase }, { on := 2, ground := Ground.phase }, { on := 3, ground := Ground.phase }, { on := 4, ground := Ground.phase }, { on := 5, ground := Ground.phase }, { on := 6, ground := Ground.phase }, { on := 7, ground := Ground.phase }, { on := 8, ground := Ground.phase }, { on := 9, ground := Ground.textOnly Departure.lateStores }, { on := 10, ground := Ground.textOnly Departure.lateStores }], guard := none }) (v := ?_) rfl (by kernel_rfl) (by kernel_rfl) (by kernel_rfl) (fun _ _ _ h => h) (Or.inl ⟨by rfl, ?hy⟩) hHeld ?_
  case hy => intro w0 hSw; (try dsimp only at hSw); go_simp; (try with_reducible rfl)
  (try simp only [Act.put, List.setIfInBounds_toArray, List.set_cons_zero, List.set_cons_succ])
  refine wpAnyH_take (i := 12) (oi := { dst := some 10, op := Op.assign (Operand.tmp 27), type := 3, pos := _, after := #[{ on := 9, ground := Ground.data }, { on := 11, ground := Ground.chain }, { on := 0, ground := Ground.phase }, { on := 1, ground := Ground.phase }, { on := 2, ground := Ground.phase }, { on := 3, ground := Ground.phase }, { on := 4, ground := Ground.phase }, { on := 5, ground := Ground.phase }, { on := 6, ground := Ground.phase }, { on := 7, ground := Ground.phase }, { on := 8, ground := Ground.phase }, { on := 9, ground := Ground.phase }, { on := 10, ground := Ground.textOnly Departure.lateStores }, { on := 11, ground := Ground.phase }], guard := none }) (v := ?_) rfl (by kernel_rfl) (by kernel_rfl) (by kernel_rfl) (fun _ _ _ h => h) (Or.inl ⟨by rfl, ?hy⟩) hHeld ?_
  case hy => intro w0 hSw; (try dsimp only at hSw); go_simp; (try with_reducible rfl)
  (try simp only [Act.put, List.setIfInBounds_toArray, List.set_cons_zero, List.set_cons_succ])
  refine wpAnyH_take (i := 13) (oi := { dst := some 11, op := Op.assign (Operand.tmp 28), type := 3, pos := _, after := #[{ on := 10, ground := Ground.data }, { on := 12, ground := Ground.chain }, { on := 0, ground := Ground.phase }, { on := 1, ground := Ground.phase }, { on := 2, ground := Ground.phase }, { on := 3, ground := Ground.phase }, { on := 4, ground := Ground.phase }, { on := 5, ground := Ground.phase }, { on := 6, ground := Ground.phase }, { on := 7, ground := Ground.phase }, { on := 8, ground := Ground.phase }, { on := 9, ground := Ground.phase }, { on := 10, ground := Ground.phase }, { on := 11, ground := Ground.phase }, { on := 12, ground := Ground.phase }], guard := none }) (v := ?_) rfl (by kernel_rfl) (by kernel_rfl) (by kernel_rfl) (fun _ _ _ h => h) (Or.inl ⟨by rfl, ?hy⟩) hHeld ?_
  case hy => intro w0 hSw; (try dsimp only at hSw); go_simp; (try with_reducible rfl)
  (try simp only [Act.put, List.setIfInBounds_toArray, List.set_cons_zero, List.set_cons_succ])
  refine wpAnyH_done (by kernel_rfl) ?_ _
  clear hHeld pA pB pC
  have S2 := Lib.hid hS
  clear hS
  go_wp2_with fail
  refine (pN _).out.mono ?_
  rintro e w3 ⟨rfl, hB⟩
  have S3 := Lib.hid (S2.out.on hB)
  clear hB S2
  clear pN
  have c0 := S3.out.cell 1 rfl 0 rfl
  go_wp2_with (first
    | (refine wpList_store_st rfl 23 _ _ rfl S3.out _ #[.int .i64 sm, .string ⟨#[]⟩, .string b] _ rfl rfl (by rfl) rfl (fil_one15 _ _ _) ?_; intro k9 w4 hp hS hBn; (try rw [← hp]); have S4 := Lib.hid hS; have Hpk9 := Lib.hid hp; have Hk9 : Hid (w.heap.size ≤ k9) := Lib.hid (by rw [hp]; exact S3.out.below.size); have Hn9 : Hid (∀ u ∈ ([(k0, #[.int .i64 0, .string ⟨#[]⟩, .string ⟨#[]⟩, .int .i64 0, .string ⟨#[]⟩, .string ⟨#[]⟩]), (p0, #[.int .i64 sm, .string sk, .string sl, .int .i64 sn, .string sx, .string sy])] : List (Nat × Array Value)), u.1 ≠ k9) := Lib.hid (by intro u hu e9; have l9 := lt15 (S3.out.live u hu); omega); have c9 := S4.out.cell 2 rfl 0 rfl; clear hS hp hBn)
    | (refine wpList_loadg_st (by rfl) 23 _ rfl S4.out 0 _ _ rfl rfl _ Try.underlying23 rfl (by rfl) ?_)
    | (refine wpList_storem_st rfl 23 _ _ rfl (S4.out.sub (L' := [(p0, #[.int .i64 sm, .string sk, .string sl, .int .i64 sn, .string sx, .string sy]), (k0, #[.int .i64 0, .string ⟨#[]⟩, .string ⟨#[]⟩, .int .i64 0, .string ⟨#[]⟩, .string ⟨#[]⟩])]) (by simp)) Hp.out (by intro u hu; rcases List.mem_singleton.1 hu with rfl; exact Hne.out.symm) 3 (.int .i64 sm) (.string ⟨#[]⟩) (.string b) #[.int .i64 sm, .string sk, .string sl, .int .i64 sm, .string ⟨#[]⟩, .string b] rfl (show 3 + 3 ≤ 6 by decide) rfl rfl (by rfl) (fil_one15 _ _ _) ?_; intro w5 hS; have S5 := Lib.hid hS; clear hS)
    | (refine wpList_loadg_st (by rfl) 25 _ rfl S5.out 0 _ _ rfl rfl _ Try.underlying25 rfl (by rfl) ?_)
    | (refine wpList_storew_st rfl 25 _ _ rfl (S5.out.sub (L' := [(k0, #[.int .i64 0, .string ⟨#[]⟩, .string ⟨#[]⟩, .int .i64 0, .string ⟨#[]⟩, .string ⟨#[]⟩]), (p0, #[.int .i64 sm, .string sk, .string sl, .int .i64 sm, .string ⟨#[]⟩, .string b])]) (by simp)) Hk.out (by intro u hu; rcases List.mem_singleton.1 hu with rfl; exact Hne.out) #[.int .i64 sm, .string sk, .string sl, .int .i64 sm, .string ⟨#[]⟩, .string b] rfl rfl (by rfl) rfl (sl_one15 _ _ _ _ _ _) ?_; intro w6 hS; have S6 := Lib.hid hS; clear hS))
  (try simp only [Exit.inBlock, Exit.then]); refine bodyPost_ret (ret_slots3 rfl rfl S6.out rfl) rfl ?_
  exact ⟨rfl, S6.out.below⟩

set_option maxHeartbeats 4000000 in
theorem slSave_oneA (sm sn : Int) (sk sl sx sy : ByteArray) (t : ByteArray) (d : Int) (ra rb c : ByteArray) (n i : Int) (jt : ((1000 : Int) < (t.size : Int)) = False) (jn : ((1000000000 : Int) ≤ n) = False) (n1 : Int) (jw : wrap64 (n + 1) = n1) (b : ByteArray) (jb : (sm < (b.size : Int)) = False) (jd : (d == 0) = false) (jd1 : (d != 1) = false) (ji : (i == 0) = false) (w : World)
    (pI : ∀ (W : World), Hid (Calls Try.prog 24 #[.agg #[.int .i64 sm, .string sk, .string sl, .int .i64 sn, .string sx, .string sy]] W fun e w' => e = .returned (.bool true) ∧ Below W.heap.size W w'))
    (pA : ∀ (W : World), Hid (Calls Try.prog 25 #[.agg #[.int .i64 sm, .string sk, .string sl]] W fun e w' => e = .returned (.string ra) ∧ Below W.heap.size W w'))
    (pB : ∀ (W : World), Hid (Calls Try.prog 25 #[.agg #[.int .i64 sn, .string sx, .string sy]] W fun e w' => e = .returned (.string rb) ∧ Below W.heap.size W w'))
    (pC : ∀ (W : World), Hid (Calls Try.prog 16 #[.string ra, .string rb] W fun e w' => e = .returned (.tuple #[.string c, .int .i64 n, .int .i64 i]) ∧ Below W.heap.size W w'))
    (pN : ∀ (W : World), Hid (Calls Try.prog 31 #[.int .i64 n1, .string t] W fun e w' => e = .returned (.string b) ∧ Below W.heap.size W w')) :
    Calls Try.prog 12 #[.agg #[.int .i64 sm, .string sk, .string sl, .int .i64 sn, .string sx, .string sy], .string t, .int .i64 d] w fun e w' => e = .returned (.tuple #[.agg #[.int .i64 sm, .string ⟨#[]⟩, .string b, .int .i64 sn, .string sx, .string sy], .bool false, .int .i64 0]) ∧ Below w.heap.size w w' := by
  have S0 := Lib.hid ((St.start w).box2 #[.int .i64 sm, .string sk, .string sl, .int .i64 sn, .string sx, .string sy] #[.int .i64 0, .string ⟨#[]⟩, .string ⟨#[]⟩, .int .i64 0, .string ⟨#[]⟩, .string ⟨#[]⟩] 25 25)
  go_enter Try.func12, Try.ntmps12
  go_wp2_with (refine wpList_loadg_st (by rfl) 25 _ rfl S0.out 1 _ _ rfl rfl _ Try.underlying25 rfl (by rfl) ?_)
  refine (pI _).out.mono ?_
  rintro e w1 ⟨rfl, hB⟩
  have S1 := Lib.hid (S0.out.on hB)
  clear hB S0
  clear pI
  obtain ⟨p0, hp0⟩ : ∃ p, p = w.heap.size := ⟨_, rfl⟩
  obtain ⟨k0, hk0⟩ : ∃ p, p = w.heap.size + 1 := ⟨_, rfl⟩
  have Hk : Hid (w.heap.size ≤ k0) := Lib.hid (by omega)
  have Hp : Hid (w.heap.size ≤ p0) := Lib.hid (by omega)
  have Hne : Hid (p0 ≠ k0) := Lib.hid (by omega)
  have Hlt : Hid (p0 < k0) := Lib.hid (by omega)
  rw [← hk0, ← hp0] at S1
  (try rw [← hk0])
  (try rw [← hp0])
  clear hp0 hk0
  go_wp2_with fail
  have hS : St w w1.drew [(k0, #[.int .i64 0, .string ⟨#[]⟩, .string ⟨#[]⟩, .int .i64 0, .string ⟨#[]⟩, .string ⟨#[]⟩]), (p0, #[.int .i64 sm, .string sk, .string sl, .int .i64 sn, .string sx, .string sy])] [] := S1.out.drew
  clear S1
  refine wp_region_held_drew (S := (fun W : World => St w W [(k0, #[.int .i64 0, .string ⟨#[]⟩, .string ⟨#[]⟩, .int .i64 0, .string ⟨#[]⟩, .string ⟨#[]⟩]), (p0, #[.int .i64 sm, .string sk, .string sl, .int .i64 sn, .string sx, .string sy])] [])) (by kernel_rfl) hS (fun hHeld => ?_)
  refine wpAnyH_take (i := 0) (oi := { dst := some 19, op := Op.fieldAddr 25 (Operand.tmp 3) 0, type := 0, pos := _, after := #[], guard := none }) (v := ?_) rfl (by kernel_rfl) (by kernel_rfl) (by kernel_rfl) (fun _ _ _ h => h) (Or.inl ⟨by rfl, ?hy⟩) hHeld ?_
  case hy => intro w0 hSw; (try dsimp only at hSw); go_simp; (try with_reducible rfl)
  (try simp only [Act.put, List.setIfInBounds_toArray, List.set_cons_zero, List.set_cons_succ])
  refine wpAnyH_take (i := 1) (oi := { dst := some 20, op := Op.load 23 (Operand.tmp 19), type := 23, pos := _, after := #[{ on := 0, ground := Ground.data }], guard := none }) (v := ?_) rfl (by kernel_rfl) (by kernel_rfl) (by kernel_rfl) (fun _ _ _ h => h) (Or.inl ⟨by rfl, ?hy⟩) hHeld ?_
  case hy => intro w0 hSw; have d0 := hSw.cell 1 rfl 0 rfl; have d1 := hSw.cell 1 rfl 1 rfl; have d2 := hSw.cell 1 rfl 2 rfl; clear hSw; go_simp; (try with_reducible rfl)
  (try simp only [Act.put, List.setIfInBounds_toArray, List.set_cons_zero, List.set_cons_succ])
  refine wpAnyH_take (i := 3) (oi := { dst := some 22, op := Op.fieldAddr 25 (Operand.tmp 3) 1, type := 0, pos := _, after := #[], guard := none }) (v := ?_) rfl (by kernel_rfl) (by kernel_rfl) (by kernel_rfl) (fun _ _ _ h => h) (Or.inl ⟨by rfl, ?hy⟩) hHeld ?_
  case hy => intro w0 hSw; (try dsimp only at hSw); go_simp; (try with_reducible rfl)
  (try simp only [Act.put, List.setIfInBounds_toArray, List.set_cons_zero, List.set_cons_succ])
  refine wpAnyH_take (i := 4) (oi := { dst := some 23, op := Op.load 23 (Operand.tmp 22), type := 23, pos := _, after := #[{ on := 3, ground := Ground.data }], guard := none }) (v := ?_) rfl (by kernel_rfl) (by kernel_rfl) (by kernel_rfl) (fun _ _ _ h => h) (Or.inl ⟨by rfl, ?hy⟩) hHeld ?_
  case hy => intro w0 hSw; have d0 := hSw.cell 1 rfl 3 rfl; have d1 := hSw.cell 1 rfl 4 rfl; have d2 := hSw.cell 1 rfl 5 rfl; clear hSw; go_simp; (try with_reducible rfl)
  (try simp only [Act.put, List.setIfInBounds_toArray, List.set_cons_zero, List.set_cons_succ])
  refine wpAnyH_ready (rs := [2]) (by kernel_rfl) (by simp) ?_
  refine AllReadyH.cons (o := { dst := some 21, op := Op.call { callee := Callee.value (Operand.func 25), args := #[Operand.tmp 20], argTypes := #[23] }, type := 9, pos := _, after := #[{ on := 1, ground := Ground.data }], guard := none }) rfl (fun K hK => ?_) AllReadyH.nil
  go_simp
  refine (pA _).out.mono ?_
  rintro e y1 ⟨rfl, hB'⟩
  replace hS := hS.on hB'
  clear hB'
  go_wp2_with fail
  refine hK.out _ _ hS (fun hHeld => ?_)
  clear hK K
  (try simp only [Act.put, List.setIfInBounds_toArray, List.set_cons_zero, List.set_cons_succ])
  refine wpAnyH_ready (rs := [5]) (by kernel_rfl) (by simp) ?_
  refine AllReadyH.cons (o := { dst := some 24, op := Op.call { callee := Callee.value (Operand.func 25), args := #[Operand.tmp 23], argTypes := #[23] }, type := 9, pos := _, after := #[{ on := 4, ground := Ground.data }, { on := 2, ground := Ground.chain }], guard := none }) rfl (fun K hK => ?_) AllReadyH.nil
  go_simp
  refine (pB _).out.mono ?_
  rintro e y2 ⟨rfl, hB'⟩
  replace hS := hS.on hB'
  clear hB'
  go_wp2_with fail
  refine hK.out _ _ hS (fun hHeld => ?_)
  clear hK K
  (try simp only [Act.put, List.setIfInBounds_toArray, List.set_cons_zero, List.set_cons_succ])
  refine wpAnyH_ready (rs := [6]) (by kernel_rfl) (by simp) ?_
  refine AllReadyH.cons (o := { dst := some 25, op := Op.call { callee := Callee.value (Operand.func 16), args := #[Operand.tmp 21, Operand.tmp 24], argTypes := #[9, 9] }, type := 34, pos := _, after := #[{ on := 2, ground := Ground.data }, { on := 5, ground := Ground.data }, { on := 5, ground := Ground.chain }], guard := none }) rfl (fun K hK => ?_) AllReadyH.nil
  go_simp
  refine (pC _).out.mono ?_
  rintro e y3 ⟨rfl, hB'⟩
  replace hS := hS.on hB'
  clear hB'
  go_wp2_with fail
  refine hK.out _ _ hS (fun hHeld => ?_)
  clear hK K
  (try simp only [Act.put, List.setIfInBounds_toArray, List.set_cons_zero, List.set_cons_succ])
  refine wpAnyH_take (i := 7) (oi := { dst := some 18, op := Op.move (Operand.tmp 25), type := 34, pos := _, after := #[{ on := 6, ground := Ground.data }], guard := none }) (v := ?_) rfl (by kernel_rfl) (by kernel_rfl) (by kernel_rfl) (fun _ _ _ h => h) (Or.inl ⟨by rfl, ?hy⟩) hHeld ?_
  case hy => intro w0 hSw; (try dsimp only at hSw); go_simp; (try with_reducible rfl)
  (try simp only [Act.put, List.setIfInBounds_toArray, List.set_cons_zero, List.set_cons_succ])
  refine wpAnyH_take (i := 8) (oi := { dst := some 26, op := Op.extract (Operand.tmp 18) 0, type := 9, pos := _, after := #[{ on := 7, ground := Ground.data }], guard := none }) (v := ?_) rfl (by kernel_rfl) (by kernel_rfl) (by kernel_rfl) (fun _ _ _ h => h) (Or.inl ⟨by rfl, ?hy⟩) hHeld ?_
  case hy => intro w0 hSw; (try dsimp only at hSw); go_simp; (try with_reducible rfl)
  (try simp only [Act.put, List.setIfInBounds_toArray, List.set_cons_zero, List.set_cons_succ])
  refine wpAnyH_take (i := 9) (oi := { dst := some 27, op := Op.extract (Operand.tmp 18) 1, type := 3, pos := _, after := #[{ on := 7, ground := Ground.data }, { on := 11, ground := Ground.gcOnly Departure.lateStores }], guard := none }) (v := ?_) rfl (by kernel_rfl) (by kernel_rfl) (by kernel_rfl) (fun _ _ _ h => h) (Or.inl ⟨by rfl, ?hy⟩) hHeld ?_
  case hy => intro w0 hSw; (try dsimp only at hSw); go_simp; (try with_reducible rfl)
  (try simp only [Act.put, List.setIfInBounds_toArray, List.set_cons_zero, List.set_cons_succ])
  refine wpAnyH_take (i := 10) (oi := { dst := some 28, op := Op.extract (Operand.tmp 18) 2, type := 3, pos := _, after := #[{ on := 7, ground := Ground.data }, { on := 12, ground := Ground.gcOnly Departure.lateStores }], guard := none }) (v := ?_) rfl (by kernel_rfl) (by kernel_rfl) (by kernel_rfl) (fun _ _ _ h => h) (Or.inl ⟨by rfl, ?hy⟩) hHeld ?_
  case hy => intro w0 hSw; (try dsimp only at hSw); go_simp; (try with_reducible rfl)
  (try simp only [Act.put, List.setIfInBounds_toArray, List.set_cons_zero, List.set_cons_succ])
  refine wpAnyH_take (i := 11) (oi := { dst := some 9, op := Op.assign (Operand.tmp 26), type := 9, pos := _, after := #[{ on := 8, ground := Ground.data }, { on := 6, ground := Ground.chain }, { on := 0, ground := Ground.phase }, { on := 1, ground := Ground.phase }, { on := 2, ground := Ground.phase }, { on := 3, ground := Ground.phase }, { on := 4, ground := Ground.phase }, { on := 5, ground := Ground.phase }, { on := 6, ground := Ground.phase }, { on := 7, ground := Ground.phase }, { on := 8, ground := Ground.phase }, { on := 9, ground := Ground.textOnly Departure.lateStores }, { on := 10, ground := Ground.textOnly Departure.lateStores }], guard := none }) (v := ?_) rfl (by kernel_rfl) (by kernel_rfl) (by kernel_rfl) (fun _ _ _ h => h) (Or.inl ⟨by rfl, ?hy⟩) hHeld ?_
  case hy => intro w0 hSw; (try dsimp only at hSw); go_simp; (try with_reducible rfl)
  (try simp only [Act.put, List.setIfInBounds_toArray, List.set_cons_zero, List.set_cons_succ])
  refine wpAnyH_take (i := 12) (oi := { dst := some 10, op := Op.assign (Operand.tmp 27), type := 3, pos := _, after := #[{ on := 9, ground := Ground.data }, { on := 11, ground := Ground.chain }, { on := 0, ground := Ground.phase }, { on := 1, ground := Ground.phase }, { on := 2, ground := Ground.phase }, { on := 3, ground := Ground.phase }, { on := 4, ground := Ground.phase }, { on := 5, ground := Ground.phase }, { on := 6, ground := Ground.phase }, { on := 7, ground := Ground.phase }, { on := 8, ground := Ground.phase }, { on := 9, ground := Ground.phase }, { on := 10, ground := Ground.textOnly Departure.lateStores }, { on := 11, ground := Ground.phase }], guard := none }) (v := ?_) rfl (by kernel_rfl) (by kernel_rfl) (by kernel_rfl) (fun _ _ _ h => h) (Or.inl ⟨by rfl, ?hy⟩) hHeld ?_
  case hy => intro w0 hSw; (try dsimp only at hSw); go_simp; (try with_reducible rfl)
  (try simp only [Act.put, List.setIfInBounds_toArray, List.set_cons_zero, List.set_cons_succ])
  refine wpAnyH_take (i := 13) (oi := { dst := some 11, op := Op.assign (Operand.tmp 28), type := 3, pos := _, after := #[{ on := 10, ground := Ground.data }, { on := 12, ground := Ground.chain }, { on := 0, ground := Ground.phase }, { on := 1, ground := Ground.phase }, { on := 2, ground := Ground.phase }, { on := 3, ground := Ground.phase }, { on := 4, ground := Ground.phase }, { on := 5, ground := Ground.phase }, { on := 6, ground := Ground.phase }, { on := 7, ground := Ground.phase }, { on := 8, ground := Ground.phase }, { on := 9, ground := Ground.phase }, { on := 10, ground := Ground.phase }, { on := 11, ground := Ground.phase }, { on := 12, ground := Ground.phase }], guard := none }) (v := ?_) rfl (by kernel_rfl) (by kernel_rfl) (by kernel_rfl) (fun _ _ _ h => h) (Or.inl ⟨by rfl, ?hy⟩) hHeld ?_
  case hy => intro w0 hSw; (try dsimp only at hSw); go_simp; (try with_reducible rfl)
  (try simp only [Act.put, List.setIfInBounds_toArray, List.set_cons_zero, List.set_cons_succ])
  refine wpAnyH_done (by kernel_rfl) ?_ _
  clear hHeld pA pB pC
  have S2 := Lib.hid hS
  clear hS
  go_wp2_with fail
  refine (pN _).out.mono ?_
  rintro e w3 ⟨rfl, hB⟩
  have S3 := Lib.hid (S2.out.on hB)
  clear hB S2
  clear pN
  have c0 := S3.out.cell 1 rfl 0 rfl
  go_wp2_with (first
    | (refine wpList_store_st rfl 23 _ _ rfl S3.out _ #[.int .i64 sm, .string ⟨#[]⟩, .string b] _ rfl rfl (by rfl) rfl (fil_one15 _ _ _) ?_; intro k9 w4 hp hS hBn; (try rw [← hp]); have S4 := Lib.hid hS; have Hpk9 := Lib.hid hp; have Hk9 : Hid (w.heap.size ≤ k9) := Lib.hid (by rw [hp]; exact S3.out.below.size); have Hn9 : Hid (∀ u ∈ ([(k0, #[.int .i64 0, .string ⟨#[]⟩, .string ⟨#[]⟩, .int .i64 0, .string ⟨#[]⟩, .string ⟨#[]⟩]), (p0, #[.int .i64 sm, .string sk, .string sl, .int .i64 sn, .string sx, .string sy])] : List (Nat × Array Value)), u.1 ≠ k9) := Lib.hid (by intro u hu e9; have l9 := lt15 (S3.out.live u hu); omega); have c9 := S4.out.cell 2 rfl 0 rfl; clear hS hp hBn)
    | (refine wpList_loadg_st (by rfl) 23 _ rfl S4.out 0 _ _ rfl rfl _ Try.underlying23 rfl (by rfl) ?_)
    | (refine wpList_storem_st rfl 23 _ _ rfl (S4.out.sub (L' := [(p0, #[.int .i64 sm, .string sk, .string sl, .int .i64 sn, .string sx, .string sy]), (k0, #[.int .i64 0, .string ⟨#[]⟩, .string ⟨#[]⟩, .int .i64 0, .string ⟨#[]⟩, .string ⟨#[]⟩])]) (by simp)) Hp.out (by intro u hu; rcases List.mem_singleton.1 hu with rfl; exact Hne.out.symm) 0 (.int .i64 sm) (.string ⟨#[]⟩) (.string b) #[.int .i64 sm, .string ⟨#[]⟩, .string b, .int .i64 sn, .string sx, .string sy] rfl (show 0 + 3 ≤ 6 by decide) rfl rfl (by rfl) (fil_one15 _ _ _) ?_; intro w5 hS; have S5 := Lib.hid hS; clear hS)
    | (refine wpList_loadg_st (by rfl) 25 _ rfl S5.out 0 _ _ rfl rfl _ Try.underlying25 rfl (by rfl) ?_)
    | (refine wpList_storew_st rfl 25 _ _ rfl (S5.out.sub (L' := [(k0, #[.int .i64 0, .string ⟨#[]⟩, .string ⟨#[]⟩, .int .i64 0, .string ⟨#[]⟩, .string ⟨#[]⟩]), (p0, #[.int .i64 sm, .string ⟨#[]⟩, .string b, .int .i64 sn, .string sx, .string sy])]) (by simp)) Hk.out (by intro u hu; rcases List.mem_singleton.1 hu with rfl; exact Hne.out) #[.int .i64 sm, .string ⟨#[]⟩, .string b, .int .i64 sn, .string sx, .string sy] rfl rfl (by rfl) rfl (sl_one15 _ _ _ _ _ _) ?_; intro w6 hS; have S6 := Lib.hid hS; clear hS))
  (try simp only [Exit.inBlock, Exit.then]); refine bodyPost_ret (ret_slots3 rfl rfl S6.out rfl) rfl ?_
  exact ⟨rfl, S6.out.below⟩

set_option maxHeartbeats 4000000 in
theorem slSave_allB (sm sn : Int) (sk sl sx sy : ByteArray) (t : ByteArray) (d : Int) (ra rb c : ByteArray) (n i : Int) (jt : ((1000 : Int) < (t.size : Int)) = False) (jn : ((1000000000 : Int) ≤ n) = False) (n1 : Int) (jw : wrap64 (n + 1) = n1) (b : ByteArray) (jb : (sm < (b.size : Int)) = False) (jd : (d == 0) = false) (jd1 : (d != 1) = true) (ji : (i == 0) = true) (w : World)
    (pI : ∀ (W : World), Hid (Calls Try.prog 24 #[.agg #[.int .i64 sm, .string sk, .string sl, .int .i64 sn, .string sx, .string sy]] W fun e w' => e = .returned (.bool true) ∧ Below W.heap.size W w'))
    (pA : ∀ (W : World), Hid (Calls Try.prog 25 #[.agg #[.int .i64 sm, .string sk, .string sl]] W fun e w' => e = .returned (.string ra) ∧ Below W.heap.size W w'))
    (pB : ∀ (W : World), Hid (Calls Try.prog 25 #[.agg #[.int .i64 sn, .string sx, .string sy]] W fun e w' => e = .returned (.string rb) ∧ Below W.heap.size W w'))
    (pC : ∀ (W : World), Hid (Calls Try.prog 16 #[.string ra, .string rb] W fun e w' => e = .returned (.tuple #[.string c, .int .i64 n, .int .i64 i]) ∧ Below W.heap.size W w'))
    (pN : ∀ (W : World), Hid (Calls Try.prog 31 #[.int .i64 n1, .string t] W fun e w' => e = .returned (.string b) ∧ Below W.heap.size W w')) :
    Calls Try.prog 12 #[.agg #[.int .i64 sm, .string sk, .string sl, .int .i64 sn, .string sx, .string sy], .string t, .int .i64 d] w fun e w' => e = .returned (.tuple #[.agg #[.int .i64 sm, .string sk, .string sl, .int .i64 sm, .string b, .string ⟨#[]⟩], .bool true, .int .i64 0]) ∧ Below w.heap.size w w' := by
  have S0 := Lib.hid ((St.start w).box2 #[.int .i64 sm, .string sk, .string sl, .int .i64 sn, .string sx, .string sy] #[.int .i64 0, .string ⟨#[]⟩, .string ⟨#[]⟩, .int .i64 0, .string ⟨#[]⟩, .string ⟨#[]⟩] 25 25)
  go_enter Try.func12, Try.ntmps12
  go_wp2_with (refine wpList_loadg_st (by rfl) 25 _ rfl S0.out 1 _ _ rfl rfl _ Try.underlying25 rfl (by rfl) ?_)
  refine (pI _).out.mono ?_
  rintro e w1 ⟨rfl, hB⟩
  have S1 := Lib.hid (S0.out.on hB)
  clear hB S0
  clear pI
  obtain ⟨p0, hp0⟩ : ∃ p, p = w.heap.size := ⟨_, rfl⟩
  obtain ⟨k0, hk0⟩ : ∃ p, p = w.heap.size + 1 := ⟨_, rfl⟩
  have Hk : Hid (w.heap.size ≤ k0) := Lib.hid (by omega)
  have Hp : Hid (w.heap.size ≤ p0) := Lib.hid (by omega)
  have Hne : Hid (p0 ≠ k0) := Lib.hid (by omega)
  have Hlt : Hid (p0 < k0) := Lib.hid (by omega)
  rw [← hk0, ← hp0] at S1
  (try rw [← hk0])
  (try rw [← hp0])
  clear hp0 hk0
  go_wp2_with fail
  have hS : St w w1.drew [(k0, #[.int .i64 0, .string ⟨#[]⟩, .string ⟨#[]⟩, .int .i64 0, .string ⟨#[]⟩, .string ⟨#[]⟩]), (p0, #[.int .i64 sm, .string sk, .string sl, .int .i64 sn, .string sx, .string sy])] [] := S1.out.drew
  clear S1
  refine wp_region_held_drew (S := (fun W : World => St w W [(k0, #[.int .i64 0, .string ⟨#[]⟩, .string ⟨#[]⟩, .int .i64 0, .string ⟨#[]⟩, .string ⟨#[]⟩]), (p0, #[.int .i64 sm, .string sk, .string sl, .int .i64 sn, .string sx, .string sy])] [])) (by kernel_rfl) hS (fun hHeld => ?_)
  refine wpAnyH_take (i := 0) (oi := { dst := some 19, op := Op.fieldAddr 25 (Operand.tmp 3) 0, type := 0, pos := _, after := #[], guard := none }) (v := ?_) rfl (by kernel_rfl) (by kernel_rfl) (by kernel_rfl) (fun _ _ _ h => h) (Or.inl ⟨by rfl, ?hy⟩) hHeld ?_
  case hy => intro w0 hSw; (try dsimp only at hSw); go_simp; (try with_reducible rfl)
  (try simp only [Act.put, List.setIfInBounds_toArray, List.set_cons_zero, List.set_cons_succ])
  refine wpAnyH_take (i := 1) (oi := { dst := some 20, op := Op.load 23 (Operand.tmp 19), type := 23, pos := _, after := #[{ on := 0, ground := Ground.data }], guard := none }) (v := ?_) rfl (by kernel_rfl) (by kernel_rfl) (by kernel_rfl) (fun _ _ _ h => h) (Or.inl ⟨by rfl, ?hy⟩) hHeld ?_
  case hy => intro w0 hSw; have d0 := hSw.cell 1 rfl 0 rfl; have d1 := hSw.cell 1 rfl 1 rfl; have d2 := hSw.cell 1 rfl 2 rfl; clear hSw; go_simp; (try with_reducible rfl)
  (try simp only [Act.put, List.setIfInBounds_toArray, List.set_cons_zero, List.set_cons_succ])
  refine wpAnyH_take (i := 3) (oi := { dst := some 22, op := Op.fieldAddr 25 (Operand.tmp 3) 1, type := 0, pos := _, after := #[], guard := none }) (v := ?_) rfl (by kernel_rfl) (by kernel_rfl) (by kernel_rfl) (fun _ _ _ h => h) (Or.inl ⟨by rfl, ?hy⟩) hHeld ?_
  case hy => intro w0 hSw; (try dsimp only at hSw); go_simp; (try with_reducible rfl)
  (try simp only [Act.put, List.setIfInBounds_toArray, List.set_cons_zero, List.set_cons_succ])
  refine wpAnyH_take (i := 4) (oi := { dst := some 23, op := Op.load 23 (Operand.tmp 22), type := 23, pos := _, after := #[{ on := 3, ground := Ground.data }], guard := none }) (v := ?_) rfl (by kernel_rfl) (by kernel_rfl) (by kernel_rfl) (fun _ _ _ h => h) (Or.inl ⟨by rfl, ?hy⟩) hHeld ?_
  case hy => intro w0 hSw; have d0 := hSw.cell 1 rfl 3 rfl; have d1 := hSw.cell 1 rfl 4 rfl; have d2 := hSw.cell 1 rfl 5 rfl; clear hSw; go_simp; (try with_reducible rfl)
  (try simp only [Act.put, List.setIfInBounds_toArray, List.set_cons_zero, List.set_cons_succ])
  refine wpAnyH_ready (rs := [2]) (by kernel_rfl) (by simp) ?_
  refine AllReadyH.cons (o := { dst := some 21, op := Op.call { callee := Callee.value (Operand.func 25), args := #[Operand.tmp 20], argTypes := #[23] }, type := 9, pos := _, after := #[{ on := 1, ground := Ground.data }], guard := none }) rfl (fun K hK => ?_) AllReadyH.nil
  go_simp
  refine (pA _).out.mono ?_
  rintro e y1 ⟨rfl, hB'⟩
  replace hS := hS.on hB'
  clear hB'
  go_wp2_with fail
  refine hK.out _ _ hS (fun hHeld => ?_)
  clear hK K
  (try simp only [Act.put, List.setIfInBounds_toArray, List.set_cons_zero, List.set_cons_succ])
  refine wpAnyH_ready (rs := [5]) (by kernel_rfl) (by simp) ?_
  refine AllReadyH.cons (o := { dst := some 24, op := Op.call { callee := Callee.value (Operand.func 25), args := #[Operand.tmp 23], argTypes := #[23] }, type := 9, pos := _, after := #[{ on := 4, ground := Ground.data }, { on := 2, ground := Ground.chain }], guard := none }) rfl (fun K hK => ?_) AllReadyH.nil
  go_simp
  refine (pB _).out.mono ?_
  rintro e y2 ⟨rfl, hB'⟩
  replace hS := hS.on hB'
  clear hB'
  go_wp2_with fail
  refine hK.out _ _ hS (fun hHeld => ?_)
  clear hK K
  (try simp only [Act.put, List.setIfInBounds_toArray, List.set_cons_zero, List.set_cons_succ])
  refine wpAnyH_ready (rs := [6]) (by kernel_rfl) (by simp) ?_
  refine AllReadyH.cons (o := { dst := some 25, op := Op.call { callee := Callee.value (Operand.func 16), args := #[Operand.tmp 21, Operand.tmp 24], argTypes := #[9, 9] }, type := 34, pos := _, after := #[{ on := 2, ground := Ground.data }, { on := 5, ground := Ground.data }, { on := 5, ground := Ground.chain }], guard := none }) rfl (fun K hK => ?_) AllReadyH.nil
  go_simp
  refine (pC _).out.mono ?_
  rintro e y3 ⟨rfl, hB'⟩
  replace hS := hS.on hB'
  clear hB'
  go_wp2_with fail
  refine hK.out _ _ hS (fun hHeld => ?_)
  clear hK K
  (try simp only [Act.put, List.setIfInBounds_toArray, List.set_cons_zero, List.set_cons_succ])
  refine wpAnyH_take (i := 7) (oi := { dst := some 18, op := Op.move (Operand.tmp 25), type := 34, pos := _, after := #[{ on := 6, ground := Ground.data }], guard := none }) (v := ?_) rfl (by kernel_rfl) (by kernel_rfl) (by kernel_rfl) (fun _ _ _ h => h) (Or.inl ⟨by rfl, ?hy⟩) hHeld ?_
  case hy => intro w0 hSw; (try dsimp only at hSw); go_simp; (try with_reducible rfl)
  (try simp only [Act.put, List.setIfInBounds_toArray, List.set_cons_zero, List.set_cons_succ])
  refine wpAnyH_take (i := 8) (oi := { dst := some 26, op := Op.extract (Operand.tmp 18) 0, type := 9, pos := _, after := #[{ on := 7, ground := Ground.data }], guard := none }) (v := ?_) rfl (by kernel_rfl) (by kernel_rfl) (by kernel_rfl) (fun _ _ _ h => h) (Or.inl ⟨by rfl, ?hy⟩) hHeld ?_
  case hy => intro w0 hSw; (try dsimp only at hSw); go_simp; (try with_reducible rfl)
  (try simp only [Act.put, List.setIfInBounds_toArray, List.set_cons_zero, List.set_cons_succ])
  refine wpAnyH_take (i := 9) (oi := { dst := some 27, op := Op.extract (Operand.tmp 18) 1, type := 3, pos := _, after := #[{ on := 7, ground := Ground.data }, { on := 11, ground := Ground.gcOnly Departure.lateStores }], guard := none }) (v := ?_) rfl (by kernel_rfl) (by kernel_rfl) (by kernel_rfl) (fun _ _ _ h => h) (Or.inl ⟨by rfl, ?hy⟩) hHeld ?_
  case hy => intro w0 hSw; (try dsimp only at hSw); go_simp; (try with_reducible rfl)
  (try simp only [Act.put, List.setIfInBounds_toArray, List.set_cons_zero, List.set_cons_succ])
  refine wpAnyH_take (i := 10) (oi := { dst := some 28, op := Op.extract (Operand.tmp 18) 2, type := 3, pos := _, after := #[{ on := 7, ground := Ground.data }, { on := 12, ground := Ground.gcOnly Departure.lateStores }], guard := none }) (v := ?_) rfl (by kernel_rfl) (by kernel_rfl) (by kernel_rfl) (fun _ _ _ h => h) (Or.inl ⟨by rfl, ?hy⟩) hHeld ?_
  case hy => intro w0 hSw; (try dsimp only at hSw); go_simp; (try with_reducible rfl)
  (try simp only [Act.put, List.setIfInBounds_toArray, List.set_cons_zero, List.set_cons_succ])
  refine wpAnyH_take (i := 11) (oi := { dst := some 9, op := Op.assign (Operand.tmp 26), type := 9, pos := _, after := #[{ on := 8, ground := Ground.data }, { on := 6, ground := Ground.chain }, { on := 0, ground := Ground.phase }, { on := 1, ground := Ground.phase }, { on := 2, ground := Ground.phase }, { on := 3, ground := Ground.phase }, { on := 4, ground := Ground.phase }, { on := 5, ground := Ground.phase }, { on := 6, ground := Ground.phase }, { on := 7, ground := Ground.phase }, { on := 8, ground := Ground.phase }, { on := 9, ground := Ground.textOnly Departure.lateStores }, { on := 10, ground := Ground.textOnly Departure.lateStores }], guard := none }) (v := ?_) rfl (by kernel_rfl) (by kernel_rfl) (by kernel_rfl) (fun _ _ _ h => h) (Or.inl ⟨by rfl, ?hy⟩) hHeld ?_
  case hy => intro w0 hSw; (try dsimp only at hSw); go_simp; (try with_reducible rfl)
  (try simp only [Act.put, List.setIfInBounds_toArray, List.set_cons_zero, List.set_cons_succ])
  refine wpAnyH_take (i := 12) (oi := { dst := some 10, op := Op.assign (Operand.tmp 27), type := 3, pos := _, after := #[{ on := 9, ground := Ground.data }, { on := 11, ground := Ground.chain }, { on := 0, ground := Ground.phase }, { on := 1, ground := Ground.phase }, { on := 2, ground := Ground.phase }, { on := 3, ground := Ground.phase }, { on := 4, ground := Ground.phase }, { on := 5, ground := Ground.phase }, { on := 6, ground := Ground.phase }, { on := 7, ground := Ground.phase }, { on := 8, ground := Ground.phase }, { on := 9, ground := Ground.phase }, { on := 10, ground := Ground.textOnly Departure.lateStores }, { on := 11, ground := Ground.phase }], guard := none }) (v := ?_) rfl (by kernel_rfl) (by kernel_rfl) (by kernel_rfl) (fun _ _ _ h => h) (Or.inl ⟨by rfl, ?hy⟩) hHeld ?_
  case hy => intro w0 hSw; (try dsimp only at hSw); go_simp; (try with_reducible rfl)
  (try simp only [Act.put, List.setIfInBounds_toArray, List.set_cons_zero, List.set_cons_succ])
  refine wpAnyH_take (i := 13) (oi := { dst := some 11, op := Op.assign (Operand.tmp 28), type := 3, pos := _, after := #[{ on := 10, ground := Ground.data }, { on := 12, ground := Ground.chain }, { on := 0, ground := Ground.phase }, { on := 1, ground := Ground.phase }, { on := 2, ground := Ground.phase }, { on := 3, ground := Ground.phase }, { on := 4, ground := Ground.phase }, { on := 5, ground := Ground.phase }, { on := 6, ground := Ground.phase }, { on := 7, ground := Ground.phase }, { on := 8, ground := Ground.phase }, { on := 9, ground := Ground.phase }, { on := 10, ground := Ground.phase }, { on := 11, ground := Ground.phase }, { on := 12, ground := Ground.phase }], guard := none }) (v := ?_) rfl (by kernel_rfl) (by kernel_rfl) (by kernel_rfl) (fun _ _ _ h => h) (Or.inl ⟨by rfl, ?hy⟩) hHeld ?_
  case hy => intro w0 hSw; (try dsimp only at hSw); go_simp; (try with_reducible rfl)
  (try simp only [Act.put, List.setIfInBounds_toArray, List.set_cons_zero, List.set_cons_succ])
  refine wpAnyH_done (by kernel_rfl) ?_ _
  clear hHeld pA pB pC
  have S2 := Lib.hid hS
  clear hS
  go_wp2_with fail
  refine (pN _).out.mono ?_
  rintro e w3 ⟨rfl, hB⟩
  have S3 := Lib.hid (S2.out.on hB)
  clear hB S2
  clear pN
  have c0 := S3.out.cell 1 rfl 0 rfl
  go_wp2_with (first
    | (refine wpList_store_st rfl 23 _ _ rfl S3.out _ #[.int .i64 sm, .string ⟨#[]⟩, .string b] _ rfl rfl (by rfl) rfl (fil_one15 _ _ _) ?_; intro k9 w4 hp hS hBn; (try rw [← hp]); have S4 := Lib.hid hS; have Hpk9 := Lib.hid hp; have Hk9 : Hid (w.heap.size ≤ k9) := Lib.hid (by rw [hp]; exact S3.out.below.size); have Hn9 : Hid (∀ u ∈ ([(k0, #[.int .i64 0, .string ⟨#[]⟩, .string ⟨#[]⟩, .int .i64 0, .string ⟨#[]⟩, .string ⟨#[]⟩]), (p0, #[.int .i64 sm, .string sk, .string sl, .int .i64 sn, .string sx, .string sy])] : List (Nat × Array Value)), u.1 ≠ k9) := Lib.hid (by intro u hu e9; have l9 := lt15 (S3.out.live u hu); omega); have c9 := S4.out.cell 2 rfl 0 rfl; clear hS hp hBn)
    | (refine wpList_storew_st rfl 23 _ _ rfl S4.out Hk9.out (Hn9.out) #[.int .i64 sm, .string b, .string ⟨#[]⟩] rfl rfl (by rfl) rfl (fil_one15 _ _ _) ?_; intro w5 hS; have S5 := Lib.hid hS; clear hS)
    | (refine wpList_loadg_st (by rfl) 23 _ rfl S5.out 0 _ _ rfl rfl _ Try.underlying23 rfl (by rfl) ?_)
    | (refine wpList_storem_st rfl 23 _ _ rfl (S5.out.sub (L' := [(p0, #[.int .i64 sm, .string sk, .string sl, .int .i64 sn, .string sx, .string sy]), (k0, #[.int .i64 0, .string ⟨#[]⟩, .string ⟨#[]⟩, .int .i64 0, .string ⟨#[]⟩, .string ⟨#[]⟩])]) (by simp)) Hp.out (by intro u hu; rcases List.mem_singleton.1 hu with rfl; exact Hne.out.symm) 3 (.int .i64 sm) (.string b) (.string ⟨#[]⟩) #[.int .i64 sm, .string sk, .string sl, .int .i64 sm, .string b, .string ⟨#[]⟩] rfl (show 3 + 3 ≤ 6 by decide) rfl rfl (by rfl) (fil_one15 _ _ _) ?_; intro w6 hS; have S6 := Lib.hid hS; clear hS)
    | (refine wpList_loadg_st (by rfl) 25 _ rfl S6.out 0 _ _ rfl rfl _ Try.underlying25 rfl (by rfl) ?_)
    | (refine wpList_storew_st rfl 25 _ _ rfl (S6.out.sub (L' := [(k0, #[.int .i64 0, .string ⟨#[]⟩, .string ⟨#[]⟩, .int .i64 0, .string ⟨#[]⟩, .string ⟨#[]⟩]), (p0, #[.int .i64 sm, .string sk, .string sl, .int .i64 sm, .string b, .string ⟨#[]⟩])]) (by simp)) Hk.out (by intro u hu; rcases List.mem_singleton.1 hu with rfl; exact Hne.out) #[.int .i64 sm, .string sk, .string sl, .int .i64 sm, .string b, .string ⟨#[]⟩] rfl rfl (by rfl) rfl (sl_one15 _ _ _ _ _ _) ?_; intro w7 hS; have S7 := Lib.hid hS; clear hS))
  (try simp only [Exit.inBlock, Exit.then]); refine bodyPost_ret (ret_slots3 rfl rfl S7.out rfl) rfl ?_
  exact ⟨rfl, S7.out.below⟩

set_option maxHeartbeats 4000000 in
theorem slSave_allA (sm sn : Int) (sk sl sx sy : ByteArray) (t : ByteArray) (d : Int) (ra rb c : ByteArray) (n i : Int) (jt : ((1000 : Int) < (t.size : Int)) = False) (jn : ((1000000000 : Int) ≤ n) = False) (n1 : Int) (jw : wrap64 (n + 1) = n1) (b : ByteArray) (jb : (sm < (b.size : Int)) = False) (jd : (d == 0) = false) (jd1 : (d != 1) = true) (ji : (i == 0) = false) (w : World)
    (pI : ∀ (W : World), Hid (Calls Try.prog 24 #[.agg #[.int .i64 sm, .string sk, .string sl, .int .i64 sn, .string sx, .string sy]] W fun e w' => e = .returned (.bool true) ∧ Below W.heap.size W w'))
    (pA : ∀ (W : World), Hid (Calls Try.prog 25 #[.agg #[.int .i64 sm, .string sk, .string sl]] W fun e w' => e = .returned (.string ra) ∧ Below W.heap.size W w'))
    (pB : ∀ (W : World), Hid (Calls Try.prog 25 #[.agg #[.int .i64 sn, .string sx, .string sy]] W fun e w' => e = .returned (.string rb) ∧ Below W.heap.size W w'))
    (pC : ∀ (W : World), Hid (Calls Try.prog 16 #[.string ra, .string rb] W fun e w' => e = .returned (.tuple #[.string c, .int .i64 n, .int .i64 i]) ∧ Below W.heap.size W w'))
    (pN : ∀ (W : World), Hid (Calls Try.prog 31 #[.int .i64 n1, .string t] W fun e w' => e = .returned (.string b) ∧ Below W.heap.size W w')) :
    Calls Try.prog 12 #[.agg #[.int .i64 sm, .string sk, .string sl, .int .i64 sn, .string sx, .string sy], .string t, .int .i64 d] w fun e w' => e = .returned (.tuple #[.agg #[.int .i64 sm, .string b, .string ⟨#[]⟩, .int .i64 sn, .string sx, .string sy], .bool true, .int .i64 0]) ∧ Below w.heap.size w w' := by
  have S0 := Lib.hid ((St.start w).box2 #[.int .i64 sm, .string sk, .string sl, .int .i64 sn, .string sx, .string sy] #[.int .i64 0, .string ⟨#[]⟩, .string ⟨#[]⟩, .int .i64 0, .string ⟨#[]⟩, .string ⟨#[]⟩] 25 25)
  go_enter Try.func12, Try.ntmps12
  go_wp2_with (refine wpList_loadg_st (by rfl) 25 _ rfl S0.out 1 _ _ rfl rfl _ Try.underlying25 rfl (by rfl) ?_)
  refine (pI _).out.mono ?_
  rintro e w1 ⟨rfl, hB⟩
  have S1 := Lib.hid (S0.out.on hB)
  clear hB S0
  clear pI
  obtain ⟨p0, hp0⟩ : ∃ p, p = w.heap.size := ⟨_, rfl⟩
  obtain ⟨k0, hk0⟩ : ∃ p, p = w.heap.size + 1 := ⟨_, rfl⟩
  have Hk : Hid (w.heap.size ≤ k0) := Lib.hid (by omega)
  have Hp : Hid (w.heap.size ≤ p0) := Lib.hid (by omega)
  have Hne : Hid (p0 ≠ k0) := Lib.hid (by omega)
  have Hlt : Hid (p0 < k0) := Lib.hid (by omega)
  rw [← hk0, ← hp0] at S1
  (try rw [← hk0])
  (try rw [← hp0])
  clear hp0 hk0
  go_wp2_with fail
  have hS : St w w1.drew [(k0, #[.int .i64 0, .string ⟨#[]⟩, .string ⟨#[]⟩, .int .i64 0, .string ⟨#[]⟩, .string ⟨#[]⟩]), (p0, #[.int .i64 sm, .string sk, .string sl, .int .i64 sn, .string sx, .string sy])] [] := S1.out.drew
  clear S1
  refine wp_region_held_drew (S := (fun W : World => St w W [(k0, #[.int .i64 0, .string ⟨#[]⟩, .string ⟨#[]⟩, .int .i64 0, .string ⟨#[]⟩, .string ⟨#[]⟩]), (p0, #[.int .i64 sm, .string sk, .string sl, .int .i64 sn, .string sx, .string sy])] [])) (by kernel_rfl) hS (fun hHeld => ?_)
  refine wpAnyH_take (i := 0) (oi := { dst := some 19, op := Op.fieldAddr 25 (Operand.tmp 3) 0, type := 0, pos := _, after := #[], guard := none }) (v := ?_) rfl (by kernel_rfl) (by kernel_rfl) (by kernel_rfl) (fun _ _ _ h => h) (Or.inl ⟨by rfl, ?hy⟩) hHeld ?_
  case hy => intro w0 hSw; (try dsimp only at hSw); go_simp; (try with_reducible rfl)
  (try simp only [Act.put, List.setIfInBounds_toArray, List.set_cons_zero, List.set_cons_succ])
  refine wpAnyH_take (i := 1) (oi := { dst := some 20, op := Op.load 23 (Operand.tmp 19), type := 23, pos := _, after := #[{ on := 0, ground := Ground.data }], guard := none }) (v := ?_) rfl (by kernel_rfl) (by kernel_rfl) (by kernel_rfl) (fun _ _ _ h => h) (Or.inl ⟨by rfl, ?hy⟩) hHeld ?_
  case hy => intro w0 hSw; have d0 := hSw.cell 1 rfl 0 rfl; have d1 := hSw.cell 1 rfl 1 rfl; have d2 := hSw.cell 1 rfl 2 rfl; clear hSw; go_simp; (try with_reducible rfl)
  (try simp only [Act.put, List.setIfInBounds_toArray, List.set_cons_zero, List.set_cons_succ])
  refine wpAnyH_take (i := 3) (oi := { dst := some 22, op := Op.fieldAddr 25 (Operand.tmp 3) 1, type := 0, pos := _, after := #[], guard := none }) (v := ?_) rfl (by kernel_rfl) (by kernel_rfl) (by kernel_rfl) (fun _ _ _ h => h) (Or.inl ⟨by rfl, ?hy⟩) hHeld ?_
  case hy => intro w0 hSw; (try dsimp only at hSw); go_simp; (try with_reducible rfl)
  (try simp only [Act.put, List.setIfInBounds_toArray, List.set_cons_zero, List.set_cons_succ])
  refine wpAnyH_take (i := 4) (oi := { dst := some 23, op := Op.load 23 (Operand.tmp 22), type := 23, pos := _, after := #[{ on := 3, ground := Ground.data }], guard := none }) (v := ?_) rfl (by kernel_rfl) (by kernel_rfl) (by kernel_rfl) (fun _ _ _ h => h) (Or.inl ⟨by rfl, ?hy⟩) hHeld ?_
  case hy => intro w0 hSw; have d0 := hSw.cell 1 rfl 3 rfl; have d1 := hSw.cell 1 rfl 4 rfl; have d2 := hSw.cell 1 rfl 5 rfl; clear hSw; go_simp; (try with_reducible rfl)
  (try simp only [Act.put, List.setIfInBounds_toArray, List.set_cons_zero, List.set_cons_succ])
  refine wpAnyH_ready (rs := [2]) (by kernel_rfl) (by simp) ?_
  refine AllReadyH.cons (o := { dst := some 21, op := Op.call { callee := Callee.value (Operand.func 25), args := #[Operand.tmp 20], argTypes := #[23] }, type := 9, pos := _, after := #[{ on := 1, ground := Ground.data }], guard := none }) rfl (fun K hK => ?_) AllReadyH.nil
  go_simp
  refine (pA _).out.mono ?_
  rintro e y1 ⟨rfl, hB'⟩
  replace hS := hS.on hB'
  clear hB'
  go_wp2_with fail
  refine hK.out _ _ hS (fun hHeld => ?_)
  clear hK K
  (try simp only [Act.put, List.setIfInBounds_toArray, List.set_cons_zero, List.set_cons_succ])
  refine wpAnyH_ready (rs := [5]) (by kernel_rfl) (by simp) ?_
  refine AllReadyH.cons (o := { dst := some 24, op := Op.call { callee := Callee.value (Operand.func 25), args := #[Operand.tmp 23], argTypes := #[23] }, type := 9, pos := _, after := #[{ on := 4, ground := Ground.data }, { on := 2, ground := Ground.chain }], guard := none }) rfl (fun K hK => ?_) AllReadyH.nil
  go_simp
  refine (pB _).out.mono ?_
  rintro e y2 ⟨rfl, hB'⟩
  replace hS := hS.on hB'
  clear hB'
  go_wp2_with fail
  refine hK.out _ _ hS (fun hHeld => ?_)
  clear hK K
  (try simp only [Act.put, List.setIfInBounds_toArray, List.set_cons_zero, List.set_cons_succ])
  refine wpAnyH_ready (rs := [6]) (by kernel_rfl) (by simp) ?_
  refine AllReadyH.cons (o := { dst := some 25, op := Op.call { callee := Callee.value (Operand.func 16), args := #[Operand.tmp 21, Operand.tmp 24], argTypes := #[9, 9] }, type := 34, pos := _, after := #[{ on := 2, ground := Ground.data }, { on := 5, ground := Ground.data }, { on := 5, ground := Ground.chain }], guard := none }) rfl (fun K hK => ?_) AllReadyH.nil
  go_simp
  refine (pC _).out.mono ?_
  rintro e y3 ⟨rfl, hB'⟩
  replace hS := hS.on hB'
  clear hB'
  go_wp2_with fail
  refine hK.out _ _ hS (fun hHeld => ?_)
  clear hK K
  (try simp only [Act.put, List.setIfInBounds_toArray, List.set_cons_zero, List.set_cons_succ])
  refine wpAnyH_take (i := 7) (oi := { dst := some 18, op := Op.move (Operand.tmp 25), type := 34, pos := _, after := #[{ on := 6, ground := Ground.data }], guard := none }) (v := ?_) rfl (by kernel_rfl) (by kernel_rfl) (by kernel_rfl) (fun _ _ _ h => h) (Or.inl ⟨by rfl, ?hy⟩) hHeld ?_
  case hy => intro w0 hSw; (try dsimp only at hSw); go_simp; (try with_reducible rfl)
  (try simp only [Act.put, List.setIfInBounds_toArray, List.set_cons_zero, List.set_cons_succ])
  refine wpAnyH_take (i := 8) (oi := { dst := some 26, op := Op.extract (Operand.tmp 18) 0, type := 9, pos := _, after := #[{ on := 7, ground := Ground.data }], guard := none }) (v := ?_) rfl (by kernel_rfl) (by kernel_rfl) (by kernel_rfl) (fun _ _ _ h => h) (Or.inl ⟨by rfl, ?hy⟩) hHeld ?_
  case hy => intro w0 hSw; (try dsimp only at hSw); go_simp; (try with_reducible rfl)
  (try simp only [Act.put, List.setIfInBounds_toArray, List.set_cons_zero, List.set_cons_succ])
  refine wpAnyH_take (i := 9) (oi := { dst := some 27, op := Op.extract (Operand.tmp 18) 1, type := 3, pos := _, after := #[{ on := 7, ground := Ground.data }, { on := 11, ground := Ground.gcOnly Departure.lateStores }], guard := none }) (v := ?_) rfl (by kernel_rfl) (by kernel_rfl) (by kernel_rfl) (fun _ _ _ h => h) (Or.inl ⟨by rfl, ?hy⟩) hHeld ?_
  case hy => intro w0 hSw; (try dsimp only at hSw); go_simp; (try with_reducible rfl)
  (try simp only [Act.put, List.setIfInBounds_toArray, List.set_cons_zero, List.set_cons_succ])
  refine wpAnyH_take (i := 10) (oi := { dst := some 28, op := Op.extract (Operand.tmp 18) 2, type := 3, pos := _, after := #[{ on := 7, ground := Ground.data }, { on := 12, ground := Ground.gcOnly Departure.lateStores }], guard := none }) (v := ?_) rfl (by kernel_rfl) (by kernel_rfl) (by kernel_rfl) (fun _ _ _ h => h) (Or.inl ⟨by rfl, ?hy⟩) hHeld ?_
  case hy => intro w0 hSw; (try dsimp only at hSw); go_simp; (try with_reducible rfl)
  (try simp only [Act.put, List.setIfInBounds_toArray, List.set_cons_zero, List.set_cons_succ])
  refine wpAnyH_take (i := 11) (oi := { dst := some 9, op := Op.assign (Operand.tmp 26), type := 9, pos := _, after := #[{ on := 8, ground := Ground.data }, { on := 6, ground := Ground.chain }, { on := 0, ground := Ground.phase }, { on := 1, ground := Ground.phase }, { on := 2, ground := Ground.phase }, { on := 3, ground := Ground.phase }, { on := 4, ground := Ground.phase }, { on := 5, ground := Ground.phase }, { on := 6, ground := Ground.phase }, { on := 7, ground := Ground.phase }, { on := 8, ground := Ground.phase }, { on := 9, ground := Ground.textOnly Departure.lateStores }, { on := 10, ground := Ground.textOnly Departure.lateStores }], guard := none }) (v := ?_) rfl (by kernel_rfl) (by kernel_rfl) (by kernel_rfl) (fun _ _ _ h => h) (Or.inl ⟨by rfl, ?hy⟩) hHeld ?_
  case hy => intro w0 hSw; (try dsimp only at hSw); go_simp; (try with_reducible rfl)
  (try simp only [Act.put, List.setIfInBounds_toArray, List.set_cons_zero, List.set_cons_succ])
  refine wpAnyH_take (i := 12) (oi := { dst := some 10, op := Op.assign (Operand.tmp 27), type := 3, pos := _, after := #[{ on := 9, ground := Ground.data }, { on := 11, ground := Ground.chain }, { on := 0, ground := Ground.phase }, { on := 1, ground := Ground.phase }, { on := 2, ground := Ground.phase }, { on := 3, ground := Ground.phase }, { on := 4, ground := Ground.phase }, { on := 5, ground := Ground.phase }, { on := 6, ground := Ground.phase }, { on := 7, ground := Ground.phase }, { on := 8, ground := Ground.phase }, { on := 9, ground := Ground.phase }, { on := 10, ground := Ground.textOnly Departure.lateStores }, { on := 11, ground := Ground.phase }], guard := none }) (v := ?_) rfl (by kernel_rfl) (by kernel_rfl) (by kernel_rfl) (fun _ _ _ h => h) (Or.inl ⟨by rfl, ?hy⟩) hHeld ?_
  case hy => intro w0 hSw; (try dsimp only at hSw); go_simp; (try with_reducible rfl)
  (try simp only [Act.put, List.setIfInBounds_toArray, List.set_cons_zero, List.set_cons_succ])
  refine wpAnyH_take (i := 13) (oi := { dst := some 11, op := Op.assign (Operand.tmp 28), type := 3, pos := _, after := #[{ on := 10, ground := Ground.data }, { on := 12, ground := Ground.chain }, { on := 0, ground := Ground.phase }, { on := 1, ground := Ground.phase }, { on := 2, ground := Ground.phase }, { on := 3, ground := Ground.phase }, { on := 4, ground := Ground.phase }, { on := 5, ground := Ground.phase }, { on := 6, ground := Ground.phase }, { on := 7, ground := Ground.phase }, { on := 8, ground := Ground.phase }, { on := 9, ground := Ground.phase }, { on := 10, ground := Ground.phase }, { on := 11, ground := Ground.phase }, { on := 12, ground := Ground.phase }], guard := none }) (v := ?_) rfl (by kernel_rfl) (by kernel_rfl) (by kernel_rfl) (fun _ _ _ h => h) (Or.inl ⟨by rfl, ?hy⟩) hHeld ?_
  case hy => intro w0 hSw; (try dsimp only at hSw); go_simp; (try with_reducible rfl)
  (try simp only [Act.put, List.setIfInBounds_toArray, List.set_cons_zero, List.set_cons_succ])
  refine wpAnyH_done (by kernel_rfl) ?_ _
  clear hHeld pA pB pC
  have S2 := Lib.hid hS
  clear hS
  go_wp2_with fail
  refine (pN _).out.mono ?_
  rintro e w3 ⟨rfl, hB⟩
  have S3 := Lib.hid (S2.out.on hB)
  clear hB S2
  clear pN
  have c0 := S3.out.cell 1 rfl 0 rfl
  go_wp2_with (first
    | (refine wpList_store_st rfl 23 _ _ rfl S3.out _ #[.int .i64 sm, .string ⟨#[]⟩, .string b] _ rfl rfl (by rfl) rfl (fil_one15 _ _ _) ?_; intro k9 w4 hp hS hBn; (try rw [← hp]); have S4 := Lib.hid hS; have Hpk9 := Lib.hid hp; have Hk9 : Hid (w.heap.size ≤ k9) := Lib.hid (by rw [hp]; exact S3.out.below.size); have Hn9 : Hid (∀ u ∈ ([(k0, #[.int .i64 0, .string ⟨#[]⟩, .string ⟨#[]⟩, .int .i64 0, .string ⟨#[]⟩, .string ⟨#[]⟩]), (p0, #[.int .i64 sm, .string sk, .string sl, .int .i64 sn, .string sx, .string sy])] : List (Nat × Array Value)), u.1 ≠ k9) := Lib.hid (by intro u hu e9; have l9 := lt15 (S3.out.live u hu); omega); have c9 := S4.out.cell 2 rfl 0 rfl; clear hS hp hBn)
    | (refine wpList_storew_st rfl 23 _ _ rfl S4.out Hk9.out (Hn9.out) #[.int .i64 sm, .string b, .string ⟨#[]⟩] rfl rfl (by rfl) rfl (fil_one15 _ _ _) ?_; intro w5 hS; have S5 := Lib.hid hS; clear hS)
    | (refine wpList_loadg_st (by rfl) 23 _ rfl S5.out 0 _ _ rfl rfl _ Try.underlying23 rfl (by rfl) ?_)
    | (refine wpList_storem_st rfl 23 _ _ rfl (S5.out.sub (L' := [(p0, #[.int .i64 sm, .string sk, .string sl, .int .i64 sn, .string sx, .string sy]), (k0, #[.int .i64 0, .string ⟨#[]⟩, .string ⟨#[]⟩, .int .i64 0, .string ⟨#[]⟩, .string ⟨#[]⟩])]) (by simp)) Hp.out (by intro u hu; rcases List.mem_singleton.1 hu with rfl; exact Hne.out.symm) 0 (.int .i64 sm) (.string b) (.string ⟨#[]⟩) #[.int .i64 sm, .string b, .string ⟨#[]⟩, .int .i64 sn, .string sx, .string sy] rfl (show 0 + 3 ≤ 6 by decide) rfl rfl (by rfl) (fil_one15 _ _ _) ?_; intro w6 hS; have S6 := Lib.hid hS; clear hS)
    | (refine wpList_loadg_st (by rfl) 25 _ rfl S6.out 0 _ _ rfl rfl _ Try.underlying25 rfl (by rfl) ?_)
    | (refine wpList_storew_st rfl 25 _ _ rfl (S6.out.sub (L' := [(k0, #[.int .i64 0, .string ⟨#[]⟩, .string ⟨#[]⟩, .int .i64 0, .string ⟨#[]⟩, .string ⟨#[]⟩]), (p0, #[.int .i64 sm, .string b, .string ⟨#[]⟩, .int .i64 sn, .string sx, .string sy])]) (by simp)) Hk.out (by intro u hu; rcases List.mem_singleton.1 hu with rfl; exact Hne.out) #[.int .i64 sm, .string b, .string ⟨#[]⟩, .int .i64 sn, .string sx, .string sy] rfl rfl (by rfl) rfl (sl_one15 _ _ _ _ _ _) ?_; intro w7 hS; have S7 := Lib.hid hS; clear hS))
  (try simp only [Exit.inBlock, Exit.then]); refine bodyPost_ret (ret_slots3 rfl rfl S7.out rfl) rfl ?_
  exact ⟨rfl, S7.out.below⟩
end Go.Proofs.Yteepemibmjpnfaa
