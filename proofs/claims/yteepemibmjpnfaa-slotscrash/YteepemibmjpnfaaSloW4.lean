/-
  Layer 15 (slots): the landed code: withNote, Save's refusals (printed by tools/gen-slow4.py).
-/
import Derived.Test.YteepemibmjpnfaaSloW3
import Derived.Test.YteepemibmjpnfaaFileW7
namespace Go.Proofs.Yteepemibmjpnfaa
set_option maxRecDepth 10000
open Go.RowKit

/-- How a function ends that hands a file back, and a number. -/
theorem ret_fil15 {fn : Func} {p u : Tmp} {k : Nat} {cs : Array Value} {tmps : Array Value} {w w0 : World} {L : List (Nat × Array Value)} {M : List Fact} (h : fn.results = #[.cell p 23, .tmp u]) (hp : tmps.getD p undef = .pointer (some ⟨k, 0, none⟩)) (hS : St w0 w ((k, cs) :: L) M) (hc : cs.size = 3) :
    (results fn tmps).run Try.prog w = .ok (.tuple #[.agg cs, tmps.getD u undef]) w := by
  rw [results_cell_tmp h, hp]
  obtain ⟨t, hb⟩ := hS.live (k, cs) (by simp)
  have hl := run_loadVar_row (P := Try.prog) w k t 23 cs (0, 0) _ hb Try.underlying23 rfl (by rw [hc]; rfl)
  simp [asAddr, Result.andThen, hl]

theorem Sl.noteB_le15 {n : Int} {t : List UInt8} (h : nOk n = true) (h2 : t.length ≤ 1000) : (noteB n t).length ≤ 9000 := by
  have hl := lay_le h
  have hb : (Wm.lay n ++ t).length ≤ 3000 := by rw [List.length_append]; omega
  have ha := ahead_short kind2 (t := Wm.lay n ++ t) hb
  unfold noteB Fm.frame
  rw [List.length_append]
  have := lay_short _ (Fm.fits_sum (Fm.ahead 2 (Wm.lay n ++ t)))
  omega

set_option maxHeartbeats 2000000 in
theorem snote_go (mo n nm am E : Int) (t nk nl ak al hd nt : ByteArray) (w : World) (hcat : ¬ 9223372036854775807 < hd.size + t.size)
    (p1 : ∀ W : World, Calls Try.prog 39 #[.int .i64 mo] W fun e w' => e = .returned (.tuple #[.agg #[.int .i64 nm, .string nk, .string nl], .int .i64 0]) ∧ Below W.heap.size W w')
    (p2 : ∀ W : World, Calls Try.prog 45 #[.int .i64 n] W fun e w' => e = .returned (.tuple #[.string hd, .int .i64 0]) ∧ Below W.heap.size W w')
    (p3 : ∀ W : World, Calls Try.prog 46 #[.int .i64 2, .string (hd ++ t)] W fun e w' => e = .returned (.tuple #[.string nt, .int .i64 0]) ∧ Below W.heap.size W w')
    (p4 : ∀ (A : Option Addr) (W : World), StrsAt W W.heap.size A [nt] → Calls Try.prog 47 #[.agg #[.int .i64 nm, .string nk, .string nl], .slice A 1 1] W fun e w' => e = .returned (.tuple #[.agg #[.int .i64 am, .string ak, .string al], .int .i64 E]) ∧ Below W.heap.size W w') :
    Calls Try.prog 26 #[.int .i64 mo, .int .i64 n, .string t] w fun e w' => e = .returned (.tuple #[.agg #[.int .i64 am, .string ak, .string al], .int .i64 E]) ∧ Below w.heap.size w w' := by
  have S0 := Lib.hid ((St.start w).new #[.int .i64 0, .string ⟨#[]⟩, .string ⟨#[]⟩] 23)
  go_enter Try.func26, Try.ntmps26
  go_wp2_with fail
  refine (p1 _).mono ?_
  rintro e w1 ⟨rfl, hB⟩
  have S1 := Lib.hid (S0.out.on hB)
  clear hB S0 p1
  obtain ⟨k0, hk0⟩ : ∃ p, p = w.heap.size := ⟨_, rfl⟩
  have Hk : Hid (w.heap.size ≤ k0) := Lib.hid (by omega)
  rw [← hk0] at S1
  (try rw [← hk0])
  clear hk0
  go_wp2_with (refine wpList_store_st rfl 23 _ _ rfl S1.out _ #[.int .i64 nm, .string nk, .string nl] _ rfl rfl (by rfl) rfl (fil_one15 _ _ _) ?_; intro q1 w2 hp hS hBn; (try rw [← hp]); have S2 := Lib.hid hS; have Hpq1 := Lib.hid hp; clear hS hp hBn)
  clear S1
  refine (p2 _).mono ?_
  rintro e w3 ⟨rfl, hB⟩
  have S3 := Lib.hid (S2.out.on hB)
  clear hB S2 p2
  go_wp2_with fail
  refine (p3 _).mono ?_
  rintro e w4 ⟨rfl, hB⟩
  have S4 := Lib.hid (S3.out.on hB)
  clear hB S3 p3
  clear hcat
  go_wp2_with (refine wpList_loadg_st (by rfl) 23 _ rfl S4.out 0 _ _ rfl rfl _ Try.underlying23 rfl (by rfl) ?_)
  refine (p4 _ _ (by simpa using StrsAt.new w4 [nt] 9)).mono ?_
  rintro e w5 ⟨rfl, hB⟩
  have S5 := Lib.hid ((S4.out.new #[.string nt] 9).on hB)
  clear hB S4 p4
  go_wp2_with (refine wpList_storew_st rfl 23 _ _ rfl (S5.out.sub (L' := [(k0, #[.int .i64 0, .string ⟨#[]⟩, .string ⟨#[]⟩])]) (by simp)) Hk.out (by simp) #[.int .i64 am, .string ak, .string al] rfl rfl (by rfl) rfl (fil_one15 _ _ _) ?_; intro w6 hS; have S6 := Lib.hid hS; clear hS)
  (try simp only [Exit.inBlock, Exit.then]); refine bodyPost_ret (ret_fil15 rfl rfl S6.out rfl) rfl ?_
  exact ⟨rfl, S6.out.below⟩

theorem snote_any (mo n : Int) (t : ByteArray) (hm : Fi.newE mo = 0) (hn : Sl.nOk n = true) (ht : t.size ≤ 1000) (w : World) :
    Calls Try.prog 26 #[.int .i64 mo, .int .i64 n, .string t] w fun e w' => e = .returned (.tuple #[(Fi.add (Fi.new mo) [strOf (Sl.noteB n (bl t))]).v, .int .i64 (Fi.addE (Fi.new mo) [strOf (Sl.noteB n (bl t))])]) ∧ Below w.heap.size w w' := by
  have hls := Sl.lay_le hn
  have hf := Sl.fits_n hn
  have hb : (Wm.lay n ++ bl t).length ≤ 3000 := by rw [List.length_append, bl_length]; omega
  have e3 := Fm.put_yes Sl.kind2 hb
  have hnew := fun W => fnew_any mo W
  rw [hm] at hnew
  have p2 := fun W => Int_any n W
  rw [intsS_one hf, intsE_one hf] at p2
  have eb : bl (strOf (Wm.lay n) ++ t) = Wm.lay n ++ bl t := by rw [bl_append, bl_strOf]
  have p3 := fun W => Put_any 2 (strOf (Wm.lay n) ++ t) W (by rw [ByteArray.size_append, strOf_size]; unfold maxLen; omega)
  rw [eb, e3.1, e3.2] at p3
  have en : Fi.new mo = ⟨mo, ⟨#[]⟩, ⟨#[]⟩⟩ := by unfold Fi.newE at hm; unfold Fi.new; split at hm <;> first | (rename_i h; rw [if_pos h]) | cases hm
  have hsz : (strOf (Sl.noteB n (bl t))).size ≤ 9000 := by
    rw [strOf_size]; have := Sl.noteB_le15 hn (t := bl t) (by rw [bl_length]; exact ht); omega
  have p4 := fun (A : Option Addr) (W : World) (h : StrsAt W W.heap.size A [strOf (Sl.noteB n (bl t))]) => fadd_any mo ⟨#[]⟩ ⟨#[]⟩ A 1 [strOf (Sl.noteB n (bl t))] ⟨Nat.zero_le _, Nat.zero_le _⟩ W h (by simp) (by intro s hs; rw [List.mem_singleton.1 hs]; exact hsz) (by simp)
  rw [en] at hnew ⊢
  exact snote_go mo n _ _ _ t _ _ _ _ _ _ w (by rw [strOf_size]; omega) hnew p2 p3 p4

set_option maxHeartbeats 2000000 in
theorem ssave_no (sm sn : Int) (sk sl sx sy : ByteArray) (d : Int) (t : ByteArray) (w : World)
    (pO : ∀ W : World, Calls Try.prog 21 #[.agg #[.int .i64 sm, .string sk, .string sl, .int .i64 sn, .string sx, .string sy]] W fun e w' => e = .returned (.agg #[.int .i64 sm, .string sk, .string sl, .int .i64 sn, .string sx, .string sy]) ∧ Below W.heap.size W w')
    (pI : ∀ W : World, Calls Try.prog 22 #[.agg #[.int .i64 sm, .string sk, .string sl, .int .i64 sn, .string sx, .string sy]] W fun e w' => e = .returned (.bool false) ∧ Below W.heap.size W w') :
    Calls Try.prog 11 #[.agg #[.int .i64 sm, .string sk, .string sl, .int .i64 sn, .string sx, .string sy], .string t, .int .i64 d] w fun e w' => e = .returned (.tuple #[.agg #[.int .i64 0, .string ⟨#[]⟩, .string ⟨#[]⟩, .int .i64 0, .string ⟨#[]⟩, .string ⟨#[]⟩], .bool false, .int .i64 1]) ∧ Below w.heap.size w w' := by
  have S0 := Lib.hid ((St.start w).box2 #[.int .i64 sm, .string sk, .string sl, .int .i64 sn, .string sx, .string sy] #[.int .i64 0, .string ⟨#[]⟩, .string ⟨#[]⟩, .int .i64 0, .string ⟨#[]⟩, .string ⟨#[]⟩] 25 25)
  go_enter Try.func11, Try.ntmps11
  go_wp2_with (refine wpList_loadg_st (by rfl) 25 _ rfl S0.out 1 _ _ rfl rfl _ Try.underlying25 rfl (by rfl) ?_)
  refine (pO _).mono ?_
  rintro e w1 ⟨rfl, hB⟩
  have S1 := Lib.hid (S0.out.on hB)
  clear hB S0 pO
  obtain ⟨p0, hp0⟩ : ∃ p, p = w.heap.size := ⟨_, rfl⟩
  obtain ⟨k0, hk0⟩ : ∃ p, p = w.heap.size + 1 := ⟨_, rfl⟩
  have Hk : Hid (w.heap.size ≤ k0) := Lib.hid (by omega)
  rw [← hk0, ← hp0] at S1
  (try rw [← hk0])
  (try rw [← hp0])
  clear hk0 hp0
  go_wp2_with (first
    | (refine wpList_store_st rfl 49 _ _ rfl S1.out _ #[.int .i64 sm, .string sk, .string sl, .int .i64 sn, .string sx, .string sy] _ rfl rfl (by rfl) rfl (sl_one15 _ _ _ _ _ _) ?_; intro q1 w2 hp hS hBn; (try rw [← hp]); have S2 := Lib.hid hS; have Hpq1 := Lib.hid hp; clear hS hp hBn)
    | (refine wpList_loadg_st (by rfl) 47 _ rfl S2.out 0 _ _ rfl rfl _ Try.underlying47 rfl (by rfl) ?_))
  have Hq1 : Hid (w.heap.size ≤ q1) := Lib.hid (by rw [Hpq1.out]; exact S1.out.below.size)
  have Hkq : Hid (k0 ≠ q1) := Lib.hid (by have := lt15b (S1.out.live (k0, #[.int .i64 0, .string ⟨#[]⟩, .string ⟨#[]⟩, .int .i64 0, .string ⟨#[]⟩, .string ⟨#[]⟩]) (by simp)); rw [Hpq1.out]; omega)
  clear S1 Hpq1
  refine (pI _).mono ?_
  rintro e w3 ⟨rfl, hB⟩
  have S3 := Lib.hid (S2.out.on hB)
  clear hB S2 pI
  go_wp2_with (refine wpList_storew_st rfl 25 _ _ rfl (S3.out.sub (L' := [(k0, #[.int .i64 0, .string ⟨#[]⟩, .string ⟨#[]⟩, .int .i64 0, .string ⟨#[]⟩, .string ⟨#[]⟩])]) (by simp)) Hk.out (by simp) #[.int .i64 0, .string ⟨#[]⟩, .string ⟨#[]⟩, .int .i64 0, .string ⟨#[]⟩, .string ⟨#[]⟩] rfl rfl (by rfl) rfl (sl_one15 _ _ _ _ _ _) ?_; intro w4 hS; have S4 := Lib.hid hS; clear hS)
  (try simp only [Exit.inBlock, Exit.then]); refine bodyPost_ret (ret_slots3 rfl rfl S4.out rfl) rfl ?_
  exact ⟨rfl, S4.out.below⟩

set_option maxHeartbeats 2000000 in
theorem ssave_long (sm sn : Int) (sk sl sx sy : ByteArray) (d n i : Int) (t c : ByteArray) (h1 : ((1000 : Int) < (t.size : Int)) = True) (w : World)
    (pO : ∀ W : World, Calls Try.prog 21 #[.agg #[.int .i64 sm, .string sk, .string sl, .int .i64 sn, .string sx, .string sy]] W fun e w' => e = .returned (.agg #[.int .i64 sm, .string sk, .string sl, .int .i64 sn, .string sx, .string sy]) ∧ Below W.heap.size W w')
    (pI : ∀ W : World, Calls Try.prog 22 #[.agg #[.int .i64 sm, .string sk, .string sl, .int .i64 sn, .string sx, .string sy]] W fun e w' => e = .returned (.bool true) ∧ Below W.heap.size W w')
    (pC : ∀ W : World, Calls Try.prog 23 #[.agg #[.int .i64 sm, .string sk, .string sl, .int .i64 sn, .string sx, .string sy]] W fun e w' => e = .returned (.tuple #[.string c, .int .i64 n, .int .i64 i]) ∧ Below W.heap.size W w') :
    Calls Try.prog 11 #[.agg #[.int .i64 sm, .string sk, .string sl, .int .i64 sn, .string sx, .string sy], .string t, .int .i64 d] w fun e w' => e = .returned (.tuple #[.agg #[.int .i64 0, .string ⟨#[]⟩, .string ⟨#[]⟩, .int .i64 0, .string ⟨#[]⟩, .string ⟨#[]⟩], .bool false, .int .i64 2]) ∧ Below w.heap.size w w' := by
  have S0 := Lib.hid ((St.start w).box2 #[.int .i64 sm, .string sk, .string sl, .int .i64 sn, .string sx, .string sy] #[.int .i64 0, .string ⟨#[]⟩, .string ⟨#[]⟩, .int .i64 0, .string ⟨#[]⟩, .string ⟨#[]⟩] 25 25)
  go_enter Try.func11, Try.ntmps11
  go_wp2_with (refine wpList_loadg_st (by rfl) 25 _ rfl S0.out 1 _ _ rfl rfl _ Try.underlying25 rfl (by rfl) ?_)
  refine (pO _).mono ?_
  rintro e w1 ⟨rfl, hB⟩
  have S1 := Lib.hid (S0.out.on hB)
  clear hB S0 pO
  obtain ⟨p0, hp0⟩ : ∃ p, p = w.heap.size := ⟨_, rfl⟩
  obtain ⟨k0, hk0⟩ : ∃ p, p = w.heap.size + 1 := ⟨_, rfl⟩
  have Hk : Hid (w.heap.size ≤ k0) := Lib.hid (by omega)
  rw [← hk0, ← hp0] at S1
  (try rw [← hk0])
  (try rw [← hp0])
  clear hk0 hp0
  go_wp2_with (first
    | (refine wpList_store_st rfl 49 _ _ rfl S1.out _ #[.int .i64 sm, .string sk, .string sl, .int .i64 sn, .string sx, .string sy] _ rfl rfl (by rfl) rfl (sl_one15 _ _ _ _ _ _) ?_; intro q1 w2 hp hS hBn; (try rw [← hp]); have S2 := Lib.hid hS; have Hpq1 := Lib.hid hp; clear hS hp hBn)
    | (refine wpList_loadg_st (by rfl) 47 _ rfl S2.out 0 _ _ rfl rfl _ Try.underlying47 rfl (by rfl) ?_))
  have Hq1 : Hid (w.heap.size ≤ q1) := Lib.hid (by rw [Hpq1.out]; exact S1.out.below.size)
  have Hkq : Hid (k0 ≠ q1) := Lib.hid (by have := lt15b (S1.out.live (k0, #[.int .i64 0, .string ⟨#[]⟩, .string ⟨#[]⟩, .int .i64 0, .string ⟨#[]⟩, .string ⟨#[]⟩]) (by simp)); rw [Hpq1.out]; omega)
  clear S1 Hpq1
  refine (pI _).mono ?_
  rintro e w3 ⟨rfl, hB⟩
  have S3 := Lib.hid (S2.out.on hB)
  clear hB S2 pI
  go_wp2_with (refine wpList_loadg_st (by rfl) 47 _ rfl S3.out 0 _ _ rfl rfl _ Try.underlying47 rfl (by rfl) ?_)
  refine (pC _).mono ?_
  rintro e w4 ⟨rfl, hB⟩
  have S4 := Lib.hid (S3.out.on hB)
  clear hB S3 pC
  go_wp2_with (refine wpList_storew_st rfl 25 _ _ rfl (S4.out.sub (L' := [(k0, #[.int .i64 0, .string ⟨#[]⟩, .string ⟨#[]⟩, .int .i64 0, .string ⟨#[]⟩, .string ⟨#[]⟩])]) (by simp)) Hk.out (by simp) #[.int .i64 0, .string ⟨#[]⟩, .string ⟨#[]⟩, .int .i64 0, .string ⟨#[]⟩, .string ⟨#[]⟩] rfl rfl (by rfl) rfl (sl_one15 _ _ _ _ _ _) ?_; intro w5 hS; have S5 := Lib.hid hS; clear hS)
  (try simp only [Exit.inBlock, Exit.then]); refine bodyPost_ret (ret_slots3 rfl rfl S5.out rfl) rfl ?_
  exact ⟨rfl, S5.out.below⟩

set_option maxHeartbeats 2000000 in
theorem ssave_last (sm sn : Int) (sk sl sx sy : ByteArray) (d n i : Int) (t c : ByteArray) (h1 : ((1000 : Int) < (t.size : Int)) = False) (h2 : n = 1000000000) (w : World)
    (pO : ∀ W : World, Calls Try.prog 21 #[.agg #[.int .i64 sm, .string sk, .string sl, .int .i64 sn, .string sx, .string sy]] W fun e w' => e = .returned (.agg #[.int .i64 sm, .string sk, .string sl, .int .i64 sn, .string sx, .string sy]) ∧ Below W.heap.size W w')
    (pI : ∀ W : World, Calls Try.prog 22 #[.agg #[.int .i64 sm, .string sk, .string sl, .int .i64 sn, .string sx, .string sy]] W fun e w' => e = .returned (.bool true) ∧ Below W.heap.size W w')
    (pC : ∀ W : World, Calls Try.prog 23 #[.agg #[.int .i64 sm, .string sk, .string sl, .int .i64 sn, .string sx, .string sy]] W fun e w' => e = .returned (.tuple #[.string c, .int .i64 n, .int .i64 i]) ∧ Below W.heap.size W w') :
    Calls Try.prog 11 #[.agg #[.int .i64 sm, .string sk, .string sl, .int .i64 sn, .string sx, .string sy], .string t, .int .i64 d] w fun e w' => e = .returned (.tuple #[.agg #[.int .i64 0, .string ⟨#[]⟩, .string ⟨#[]⟩, .int .i64 0, .string ⟨#[]⟩, .string ⟨#[]⟩], .bool false, .int .i64 2]) ∧ Below w.heap.size w w' := by
  subst h2
  have S0 := Lib.hid ((St.start w).box2 #[.int .i64 sm, .string sk, .string sl, .int .i64 sn, .string sx, .string sy] #[.int .i64 0, .string ⟨#[]⟩, .string ⟨#[]⟩, .int .i64 0, .string ⟨#[]⟩, .string ⟨#[]⟩] 25 25)
  go_enter Try.func11, Try.ntmps11
  go_wp2_with (refine wpList_loadg_st (by rfl) 25 _ rfl S0.out 1 _ _ rfl rfl _ Try.underlying25 rfl (by rfl) ?_)
  refine (pO _).mono ?_
  rintro e w1 ⟨rfl, hB⟩
  have S1 := Lib.hid (S0.out.on hB)
  clear hB S0 pO
  obtain ⟨p0, hp0⟩ : ∃ p, p = w.heap.size := ⟨_, rfl⟩
  obtain ⟨k0, hk0⟩ : ∃ p, p = w.heap.size + 1 := ⟨_, rfl⟩
  have Hk : Hid (w.heap.size ≤ k0) := Lib.hid (by omega)
  rw [← hk0, ← hp0] at S1
  (try rw [← hk0])
  (try rw [← hp0])
  clear hk0 hp0
  go_wp2_with (first
    | (refine wpList_store_st rfl 49 _ _ rfl S1.out _ #[.int .i64 sm, .string sk, .string sl, .int .i64 sn, .string sx, .string sy] _ rfl rfl (by rfl) rfl (sl_one15 _ _ _ _ _ _) ?_; intro q1 w2 hp hS hBn; (try rw [← hp]); have S2 := Lib.hid hS; have Hpq1 := Lib.hid hp; clear hS hp hBn)
    | (refine wpList_loadg_st (by rfl) 47 _ rfl S2.out 0 _ _ rfl rfl _ Try.underlying47 rfl (by rfl) ?_))
  have Hq1 : Hid (w.heap.size ≤ q1) := Lib.hid (by rw [Hpq1.out]; exact S1.out.below.size)
  have Hkq : Hid (k0 ≠ q1) := Lib.hid (by have := lt15b (S1.out.live (k0, #[.int .i64 0, .string ⟨#[]⟩, .string ⟨#[]⟩, .int .i64 0, .string ⟨#[]⟩, .string ⟨#[]⟩]) (by simp)); rw [Hpq1.out]; omega)
  clear S1 Hpq1
  refine (pI _).mono ?_
  rintro e w3 ⟨rfl, hB⟩
  have S3 := Lib.hid (S2.out.on hB)
  clear hB S2 pI
  go_wp2_with (refine wpList_loadg_st (by rfl) 47 _ rfl S3.out 0 _ _ rfl rfl _ Try.underlying47 rfl (by rfl) ?_)
  refine (pC _).mono ?_
  rintro e w4 ⟨rfl, hB⟩
  have S4 := Lib.hid (S3.out.on hB)
  clear hB S3 pC
  go_wp2_with (refine wpList_storew_st rfl 25 _ _ rfl (S4.out.sub (L' := [(k0, #[.int .i64 0, .string ⟨#[]⟩, .string ⟨#[]⟩, .int .i64 0, .string ⟨#[]⟩, .string ⟨#[]⟩])]) (by simp)) Hk.out (by simp) #[.int .i64 0, .string ⟨#[]⟩, .string ⟨#[]⟩, .int .i64 0, .string ⟨#[]⟩, .string ⟨#[]⟩] rfl rfl (by rfl) rfl (sl_one15 _ _ _ _ _ _) ?_; intro w5 hS; have S5 := Lib.hid hS; clear hS)
  (try simp only [Exit.inBlock, Exit.then]); refine bodyPost_ret (ret_slots3 rfl rfl S5.out rfl) rfl ?_
  exact ⟨rfl, S5.out.below⟩

set_option maxHeartbeats 2000000 in
theorem ssave_full (sm sn : Int) (sk sl sx sy : ByteArray) (d n i E fm : Int) (t c fk fl : ByteArray) (h1 : ((1000 : Int) < (t.size : Int)) = False) (h2 : (n == 1000000000) = false) (iw : wrap64 (n + 1) = n + 1) (hE : (E != 0) = true) (w : World)
    (pO : ∀ W : World, Calls Try.prog 21 #[.agg #[.int .i64 sm, .string sk, .string sl, .int .i64 sn, .string sx, .string sy]] W fun e w' => e = .returned (.agg #[.int .i64 sm, .string sk, .string sl, .int .i64 sn, .string sx, .string sy]) ∧ Below W.heap.size W w')
    (pI : ∀ W : World, Calls Try.prog 22 #[.agg #[.int .i64 sm, .string sk, .string sl, .int .i64 sn, .string sx, .string sy]] W fun e w' => e = .returned (.bool true) ∧ Below W.heap.size W w')
    (pC : ∀ W : World, Calls Try.prog 23 #[.agg #[.int .i64 sm, .string sk, .string sl, .int .i64 sn, .string sx, .string sy]] W fun e w' => e = .returned (.tuple #[.string c, .int .i64 n, .int .i64 i]) ∧ Below W.heap.size W w')
    (pM : ∀ W : World, Calls Try.prog 27 #[.agg #[.int .i64 sm, .string sk, .string sl, .int .i64 sn, .string sx, .string sy]] W fun e w' => e = .returned (.int .i64 sm) ∧ Below W.heap.size W w')
    (pW : ∀ W : World, Calls Try.prog 26 #[.int .i64 sm, .int .i64 (n + 1), .string t] W fun e w' => e = .returned (.tuple #[.agg #[.int .i64 fm, .string fk, .string fl], .int .i64 E]) ∧ Below W.heap.size W w') :
    Calls Try.prog 11 #[.agg #[.int .i64 sm, .string sk, .string sl, .int .i64 sn, .string sx, .string sy], .string t, .int .i64 d] w fun e w' => e = .returned (.tuple #[.agg #[.int .i64 0, .string ⟨#[]⟩, .string ⟨#[]⟩, .int .i64 0, .string ⟨#[]⟩, .string ⟨#[]⟩], .bool false, .int .i64 E]) ∧ Below w.heap.size w w' := by
  have S0 := Lib.hid ((St.start w).box2 #[.int .i64 sm, .string sk, .string sl, .int .i64 sn, .string sx, .string sy] #[.int .i64 0, .string ⟨#[]⟩, .string ⟨#[]⟩, .int .i64 0, .string ⟨#[]⟩, .string ⟨#[]⟩] 25 25)
  go_enter Try.func11, Try.ntmps11
  go_wp2_with (refine wpList_loadg_st (by rfl) 25 _ rfl S0.out 1 _ _ rfl rfl _ Try.underlying25 rfl (by rfl) ?_)
  refine (pO _).mono ?_
  rintro e w1 ⟨rfl, hB⟩
  have S1 := Lib.hid (S0.out.on hB)
  clear hB S0 pO
  obtain ⟨p0, hp0⟩ : ∃ p, p = w.heap.size := ⟨_, rfl⟩
  obtain ⟨k0, hk0⟩ : ∃ p, p = w.heap.size + 1 := ⟨_, rfl⟩
  have Hk : Hid (w.heap.size ≤ k0) := Lib.hid (by omega)
  rw [← hk0, ← hp0] at S1
  (try rw [← hk0])
  (try rw [← hp0])
  clear hk0 hp0
  go_wp2_with (first
    | (refine wpList_store_st rfl 49 _ _ rfl S1.out _ #[.int .i64 sm, .string sk, .string sl, .int .i64 sn, .string sx, .string sy] _ rfl rfl (by rfl) rfl (sl_one15 _ _ _ _ _ _) ?_; intro q1 w2 hp hS hBn; (try rw [← hp]); have S2 := Lib.hid hS; have Hpq1 := Lib.hid hp; clear hS hp hBn)
    | (refine wpList_loadg_st (by rfl) 47 _ rfl S2.out 0 _ _ rfl rfl _ Try.underlying47 rfl (by rfl) ?_))
  have Hq1 : Hid (w.heap.size ≤ q1) := Lib.hid (by rw [Hpq1.out]; exact S1.out.below.size)
  have Hkq : Hid (k0 ≠ q1) := Lib.hid (by have := lt15b (S1.out.live (k0, #[.int .i64 0, .string ⟨#[]⟩, .string ⟨#[]⟩, .int .i64 0, .string ⟨#[]⟩, .string ⟨#[]⟩]) (by simp)); rw [Hpq1.out]; omega)
  clear S1 Hpq1
  refine (pI _).mono ?_
  rintro e w3 ⟨rfl, hB⟩
  have S3 := Lib.hid (S2.out.on hB)
  clear hB S2 pI
  go_wp2_with (refine wpList_loadg_st (by rfl) 47 _ rfl S3.out 0 _ _ rfl rfl _ Try.underlying47 rfl (by rfl) ?_)
  refine (pC _).mono ?_
  rintro e w4 ⟨rfl, hB⟩
  have S4 := Lib.hid (S3.out.on hB)
  clear hB S3 pC
  go_wp2_with (refine wpList_loadg_st (by rfl) 47 _ rfl S4.out 0 _ _ rfl rfl _ Try.underlying47 rfl (by rfl) ?_)
  refine (pM _).mono ?_
  rintro e w5 ⟨rfl, hB⟩
  have S5 := Lib.hid (S4.out.on hB)
  clear hB S4 pM
  go_wp2_with fail
  refine (pW _).mono ?_
  rintro e w6 ⟨rfl, hB⟩
  have S6 := Lib.hid (S5.out.on hB)
  clear hB S5 pW
  go_wp2_with (first
    | (refine wpList_store_st rfl 23 _ _ rfl S6.out _ #[.int .i64 fm, .string fk, .string fl] _ rfl rfl (by rfl) rfl (fil_one15 _ _ _) ?_; intro q2 w8 hp hS hBn; (try rw [← hp]); have S8 := Lib.hid hS; have Hpq2 := Lib.hid hp; clear hS hp hBn)
    | (refine wpList_storew_st rfl 25 _ _ rfl (S8.out.sub (L' := [(k0, #[.int .i64 0, .string ⟨#[]⟩, .string ⟨#[]⟩, .int .i64 0, .string ⟨#[]⟩, .string ⟨#[]⟩])]) (by simp)) Hk.out (by simp) #[.int .i64 0, .string ⟨#[]⟩, .string ⟨#[]⟩, .int .i64 0, .string ⟨#[]⟩, .string ⟨#[]⟩] rfl rfl (by rfl) rfl (sl_one15 _ _ _ _ _ _) ?_; intro w7 hS; have S7 := Lib.hid hS; clear hS))
  (try simp only [Exit.inBlock, Exit.then]); refine bodyPost_ret (ret_slots3 rfl rfl S7.out rfl) rfl ?_
  exact ⟨rfl, S7.out.below⟩
end Go.Proofs.Yteepemibmjpnfaa
