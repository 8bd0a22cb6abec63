/-
  Layer 14 (segment): the law SegmentSync, over the structure (printed by tools/gen-segsync.py).
-/
import Derived.Test.YtlnchfnmpamliaaXJb
namespace Go.Proofs.Ytlnchfnmpamliaa
set_option maxRecDepth 10000
open Go.RowKit

set_option maxHeartbeats 4000000 in
theorem segmentSync_far {E : World → Prop} (HS : Hid (SegK E)) (sz fi : Int) (A : Option Addr) (n c : Nat) (fs : List Fil) (k : Int) (w : World) (hE : E w) (hA : FilsAt w w.heap.size A fs)
    (pf : ∀ (W : World) (_hA : FilsAt W W.heap.size A fs), Hid (Calls Try.prog 9 #[.agg #[.int .i64 sz, .int .i64 fi, .slice A n c], .slice none 0 0] W fun e w' => e = .returned (.bool true) ∧ Below W.heap.size W w')) :
    Calls Try.prog 7 #[.agg #[.int .i64 sz, .int .i64 fi, .slice A n c], .int .i64 k] w fun e w' => e = .returned (.bool true) ∧ Below w.heap.size w w' := by
  have S0 := Lib.hid ((((St.start w).more (filF14 A w.heap.size fs) ⟨hA, Nat.le_refl _⟩).more (eSg HS) hE).new #[.int .i64 sz, .int .i64 fi, .slice A n c] 25)
  clear hE hA
  go_enter Try.func7, Try.ntmps7
  go_wp2_with (refine wpList_load_st rfl 25 _ rfl S0.out 0 _ _ rfl rfl _ Try.underlying25 rfl (by rfl) ?_)
  refine (pf _ ((S0.out.fact 1 rfl).1.more (S0.out.fact 1 rfl).2)).out.mono ?_
  rintro e w1 ⟨rfl, hB⟩
  have S1 := Lib.hid (S0.out.on hB)
  clear hB S0
  clear pf
  obtain ⟨p0, hp0⟩ : ∃ p, p = w.heap.size := ⟨_, rfl⟩
  rw [← hp0] at S1 ⊢
  clear hp0
  go_wp2
  go_ret
  exact ⟨rfl, S1.out.below⟩

set_option maxHeartbeats 4000000 in
theorem segmentSync_no {E : World → Prop} (HS : Hid (SegK E)) (HC : Hid (PartedK E)) (sz fi : Int) (A : Option Addr) (n c : Nat) (fs : List Fil) (k : Int) (w : World) (hE : E w) (hA : FilsAt w w.heap.size A fs) (hR0 : Hid (RoomyF A fs c))
    (pf : ∀ (W : World) (_hA : FilsAt W W.heap.size A fs), Hid (Calls Try.prog 9 #[.agg #[.int .i64 sz, .int .i64 fi, .slice A n c], .slice none 0 0] W fun e w' => e = .returned (.bool false) ∧ Below W.heap.size W w'))
    (KY : ∀ (W : World) (A : Option Addr) (c : Nat) (_h : E W) (_hA : FilsAt W W.heap.size A fs) (_hR : RoomyF A fs c), Hid (Calls Try.prog 16 #[.agg #[.int .i64 sz, .int .i64 fi, .slice A n c]] W fun e w' => ∃ A c, e = .returned (.tuple #[.agg #[.int .i64 0, .int .i64 0, .slice A 0 c], .int .i64 1]) ∧ FilsAt w' w'.heap.size A ([] : List Fil) ∧ RoomyF A ([] : List Fil) c ∧ Below W.heap.size W w'))
    (KI : ∀ (W : World) (A : Option Addr) (c : Nat) (_h : E W) (_hA : FilsAt W W.heap.size A fs) (_hR : RoomyF A fs c), Hid (Calls Try.prog 15 #[.agg #[.int .i64 sz, .int .i64 fi, .slice A n c]] W fun e w' => e = .returned (.bool false) ∧ Below W.heap.size W w')) :
    Calls Try.prog 7 #[.agg #[.int .i64 sz, .int .i64 fi, .slice A n c], .int .i64 k] w fun e w' => e = .returned (.bool true) ∧ Below w.heap.size w w' := by
  have S0 := Lib.hid ((((St.start w).more (filF14 A w.heap.size fs) ⟨hA, Nat.le_refl _⟩).more (eSg HS) hE).new #[.int .i64 sz, .int .i64 fi, .slice A n c] 25)
  clear hE hA
  go_enter Try.func7, Try.ntmps7
  go_wp2_with (refine wpList_load_st rfl 25 _ rfl S0.out 0 _ _ rfl rfl _ Try.underlying25 rfl (by rfl) ?_)
  refine (pf _ ((S0.out.fact 1 rfl).1.more (S0.out.fact 1 rfl).2)).out.mono ?_
  rintro e w1 ⟨rfl, hB⟩
  have S1 := Lib.hid (S0.out.on hB)
  clear hB S0
  clear pf
  obtain ⟨p0, hp0⟩ : ∃ p, p = w.heap.size := ⟨_, rfl⟩
  rw [← hp0] at S1 ⊢
  clear hp0
  go_wp2_with (refine wpList_load_st rfl 25 _ rfl S1.out 0 _ _ rfl rfl _ Try.underlying25 rfl (by rfl) ?_)
  refine (KY _ A c (S1.out.fact 0 rfl) ((S1.out.fact 1 rfl).1.more (S1.out.fact 1 rfl).2) hR0.out).out.mono ?_
  rintro e w2 ⟨Ax, cx, rfl, hT, hR, hB⟩
  have S2 := Lib.hid ((S1.out.on hB).more (filF14 Ax w2.heap.size ([] : List Fil)) ⟨hT, Nat.le_refl _⟩)
  have HRx := Lib.hid hR
  clear hB hT hR S1
  obtain ⟨Bx, hBe⟩ : ∃ b, b = w2.heap.size := ⟨_, rfl⟩
  rw [← hBe] at S2
  clear hBe
  go_wp2_with (refine wpList_store_st rfl 25 _ _ rfl S2.out _ #[.int .i64 0, .int .i64 0, .slice Ax 0 cx] _ rfl rfl (by rfl) rfl (seg_one14 _ _ _ _ _) ?_; intro b1 w3 hp hS hBn; (try rw [← hp]); have S3 := Lib.hid hS; clear hS hp hBn)
  refine (Lib.hid (HC.out _ (S3.out.fact 1 rfl))).out.mono ?_
  rintro e w4 ⟨rfl, hB⟩
  have S4 := Lib.hid (S3.out.on hB)
  clear hB S3
  go_wp2_with (refine wpList_loadg_st (by rfl) 25 _ rfl S4.out 1 _ _ rfl rfl _ Try.underlying25 rfl (by rfl) ?_)
  refine (KI _ A c (S4.out.fact 1 rfl) ((S4.out.fact 2 rfl).1.more (S4.out.fact 2 rfl).2) hR0.out).out.mono ?_
  rintro e w5 ⟨rfl, hB⟩
  have S5 := Lib.hid (S4.out.on hB)
  clear hB S4
  go_wp2
  go_ret
  exact ⟨rfl, S5.out.below⟩

set_option maxHeartbeats 4000000 in
theorem segmentSync_yes {E : World → Prop} (HS : Hid (SegK E)) (HC : Hid (PartedK E)) (sz fi : Int) (A : Option Addr) (n c : Nat) (fs : List Fil) (k : Int) (w : World) (hE : E w) (hA : FilsAt w w.heap.size A fs) (hR0 : Hid (RoomyF A fs c)) (n1 : Nat) (fs1 : List Fil) (L : Nat) (ts : List ByteArray)
    (pf : ∀ (W : World) (_hA : FilsAt W W.heap.size A fs), Hid (Calls Try.prog 9 #[.agg #[.int .i64 sz, .int .i64 fi, .slice A n c], .slice none 0 0] W fun e w' => e = .returned (.bool false) ∧ Below W.heap.size W w'))
    (KY : ∀ (W : World) (A : Option Addr) (c : Nat) (_h : E W) (_hA : FilsAt W W.heap.size A fs) (_hR : RoomyF A fs c), Hid (Calls Try.prog 16 #[.agg #[.int .i64 sz, .int .i64 fi, .slice A n c]] W fun e w' => ∃ A c, e = .returned (.tuple #[.agg #[.int .i64 sz, .int .i64 fi, .slice A n1 c], .int .i64 0]) ∧ FilsAt w' w'.heap.size A fs1 ∧ RoomyF A fs1 c ∧ Below W.heap.size W w'))
    (KC : ∀ (W : World) (A : Option Addr) (c : Nat) (_h : E W) (_hA : FilsAt W W.heap.size A fs1) (_hR : RoomyF A fs1 c), Hid (Calls Try.prog 17 #[.agg #[.int .i64 sz, .int .i64 fi, .slice A n1 c], .int .i64 k] W fun e w' => ∃ A c, e = .returned (.tuple #[.agg #[.int .i64 sz, .int .i64 fi, .slice A n1 c], .int .i64 0]) ∧ FilsAt w' w'.heap.size A fs1 ∧ RoomyF A fs1 c ∧ Below W.heap.size W w'))
    (KZ : ∀ (W : World) (A : Option Addr) (c : Nat) (_h : E W) (_hA : FilsAt W W.heap.size A fs1) (_hR : RoomyF A fs1 c), Hid (Calls Try.prog 16 #[.agg #[.int .i64 sz, .int .i64 fi, .slice A n1 c]] W fun e w' => ∃ A c, e = .returned (.tuple #[.agg #[.int .i64 sz, .int .i64 fi, .slice A n1 c], .int .i64 0]) ∧ FilsAt w' w'.heap.size A fs1 ∧ RoomyF A fs1 c ∧ Below W.heap.size W w'))
    (KR : ∀ (W : World) (A : Option Addr) (c : Nat) (_h : E W) (_hA : FilsAt W W.heap.size A fs) (_hR : RoomyF A fs c), Hid (Calls Try.prog 12 #[.agg #[.int .i64 sz, .int .i64 fi, .slice A n c]] W fun e w' => ∃ A c, e = .returned (.tuple #[.slice A L c, .int .i64 0]) ∧ StrsAt w' w'.heap.size A ts ∧ L ≤ c ∧ Below W.heap.size W w'))
    (KR1 : ∀ (W : World) (A : Option Addr) (c : Nat) (_h : E W) (_hA : FilsAt W W.heap.size A fs1) (_hR : RoomyF A fs1 c), Hid (Calls Try.prog 12 #[.agg #[.int .i64 sz, .int .i64 fi, .slice A n1 c]] W fun e w' => ∃ A c, e = .returned (.tuple #[.slice A L c, .int .i64 0]) ∧ StrsAt w' w'.heap.size A ts ∧ L ≤ c ∧ Below W.heap.size W w'))
    (KS : ∀ (W : World) (A B : Option Addr) (c d : Nat) (_hA : FilsAt W W.heap.size A fs1) (_hB : FilsAt W W.heap.size B fs1), Hid (Calls Try.prog 13 #[.agg #[.int .i64 sz, .int .i64 fi, .slice A n1 c], .agg #[.int .i64 sz, .int .i64 fi, .slice B n1 d]] W fun e w' => e = .returned (.bool true) ∧ Below W.heap.size W w'))
    (KT : ∀ (W : World) (A B : Option Addr) (c d : Nat) (_hA : StrsAt W W.heap.size A ts) (_hB : StrsAt W W.heap.size B ts), Hid (Calls Try.prog 14 #[.slice A L c, .slice B L d] W fun e w' => e = .returned (.bool true) ∧ Below W.heap.size W w')) :
    Calls Try.prog 7 #[.agg #[.int .i64 sz, .int .i64 fi, .slice A n c], .int .i64 k] w fun e w' => e = .returned (.bool true) ∧ Below w.heap.size w w' := by
  have S0 := Lib.hid ((((St.start w).more (filF14 A w.heap.size fs) ⟨hA, Nat.le_refl _⟩).more (eSg HS) hE).new #[.int .i64 sz, .int .i64 fi, .slice A n c] 25)
  clear hE hA
  go_enter Try.func7, Try.ntmps7
  go_wp2_with (refine wpList_load_st rfl 25 _ rfl S0.out 0 _ _ rfl rfl _ Try.underlying25 rfl (by rfl) ?_)
  refine (pf _ ((S0.out.fact 1 rfl).1.more (S0.out.fact 1 rfl).2)).out.mono ?_
  rintro e w1 ⟨rfl, hB⟩
  have S1 := Lib.hid (S0.out.on hB)
  clear hB S0
  clear pf
  obtain ⟨p0, hp0⟩ : ∃ p, p = w.heap.size := ⟨_, rfl⟩
  rw [← hp0] at S1 ⊢
  clear hp0
  go_wp2_with (refine wpList_load_st rfl 25 _ rfl S1.out 0 _ _ rfl rfl _ Try.underlying25 rfl (by rfl) ?_)
  refine (KY _ A c (S1.out.fact 0 rfl) ((S1.out.fact 1 rfl).1.more (S1.out.fact 1 rfl).2) hR0.out).out.mono ?_
  rintro e w2 ⟨Ax, cx, rfl, hT, hR, hB⟩
  have S2 := Lib.hid ((S1.out.on hB).more (filF14 Ax w2.heap.size fs1) ⟨hT, Nat.le_refl _⟩)
  have HRx := Lib.hid hR
  clear hB hT hR S1
  obtain ⟨Bx, hBe⟩ : ∃ b, b = w2.heap.size := ⟨_, rfl⟩
  rw [← hBe] at S2
  clear hBe
  go_wp2_with (first
    | (refine wpList_store_st rfl 25 _ _ rfl S2.out _ #[.int .i64 sz, .int .i64 fi, .slice Ax n1 cx] _ rfl rfl (by rfl) rfl (seg_one14 _ _ _ _ _) ?_; intro b1 w3 hp hS hBn; (try rw [← hp]); have S3 := Lib.hid hS; clear hS hp hBn)
    | (refine wpList_load_st rfl 25 _ rfl S3.out 0 _ _ rfl rfl _ Try.underlying25 rfl (by rfl) ?_))
  refine (KC _ Ax cx (S3.out.fact 1 rfl) ((S3.out.fact 0 rfl).1.more (S3.out.fact 0 rfl).2) HRx.out).out.mono ?_
  rintro e w4 ⟨Ay, cy, rfl, hT, hR, hB⟩
  have S4 := Lib.hid ((S3.out.on hB).more (filF14 Ay w4.heap.size fs1) ⟨hT, Nat.le_refl _⟩)
  have HRy := Lib.hid hR
  clear hB hT hR S3
  obtain ⟨By, hBe⟩ : ∃ b, b = w4.heap.size := ⟨_, rfl⟩
  rw [← hBe] at S4
  clear hBe
  go_wp2_with (first
    | (refine wpList_store_st rfl 25 _ _ rfl S4.out _ #[.int .i64 sz, .int .i64 fi, .slice Ay n1 cy] _ rfl rfl (by rfl) rfl (seg_one14 _ _ _ _ _) ?_; intro b2 w5 hp hS hBn; (try rw [← hp]); have S5 := Lib.hid hS; clear hS hp hBn)
    | (refine wpList_load_st rfl 25 _ rfl S5.out 1 _ _ rfl rfl _ Try.underlying25 rfl (by rfl) ?_))
  refine (KZ _ Ax cx (S5.out.fact 2 rfl) ((S5.out.fact 1 rfl).1.more (S5.out.fact 1 rfl).2) HRx.out).out.mono ?_
  rintro e w6 ⟨Az, cz, rfl, hT, hR, hB⟩
  have S6 := Lib.hid ((S5.out.on hB).more (filF14 Az w6.heap.size fs1) ⟨hT, Nat.le_refl _⟩)
  have HRz := Lib.hid hR
  clear hB hT hR S5
  obtain ⟨Bz, hBe⟩ : ∃ b, b = w6.heap.size := ⟨_, rfl⟩
  rw [← hBe] at S6
  clear hBe
  go_wp2_with (first
    | (refine wpList_store_st rfl 25 _ _ rfl S6.out _ #[.int .i64 sz, .int .i64 fi, .slice Az n1 cz] _ rfl rfl (by rfl) rfl (seg_one14 _ _ _ _ _) ?_; intro b3 w7 hp hS hBn; (try rw [← hp]); have S7 := Lib.hid hS; clear hS hp hBn)
    | (refine wpList_load_st rfl 25 _ rfl S7.out 3 _ _ rfl rfl _ Try.underlying25 rfl (by rfl) ?_))
  refine (KR _ A c (S7.out.fact 3 rfl) ((S7.out.fact 4 rfl).1.more (S7.out.fact 4 rfl).2) hR0.out).out.mono ?_
  rintro e w8 ⟨At, ct, rfl, hT, _, hB⟩
  have S8 := Lib.hid ((S7.out.on hB).more (strsF14 At w8.heap.size ts) ⟨hT, Nat.le_refl _⟩)
  clear hB hT S7
  obtain ⟨Bt, hBe⟩ : ∃ b, b = w8.heap.size := ⟨_, rfl⟩
  rw [← hBe] at S8
  clear hBe
  go_wp2_with (refine wpList_load_st rfl 25 _ rfl S8.out 2 _ _ rfl rfl _ Try.underlying25 rfl (by rfl) ?_)
  refine (KR1 _ Ax cx (S8.out.fact 4 rfl) ((S8.out.fact 3 rfl).1.more (S8.out.fact 3 rfl).2) HRx.out).out.mono ?_
  rintro e w9 ⟨Au, cu, rfl, hT, _, hB⟩
  have S9 := Lib.hid ((S8.out.on hB).more (strsF14 Au w9.heap.size ts) ⟨hT, Nat.le_refl _⟩)
  clear hB hT S8
  obtain ⟨Bu, hBe⟩ : ∃ b, b = w9.heap.size := ⟨_, rfl⟩
  rw [← hBe] at S9
  clear hBe
  go_wp2_with fail
  refine (Lib.hid (HC.out _ (S9.out.fact 5 rfl))).out.mono ?_
  rintro e w10 ⟨rfl, hB⟩
  have S10 := Lib.hid (S9.out.on hB)
  clear hB S9
  go_wp2_with (first
    | (refine wpList_loadg_st (by rfl) 25 _ rfl S10.out 2 _ _ rfl rfl _ Try.underlying25 rfl (by rfl) ?_)
    | (refine wpList_loadg_st (by rfl) 25 _ rfl S10.out 1 _ _ rfl rfl _ Try.underlying25 rfl (by rfl) ?_))
  refine (KS _ Ax Ay cx cy ((S10.out.fact 4 rfl).1.more (S10.out.fact 4 rfl).2) ((S10.out.fact 3 rfl).1.more (S10.out.fact 3 rfl).2)).out.mono ?_
  rintro e w11 ⟨rfl, hB⟩
  have S11 := Lib.hid (S10.out.on hB)
  clear hB S10
  go_wp2_with (first
    | (refine wpList_loadg_st (by rfl) 25 _ rfl S11.out 2 _ _ rfl rfl _ Try.underlying25 rfl (by rfl) ?_)
    | (refine wpList_loadg_st (by rfl) 25 _ rfl S11.out 0 _ _ rfl rfl _ Try.underlying25 rfl (by rfl) ?_))
  refine (KS _ Ax Az cx cz ((S11.out.fact 4 rfl).1.more (S11.out.fact 4 rfl).2) ((S11.out.fact 2 rfl).1.more (S11.out.fact 2 rfl).2)).out.mono ?_
  rintro e w12 ⟨rfl, hB⟩
  have S12 := Lib.hid (S11.out.on hB)
  clear hB S11
  go_wp2_with fail
  refine (KT _ At Au ct cu ((S12.out.fact 1 rfl).1.more (S12.out.fact 1 rfl).2) ((S12.out.fact 0 rfl).1.more (S12.out.fact 0 rfl).2)).out.mono ?_
  rintro e w13 ⟨rfl, hB⟩
  have S13 := Lib.hid (S12.out.on hB)
  clear hB S12
  go_wp2
  go_ret
  exact ⟨rfl, S13.out.below⟩

theorem segmentSync_walk {E : World → Prop} (HS : Hid (SegK E)) (HC : Hid (PartedK E)) (sz fi : Int) (A : Option Addr) (n c : Nat) (fs : List Fil) (k : Int) (w : World) (hE : E w) (hA : FilsAt w w.heap.size A fs) (hn : n = fs.length) (hR : RoomyF A fs c) (hl : fs.length ≤ maxLen) (hz : ∀ f ∈ fs, f.kept.size ≤ maxLen ∧ f.loose.size ≤ maxLen) :
    Calls Try.prog 7 #[.agg #[.int .i64 sz, .int .i64 fi, .slice A n c], .int .i64 k] w fun e w' => e = .returned (.bool true) ∧ Below w.heap.size w w' := by
  subst hn
  have pf := fun W (h : FilsAt W W.heap.size A fs) => Lib.hid (far14_any sz fi A c fs none 0 [] W h hl hz (StrsAt.nil _ _ _) (Nat.zero_le _) (by simp))
  cases hf : far14B fs []
  case true => rw [hf] at pf; exact segmentSync_far HS sz fi A _ c fs k w hE hA pf
  rw [hf] at pf
  obtain ⟨⟨hl25, hz6⟩, _⟩ := far14B_no hf
  have hsm : Sg.small ⟨sz, fi, fs⟩ := ⟨by simp only; omega, fun f hf => by have := hz6 f hf; unfold Fi.small; omega⟩
  have hR0 := Lib.hid hR
  have KI := fun W A c (h : E W) hA (_ : RoomyF A fs c) => Lib.hid (HS.out.is ⟨sz, fi, fs⟩ A fs.length c W h hsm hA rfl)
  have KR := fun W A c (h : E W) hA (_ : RoomyF A fs c) => Lib.hid (HS.out.read ⟨sz, fi, fs⟩ A fs.length c W h hsm hA rfl)
  cases hi : Sg.is ⟨sz, fi, fs⟩
  · have e1 : Sg.sync ⟨sz, fi, fs⟩ = Sg.no := by unfold Sg.sync; rw [hi]; rfl
    have e2 : Sg.badE ⟨sz, fi, fs⟩ = 1 := by unfold Sg.badE; rw [hi]; rfl
    have KY := fun W A c (h : E W) hA (hR : RoomyF A fs c) => Lib.hid ((HS.out.sync ⟨sz, fi, fs⟩ A fs.length c W h hsm hA rfl hR).mono fun e w' hg => (hg.to e1 e2).rows (sz := 0) (fi := 0) (n := 0) (fs := []) rfl rfl rfl rfl)
    rw [hi] at KI
    exact segmentSync_no HS HC sz fi A _ c fs k w hE hA hR0 pf KY KI
  · obtain ⟨y1, y2⟩ := Sg.sync_is hi
    obtain ⟨t1, t2⟩ := Sg.sync_twice hi
    have e2 : Sg.badE ⟨sz, fi, fs⟩ = 0 := by unfold Sg.badE; rw [hi]; rfl
    have e3 : Sg.badE (Sg.sync ⟨sz, fi, fs⟩) = 0 := by unfold Sg.badE; rw [y2]; rfl
    have hs1 := Sg.fs_small y2
    obtain ⟨s1, hs1e⟩ : ∃ s1, s1 = Sg.sync ⟨sz, fi, fs⟩ := ⟨_, rfl⟩
    have htx : Sg.texts s1 = Sg.texts ⟨sz, fi, fs⟩ := by rw [hs1e]; exact Sg.sync_texts hi
    rw [← hs1e] at y1 y2 t1 t2 e3 hs1
    have f1 : s1.sz = sz := by rw [y1]
    have f2 : s1.fi = fi := by rw [y1]
    have KY := fun W A c (h : E W) hA (hR : RoomyF A fs c) => Lib.hid ((HS.out.sync ⟨sz, fi, fs⟩ A fs.length c W h hsm hA rfl hR).mono fun e w' hg => (hg.to hs1e.symm e2).rows f1 f2 rfl rfl)
    have KC := fun W A c (h : E W) hA (hR : RoomyF A s1.fs c) => Lib.hid ((HS.out.crash s1 A s1.fs.length c k W h hs1 hA rfl hR).mono fun e w' hg => (hg.to (t2 k) e3).rows f1 f2 rfl rfl)
    have KZ := fun W A c (h : E W) hA (hR : RoomyF A s1.fs c) => Lib.hid ((HS.out.sync s1 A s1.fs.length c W h hs1 hA rfl hR).mono fun e w' hg => (hg.to t1 e3).rows f1 f2 rfl rfl)
    have KR1 := fun W A c (h : E W) hA (_ : RoomyF A s1.fs c) => Lib.hid (HS.out.read s1 A s1.fs.length c W h hs1 hA rfl)
    rw [f1, f2] at KC KZ
    rw [f1, f2, htx, e3] at KR1
    rw [e2] at KR
    exact segmentSync_yes HS HC sz fi A _ c fs k w hE hA hR0 s1.fs.length s1.fs _ _ pf KY KC KZ KR KR1 (same14 sz fi s1.fs _ rfl (Nat.le_trans hs1.1 (by unfold maxLen; decide))) (texts14 _ _ rfl (Sg.texts_len _))
end Go.Proofs.Ytlnchfnmpamliaa
