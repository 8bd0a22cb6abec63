/-
  Layer 14 (segment): the law SegmentMend, over the structure (printed by tools/gen-segsync.py).
-/
import Derived.Test.YtlnchfnmpamliaaXJb
namespace Go.Proofs.Ytlnchfnmpamliaa
set_option maxRecDepth 10000
open Go.RowKit

set_option maxHeartbeats 4000000 in
theorem segmentMend_far {E : World → Prop} (HS : Hid (SegK E)) (sz fi : Int) (A : Option Addr) (n c : Nat) (fs : List Fil) (w : World) (hE : E w) (hA : FilsAt w w.heap.size A fs)
    (pf : ∀ (W : World) (_hA : FilsAt W W.heap.size A fs), Hid (Calls Try.prog 9 #[.agg #[.int .i64 sz, .int .i64 fi, .slice A n c], .slice none 0 0] W fun e w' => e = .returned (.bool true) ∧ Below W.heap.size W w')) :
    Calls Try.prog 6 #[.agg #[.int .i64 sz, .int .i64 fi, .slice A n c]] w fun e w' => e = .returned (.bool true) ∧ Below w.heap.size w w' := by
  have S0 := Lib.hid ((((St.start w).more (filF14 A w.heap.size fs) ⟨hA, Nat.le_refl _⟩).more (eSg HS) hE).new #[.int .i64 sz, .int .i64 fi, .slice A n c] 25)
  clear hE hA
  go_enter Try.func6, Try.ntmps6
  go_wp2_with (refine wpList_load_st rfl 25 _ rfl S0.out 0 _ _ rfl rfl _ Try.underlying25 rfl (by rfl) ?_)
  refine (pf _ ((S0.out.fact 1 rfl).1.more (S0.out.fact 1 rfl).2)).out.mono ?_
  rintro e w1 ⟨rfl, hB⟩
  have S1 := Lib.hid (S0.out.on hB)
  clear hB S0
  clear pf
  obtain ⟨p0, hp0⟩ : ∃ p, p = w.heap.size := ⟨_, rfl⟩
  rw [← hp0] at S1 ⊢
  clear hp0
  go_wp2
  go_ret
  exact ⟨rfl, S1.out.below⟩

set_option maxHeartbeats 4000000 in
theorem segmentMend_no {E : World → Prop} (HS : Hid (SegK E)) (HC : Hid (PartedK E)) (sz fi : Int) (A : Option Addr) (n c : Nat) (fs : List Fil) (w : World) (hE : E w) (hA : FilsAt w w.heap.size A fs) (hR0 : Hid (RoomyF A fs c))
    (pf : ∀ (W : World) (_hA : FilsAt W W.heap.size A fs), Hid (Calls Try.prog 9 #[.agg #[.int .i64 sz, .int .i64 fi, .slice A n c], .slice none 0 0] W fun e w' => e = .returned (.bool false) ∧ Below W.heap.size W w'))
    (KM : ∀ (W : World) (A : Option Addr) (c : Nat) (_h : E W) (_hA : FilsAt W W.heap.size A fs) (_hR : RoomyF A fs c), Hid (Calls Try.prog 18 #[.agg #[.int .i64 sz, .int .i64 fi, .slice A n c]] W fun e w' => ∃ A c, e = .returned (.tuple #[.agg #[.int .i64 0, .int .i64 0, .slice A 0 c], .int .i64 1]) ∧ FilsAt w' w'.heap.size A ([] : List Fil) ∧ RoomyF A ([] : List Fil) c ∧ Below W.heap.size W w'))
    (KI : ∀ (W : World) (A : Option Addr) (c : Nat) (_h : E W) (_hA : FilsAt W W.heap.size A fs) (_hR : RoomyF A fs c), Hid (Calls Try.prog 15 #[.agg #[.int .i64 sz, .int .i64 fi, .slice A n c]] W fun e w' => e = .returned (.bool false) ∧ Below W.heap.size W w')) :
    Calls Try.prog 6 #[.agg #[.int .i64 sz, .int .i64 fi, .slice A n c]] w fun e w' => e = .returned (.bool true) ∧ Below w.heap.size w w' := by
  have S0 := Lib.hid ((((St.start w).more (filF14 A w.heap.size fs) ⟨hA, Nat.le_refl _⟩).more (eSg HS) hE).new #[.int .i64 sz, .int .i64 fi, .slice A n c] 25)
  clear hE hA
  go_enter Try.func6, Try.ntmps6
  go_wp2_with (refine wpList_load_st rfl 25 _ rfl S0.out 0 _ _ rfl rfl _ Try.underlying25 rfl (by rfl) ?_)
  refine (pf _ ((S0.out.fact 1 rfl).1.more (S0.out.fact 1 rfl).2)).out.mono ?_
  rintro e w1 ⟨rfl, hB⟩
  have S1 := Lib.hid (S0.out.on hB)
  clear hB S0
  clear pf
  obtain ⟨p0, hp0⟩ : ∃ p, p = w.heap.size := ⟨_, rfl⟩
  rw [← hp0] at S1 ⊢
  clear hp0
  go_wp2_with (refine wpList_load_st rfl 25 _ rfl S1.out 0 _ _ rfl rfl _ Try.underlying25 rfl (by rfl) ?_)
  refine (KM _ A c (S1.out.fact 0 rfl) ((S1.out.fact 1 rfl).1.more (S1.out.fact 1 rfl).2) hR0.out).out.mono ?_
  rintro e w2 ⟨Ax, cx, rfl, hT, hR, hB⟩
  have S2 := Lib.hid ((S1.out.on hB).more (filF14 Ax w2.heap.size ([] : List Fil)) ⟨hT, Nat.le_refl _⟩)
  have HRx := Lib.hid hR
  clear hB hT hR S1
  obtain ⟨Bx, hBe⟩ : ∃ b, b = w2.heap.size := ⟨_, rfl⟩
  rw [← hBe] at S2
  clear hBe
  go_wp2_with (refine wpList_store_st rfl 25 _ _ rfl S2.out _ #[.int .i64 0, .int .i64 0, .slice Ax 0 cx] _ rfl rfl (by rfl) rfl (seg_one14 _ _ _ _ _) ?_; intro b1 w3 hp hS hBn; (try rw [← hp]); have S3 := Lib.hid hS; clear hS hp hBn)
  refine (Lib.hid (HC.out _ (S3.out.fact 1 rfl))).out.mono ?_
  rintro e w4 ⟨rfl, hB⟩
  have S4 := Lib.hid (S3.out.on hB)
  clear hB S3
  go_wp2_with (refine wpList_loadg_st (by rfl) 25 _ rfl S4.out 1 _ _ rfl rfl _ Try.underlying25 rfl (by rfl) ?_)
  refine (KI _ A c (S4.out.fact 1 rfl) ((S4.out.fact 2 rfl).1.more (S4.out.fact 2 rfl).2) hR0.out).out.mono ?_
  rintro e w5 ⟨rfl, hB⟩
  have S5 := Lib.hid (S4.out.on hB)
  clear hB S4
  go_wp2
  go_ret
  exact ⟨rfl, S5.out.below⟩

set_option maxHeartbeats 4000000 in
theorem segmentMend_yes {E : World → Prop} (HS : Hid (SegK E)) (HC : Hid (PartedK E)) (sz fi : Int) (A : Option Addr) (n c : Nat) (fs : List Fil) (w : World) (hE : E w) (hA : FilsAt w w.heap.size A fs) (hR0 : Hid (RoomyF A fs c)) (n1 : Nat) (fs1 : List Fil) (L : Nat) (ts : List ByteArray)
    (pf : ∀ (W : World) (_hA : FilsAt W W.heap.size A fs), Hid (Calls Try.prog 9 #[.agg #[.int .i64 sz, .int .i64 fi, .slice A n c], .slice none 0 0] W fun e w' => e = .returned (.bool false) ∧ Below W.heap.size W w'))
    (KM : ∀ (W : World) (A : Option Addr) (c : Nat) (_h : E W) (_hA : FilsAt W W.heap.size A fs) (_hR : RoomyF A fs c), Hid (Calls Try.prog 18 #[.agg #[.int .i64 sz, .int .i64 fi, .slice A n c]] W fun e w' => ∃ A c, e = .returned (.tuple #[.agg #[.int .i64 sz, .int .i64 fi, .slice A n1 c], .int .i64 0]) ∧ FilsAt w' w'.heap.size A fs1 ∧ RoomyF A fs1 c ∧ Below W.heap.size W w'))
    (KM1 : ∀ (W : World) (A : Option Addr) (c : Nat) (_h : E W) (_hA : FilsAt W W.heap.size A fs1) (_hR : RoomyF A fs1 c), Hid (Calls Try.prog 18 #[.agg #[.int .i64 sz, .int .i64 fi, .slice A n1 c]] W fun e w' => ∃ A c, e = .returned (.tuple #[.agg #[.int .i64 sz, .int .i64 fi, .slice A n1 c], .int .i64 0]) ∧ FilsAt w' w'.heap.size A fs1 ∧ RoomyF A fs1 c ∧ Below W.heap.size W w'))
    (KA : ∀ (W : World) (A : Option Addr) (c : Nat) (_h : E W) (_hA : FilsAt W W.heap.size A fs1) (_hR : RoomyF A fs1 c), Hid (Calls Try.prog 11 #[.agg #[.int .i64 sz, .int .i64 fi, .slice A n1 c], .slice none 0 0] W fun e w' => ∃ A c, e = .returned (.tuple #[.agg #[.int .i64 sz, .int .i64 fi, .slice A n1 c], .int .i64 0]) ∧ FilsAt w' w'.heap.size A fs1 ∧ RoomyF A fs1 c ∧ Below W.heap.size W w'))
    (KR : ∀ (W : World) (A : Option Addr) (c : Nat) (_h : E W) (_hA : FilsAt W W.heap.size A fs) (_hR : RoomyF A fs c), Hid (Calls Try.prog 12 #[.agg #[.int .i64 sz, .int .i64 fi, .slice A n c]] W fun e w' => ∃ A c, e = .returned (.tuple #[.slice A L c, .int .i64 0]) ∧ StrsAt w' w'.heap.size A ts ∧ L ≤ c ∧ Below W.heap.size W w'))
    (KR1 : ∀ (W : World) (A : Option Addr) (c : Nat) (_h : E W) (_hA : FilsAt W W.heap.size A fs1) (_hR : RoomyF A fs1 c), Hid (Calls Try.prog 12 #[.agg #[.int .i64 sz, .int .i64 fi, .slice A n1 c]] W fun e w' => ∃ A c, e = .returned (.tuple #[.slice A L c, .int .i64 0]) ∧ StrsAt w' w'.heap.size A ts ∧ L ≤ c ∧ Below W.heap.size W w'))
    (KS : ∀ (W : World) (A B : Option Addr) (c d : Nat) (_hA : FilsAt W W.heap.size A fs1) (_hB : FilsAt W W.heap.size B fs1), Hid (Calls Try.prog 13 #[.agg #[.int .i64 sz, .int .i64 fi, .slice A n1 c], .agg #[.int .i64 sz, .int .i64 fi, .slice B n1 d]] W fun e w' => e = .returned (.bool true) ∧ Below W.heap.size W w'))
    (KT : ∀ (W : World) (A B : Option Addr) (c d : Nat) (_hA : StrsAt W W.heap.size A ts) (_hB : StrsAt W W.heap.size B ts), Hid (Calls Try.prog 14 #[.slice A L c, .slice B L d] W fun e w' => e = .returned (.bool true) ∧ Below W.heap.size W w'))
    (KI1 : ∀ (W : World) (A : Option Addr) (c : Nat) (_h : E W) (_hA : FilsAt W W.heap.size A fs1) (_hR : RoomyF A fs1 c), Hid (Calls Try.prog 15 #[.agg #[.int .i64 sz, .int .i64 fi, .slice A n1 c]] W fun e w' => e = .returned (.bool true) ∧ Below W.heap.size W w')) :
    Calls Try.prog 6 #[.agg #[.int .i64 sz, .int .i64 fi, .slice A n c]] w fun e w' => e = .returned (.bool true) ∧ Below w.heap.size w w' := by
  have S0 := Lib.hid ((((St.start w).more (filF14 A w.heap.size fs) ⟨hA, Nat.le_refl _⟩).more (eSg HS) hE).new #[.int .i64 sz, .int .i64 fi, .slice A n c] 25)
  clear hE hA
  go_enter Try.func6, Try.ntmps6
  go_wp2_with (refine wpList_load_st rfl 25 _ rfl S0.out 0 _ _ rfl rfl _ Try.underlying25 rfl (by rfl) ?_)
  refine (pf _ ((S0.out.fact 1 rfl).1.more (S0.out.fact 1 rfl).2)).out.mono ?_
  rintro e w1 ⟨rfl, hB⟩
  have S1 := Lib.hid (S0.out.on hB)
  clear hB S0
  clear pf
  obtain ⟨p0, hp0⟩ : ∃ p, p = w.heap.size := ⟨_, rfl⟩
  rw [← hp0] at S1 ⊢
  clear hp0
  go_wp2_with (refine wpList_load_st rfl 25 _ rfl S1.out 0 _ _ rfl rfl _ Try.underlying25 rfl (by rfl) ?_)
  refine (KM _ A c (S1.out.fact 0 rfl) ((S1.out.fact 1 rfl).1.more (S1.out.fact 1 rfl).2) hR0.out).out.mono ?_
  rintro e w2 ⟨Ax, cx, rfl, hT, hR, hB⟩
  have S2 := Lib.hid ((S1.out.on hB).more (filF14 Ax w2.heap.size fs1) ⟨hT, Nat.le_refl _⟩)
  have HRx := Lib.hid hR
  clear hB hT hR S1
  obtain ⟨Bx, hBe⟩ : ∃ b, b = w2.heap.size := ⟨_, rfl⟩
  rw [← hBe] at S2
  clear hBe
  go_wp2_with (first
    | (refine wpList_store_st rfl 25 _ _ rfl S2.out _ #[.int .i64 sz, .int .i64 fi, .slice Ax n1 cx] _ rfl rfl (by rfl) rfl (seg_one14 _ _ _ _ _) ?_; intro b1 w3 hp hS hBn; (try rw [← hp]); have S3 := Lib.hid hS; clear hS hp hBn)
    | (refine wpList_load_st rfl 25 _ rfl S3.out 1 _ _ rfl rfl _ Try.underlying25 rfl (by rfl) ?_))
  refine (KR _ A c (S3.out.fact 1 rfl) ((S3.out.fact 2 rfl).1.more (S3.out.fact 2 rfl).2) hR0.out).out.mono ?_
  rintro e w4 ⟨At, ct, rfl, hT, _, hB⟩
  have S4 := Lib.hid ((S3.out.on hB).more (strsF14 At w4.heap.size ts) ⟨hT, Nat.le_refl _⟩)
  clear hB hT S3
  obtain ⟨Bt, hBe⟩ : ∃ b, b = w4.heap.size := ⟨_, rfl⟩
  rw [← hBe] at S4
  clear hBe
  go_wp2_with (refine wpList_load_st rfl 25 _ rfl S4.out 0 _ _ rfl rfl _ Try.underlying25 rfl (by rfl) ?_)
  refine (KR1 _ Ax cx (S4.out.fact 2 rfl) ((S4.out.fact 1 rfl).1.more (S4.out.fact 1 rfl).2) HRx.out).out.mono ?_
  rintro e w5 ⟨Au, cu, rfl, hT, _, hB⟩
  have S5 := Lib.hid ((S4.out.on hB).more (strsF14 Au w5.heap.size ts) ⟨hT, Nat.le_refl _⟩)
  clear hB hT S4
  obtain ⟨Bu, hBe⟩ : ∃ b, b = w5.heap.size := ⟨_, rfl⟩
  rw [← hBe] at S5
  clear hBe
  go_wp2_with (refine wpList_load_st rfl 25 _ rfl S5.out 0 _ _ rfl rfl _ Try.underlying25 rfl (by rfl) ?_)
  refine (KM1 _ Ax cx (S5.out.fact 3 rfl) ((S5.out.fact 2 rfl).1.more (S5.out.fact 2 rfl).2) HRx.out).out.mono ?_
  rintro e w6 ⟨Ay, cy, rfl, hT, hR, hB⟩
  have S6 := Lib.hid ((S5.out.on hB).more (filF14 Ay w6.heap.size fs1) ⟨hT, Nat.le_refl _⟩)
  have HRy := Lib.hid hR
  clear hB hT hR S5
  obtain ⟨By, hBe⟩ : ∃ b, b = w6.heap.size := ⟨_, rfl⟩
  rw [← hBe] at S6
  clear hBe
  go_wp2_with (first
    | (refine wpList_store_st rfl 25 _ _ rfl S6.out _ #[.int .i64 sz, .int .i64 fi, .slice Ay n1 cy] _ rfl rfl (by rfl) rfl (seg_one14 _ _ _ _ _) ?_; intro b2 w7 hp hS hBn; (try rw [← hp]); have S7 := Lib.hid hS; clear hS hp hBn)
    | (refine wpList_load_st rfl 25 _ rfl S7.out 1 _ _ rfl rfl _ Try.underlying25 rfl (by rfl) ?_))
  refine (KA _ Ax cx (S7.out.fact 4 rfl) ((S7.out.fact 3 rfl).1.more (S7.out.fact 3 rfl).2) HRx.out).out.mono ?_
  rintro e w8 ⟨Az, cz, rfl, hT, hR, hB⟩
  have S8 := Lib.hid ((S7.out.on hB).more (filF14 Az w8.heap.size fs1) ⟨hT, Nat.le_refl _⟩)
  have HRz := Lib.hid hR
  clear hB hT hR S7
  obtain ⟨Bz, hBe⟩ : ∃ b, b = w8.heap.size := ⟨_, rfl⟩
  rw [← hBe] at S8
  clear hBe
  go_wp2_with (refine wpList_store_st rfl 25 _ _ rfl S8.out _ #[.int .i64 sz, .int .i64 fi, .slice Az n1 cz] _ rfl rfl (by rfl) rfl (seg_one14 _ _ _ _ _) ?_; intro b3 w9 hp hS hBn; (try rw [← hp]); have S9 := Lib.hid hS; clear hS hp hBn)
  refine (Lib.hid (HC.out _ (S9.out.fact 5 rfl))).out.mono ?_
  rintro e w10 ⟨rfl, hB⟩
  have S10 := Lib.hid (S9.out.on hB)
  clear hB S9
  go_wp2_with fail
  refine (KT _ At Au ct cu ((S10.out.fact 3 rfl).1.more (S10.out.fact 3 rfl).2) ((S10.out.fact 2 rfl).1.more (S10.out.fact 2 rfl).2)).out.mono ?_
  rintro e w11 ⟨rfl, hB⟩
  have S11 := Lib.hid (S10.out.on hB)
  clear hB S10
  go_wp2_with (first
    | (refine wpList_loadg_st (by rfl) 25 _ rfl S11.out 2 _ _ rfl rfl _ Try.underlying25 rfl (by rfl) ?_)
    | (refine wpList_loadg_st (by rfl) 25 _ rfl S11.out 1 _ _ rfl rfl _ Try.underlying25 rfl (by rfl) ?_))
  refine (KS _ Ax Ay cx cy ((S11.out.fact 4 rfl).1.more (S11.out.fact 4 rfl).2) ((S11.out.fact 1 rfl).1.more (S11.out.fact 1 rfl).2)).out.mono ?_
  rintro e w12 ⟨rfl, hB⟩
  have S12 := Lib.hid (S11.out.on hB)
  clear hB S11
  go_wp2_with (refine wpList_loadg_st (by rfl) 25 _ rfl S12.out 2 _ _ rfl rfl _ Try.underlying25 rfl (by rfl) ?_)
  refine (KI1 _ Ax cx (S12.out.fact 5 rfl) ((S12.out.fact 4 rfl).1.more (S12.out.fact 4 rfl).2) HRx.out).out.mono ?_
  rintro e w13 ⟨rfl, hB⟩
  have S13 := Lib.hid (S12.out.on hB)
  clear hB S12
  go_wp2
  go_ret
  exact ⟨rfl, S13.out.below⟩

theorem segmentMend_walk {E : World → Prop} (HS : Hid (SegK E)) (HC : Hid (PartedK E)) (sz fi : Int) (A : Option Addr) (n c : Nat) (fs : List Fil) (w : World) (hE : E w) (hA : FilsAt w w.heap.size A fs) (hn : n = fs.length) (hR : RoomyF A fs c) (hl : fs.length ≤ maxLen) (hz : ∀ f ∈ fs, f.kept.size ≤ maxLen ∧ f.loose.size ≤ maxLen) :
    Calls Try.prog 6 #[.agg #[.int .i64 sz, .int .i64 fi, .slice A n c]] w fun e w' => e = .returned (.bool true) ∧ Below w.heap.size w w' := by
  subst hn
  have pf := fun W (h : FilsAt W W.heap.size A fs) => Lib.hid (far14_any sz fi A c fs none 0 [] W h hl hz (StrsAt.nil _ _ _) (Nat.zero_le _) (by simp))
  cases hf : far14B fs []
  case true => rw [hf] at pf; exact segmentMend_far HS sz fi A _ c fs w hE hA pf
  rw [hf] at pf
  obtain ⟨⟨hl25, hz6⟩, _⟩ := far14B_no hf
  have hsm : Sg.small ⟨sz, fi, fs⟩ := ⟨by simp only; omega, fun f hf => by have := hz6 f hf; unfold Fi.small; omega⟩
  have hR0 := Lib.hid hR
  have KI := fun W A c (h : E W) hA (_ : RoomyF A fs c) => Lib.hid (HS.out.is ⟨sz, fi, fs⟩ A fs.length c W h hsm hA rfl)
  have KR := fun W A c (h : E W) hA (_ : RoomyF A fs c) => Lib.hid (HS.out.read ⟨sz, fi, fs⟩ A fs.length c W h hsm hA rfl)
  cases hi : Sg.is ⟨sz, fi, fs⟩
  · have e1 : Sg.mend ⟨sz, fi, fs⟩ = Sg.no := by unfold Sg.mend; rw [hi]; rfl
    have e2 : Sg.badE ⟨sz, fi, fs⟩ = 1 := by unfold Sg.badE; rw [hi]; rfl
    have KM := fun W A c (h : E W) hA (hR : RoomyF A fs c) => Lib.hid ((HS.out.mend ⟨sz, fi, fs⟩ A fs.length c W h hsm hA rfl hR).mono fun e w' hg => (hg.to e1 e2).rows (sz := 0) (fi := 0) (n := 0) (fs := []) rfl rfl rfl rfl)
    rw [hi] at KI
    exact segmentMend_no HS HC sz fi A _ c fs w hE hA hR0 pf KM KI
  · obtain ⟨y1, y2⟩ := Sg.mend_is hi
    have t1 := Sg.mend_twice hi
    have t2 := Sg.mend_adds hi
    have e2 : Sg.badE ⟨sz, fi, fs⟩ = 0 := by unfold Sg.badE; rw [hi]; rfl
    have e3 : Sg.badE (Sg.mend ⟨sz, fi, fs⟩) = 0 := by unfold Sg.badE; rw [y2]; rfl
    have hs1 := Sg.fs_small y2
    obtain ⟨s1, hs1e⟩ : ∃ s1, s1 = Sg.mend ⟨sz, fi, fs⟩ := ⟨_, rfl⟩
    have htx : Sg.texts s1 = Sg.texts ⟨sz, fi, fs⟩ := by rw [hs1e]; exact Sg.mend_texts hi
    rw [← hs1e] at y1 y2 t1 t2 e3 hs1
    have f1 : s1.sz = sz := by rw [y1]
    have f2 : s1.fi = fi := by rw [y1]
    have KM := fun W A c (h : E W) hA (hR : RoomyF A fs c) => Lib.hid ((HS.out.mend ⟨sz, fi, fs⟩ A fs.length c W h hsm hA rfl hR).mono fun e w' hg => (hg.to hs1e.symm e2).rows f1 f2 rfl rfl)
    have KM1 := fun W A c (h : E W) hA (hR : RoomyF A s1.fs c) => Lib.hid ((HS.out.mend s1 A s1.fs.length c W h hs1 hA rfl hR).mono fun e w' hg => (hg.to t1 e3).rows f1 f2 rfl rfl)
    have KA := fun W A c (h : E W) hA (hR : RoomyF A s1.fs c) => Lib.hid ((HS.out.add s1 A s1.fs.length c none 0 0 [] W h hs1 hA rfl hR (StrsAt.nil _ _ _) rfl (by decide) (Nat.le_refl _) (by simp)).mono fun e w' hg => (hg.to t2.2 t2.1).rows f1 f2 rfl rfl)
    have KR1 := fun W A c (h : E W) hA (_ : RoomyF A s1.fs c) => Lib.hid (HS.out.read s1 A s1.fs.length c W h hs1 hA rfl)
    have KI1 := fun W A c (h : E W) hA (_ : RoomyF A s1.fs c) => Lib.hid (HS.out.is s1 A s1.fs.length c W h hs1 hA rfl)
    rw [f1, f2] at KM1 KA
    rw [f1, f2, htx, e3] at KR1
    rw [f1, f2, y2] at KI1
    rw [e2] at KR
    exact segmentMend_yes HS HC sz fi A _ c fs w hE hA hR0 s1.fs.length s1.fs _ _ pf KM KM1 KA KR KR1 (same14 sz fi s1.fs _ rfl (Nat.le_trans hs1.1 (by unfold maxLen; decide))) (texts14 _ _ rfl (Sg.texts_len _)) KI1
end Go.Proofs.Ytlnchfnmpamliaa
