/-
  Layer 14 (segment): the law SegmentBack, over the structure (printed by tools/gen-segback.py).
-/
import Derived.Test.YtlnchfnmpamliaaXJb
import Derived.Test.YtlnchfnmpamliaaXJd
import Derived.Deep.Cut
namespace Go.Proofs.Ytlnchfnmpamliaa
set_option maxRecDepth 10000
open Go.RowKit

set_option maxHeartbeats 4000000 in
theorem segmentBack_new {E : World → Prop} (HS : Hid (SegK E)) (HC : Hid (PartedK E)) (size first : Int) (A1 : Option Addr) (N1 cap1 : Nat) (l : List ByteArray) (A2 : Option Addr) (N2 cap2 : Nat) (r : List ByteArray) (w : World) (hE : E w) (hA1 : StrsAt w w.heap.size A1 l) (hA2 : StrsAt w w.heap.size A2 r) 
    (KN : ∀ (W : World) (_h : E W), Hid (Calls Try.prog 8 #[.int .i64 size, .int .i64 first] W fun e w' => ∃ A c, e = .returned (.tuple #[.agg #[.int .i64 0, .int .i64 0, .slice A 0 c], .int .i64 1]) ∧ FilsAt w' w'.heap.size A ([] : List Fil) ∧ RoomyF A ([] : List Fil) c ∧ Below W.heap.size W w')) :
    Calls Try.prog 3 #[.int .i64 size, .int .i64 first, .slice A1 N1 cap1, .slice A2 N2 cap2] w fun e w' => e = .returned (.bool true) ∧ Below w.heap.size w w' := by
  have S0 := Lib.hid ((((St.start w).more (strsF14 A2 w.heap.size r) ⟨hA2, Nat.le_refl _⟩).more (strsF14 A1 w.heap.size l) ⟨hA1, Nat.le_refl _⟩).more (eSg HS) hE)
  clear hE hA1 hA2
  go_enter Try.func3, Try.ntmps3
  go_wp2_with fail
  refine (KN _ (S0.out.fact 0 rfl)).out.mono ?_
  rintro e w1 ⟨Af, cf, rfl, hT, hR, hB⟩
  have S1 := Lib.hid ((S0.out.on hB).more (filF14 Af w1.heap.size ([] : List Fil)) ⟨hT, Nat.le_refl _⟩)
  have HRf := Lib.hid hR
  clear hB hT hR S0
  obtain ⟨Bf, hBe⟩ : ∃ b, b = w1.heap.size := ⟨_, rfl⟩
  rw [← hBe] at S1
  clear hBe
  go_wp2_with (refine wpList_store_st rfl 25 _ _ rfl S1.out _ #[.int .i64 0, .int .i64 0, .slice Af 0 cf] _ rfl rfl (by rfl) rfl (seg_one14 _ _ _ _ _) ?_; intro b0 w2 hp hS hBn; (try rw [← hp]); have S2 := Lib.hid hS; clear hS hp hBn)
  refine (Lib.hid (HC.out _ (S2.out.fact 1 rfl))).out.mono ?_
  rintro e w3 ⟨rfl, hB⟩
  have S3 := Lib.hid (S2.out.on hB)
  clear hB S2
  go_wp2
  go_ret
  exact ⟨rfl, S3.out.below⟩

set_option maxHeartbeats 4000000 in
theorem segmentBack_far1 {E : World → Prop} (HS : Hid (SegK E)) (HC : Hid (PartedK E)) (size first : Int) (A1 : Option Addr) (N1 cap1 : Nat) (l : List ByteArray) (A2 : Option Addr) (N2 cap2 : Nat) (r : List ByteArray) (w : World) (hE : E w) (hA1 : StrsAt w w.heap.size A1 l) (hA2 : StrsAt w w.heap.size A2 r) (sz fi : Int) (n0 : Nat) (fs0 : List Fil)
    (KN : ∀ (W : World) (_h : E W), Hid (Calls Try.prog 8 #[.int .i64 size, .int .i64 first] W fun e w' => ∃ A c, e = .returned (.tuple #[.agg #[.int .i64 sz, .int .i64 fi, .slice A n0 c], .int .i64 0]) ∧ FilsAt w' w'.heap.size A fs0 ∧ RoomyF A fs0 c ∧ Below W.heap.size W w'))
    (pf1 : ∀ (W : World) (A : Option Addr) (c : Nat) (_hA : FilsAt W W.heap.size A fs0) (_hB : StrsAt W W.heap.size A1 l), Hid (Calls Try.prog 9 #[.agg #[.int .i64 sz, .int .i64 fi, .slice A n0 c], .slice A1 N1 cap1] W fun e w' => e = .returned (.bool true) ∧ Below W.heap.size W w')) :
    Calls Try.prog 3 #[.int .i64 size, .int .i64 first, .slice A1 N1 cap1, .slice A2 N2 cap2] w fun e w' => e = .returned (.bool true) ∧ Below w.heap.size w w' := by
  have S0 := Lib.hid ((((St.start w).more (strsF14 A2 w.heap.size r) ⟨hA2, Nat.le_refl _⟩).more (strsF14 A1 w.heap.size l) ⟨hA1, Nat.le_refl _⟩).more (eSg HS) hE)
  clear hE hA1 hA2
  go_enter Try.func3, Try.ntmps3
  go_wp2_with fail
  refine (KN _ (S0.out.fact 0 rfl)).out.mono ?_
  rintro e w1 ⟨Af, cf, rfl, hT, hR, hB⟩
  have S1 := Lib.hid ((S0.out.on hB).more (filF14 Af w1.heap.size fs0) ⟨hT, Nat.le_refl _⟩)
  have HRf := Lib.hid hR
  clear hB hT hR S0
  obtain ⟨Bf, hBe⟩ : ∃ b, b = w1.heap.size := ⟨_, rfl⟩
  rw [← hBe] at S1
  clear hBe
  go_wp2_with (first
    | (refine wpList_store_st rfl 25 _ _ rfl S1.out _ #[.int .i64 sz, .int .i64 fi, .slice Af n0 cf] _ rfl rfl (by rfl) rfl (seg_one14 _ _ _ _ _) ?_; intro b0 w2 hp hS hBn; (try rw [← hp]); have S2 := Lib.hid hS; clear hS hp hBn)
    | (refine wpList_loadg_st (by rfl) 25 _ rfl S2.out 0 _ _ rfl rfl _ Try.underlying25 rfl (by rfl) ?_))
  refine (pf1 _ Af cf ((S2.out.fact 0 rfl).1.more (S2.out.fact 0 rfl).2) ((S2.out.fact 2 rfl).1.more (S2.out.fact 2 rfl).2)).out.mono ?_
  rintro e w3 ⟨rfl, hB⟩
  have S3 := Lib.hid (S2.out.on hB)
  clear hB S2
  go_wp2_with fail
  refine (Lib.hid (HC.out _ (S3.out.fact 1 rfl))).out.mono ?_
  rintro e w4 ⟨rfl, hB⟩
  have S4 := Lib.hid (S3.out.on hB)
  clear hB S3
  go_wp2
  go_ret
  exact ⟨rfl, S4.out.below⟩

set_option maxHeartbeats 4000000 in
theorem segmentBack_far2 {E : World → Prop} (HS : Hid (SegK E)) (HC : Hid (PartedK E)) (size first : Int) (A1 : Option Addr) (N1 cap1 : Nat) (l : List ByteArray) (A2 : Option Addr) (N2 cap2 : Nat) (r : List ByteArray) (w : World) (hE : E w) (hA1 : StrsAt w w.heap.size A1 l) (hA2 : StrsAt w w.heap.size A2 r) (sz fi : Int) (n0 : Nat) (fs0 : List Fil)
    (KN : ∀ (W : World) (_h : E W), Hid (Calls Try.prog 8 #[.int .i64 size, .int .i64 first] W fun e w' => ∃ A c, e = .returned (.tuple #[.agg #[.int .i64 sz, .int .i64 fi, .slice A n0 c], .int .i64 0]) ∧ FilsAt w' w'.heap.size A fs0 ∧ RoomyF A fs0 c ∧ Below W.heap.size W w'))
    (pf1 : ∀ (W : World) (A : Option Addr) (c : Nat) (_hA : FilsAt W W.heap.size A fs0) (_hB : StrsAt W W.heap.size A1 l), Hid (Calls Try.prog 9 #[.agg #[.int .i64 sz, .int .i64 fi, .slice A n0 c], .slice A1 N1 cap1] W fun e w' => e = .returned (.bool false) ∧ Below W.heap.size W w'))
    (pf2 : ∀ (W : World) (A : Option Addr) (c : Nat) (_hA : FilsAt W W.heap.size A fs0) (_hB : StrsAt W W.heap.size A2 r), Hid (Calls Try.prog 9 #[.agg #[.int .i64 sz, .int .i64 fi, .slice A n0 c], .slice A2 N2 cap2] W fun e w' => e = .returned (.bool true) ∧ Below W.heap.size W w')) :
    Calls Try.prog 3 #[.int .i64 size, .int .i64 first, .slice A1 N1 cap1, .slice A2 N2 cap2] w fun e w' => e = .returned (.bool true) ∧ Below w.heap.size w w' := by
  have S0 := Lib.hid ((((St.start w).more (strsF14 A2 w.heap.size r) ⟨hA2, Nat.le_refl _⟩).more (strsF14 A1 w.heap.size l) ⟨hA1, Nat.le_refl _⟩).more (eSg HS) hE)
  clear hE hA1 hA2
  go_enter Try.func3, Try.ntmps3
  go_wp2_with fail
  refine (KN _ (S0.out.fact 0 rfl)).out.mono ?_
  rintro e w1 ⟨Af, cf, rfl, hT, hR, hB⟩
  have S1 := Lib.hid ((S0.out.on hB).more (filF14 Af w1.heap.size fs0) ⟨hT, Nat.le_refl _⟩)
  have HRf := Lib.hid hR
  clear hB hT hR S0
  obtain ⟨Bf, hBe⟩ : ∃ b, b = w1.heap.size := ⟨_, rfl⟩
  rw [← hBe] at S1
  clear hBe
  go_wp2_with (first
    | (refine wpList_store_st rfl 25 _ _ rfl S1.out _ #[.int .i64 sz, .int .i64 fi, .slice Af n0 cf] _ rfl rfl (by rfl) rfl (seg_one14 _ _ _ _ _) ?_; intro b0 w2 hp hS hBn; (try rw [← hp]); have S2 := Lib.hid hS; clear hS hp hBn)
    | (refine wpList_loadg_st (by rfl) 25 _ rfl S2.out 0 _ _ rfl rfl _ Try.underlying25 rfl (by rfl) ?_))
  refine (pf1 _ Af cf ((S2.out.fact 0 rfl).1.more (S2.out.fact 0 rfl).2) ((S2.out.fact 2 rfl).1.more (S2.out.fact 2 rfl).2)).out.mono ?_
  rintro e w3 ⟨rfl, hB⟩
  have S3 := Lib.hid (S2.out.on hB)
  clear hB S2
  go_wp2_with (refine wpList_loadg_st (by rfl) 25 _ rfl S3.out 0 _ _ rfl rfl _ Try.underlying25 rfl (by rfl) ?_)
  refine (pf2 _ Af cf ((S3.out.fact 0 rfl).1.more (S3.out.fact 0 rfl).2) ((S3.out.fact 3 rfl).1.more (S3.out.fact 3 rfl).2)).out.mono ?_
  rintro e w4 ⟨rfl, hB⟩
  have S4 := Lib.hid (S3.out.on hB)
  clear hB S3
  go_wp2_with fail
  refine (Lib.hid (HC.out _ (S4.out.fact 1 rfl))).out.mono ?_
  rintro e w5 ⟨rfl, hB⟩
  have S5 := Lib.hid (S4.out.on hB)
  clear hB S4
  go_wp2
  go_ret
  exact ⟨rfl, S5.out.below⟩

set_option maxHeartbeats 4000000 in
theorem segmentBack_bad1 {E : World → Prop} (HS : Hid (SegK E)) (HC : Hid (PartedK E)) (size first : Int) (A1 : Option Addr) (N1 cap1 : Nat) (l : List ByteArray) (A2 : Option Addr) (N2 cap2 : Nat) (r : List ByteArray) (w : World) (hE : E w) (hA1 : StrsAt w w.heap.size A1 l) (hA2 : StrsAt w w.heap.size A2 r) (hN1 : N1 = l.length) (hN2 : N2 = r.length) (hl1 : N1 ≤ 25) (hl2 : N2 ≤ 25) (hnil1 : A1 = none → cap1 = 0) (hnil2 : A2 = none → cap2 = 0) (al : List ByteArray) (hal : l ++ r = al) (L : Nat) (hL : L = al.length) (sz fi : Int) (n0 : Nat) (fs0 : List Fil) (xn : Nat) (xfs : List Fil) (xs xf : Int) (yn : Nat) (yfs : List Fil) (ys yf : Int) (zn : Nat) (zfs : List Fil) (zs zf : Int) (ge he ze : Int) (jg : (ge != 0) = true) (jz : (ze != 0) = true)
    (KN : ∀ (W : World) (_h : E W), Hid (Calls Try.prog 8 #[.int .i64 size, .int .i64 first] W fun e w' => ∃ A c, e = .returned (.tuple #[.agg #[.int .i64 sz, .int .i64 fi, .slice A n0 c], .int .i64 0]) ∧ FilsAt w' w'.heap.size A fs0 ∧ RoomyF A fs0 c ∧ Below W.heap.size W w'))
    (pf1 : ∀ (W : World) (A : Option Addr) (c : Nat) (_hA : FilsAt W W.heap.size A fs0) (_hB : StrsAt W W.heap.size A1 l), Hid (Calls Try.prog 9 #[.agg #[.int .i64 sz, .int .i64 fi, .slice A n0 c], .slice A1 N1 cap1] W fun e w' => e = .returned (.bool false) ∧ Below W.heap.size W w'))
    (pf2 : ∀ (W : World) (A : Option Addr) (c : Nat) (_hA : FilsAt W W.heap.size A fs0) (_hB : StrsAt W W.heap.size A2 r), Hid (Calls Try.prog 9 #[.agg #[.int .i64 sz, .int .i64 fi, .slice A n0 c], .slice A2 N2 cap2] W fun e w' => e = .returned (.bool false) ∧ Below W.heap.size W w'))
    (KA : ∀ (W : World) (A : Option Addr) (c : Nat) (_h : E W) (_hA : FilsAt W W.heap.size A fs0) (_hR : RoomyF A fs0 c) (_hB : StrsAt W W.heap.size A1 l), Hid (Calls Try.prog 11 #[.agg #[.int .i64 sz, .int .i64 fi, .slice A n0 c], .slice A1 N1 cap1] W fun e w' => ∃ A c, e = .returned (.tuple #[.agg #[.int .i64 xs, .int .i64 xf, .slice A xn c], .int .i64 ge]) ∧ FilsAt w' w'.heap.size A xfs ∧ RoomyF A xfs c ∧ Below W.heap.size W w'))
    (KB : ∀ (W : World) (A : Option Addr) (c : Nat) (_h : E W) (_hA : FilsAt W W.heap.size A xfs) (_hR : RoomyF A xfs c) (_hB : StrsAt W W.heap.size A2 r), Hid (Calls Try.prog 11 #[.agg #[.int .i64 xs, .int .i64 xf, .slice A xn c], .slice A2 N2 cap2] W fun e w' => ∃ A c, e = .returned (.tuple #[.agg #[.int .i64 ys, .int .i64 yf, .slice A yn c], .int .i64 he]) ∧ FilsAt w' w'.heap.size A yfs ∧ RoomyF A yfs c ∧ Below W.heap.size W w'))
    (KZ : ∀ (W : World) (A : Option Addr) (c : Nat) (_h : E W) (_hA : FilsAt W W.heap.size A fs0) (_hR : RoomyF A fs0 c) (A3 : Option Addr) (c3 : Nat) (_hB : StrsAt W W.heap.size A3 al) (_hc : L ≤ c3), Hid (Calls Try.prog 11 #[.agg #[.int .i64 sz, .int .i64 fi, .slice A n0 c], .slice A3 L c3] W fun e w' => ∃ A c, e = .returned (.tuple #[.agg #[.int .i64 zs, .int .i64 zf, .slice A zn c], .int .i64 ze]) ∧ FilsAt w' w'.heap.size A zfs ∧ RoomyF A zfs c ∧ Below W.heap.size W w')) :
    Calls Try.prog 3 #[.int .i64 size, .int .i64 first, .slice A1 N1 cap1, .slice A2 N2 cap2] w fun e w' => e = .returned (.bool true) ∧ Below w.heap.size w w' := by
  have HN1 := Lib.hid hN1
  have HN2 := Lib.hid hN2
  have Hl : Hid (l.length ≤ 25 ∧ r.length ≤ 25) := Lib.hid ⟨by omega, by omega⟩
  have Hal := Lib.hid hal
  have HL := Lib.hid hL
  have Hn1 := Lib.hid hnil1
  have Hn2 := Lib.hid hnil2
  clear hN1 hN2 hl1 hl2 hal hL hnil1 hnil2
  have S0 := Lib.hid ((((St.start w).more (strsF14 A2 w.heap.size r) ⟨hA2, Nat.le_refl _⟩).more (strsF14 A1 w.heap.size l) ⟨hA1, Nat.le_refl _⟩).more (eSg HS) hE)
  clear hE hA1 hA2
  go_enter Try.func3, Try.ntmps3
  go_wp2_with fail
  refine (KN _ (S0.out.fact 0 rfl)).out.mono ?_
  rintro e w1 ⟨Af, cf, rfl, hT, hR, hB⟩
  have S1 := Lib.hid ((S0.out.on hB).more (filF14 Af w1.heap.size fs0) ⟨hT, Nat.le_refl _⟩)
  have HRf := Lib.hid hR
  clear hB hT hR S0
  obtain ⟨Bf, hBe⟩ : ∃ b, b = w1.heap.size := ⟨_, rfl⟩
  rw [← hBe] at S1
  clear hBe
  go_wp2_with (first
    | (refine wpList_store_st rfl 25 _ _ rfl S1.out _ #[.int .i64 sz, .int .i64 fi, .slice Af n0 cf] _ rfl rfl (by rfl) rfl (seg_one14 _ _ _ _ _) ?_; intro b0 w2 hp hS hBn; (try rw [← hp]); have S2 := Lib.hid hS; clear hS hp hBn)
    | (refine wpList_loadg_st (by rfl) 25 _ rfl S2.out 0 _ _ rfl rfl _ Try.underlying25 rfl (by rfl) ?_))
  refine (pf1 _ Af cf ((S2.out.fact 0 rfl).1.more (S2.out.fact 0 rfl).2) ((S2.out.fact 2 rfl).1.more (S2.out.fact 2 rfl).2)).out.mono ?_
  rintro e w3 ⟨rfl, hB⟩
  have S3 := Lib.hid (S2.out.on hB)
  clear hB S2
  go_wp2_with (refine wpList_loadg_st (by rfl) 25 _ rfl S3.out 0 _ _ rfl rfl _ Try.underlying25 rfl (by rfl) ?_)
  refine (pf2 _ Af cf ((S3.out.fact 0 rfl).1.more (S3.out.fact 0 rfl).2) ((S3.out.fact 3 rfl).1.more (S3.out.fact 3 rfl).2)).out.mono ?_
  rintro e w4 ⟨rfl, hB⟩
  have S4 := Lib.hid (S3.out.on hB)
  clear hB S3
  go_wp2_with (refine wpList_load_st rfl 25 _ rfl S4.out 0 _ _ rfl rfl _ Try.underlying25 rfl (by rfl) ?_)
  refine (KA _ Af cf (S4.out.fact 1 rfl) ((S4.out.fact 0 rfl).1.more (S4.out.fact 0 rfl).2) HRf.out ((S4.out.fact 2 rfl).1.more (S4.out.fact 2 rfl).2)).out.mono ?_
  rintro e w5 ⟨Ax, cx, rfl, hT, hR, hB⟩
  have S5 := Lib.hid ((S4.out.on hB).more (filF14 Ax w5.heap.size xfs) ⟨hT, Nat.le_refl _⟩)
  have HRx := Lib.hid hR
  clear hB hT hR S4
  obtain ⟨Bx, hBe⟩ : ∃ b, b = w5.heap.size := ⟨_, rfl⟩
  rw [← hBe] at S5
  clear hBe
  clear KA pf1 pf2 KN
  go_wp2_with (first
    | (refine wpList_store_st rfl 25 _ _ rfl S5.out _ #[.int .i64 xs, .int .i64 xf, .slice Ax xn cx] _ rfl rfl (by rfl) rfl (seg_one14 _ _ _ _ _) ?_; intro b1 w6 hp hS hBn; (try rw [← hp]); have S6 := Lib.hid hS; clear hS hp hBn)
    | (refine wpList_load_st rfl 25 _ rfl S6.out 0 _ _ rfl rfl _ Try.underlying25 rfl (by rfl) ?_))
  refine (KB _ Ax cx (S6.out.fact 2 rfl) ((S6.out.fact 0 rfl).1.more (S6.out.fact 0 rfl).2) HRx.out ((S6.out.fact 4 rfl).1.more (S6.out.fact 4 rfl).2)).out.mono ?_
  rintro e w7 ⟨Ay, cy, rfl, hT, hR, hB⟩
  have S7 := Lib.hid ((S6.out.on hB).more (filF14 Ay w7.heap.size yfs) ⟨hT, Nat.le_refl _⟩)
  have HRy := Lib.hid hR
  clear hB hT hR S6
  obtain ⟨By, hBe⟩ : ∃ b, b = w7.heap.size := ⟨_, rfl⟩
  rw [← hBe] at S7
  clear hBe
  clear KB
  go_wp2_with (first
    | (refine wpList_store_st rfl 25 _ _ rfl S7.out _ #[.int .i64 ys, .int .i64 yf, .slice Ay yn cy] _ rfl rfl (by rfl) rfl (seg_one14 _ _ _ _ _) ?_; intro b2 w8 hp hS hBn; (try rw [← hp]); have S8 := Lib.hid hS; clear hS hp hBn)
    | (refine wpList_append_strs rfl _ _ rfl w8 _ [] l l (List.nil_append l) rfl (OwnTs.nil w8) A1 N1 cap1 HN1.out rfl ((S8.out.fact 4 rfl).1.more (S8.out.fact 4 rfl).2) Hn1.out (by have := Hl.out; simp; omega) ?_; intro v1 u1 hO1; have HO1 := Lib.hid hO1; clear hO1)
    | (refine wpList_append_strs rfl _ _ rfl w8 _ l r al Hal.out rfl HO1.out A2 N2 cap2 HN2.out rfl (((S8.out.on HO1.out.2).fact 5 rfl).1.more ((S8.out.on HO1.out.2).fact 5 rfl).2) Hn2.out (by have := Hl.out; omega) ?_
       intro v2 u2 hO2
       obtain ⟨Aa, ca, hv, hca, hT, hB4⟩ := hO2.slice HL.out
       subst hv
       have S9 := Lib.hid ((S8.out.on hB4).more (strsF14 Aa u2.heap.size al) ⟨hT, Nat.le_refl _⟩)
       have Hca := Lib.hid hca
       clear hT hB4 hO2 hca HO1 S8
       obtain ⟨Ba, hBea⟩ : ∃ b, b = u2.heap.size := ⟨_, rfl⟩
       rw [← hBea] at S9
       clear hBea)
    | (refine wpList_load_st rfl 25 _ rfl S9.out 2 _ _ rfl rfl _ Try.underlying25 rfl (by rfl) ?_))
  refine (KZ _ Af cf (S9.out.fact 4 rfl) ((S9.out.fact 3 rfl).1.more (S9.out.fact 3 rfl).2) HRf.out Aa ca ((S9.out.fact 0 rfl).1.more (S9.out.fact 0 rfl).2) Hca.out).out.mono ?_
  rintro e w10 ⟨Az, cz, rfl, hT, hR, hB⟩
  have S10 := Lib.hid ((S9.out.on hB).more (filF14 Az w10.heap.size zfs) ⟨hT, Nat.le_refl _⟩)
  have HRz := Lib.hid hR
  clear hB hT hR S9
  obtain ⟨Bz, hBe⟩ : ∃ b, b = w10.heap.size := ⟨_, rfl⟩
  rw [← hBe] at S10
  clear hBe
  clear KZ
  go_wp2_with (refine wpList_store_st rfl 25 _ _ rfl S10.out _ #[.int .i64 zs, .int .i64 zf, .slice Az zn cz] _ rfl rfl (by rfl) rfl (seg_one14 _ _ _ _ _) ?_; intro b3 w11 hp hS hBn; (try rw [← hp]); have S11 := Lib.hid hS; clear hS hp hBn)
  refine (Lib.hid (HC.out _ (S11.out.fact 5 rfl))).out.mono ?_
  rintro e w12 ⟨rfl, hB⟩
  have S12 := Lib.hid (S11.out.on hB)
  clear hB S11
  go_wp2
  go_ret
  exact ⟨rfl, S12.out.below⟩

set_option maxHeartbeats 4000000 in
theorem segmentBack_bad2 {E : World → Prop} (HS : Hid (SegK E)) (HC : Hid (PartedK E)) (size first : Int) (A1 : Option Addr) (N1 cap1 : Nat) (l : List ByteArray) (A2 : Option Addr) (N2 cap2 : Nat) (r : List ByteArray) (w : World) (hE : E w) (hA1 : StrsAt w w.heap.size A1 l) (hA2 : StrsAt w w.heap.size A2 r) (hN1 : N1 = l.length) (hN2 : N2 = r.length) (hl1 : N1 ≤ 25) (hl2 : N2 ≤ 25) (hnil1 : A1 = none → cap1 = 0) (hnil2 : A2 = none → cap2 = 0) (al : List ByteArray) (hal : l ++ r = al) (L : Nat) (hL : L = al.length) (sz fi : Int) (n0 : Nat) (fs0 : List Fil) (xn : Nat) (xfs : List Fil) (xs xf : Int) (yn : Nat) (yfs : List Fil) (ys yf : Int) (zn : Nat) (zfs : List Fil) (zs zf : Int) (he ze : Int) (jh : (he != 0) = true) (jz : (ze != 0) = true)
    (KN : ∀ (W : World) (_h : E W), Hid (Calls Try.prog 8 #[.int .i64 size, .int .i64 first] W fun e w' => ∃ A c, e = .returned (.tuple #[.agg #[.int .i64 sz, .int .i64 fi, .slice A n0 c], .int .i64 0]) ∧ FilsAt w' w'.heap.size A fs0 ∧ RoomyF A fs0 c ∧ Below W.heap.size W w'))
    (pf1 : ∀ (W : World) (A : Option Addr) (c : Nat) (_hA : FilsAt W W.heap.size A fs0) (_hB : StrsAt W W.heap.size A1 l), Hid (Calls Try.prog 9 #[.agg #[.int .i64 sz, .int .i64 fi, .slice A n0 c], .slice A1 N1 cap1] W fun e w' => e = .returned (.bool false) ∧ Below W.heap.size W w'))
    (pf2 : ∀ (W : World) (A : Option Addr) (c : Nat) (_hA : FilsAt W W.heap.size A fs0) (_hB : StrsAt W W.heap.size A2 r), Hid (Calls Try.prog 9 #[.agg #[.int .i64 sz, .int .i64 fi, .slice A n0 c], .slice A2 N2 cap2] W fun e w' => e = .returned (.bool false) ∧ Below W.heap.size W w'))
    (KA : ∀ (W : World) (A : Option Addr) (c : Nat) (_h : E W) (_hA : FilsAt W W.heap.size A fs0) (_hR : RoomyF A fs0 c) (_hB : StrsAt W W.heap.size A1 l), Hid (Calls Try.prog 11 #[.agg #[.int .i64 sz, .int .i64 fi, .slice A n0 c], .slice A1 N1 cap1] W fun e w' => ∃ A c, e = .returned (.tuple #[.agg #[.int .i64 xs, .int .i64 xf, .slice A xn c], .int .i64 0]) ∧ FilsAt w' w'.heap.size A xfs ∧ RoomyF A xfs c ∧ Below W.heap.size W w'))
    (KB : ∀ (W : World) (A : Option Addr) (c : Nat) (_h : E W) (_hA : FilsAt W W.heap.size A xfs) (_hR : RoomyF A xfs c) (_hB : StrsAt W W.heap.size A2 r), Hid (Calls Try.prog 11 #[.agg #[.int .i64 xs, .int .i64 xf, .slice A xn c], .slice A2 N2 cap2] W fun e w' => ∃ A c, e = .returned (.tuple #[.agg #[.int .i64 ys, .int .i64 yf, .slice A yn c], .int .i64 he]) ∧ FilsAt w' w'.heap.size A yfs ∧ RoomyF A yfs c ∧ Below W.heap.size W w'))
    (KZ : ∀ (W : World) (A : Option Addr) (c : Nat) (_h : E W) (_hA : FilsAt W W.heap.size A fs0) (_hR : RoomyF A fs0 c) (A3 : Option Addr) (c3 : Nat) (_hB : StrsAt W W.heap.size A3 al) (_hc : L ≤ c3), Hid (Calls Try.prog 11 #[.agg #[.int .i64 sz, .int .i64 fi, .slice A n0 c], .slice A3 L c3] W fun e w' => ∃ A c, e = .returned (.tuple #[.agg #[.int .i64 zs, .int .i64 zf, .slice A zn c], .int .i64 ze]) ∧ FilsAt w' w'.heap.size A zfs ∧ RoomyF A zfs c ∧ Below W.heap.size W w')) :
    Calls Try.prog 3 #[.int .i64 size, .int .i64 first, .slice A1 N1 cap1, .slice A2 N2 cap2] w fun e w' => e = .returned (.bool true) ∧ Below w.heap.size w w' := by
  have HN1 := Lib.hid hN1
  have HN2 := Lib.hid hN2
  have Hl : Hid (l.length ≤ 25 ∧ r.length ≤ 25) := Lib.hid ⟨by omega, by omega⟩
  have Hal := Lib.hid hal
  have HL := Lib.hid hL
  have Hn1 := Lib.hid hnil1
  have Hn2 := Lib.hid hnil2
  clear hN1 hN2 hl1 hl2 hal hL hnil1 hnil2
  have S0 := Lib.hid ((((St.start w).more (strsF14 A2 w.heap.size r) ⟨hA2, Nat.le_refl _⟩).more (strsF14 A1 w.heap.size l) ⟨hA1, Nat.le_refl _⟩).more (eSg HS) hE)
  clear hE hA1 hA2
  go_enter Try.func3, Try.ntmps3
  go_wp2_with fail
  refine (KN _ (S0.out.fact 0 rfl)).out.mono ?_
  rintro e w1 ⟨Af, cf, rfl, hT, hR, hB⟩
  have S1 := Lib.hid ((S0.out.on hB).more (filF14 Af w1.heap.size fs0) ⟨hT, Nat.le_refl _⟩)
  have HRf := Lib.hid hR
  clear hB hT hR S0
  obtain ⟨Bf, hBe⟩ : ∃ b, b = w1.heap.size := ⟨_, rfl⟩
  rw [← hBe] at S1
  clear hBe
  go_wp2_with (first
    | (refine wpList_store_st rfl 25 _ _ rfl S1.out _ #[.int .i64 sz, .int .i64 fi, .slice Af n0 cf] _ rfl rfl (by rfl) rfl (seg_one14 _ _ _ _ _) ?_; intro b0 w2 hp hS hBn; (try rw [← hp]); have S2 := Lib.hid hS; clear hS hp hBn)
    | (refine wpList_loadg_st (by rfl) 25 _ rfl S2.out 0 _ _ rfl rfl _ Try.underlying25 rfl (by rfl) ?_))
  refine (pf1 _ Af cf ((S2.out.fact 0 rfl).1.more (S2.out.fact 0 rfl).2) ((S2.out.fact 2 rfl).1.more (S2.out.fact 2 rfl).2)).out.mono ?_
  rintro e w3 ⟨rfl, hB⟩
  have S3 := Lib.hid (S2.out.on hB)
  clear hB S2
  go_wp2_with (refine wpList_loadg_st (by rfl) 25 _ rfl S3.out 0 _ _ rfl rfl _ Try.underlying25 rfl (by rfl) ?_)
  refine (pf2 _ Af cf ((S3.out.fact 0 rfl).1.more (S3.out.fact 0 rfl).2) ((S3.out.fact 3 rfl).1.more (S3.out.fact 3 rfl).2)).out.mono ?_
  rintro e w4 ⟨rfl, hB⟩
  have S4 := Lib.hid (S3.out.on hB)
  clear hB S3
  go_wp2_with (refine wpList_load_st rfl 25 _ rfl S4.out 0 _ _ rfl rfl _ Try.underlying25 rfl (by rfl) ?_)
  refine (KA _ Af cf (S4.out.fact 1 rfl) ((S4.out.fact 0 rfl).1.more (S4.out.fact 0 rfl).2) HRf.out ((S4.out.fact 2 rfl).1.more (S4.out.fact 2 rfl).2)).out.mono ?_
  rintro e w5 ⟨Ax, cx, rfl, hT, hR, hB⟩
  have S5 := Lib.hid ((S4.out.on hB).more (filF14 Ax w5.heap.size xfs) ⟨hT, Nat.le_refl _⟩)
  have HRx := Lib.hid hR
  clear hB hT hR S4
  obtain ⟨Bx, hBe⟩ : ∃ b, b = w5.heap.size := ⟨_, rfl⟩
  rw [← hBe] at S5
  clear hBe
  clear KA pf1 pf2 KN
  go_wp2_with (first
    | (refine wpList_store_st rfl 25 _ _ rfl S5.out _ #[.int .i64 xs, .int .i64 xf, .slice Ax xn cx] _ rfl rfl (by rfl) rfl (seg_one14 _ _ _ _ _) ?_; intro b1 w6 hp hS hBn; (try rw [← hp]); have S6 := Lib.hid hS; clear hS hp hBn)
    | (refine wpList_load_st rfl 25 _ rfl S6.out 0 _ _ rfl rfl _ Try.underlying25 rfl (by rfl) ?_))
  refine (KB _ Ax cx (S6.out.fact 2 rfl) ((S6.out.fact 0 rfl).1.more (S6.out.fact 0 rfl).2) HRx.out ((S6.out.fact 4 rfl).1.more (S6.out.fact 4 rfl).2)).out.mono ?_
  rintro e w7 ⟨Ay, cy, rfl, hT, hR, hB⟩
  have S7 := Lib.hid ((S6.out.on hB).more (filF14 Ay w7.heap.size yfs) ⟨hT, Nat.le_refl _⟩)
  have HRy := Lib.hid hR
  clear hB hT hR S6
  obtain ⟨By, hBe⟩ : ∃ b, b = w7.heap.size := ⟨_, rfl⟩
  rw [← hBe] at S7
  clear hBe
  clear KB
  go_wp2_with (first
    | (refine wpList_store_st rfl 25 _ _ rfl S7.out _ #[.int .i64 ys, .int .i64 yf, .slice Ay yn cy] _ rfl rfl (by rfl) rfl (seg_one14 _ _ _ _ _) ?_; intro b2 w8 hp hS hBn; (try rw [← hp]); have S8 := Lib.hid hS; clear hS hp hBn)
    | (refine wpList_append_strs rfl _ _ rfl w8 _ [] l l (List.nil_append l) rfl (OwnTs.nil w8) A1 N1 cap1 HN1.out rfl ((S8.out.fact 4 rfl).1.more (S8.out.fact 4 rfl).2) Hn1.out (by have := Hl.out; simp; omega) ?_; intro v1 u1 hO1; have HO1 := Lib.hid hO1; clear hO1)
    | (refine wpList_append_strs rfl _ _ rfl w8 _ l r al Hal.out rfl HO1.out A2 N2 cap2 HN2.out rfl (((S8.out.on HO1.out.2).fact 5 rfl).1.more ((S8.out.on HO1.out.2).fact 5 rfl).2) Hn2.out (by have := Hl.out; omega) ?_
       intro v2 u2 hO2
       obtain ⟨Aa, ca, hv, hca, hT, hB4⟩ := hO2.slice HL.out
       subst hv
       have S9 := Lib.hid ((S8.out.on hB4).more (strsF14 Aa u2.heap.size al) ⟨hT, Nat.le_refl _⟩)
       have Hca := Lib.hid hca
       clear hT hB4 hO2 hca HO1 S8
       obtain ⟨Ba, hBea⟩ : ∃ b, b = u2.heap.size := ⟨_, rfl⟩
       rw [← hBea] at S9
       clear hBea)
    | (refine wpList_load_st rfl 25 _ rfl S9.out 2 _ _ rfl rfl _ Try.underlying25 rfl (by rfl) ?_))
  refine (KZ _ Af cf (S9.out.fact 4 rfl) ((S9.out.fact 3 rfl).1.more (S9.out.fact 3 rfl).2) HRf.out Aa ca ((S9.out.fact 0 rfl).1.more (S9.out.fact 0 rfl).2) Hca.out).out.mono ?_
  rintro e w10 ⟨Az, cz, rfl, hT, hR, hB⟩
  have S10 := Lib.hid ((S9.out.on hB).more (filF14 Az w10.heap.size zfs) ⟨hT, Nat.le_refl _⟩)
  have HRz := Lib.hid hR
  clear hB hT hR S9
  obtain ⟨Bz, hBe⟩ : ∃ b, b = w10.heap.size := ⟨_, rfl⟩
  rw [← hBe] at S10
  clear hBe
  clear KZ
  go_wp2_with (refine wpList_store_st rfl 25 _ _ rfl S10.out _ #[.int .i64 zs, .int .i64 zf, .slice Az zn cz] _ rfl rfl (by rfl) rfl (seg_one14 _ _ _ _ _) ?_; intro b3 w11 hp hS hBn; (try rw [← hp]); have S11 := Lib.hid hS; clear hS hp hBn)
  refine (Lib.hid (HC.out _ (S11.out.fact 5 rfl))).out.mono ?_
  rintro e w12 ⟨rfl, hB⟩
  have S12 := Lib.hid (S11.out.on hB)
  clear hB S11
  go_wp2
  go_ret
  exact ⟨rfl, S12.out.below⟩

set_option maxHeartbeats 4000000 in
theorem segmentBack_ok {E : World → Prop} (HS : Hid (SegK E)) (HC : Hid (PartedK E)) (size first : Int) (A1 : Option Addr) (N1 cap1 : Nat) (l : List ByteArray) (A2 : Option Addr) (N2 cap2 : Nat) (r : List ByteArray) (w : World) (hE : E w) (hA1 : StrsAt w w.heap.size A1 l) (hA2 : StrsAt w w.heap.size A2 r) (hN1 : N1 = l.length) (hN2 : N2 = r.length) (hl1 : N1 ≤ 25) (hl2 : N2 ≤ 25) (hnil1 : A1 = none → cap1 = 0) (hnil2 : A2 = none → cap2 = 0) (al : List ByteArray) (hal : l ++ r = al) (L : Nat) (hL : L = al.length) (sz fi : Int) (n0 : Nat) (fs0 : List Fil) (xn : Nat) (xfs : List Fil) (xs xf : Int) (yn : Nat) (yfs : List Fil) (ys : Int)
    (KN : ∀ (W : World) (_h : E W), Hid (Calls Try.prog 8 #[.int .i64 size, .int .i64 first] W fun e w' => ∃ A c, e = .returned (.tuple #[.agg #[.int .i64 sz, .int .i64 fi, .slice A n0 c], .int .i64 0]) ∧ FilsAt w' w'.heap.size A fs0 ∧ RoomyF A fs0 c ∧ Below W.heap.size W w'))
    (pf1 : ∀ (W : World) (A : Option Addr) (c : Nat) (_hA : FilsAt W W.heap.size A fs0) (_hB : StrsAt W W.heap.size A1 l), Hid (Calls Try.prog 9 #[.agg #[.int .i64 sz, .int .i64 fi, .slice A n0 c], .slice A1 N1 cap1] W fun e w' => e = .returned (.bool false) ∧ Below W.heap.size W w'))
    (pf2 : ∀ (W : World) (A : Option Addr) (c : Nat) (_hA : FilsAt W W.heap.size A fs0) (_hB : StrsAt W W.heap.size A2 r), Hid (Calls Try.prog 9 #[.agg #[.int .i64 sz, .int .i64 fi, .slice A n0 c], .slice A2 N2 cap2] W fun e w' => e = .returned (.bool false) ∧ Below W.heap.size W w'))
    (KA : ∀ (W : World) (A : Option Addr) (c : Nat) (_h : E W) (_hA : FilsAt W W.heap.size A fs0) (_hR : RoomyF A fs0 c) (_hB : StrsAt W W.heap.size A1 l), Hid (Calls Try.prog 11 #[.agg #[.int .i64 sz, .int .i64 fi, .slice A n0 c], .slice A1 N1 cap1] W fun e w' => ∃ A c, e = .returned (.tuple #[.agg #[.int .i64 xs, .int .i64 xf, .slice A xn c], .int .i64 0]) ∧ FilsAt w' w'.heap.size A xfs ∧ RoomyF A xfs c ∧ Below W.heap.size W w'))
    (KB : ∀ (W : World) (A : Option Addr) (c : Nat) (_h : E W) (_hA : FilsAt W W.heap.size A xfs) (_hR : RoomyF A xfs c) (_hB : StrsAt W W.heap.size A2 r), Hid (Calls Try.prog 11 #[.agg #[.int .i64 xs, .int .i64 xf, .slice A xn c], .slice A2 N2 cap2] W fun e w' => ∃ A c, e = .returned (.tuple #[.agg #[.int .i64 ys, .int .i64 first, .slice A yn c], .int .i64 0]) ∧ FilsAt w' w'.heap.size A yfs ∧ RoomyF A yfs c ∧ Below W.heap.size W w'))
    (KZ : ∀ (W : World) (A : Option Addr) (c : Nat) (_h : E W) (_hA : FilsAt W W.heap.size A fs0) (_hR : RoomyF A fs0 c) (A3 : Option Addr) (c3 : Nat) (_hB : StrsAt W W.heap.size A3 al) (_hc : L ≤ c3), Hid (Calls Try.prog 11 #[.agg #[.int .i64 sz, .int .i64 fi, .slice A n0 c], .slice A3 L c3] W fun e w' => ∃ A c, e = .returned (.tuple #[.agg #[.int .i64 ys, .int .i64 first, .slice A yn c], .int .i64 0]) ∧ FilsAt w' w'.heap.size A yfs ∧ RoomyF A yfs c ∧ Below W.heap.size W w'))
    (KR : ∀ (W : World) (A : Option Addr) (c : Nat) (_h : E W) (_hA : FilsAt W W.heap.size A yfs) (_hR : RoomyF A yfs c), Hid (Calls Try.prog 12 #[.agg #[.int .i64 ys, .int .i64 first, .slice A yn c]] W fun e w' => ∃ A c, e = .returned (.tuple #[.slice A L c, .int .i64 0]) ∧ StrsAt w' w'.heap.size A al ∧ L ≤ c ∧ Below W.heap.size W w'))
    (KS : ∀ (W : World) (A B : Option Addr) (c d : Nat) (_hA : FilsAt W W.heap.size A yfs) (_hB : FilsAt W W.heap.size B yfs), Hid (Calls Try.prog 13 #[.agg #[.int .i64 ys, .int .i64 first, .slice A yn c], .agg #[.int .i64 ys, .int .i64 first, .slice B yn d]] W fun e w' => e = .returned (.bool true) ∧ Below W.heap.size W w'))
    (KT : ∀ (W : World) (A B : Option Addr) (c d : Nat) (_hA : StrsAt W W.heap.size A al) (_hB : StrsAt W W.heap.size B al), Hid (Calls Try.prog 14 #[.slice A L c, .slice B L d] W fun e w' => e = .returned (.bool true) ∧ Below W.heap.size W w'))
    (KI : ∀ (W : World) (A : Option Addr) (c : Nat) (_h : E W) (_hA : FilsAt W W.heap.size A yfs) (_hR : RoomyF A yfs c), Hid (Calls Try.prog 15 #[.agg #[.int .i64 ys, .int .i64 first, .slice A yn c]] W fun e w' => e = .returned (.bool true) ∧ Below W.heap.size W w')) :
    Calls Try.prog 3 #[.int .i64 size, .int .i64 first, .slice A1 N1 cap1, .slice A2 N2 cap2] w fun e w' => e = .returned (.bool true) ∧ Below w.heap.size w w' := by
  have HN1 := Lib.hid hN1
  have HN2 := Lib.hid hN2
  have Hl : Hid (l.length ≤ 25 ∧ r.length ≤ 25) := Lib.hid ⟨by omega, by omega⟩
  have Hal := Lib.hid hal
  have HL := Lib.hid hL
  have Hn1 := Lib.hid hnil1
  have Hn2 := Lib.hid hnil2
  clear hN1 hN2 hl1 hl2 hal hL hnil1 hnil2
  have S0 := Lib.hid ((((St.start w).more (strsF14 A2 w.heap.size r) ⟨hA2, Nat.le_refl _⟩).more (strsF14 A1 w.heap.size l) ⟨hA1, Nat.le_refl _⟩).more (eSg HS) hE)
  clear hE hA1 hA2
  go_enter Try.func3, Try.ntmps3
  go_wp2_with fail
  refine (KN _ (S0.out.fact 0 rfl)).out.mono ?_
  rintro e w1 ⟨Af, cf, rfl, hT, hR, hB⟩
  have S1 := Lib.hid ((S0.out.on hB).more (filF14 Af w1.heap.size fs0) ⟨hT, Nat.le_refl _⟩)
  have HRf := Lib.hid hR
  clear hB hT hR S0
  obtain ⟨Bf, hBe⟩ : ∃ b, b = w1.heap.size := ⟨_, rfl⟩
  rw [← hBe] at S1
  clear hBe
  go_wp2_with (first
    | (refine wpList_store_st rfl 25 _ _ rfl S1.out _ #[.int .i64 sz, .int .i64 fi, .slice Af n0 cf] _ rfl rfl (by rfl) rfl (seg_one14 _ _ _ _ _) ?_; intro b0 w2 hp hS hBn; (try rw [← hp]); have S2 := Lib.hid hS; clear hS hp hBn)
    | (refine wpList_loadg_st (by rfl) 25 _ rfl S2.out 0 _ _ rfl rfl _ Try.underlying25 rfl (by rfl) ?_))
  refine (pf1 _ Af cf ((S2.out.fact 0 rfl).1.more (S2.out.fact 0 rfl).2) ((S2.out.fact 2 rfl).1.more (S2.out.fact 2 rfl).2)).out.mono ?_
  rintro e w3 ⟨rfl, hB⟩
  have S3 := Lib.hid (S2.out.on hB)
  clear hB S2
  go_wp2_with (refine wpList_loadg_st (by rfl) 25 _ rfl S3.out 0 _ _ rfl rfl _ Try.underlying25 rfl (by rfl) ?_)
  refine (pf2 _ Af cf ((S3.out.fact 0 rfl).1.more (S3.out.fact 0 rfl).2) ((S3.out.fact 3 rfl).1.more (S3.out.fact 3 rfl).2)).out.mono ?_
  rintro e w4 ⟨rfl, hB⟩
  have S4 := Lib.hid (S3.out.on hB)
  clear hB S3
  go_wp2_with (refine wpList_load_st rfl 25 _ rfl S4.out 0 _ _ rfl rfl _ Try.underlying25 rfl (by rfl) ?_)
  refine (KA _ Af cf (S4.out.fact 1 rfl) ((S4.out.fact 0 rfl).1.more (S4.out.fact 0 rfl).2) HRf.out ((S4.out.fact 2 rfl).1.more (S4.out.fact 2 rfl).2)).out.mono ?_
  rintro e w5 ⟨Ax, cx, rfl, hT, hR, hB⟩
  have S5 := Lib.hid ((S4.out.on hB).more (filF14 Ax w5.heap.size xfs) ⟨hT, Nat.le_refl _⟩)
  have HRx := Lib.hid hR
  clear hB hT hR S4
  obtain ⟨Bx, hBe⟩ : ∃ b, b = w5.heap.size := ⟨_, rfl⟩
  rw [← hBe] at S5
  clear hBe
  clear KA pf1 pf2 KN
  go_wp2_with (first
    | (refine wpList_store_st rfl 25 _ _ rfl S5.out _ #[.int .i64 xs, .int .i64 xf, .slice Ax xn cx] _ rfl rfl (by rfl) rfl (seg_one14 _ _ _ _ _) ?_; intro b1 w6 hp hS hBn; (try rw [← hp]); have S6 := Lib.hid hS; clear hS hp hBn)
    | (refine wpList_load_st rfl 25 _ rfl S6.out 0 _ _ rfl rfl _ Try.underlying25 rfl (by rfl) ?_))
  refine (KB _ Ax cx (S6.out.fact 2 rfl) ((S6.out.fact 0 rfl).1.more (S6.out.fact 0 rfl).2) HRx.out ((S6.out.fact 4 rfl).1.more (S6.out.fact 4 rfl).2)).out.mono ?_
  rintro e w7 ⟨Ay, cy, rfl, hT, hR, hB⟩
  have S7 := Lib.hid ((S6.out.on hB).more (filF14 Ay w7.heap.size yfs) ⟨hT, Nat.le_refl _⟩)
  have HRy := Lib.hid hR
  clear hB hT hR S6
  obtain ⟨By, hBe⟩ : ∃ b, b = w7.heap.size := ⟨_, rfl⟩
  rw [← hBe] at S7
  clear hBe
  clear KB
  go_wp2_with (first
    | (refine wpList_store_st rfl 25 _ _ rfl S7.out _ #[.int .i64 ys, .int .i64 first, .slice Ay yn cy] _ rfl rfl (by rfl) rfl (seg_one14 _ _ _ _ _) ?_; intro b2 w8 hp hS hBn; (try rw [← hp]); have S8 := Lib.hid hS; clear hS hp hBn)
    | (refine wpList_append_strs rfl _ _ rfl w8 _ [] l l (List.nil_append l) rfl (OwnTs.nil w8) A1 N1 cap1 HN1.out rfl ((S8.out.fact 4 rfl).1.more (S8.out.fact 4 rfl).2) Hn1.out (by have := Hl.out; simp; omega) ?_; intro v1 u1 hO1; have HO1 := Lib.hid hO1; clear hO1)
    | (refine wpList_append_strs rfl _ _ rfl w8 _ l r al Hal.out rfl HO1.out A2 N2 cap2 HN2.out rfl (((S8.out.on HO1.out.2).fact 5 rfl).1.more ((S8.out.on HO1.out.2).fact 5 rfl).2) Hn2.out (by have := Hl.out; omega) ?_
       intro v2 u2 hO2
       obtain ⟨Aa, ca, hv, hca, hT, hB4⟩ := hO2.slice HL.out
       subst hv
       have S9 := Lib.hid ((S8.out.on hB4).more (strsF14 Aa u2.heap.size al) ⟨hT, Nat.le_refl _⟩)
       have Hca := Lib.hid hca
       clear hT hB4 hO2 hca HO1 S8
       obtain ⟨Ba, hBea⟩ : ∃ b, b = u2.heap.size := ⟨_, rfl⟩
       rw [← hBea] at S9
       clear hBea)
    | (refine wpList_load_st rfl 25 _ rfl S9.out 2 _ _ rfl rfl _ Try.underlying25 rfl (by rfl) ?_))
  refine (KZ _ Af cf (S9.out.fact 4 rfl) ((S9.out.fact 3 rfl).1.more (S9.out.fact 3 rfl).2) HRf.out Aa ca ((S9.out.fact 0 rfl).1.more (S9.out.fact 0 rfl).2) Hca.out).out.mono ?_
  rintro e w10 ⟨Az, cz, rfl, hT, hR, hB⟩
  have S10 := Lib.hid ((S9.out.on hB).more (filF14 Az w10.heap.size yfs) ⟨hT, Nat.le_refl _⟩)
  have HRz := Lib.hid hR
  clear hB hT hR S9
  obtain ⟨Bz, hBe⟩ : ∃ b, b = w10.heap.size := ⟨_, rfl⟩
  rw [← hBe] at S10
  clear hBe
  clear KZ
  go_wp2_with (first
    | (refine wpList_store_st rfl 25 _ _ rfl S10.out _ #[.int .i64 ys, .int .i64 first, .slice Az yn cz] _ rfl rfl (by rfl) rfl (seg_one14 _ _ _ _ _) ?_; intro b3 w11 hp hS hBn; (try rw [← hp]); have S11 := Lib.hid hS; clear hS hp hBn)
    | (refine wpList_load_st rfl 25 _ rfl S11.out 1 _ _ rfl rfl _ Try.underlying25 rfl (by rfl) ?_))
  refine (KR _ Ay cy (S11.out.fact 5 rfl) ((S11.out.fact 2 rfl).1.more (S11.out.fact 2 rfl).2) HRy.out).out.mono ?_
  rintro e w12 ⟨At, ct, rfl, hT, _, hB⟩
  have S12 := Lib.hid ((S11.out.on hB).more (strsF14 At w12.heap.size al) ⟨hT, Nat.le_refl _⟩)
  clear hB hT S11
  obtain ⟨Bt, hBe⟩ : ∃ b, b = w12.heap.size := ⟨_, rfl⟩
  rw [← hBe] at S12
  clear hBe
  go_wp2_with fail
  refine (Lib.hid (HC.out _ (S12.out.fact 6 rfl))).out.mono ?_
  rintro e w13 ⟨rfl, hB⟩
  have S13 := Lib.hid (S12.out.on hB)
  clear hB S12
  go_wp2_with (first
    | (refine wpList_loadg_st (by rfl) 25 _ rfl S13.out 1 _ _ rfl rfl _ Try.underlying25 rfl (by rfl) ?_)
    | (refine wpList_loadg_st (by rfl) 25 _ rfl S13.out 0 _ _ rfl rfl _ Try.underlying25 rfl (by rfl) ?_))
  refine (KS _ Ay Az cy cz ((S13.out.fact 3 rfl).1.more (S13.out.fact 3 rfl).2) ((S13.out.fact 1 rfl).1.more (S13.out.fact 1 rfl).2)).out.mono ?_
  rintro e w14 ⟨rfl, hB⟩
  have S14 := Lib.hid (S13.out.on hB)
  clear hB S13
  go_wp2_with fail
  refine (KT _ At Aa ct ca ((S14.out.fact 0 rfl).1.more (S14.out.fact 0 rfl).2) ((S14.out.fact 2 rfl).1.more (S14.out.fact 2 rfl).2)).out.mono ?_
  rintro e w15 ⟨rfl, hB⟩
  have S15 := Lib.hid (S14.out.on hB)
  clear hB S14
  go_wp2_with (refine wpList_loadg_st (by rfl) 25 _ rfl S15.out 1 _ _ rfl rfl _ Try.underlying25 rfl (by rfl) ?_)
  refine (KI _ Ay cy (S15.out.fact 6 rfl) ((S15.out.fact 3 rfl).1.more (S15.out.fact 3 rfl).2) HRy.out).out.mono ?_
  rintro e w16 ⟨rfl, hB⟩
  have S16 := Lib.hid (S15.out.on hB)
  clear hB S15
  have e1 := S16.out.cell 1 rfl 1 rfl
  go_wp2
  go_ret
  exact ⟨rfl, S16.out.below⟩

theorem Sg.small_of {s : Seg} (h : Sg.is s = true ∨ s = Sg.no) : Sg.small s := by
  rcases h with h | rfl
  · exact Sg.fs_small h
  · exact Sg.no_small
theorem segmentBack_walk {E : World → Prop} (HS : Hid (SegK E)) (HC : Hid (PartedK E)) (size first : Int) (A1 : Option Addr) (N1 cap1 : Nat) (l : List ByteArray) (A2 : Option Addr) (N2 cap2 : Nat) (r : List ByteArray) (w : World) (hE : E w) (hI1 : IsStrs w A1 N1 cap1 l) (hI2 : IsStrs w A2 N2 cap2 r) :
    Calls Try.prog 3 #[.int .i64 size, .int .i64 first, .slice A1 N1 cap1, .slice A2 N2 cap2] w fun e w' => e = .returned (.bool true) ∧ Below w.heap.size w w' := by
  obtain ⟨hN1, hM1, hA1, hs1⟩ := hI1.strs
  obtain ⟨hN2, hM2, hA2, hs2⟩ := hI2.strs
  have hc1 := hI1.cap13
  have hc2 := hI2.cap13
  subst hN1 hN2
  have KN0 := fun W (h : E W) => HS.out.new size first W h
  by_cases hne : Sg.newE size first = 0
  case neg =>
    have e2 : Sg.newE size first = 1 := by
      unfold Sg.newE at hne ⊢
      split at hne
      · exact absurd rfl hne
      · rename_i h; rw [if_neg h]
    have e1 : Sg.new size first = Sg.no := by
      unfold Sg.newE at hne
      split at hne
      · exact absurd rfl hne
      · rename_i h; unfold Sg.new; rw [if_neg h]
    have KN := fun W (h : E W) => Lib.hid ((KN0 W h).mono fun e w' hg => (hg.to e1 e2).rows (sz := 0) (fi := 0) (n := 0) (fs := []) rfl rfl rfl rfl)
    exact segmentBack_new HS HC size first A1 _ cap1 l A2 _ cap2 r w hE hA1 hA2 KN
  obtain ⟨e1, hi0, hrd0⟩ := Sg.new_ok hne
  obtain ⟨s0, hs0⟩ : ∃ s, s = Sg.newS size first := ⟨_, rfl⟩
  rw [← hs0] at e1 hi0 hrd0
  have f1 : s0.sz = size := by rw [hs0]; rfl
  have f2 : s0.fi = first := by rw [hs0]; rfl
  have KN := fun W (h : E W) => Lib.hid ((KN0 W h).mono fun e w' hg => (hg.to e1 hne).rows f1 f2 rfl rfl)
  have hsm0 := Sg.fs_small hi0
  have hfl : s0.fs.length ≤ maxLen := Nat.le_trans hsm0.1 (by unfold maxLen; decide)
  have hfz : ∀ f ∈ s0.fs, f.kept.size ≤ maxLen ∧ f.loose.size ≤ maxLen := fun f hf => by
    have := hsm0.2 f hf; unfold Fi.small at this; unfold maxLen; omega
  have pf1 := fun W A c (hA : FilsAt W W.heap.size A s0.fs) (hB : StrsAt W W.heap.size A1 l) => Lib.hid (far14_any size first A c s0.fs A1 cap1 l W hA hfl hfz hB hM1 hs1)
  have pf2 := fun W A c (hA : FilsAt W W.heap.size A s0.fs) (hB : StrsAt W W.heap.size A2 r) => Lib.hid (far14_any size first A c s0.fs A2 cap2 r W hA hfl hfz hB hM2 hs2)
  cases hf1 : far14B s0.fs l
  case true => simp only [hf1] at pf1; exact segmentBack_far1 HS HC size first A1 _ cap1 l A2 _ cap2 r w hE hA1 hA2 size first s0.fs.length s0.fs KN pf1
  cases hf2 : far14B s0.fs r
  case true => simp only [hf1] at pf1; simp only [hf2] at pf2; exact segmentBack_far2 HS HC size first A1 _ cap1 l A2 _ cap2 r w hE hA1 hA2 size first s0.fs.length s0.fs KN pf1 pf2
  simp only [hf1] at pf1
  simp only [hf2] at pf2
  obtain ⟨_, hl1, hz1⟩ := far14B_no hf1
  obtain ⟨_, hl2, hz2⟩ := far14B_no hf2
  have hz1' : ∀ s ∈ l, s.size ≤ 9000 := fun s hs => by have := (hz1 s hs).1; omega
  have hz2' : ∀ s ∈ r, s.size ≤ 9000 := fun s hs => by have := (hz2 s hs).1; omega
  have hall : ∀ s ∈ l ++ r, s.size ≤ 9000 := fun s hs => by
    rcases List.mem_append.1 hs with h | h
    · exact hz1' s h
    · exact hz2' s h
  have hLs : (l ++ r).length ≤ 50 := by rw [List.length_append]; omega
  obtain ⟨s1, hs1e⟩ : ∃ s, s = Sg.add s0 l := ⟨_, rfl⟩
  obtain ⟨s2, hs2e⟩ : ∃ s, s = Sg.add s1 r := ⟨_, rfl⟩
  obtain ⟨s3, hs3e⟩ : ∃ s, s = Sg.add s0 (l ++ r) := ⟨_, rfl⟩
  have hsm1 : Sg.small s1 := by
    rw [hs1e]; by_cases h : Sg.addE s0 l = 0
    · exact Sg.fs_small (Sg.add_ok h).1
    · rw [Sg.add_bad h]; exact Sg.no_small
  have KA := fun W A c (h : E W) hA (hR : RoomyF A s0.fs c) hB => Lib.hid ((HS.out.add s0 A s0.fs.length c A1 l.length cap1 l W h hsm0 hA rfl hR hB rfl (by omega) hc1.1 hz1').mono fun e w' hg => (hg.to hs1e.symm rfl).rows rfl rfl rfl rfl)
  have KB := fun W A c (h : E W) hA (hR : RoomyF A s1.fs c) hB => Lib.hid ((HS.out.add s1 A s1.fs.length c A2 r.length cap2 r W h hsm1 hA rfl hR hB rfl (by omega) hc2.1 hz2').mono fun e w' hg => (hg.to hs2e.symm rfl).rows rfl rfl rfl rfl)
  have KZ := fun W A c (h : E W) hA (hR : RoomyF A s0.fs c) A3 c3 (hB : StrsAt W W.heap.size A3 (l ++ r)) (hc : (l ++ r).length ≤ c3) => Lib.hid ((HS.out.add s0 A s0.fs.length c A3 (l ++ r).length c3 (l ++ r) W h hsm0 hA rfl hR hB rfl (by omega) hc hall).mono fun e w' hg => (hg.to hs3e.symm rfl).rows rfl rfl rfl rfl)
  rw [f1, f2] at KA KZ
  by_cases hg : Sg.addE s0 l = 0
  case neg =>
    have hze := Sg.add_append_bad (m := r) hg
    exact segmentBack_bad1 HS HC size first A1 _ cap1 l A2 _ cap2 r w hE hA1 hA2 rfl rfl hl1 hl2 hc1.2 hc2.2 (l ++ r) rfl _ rfl size first s0.fs.length s0.fs _ _ _ _ _ _ _ _ _ _ _ _ _ _ _ (by rw [bne_iff_ne]; exact hg) (by rw [bne_iff_ne]; exact hze) KN pf1 pf2 KA KB KZ
  have ap := Sg.add_append (m := r) hg
  rw [← hs1e] at ap
  rw [hg] at KA
  by_cases hh : Sg.addE s1 r = 0
  case neg =>
    have hze : Sg.addE s0 (l ++ r) ≠ 0 := by rw [ap.1]; exact hh
    exact segmentBack_bad2 HS HC size first A1 _ cap1 l A2 _ cap2 r w hE hA1 hA2 rfl rfl hl1 hl2 hc1.2 hc2.2 (l ++ r) rfl _ rfl size first s0.fs.length s0.fs _ _ _ _ _ _ _ _ _ _ _ _ _ _ (by rw [bne_iff_ne]; exact hh) (by rw [bne_iff_ne]; exact hze) KN pf1 pf2 KA KB KZ
  obtain ⟨a1, _, _, a4⟩ := Sg.add_ok hg
  rw [← hs1e] at a1 a4
  obtain ⟨b1, b2, b3, b4⟩ := Sg.add_ok hh
  have htx := Sg.add_texts hh
  have htx1 := Sg.add_texts hg
  rw [← hs2e] at b1 b2 b3 b4 htx
  rw [← hs1e] at htx1
  have ht0 : Sg.texts s0 = [] := by unfold Sg.texts; rw [if_pos hi0, hrd0]; rfl
  have htl : Sg.texts s2 = l ++ r := by rw [htx, htx1, ht0]; rfl
  have hsm2 := Sg.fs_small b1
  have g2 : s2.fi = first := by rw [b4, a4]; exact f2
  have he2 : Sg.badE s2 = 0 := by unfold Sg.badE; rw [b1]; rfl
  have h32 : s3 = s2 := by rw [hs3e, hs2e, ap.2]
  rw [hh] at KB
  rw [ap.1, hh, h32] at KZ
  have KR := fun W A c (h : E W) hA (_ : RoomyF A s2.fs c) => Lib.hid (HS.out.read s2 A s2.fs.length c W h hsm2 hA rfl)
  have KI := fun W A c (h : E W) hA (_ : RoomyF A s2.fs c) => Lib.hid (HS.out.is s2 A s2.fs.length c W h hsm2 hA rfl)
  rw [htl, he2] at KR
  rw [b1] at KI
  rw [g2] at KB KZ KR KI
  exact segmentBack_ok HS HC size first A1 _ cap1 l A2 _ cap2 r w hE hA1 hA2 rfl rfl hl1 hl2 hc1.2 hc2.2 (l ++ r) rfl _ rfl size first s0.fs.length s0.fs _ _ _ _ s2.fs.length s2.fs _ KN pf1 pf2 KA KB KZ KR (same14 _ _ s2.fs _ rfl (Nat.le_trans hsm2.1 (by unfold maxLen; decide))) (texts14 (l ++ r) _ rfl (by unfold maxLen; omega)) KI
end Go.Proofs.Ytlnchfnmpamliaa
