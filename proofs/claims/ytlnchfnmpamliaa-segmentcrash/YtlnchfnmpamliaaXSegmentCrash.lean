/-
  Layer 14 (segment): the law SegmentCrash, over the structure (printed by tools/gen-segcrash.py).
-/
import Derived.Test.YtlnchfnmpamliaaXJb
import Derived.Test.YtlnchfnmpamliaaXJd
import Derived.Deep.Cut
namespace Go.Proofs.Ytlnchfnmpamliaa
set_option maxRecDepth 10000
open Go.RowKit

set_option maxHeartbeats 4000000 in
theorem segmentCrash_new {E : World → Prop} (HS : Hid (SegK E)) (HC : Hid (PartedK E)) (size first : Int) (A1 : Option Addr) (N1 cap1 : Nat) (l : List ByteArray) (A2 : Option Addr) (N2 cap2 : Nat) (r : List ByteArray) (left : Int) (t : ByteArray) (w : World) (hE : E w) (hA1 : StrsAt w w.heap.size A1 l) (hA2 : StrsAt w w.heap.size A2 r) 
    (KN : ∀ (W : World) (_h : E W), Hid (Calls Try.prog 8 #[.int .i64 size, .int .i64 first] W fun e w' => ∃ A c, e = .returned (.tuple #[.agg #[.int .i64 0, .int .i64 0, .slice A 0 c], .int .i64 1]) ∧ FilsAt w' w'.heap.size A ([] : List Fil) ∧ RoomyF A ([] : List Fil) c ∧ Below W.heap.size W w')) :
    Calls Try.prog 4 #[.int .i64 size, .int .i64 first, .slice A1 N1 cap1, .slice A2 N2 cap2, .int .i64 left, .string t] w fun e w' => e = .returned (.bool true) ∧ Below w.heap.size w w' := by
  have S0 := Lib.hid ((((St.start w).more (strsF14 A2 w.heap.size r) ⟨hA2, Nat.le_refl _⟩).more (strsF14 A1 w.heap.size l) ⟨hA1, Nat.le_refl _⟩).more (eSg HS) hE)
  clear hE hA1 hA2
  go_enter Try.func4, Try.ntmps4
  go_wp2_with fail
  refine (KN _ (S0.out.fact 0 rfl)).out.mono ?_
  rintro e w1 ⟨Af, cf, rfl, hT, hR, hB⟩
  have S1 := Lib.hid ((S0.out.on hB).more (filF14 Af w1.heap.size ([] : List Fil)) ⟨hT, Nat.le_refl _⟩)
  have HRf := Lib.hid hR
  clear hB hT hR S0
  obtain ⟨Bf, hBe⟩ : ∃ b, b = w1.heap.size := ⟨_, rfl⟩
  rw [← hBe] at S1
  clear hBe
  go_wp2_with (refine wpList_store_st rfl 25 _ _ rfl S1.out _ #[.int .i64 0, .int .i64 0, .slice Af 0 cf] _ rfl rfl (by rfl) rfl (seg_one14 _ _ _ _ _) ?_; intro b0 w2 hp hS hBn; (try rw [← hp]); have S2 := Lib.hid hS; clear hS hp hBn)
  refine (Lib.hid (HC.out _ (S2.out.fact 1 rfl))).out.mono ?_
  rintro e w3 ⟨rfl, hB⟩
  have S3 := Lib.hid (S2.out.on hB)
  clear hB S2
  go_wp2
  go_ret
  exact ⟨rfl, S3.out.below⟩

set_option maxHeartbeats 4000000 in
theorem segmentCrash_far1 {E : World → Prop} (HS : Hid (SegK E)) (HC : Hid (PartedK E)) (size first : Int) (A1 : Option Addr) (N1 cap1 : Nat) (l : List ByteArray) (A2 : Option Addr) (N2 cap2 : Nat) (r : List ByteArray) (left : Int) (t : ByteArray) (w : World) (hE : E w) (hA1 : StrsAt w w.heap.size A1 l) (hA2 : StrsAt w w.heap.size A2 r) (sz fi : Int) (n0 : Nat) (fs0 : List Fil)
    (KN : ∀ (W : World) (_h : E W), Hid (Calls Try.prog 8 #[.int .i64 size, .int .i64 first] W fun e w' => ∃ A c, e = .returned (.tuple #[.agg #[.int .i64 sz, .int .i64 fi, .slice A n0 c], .int .i64 0]) ∧ FilsAt w' w'.heap.size A fs0 ∧ RoomyF A fs0 c ∧ Below W.heap.size W w'))
    (pf1 : ∀ (W : World) (A : Option Addr) (c : Nat) (_hA : FilsAt W W.heap.size A fs0) (_hB : StrsAt W W.heap.size A1 l), Hid (Calls Try.prog 9 #[.agg #[.int .i64 sz, .int .i64 fi, .slice A n0 c], .slice A1 N1 cap1] W fun e w' => e = .returned (.bool true) ∧ Below W.heap.size W w')) :
    Calls Try.prog 4 #[.int .i64 size, .int .i64 first, .slice A1 N1 cap1, .slice A2 N2 cap2, .int .i64 left, .string t] w fun e w' => e = .returned (.bool true) ∧ Below w.heap.size w w' := by
  have S0 := Lib.hid ((((St.start w).more (strsF14 A2 w.heap.size r) ⟨hA2, Nat.le_refl _⟩).more (strsF14 A1 w.heap.size l) ⟨hA1, Nat.le_refl _⟩).more (eSg HS) hE)
  clear hE hA1 hA2
  go_enter Try.func4, Try.ntmps4
  go_wp2_with fail
  refine (KN _ (S0.out.fact 0 rfl)).out.mono ?_
  rintro e w1 ⟨Af, cf, rfl, hT, hR, hB⟩
  have S1 := Lib.hid ((S0.out.on hB).more (filF14 Af w1.heap.size fs0) ⟨hT, Nat.le_refl _⟩)
  have HRf := Lib.hid hR
  clear hB hT hR S0
  obtain ⟨Bf, hBe⟩ : ∃ b, b = w1.heap.size := ⟨_, rfl⟩
  rw [← hBe] at S1
  clear hBe
  go_wp2_with (first
    | (refine wpList_store_st rfl 25 _ _ rfl S1.out _ #[.int .i64 sz, .int .i64 fi, .slice Af n0 cf] _ rfl rfl (by rfl) rfl (seg_one14 _ _ _ _ _) ?_; intro b0 w2 hp hS hBn; (try rw [← hp]); have S2 := Lib.hid hS; clear hS hp hBn)
    | (refine wpList_loadg_st (by rfl) 25 _ rfl S2.out 0 _ _ rfl rfl _ Try.underlying25 rfl (by rfl) ?_))
  refine (pf1 _ Af cf ((S2.out.fact 0 rfl).1.more (S2.out.fact 0 rfl).2) ((S2.out.fact 2 rfl).1.more (S2.out.fact 2 rfl).2)).out.mono ?_
  rintro e w3 ⟨rfl, hB⟩
  have S3 := Lib.hid (S2.out.on hB)
  clear hB S2
  go_wp2_with fail
  refine (Lib.hid (HC.out _ (S3.out.fact 1 rfl))).out.mono ?_
  rintro e w4 ⟨rfl, hB⟩
  have S4 := Lib.hid (S3.out.on hB)
  clear hB S3
  go_wp2
  go_ret
  exact ⟨rfl, S4.out.below⟩

set_option maxHeartbeats 4000000 in
theorem segmentCrash_far2 {E : World → Prop} (HS : Hid (SegK E)) (HC : Hid (PartedK E)) (size first : Int) (A1 : Option Addr) (N1 cap1 : Nat) (l : List ByteArray) (A2 : Option Addr) (N2 cap2 : Nat) (r : List ByteArray) (left : Int) (t : ByteArray) (w : World) (hE : E w) (hA1 : StrsAt w w.heap.size A1 l) (hA2 : StrsAt w w.heap.size A2 r) (sz fi : Int) (n0 : Nat) (fs0 : List Fil)
    (KN : ∀ (W : World) (_h : E W), Hid (Calls Try.prog 8 #[.int .i64 size, .int .i64 first] W fun e w' => ∃ A c, e = .returned (.tuple #[.agg #[.int .i64 sz, .int .i64 fi, .slice A n0 c], .int .i64 0]) ∧ FilsAt w' w'.heap.size A fs0 ∧ RoomyF A fs0 c ∧ Below W.heap.size W w'))
    (pf1 : ∀ (W : World) (A : Option Addr) (c : Nat) (_hA : FilsAt W W.heap.size A fs0) (_hB : StrsAt W W.heap.size A1 l), Hid (Calls Try.prog 9 #[.agg #[.int .i64 sz, .int .i64 fi, .slice A n0 c], .slice A1 N1 cap1] W fun e w' => e = .returned (.bool false) ∧ Below W.heap.size W w'))
    (pf2 : ∀ (W : World) (A : Option Addr) (c : Nat) (_hA : FilsAt W W.heap.size A fs0) (_hB : StrsAt W W.heap.size A2 r), Hid (Calls Try.prog 9 #[.agg #[.int .i64 sz, .int .i64 fi, .slice A n0 c], .slice A2 N2 cap2] W fun e w' => e = .returned (.bool true) ∧ Below W.heap.size W w')) :
    Calls Try.prog 4 #[.int .i64 size, .int .i64 first, .slice A1 N1 cap1, .slice A2 N2 cap2, .int .i64 left, .string t] w fun e w' => e = .returned (.bool true) ∧ Below w.heap.size w w' := by
  have S0 := Lib.hid ((((St.start w).more (strsF14 A2 w.heap.size r) ⟨hA2, Nat.le_refl _⟩).more (strsF14 A1 w.heap.size l) ⟨hA1, Nat.le_refl _⟩).more (eSg HS) hE)
  clear hE hA1 hA2
  go_enter Try.func4, Try.ntmps4
  go_wp2_with fail
  refine (KN _ (S0.out.fact 0 rfl)).out.mono ?_
  rintro e w1 ⟨Af, cf, rfl, hT, hR, hB⟩
  have S1 := Lib.hid ((S0.out.on hB).more (filF14 Af w1.heap.size fs0) ⟨hT, Nat.le_refl _⟩)
  have HRf := Lib.hid hR
  clear hB hT hR S0
  obtain ⟨Bf, hBe⟩ : ∃ b, b = w1.heap.size := ⟨_, rfl⟩
  rw [← hBe] at S1
  clear hBe
  go_wp2_with (first
    | (refine wpList_store_st rfl 25 _ _ rfl S1.out _ #[.int .i64 sz, .int .i64 fi, .slice Af n0 cf] _ rfl rfl (by rfl) rfl (seg_one14 _ _ _ _ _) ?_; intro b0 w2 hp hS hBn; (try rw [← hp]); have S2 := Lib.hid hS; clear hS hp hBn)
    | (refine wpList_loadg_st (by rfl) 25 _ rfl S2.out 0 _ _ rfl rfl _ Try.underlying25 rfl (by rfl) ?_))
  refine (pf1 _ Af cf ((S2.out.fact 0 rfl).1.more (S2.out.fact 0 rfl).2) ((S2.out.fact 2 rfl).1.more (S2.out.fact 2 rfl).2)).out.mono ?_
  rintro e w3 ⟨rfl, hB⟩
  have S3 := Lib.hid (S2.out.on hB)
  clear hB S2
  go_wp2_with (refine wpList_loadg_st (by rfl) 25 _ rfl S3.out 0 _ _ rfl rfl _ Try.underlying25 rfl (by rfl) ?_)
  refine (pf2 _ Af cf ((S3.out.fact 0 rfl).1.more (S3.out.fact 0 rfl).2) ((S3.out.fact 3 rfl).1.more (S3.out.fact 3 rfl).2)).out.mono ?_
  rintro e w4 ⟨rfl, hB⟩
  have S4 := Lib.hid (S3.out.on hB)
  clear hB S3
  go_wp2_with fail
  refine (Lib.hid (HC.out _ (S4.out.fact 1 rfl))).out.mono ?_
  rintro e w5 ⟨rfl, hB⟩
  have S5 := Lib.hid (S4.out.on hB)
  clear hB S4
  go_wp2
  go_ret
  exact ⟨rfl, S5.out.below⟩

set_option maxHeartbeats 4000000 in
theorem segmentCrash_long {E : World → Prop} (HS : Hid (SegK E)) (HC : Hid (PartedK E)) (size first : Int) (A1 : Option Addr) (N1 cap1 : Nat) (l : List ByteArray) (A2 : Option Addr) (N2 cap2 : Nat) (r : List ByteArray) (left : Int) (t : ByteArray) (w : World) (hE : E w) (hA1 : StrsAt w w.heap.size A1 l) (hA2 : StrsAt w w.heap.size A2 r) (sz fi : Int) (n0 : Nat) (fs0 : List Fil) (j3 : ((100 : Int) < (t.size : Int)) = True)
    (KN : ∀ (W : World) (_h : E W), Hid (Calls Try.prog 8 #[.int .i64 size, .int .i64 first] W fun e w' => ∃ A c, e = .returned (.tuple #[.agg #[.int .i64 sz, .int .i64 fi, .slice A n0 c], .int .i64 0]) ∧ FilsAt w' w'.heap.size A fs0 ∧ RoomyF A fs0 c ∧ Below W.heap.size W w'))
    (pf1 : ∀ (W : World) (A : Option Addr) (c : Nat) (_hA : FilsAt W W.heap.size A fs0) (_hB : StrsAt W W.heap.size A1 l), Hid (Calls Try.prog 9 #[.agg #[.int .i64 sz, .int .i64 fi, .slice A n0 c], .slice A1 N1 cap1] W fun e w' => e = .returned (.bool false) ∧ Below W.heap.size W w'))
    (pf2 : ∀ (W : World) (A : Option Addr) (c : Nat) (_hA : FilsAt W W.heap.size A fs0) (_hB : StrsAt W W.heap.size A2 r), Hid (Calls Try.prog 9 #[.agg #[.int .i64 sz, .int .i64 fi, .slice A n0 c], .slice A2 N2 cap2] W fun e w' => e = .returned (.bool false) ∧ Below W.heap.size W w')) :
    Calls Try.prog 4 #[.int .i64 size, .int .i64 first, .slice A1 N1 cap1, .slice A2 N2 cap2, .int .i64 left, .string t] w fun e w' => e = .returned (.bool true) ∧ Below w.heap.size w w' := by
  have S0 := Lib.hid ((((St.start w).more (strsF14 A2 w.heap.size r) ⟨hA2, Nat.le_refl _⟩).more (strsF14 A1 w.heap.size l) ⟨hA1, Nat.le_refl _⟩).more (eSg HS) hE)
  clear hE hA1 hA2
  go_enter Try.func4, Try.ntmps4
  go_wp2_with fail
  refine (KN _ (S0.out.fact 0 rfl)).out.mono ?_
  rintro e w1 ⟨Af, cf, rfl, hT, hR, hB⟩
  have S1 := Lib.hid ((S0.out.on hB).more (filF14 Af w1.heap.size fs0) ⟨hT, Nat.le_refl _⟩)
  have HRf := Lib.hid hR
  clear hB hT hR S0
  obtain ⟨Bf, hBe⟩ : ∃ b, b = w1.heap.size := ⟨_, rfl⟩
  rw [← hBe] at S1
  clear hBe
  go_wp2_with (first
    | (refine wpList_store_st rfl 25 _ _ rfl S1.out _ #[.int .i64 sz, .int .i64 fi, .slice Af n0 cf] _ rfl rfl (by rfl) rfl (seg_one14 _ _ _ _ _) ?_; intro b0 w2 hp hS hBn; (try rw [← hp]); have S2 := Lib.hid hS; clear hS hp hBn)
    | (refine wpList_loadg_st (by rfl) 25 _ rfl S2.out 0 _ _ rfl rfl _ Try.underlying25 rfl (by rfl) ?_))
  refine (pf1 _ Af cf ((S2.out.fact 0 rfl).1.more (S2.out.fact 0 rfl).2) ((S2.out.fact 2 rfl).1.more (S2.out.fact 2 rfl).2)).out.mono ?_
  rintro e w3 ⟨rfl, hB⟩
  have S3 := Lib.hid (S2.out.on hB)
  clear hB S2
  go_wp2_with (refine wpList_loadg_st (by rfl) 25 _ rfl S3.out 0 _ _ rfl rfl _ Try.underlying25 rfl (by rfl) ?_)
  refine (pf2 _ Af cf ((S3.out.fact 0 rfl).1.more (S3.out.fact 0 rfl).2) ((S3.out.fact 3 rfl).1.more (S3.out.fact 3 rfl).2)).out.mono ?_
  rintro e w4 ⟨rfl, hB⟩
  have S4 := Lib.hid (S3.out.on hB)
  clear hB S3
  go_wp2_with fail
  refine (Lib.hid (HC.out _ (S4.out.fact 1 rfl))).out.mono ?_
  rintro e w5 ⟨rfl, hB⟩
  have S5 := Lib.hid (S4.out.on hB)
  clear hB S4
  go_wp2
  go_ret
  exact ⟨rfl, S5.out.below⟩

set_option maxHeartbeats 4000000 in
theorem segmentCrash_bad1 {E : World → Prop} (HS : Hid (SegK E)) (HC : Hid (PartedK E)) (size first : Int) (A1 : Option Addr) (N1 cap1 : Nat) (l : List ByteArray) (A2 : Option Addr) (N2 cap2 : Nat) (r : List ByteArray) (left : Int) (t : ByteArray) (w : World) (hE : E w) (hA1 : StrsAt w w.heap.size A1 l) (hA2 : StrsAt w w.heap.size A2 r) (sz fi : Int) (n0 : Nat) (fs0 : List Fil) (xn : Nat) (xfs : List Fil) (xs xf : Int) (vn : Nat) (vfs : List Fil) (vs vf : Int) (yn : Nat) (yfs : List Fil) (ys yf : Int) (j3 : ((100 : Int) < (t.size : Int)) = False) (ge ve he : Int) (jg : (ge != 0) = true)
    (KN : ∀ (W : World) (_h : E W), Hid (Calls Try.prog 8 #[.int .i64 size, .int .i64 first] W fun e w' => ∃ A c, e = .returned (.tuple #[.agg #[.int .i64 sz, .int .i64 fi, .slice A n0 c], .int .i64 0]) ∧ FilsAt w' w'.heap.size A fs0 ∧ RoomyF A fs0 c ∧ Below W.heap.size W w'))
    (pf1 : ∀ (W : World) (A : Option Addr) (c : Nat) (_hA : FilsAt W W.heap.size A fs0) (_hB : StrsAt W W.heap.size A1 l), Hid (Calls Try.prog 9 #[.agg #[.int .i64 sz, .int .i64 fi, .slice A n0 c], .slice A1 N1 cap1] W fun e w' => e = .returned (.bool false) ∧ Below W.heap.size W w'))
    (pf2 : ∀ (W : World) (A : Option Addr) (c : Nat) (_hA : FilsAt W W.heap.size A fs0) (_hB : StrsAt W W.heap.size A2 r), Hid (Calls Try.prog 9 #[.agg #[.int .i64 sz, .int .i64 fi, .slice A n0 c], .slice A2 N2 cap2] W fun e w' => e = .returned (.bool false) ∧ Below W.heap.size W w'))
    (KA : ∀ (W : World) (A : Option Addr) (c : Nat) (_h : E W) (_hA : FilsAt W W.heap.size A fs0) (_hR : RoomyF A fs0 c) (_hB : StrsAt W W.heap.size A1 l), Hid (Calls Try.prog 11 #[.agg #[.int .i64 sz, .int .i64 fi, .slice A n0 c], .slice A1 N1 cap1] W fun e w' => ∃ A c, e = .returned (.tuple #[.agg #[.int .i64 xs, .int .i64 xf, .slice A xn c], .int .i64 ge]) ∧ FilsAt w' w'.heap.size A xfs ∧ RoomyF A xfs c ∧ Below W.heap.size W w'))
    (KV : ∀ (W : World) (A : Option Addr) (c : Nat) (_h : E W) (_hA : FilsAt W W.heap.size A xfs) (_hR : RoomyF A xfs c), Hid (Calls Try.prog 16 #[.agg #[.int .i64 xs, .int .i64 xf, .slice A xn c]] W fun e w' => ∃ A c, e = .returned (.tuple #[.agg #[.int .i64 vs, .int .i64 vf, .slice A vn c], .int .i64 ve]) ∧ FilsAt w' w'.heap.size A vfs ∧ RoomyF A vfs c ∧ Below W.heap.size W w'))
    (KB : ∀ (W : World) (A : Option Addr) (c : Nat) (_h : E W) (_hA : FilsAt W W.heap.size A vfs) (_hR : RoomyF A vfs c) (_hB : StrsAt W W.heap.size A2 r), Hid (Calls Try.prog 11 #[.agg #[.int .i64 vs, .int .i64 vf, .slice A vn c], .slice A2 N2 cap2] W fun e w' => ∃ A c, e = .returned (.tuple #[.agg #[.int .i64 ys, .int .i64 yf, .slice A yn c], .int .i64 he]) ∧ FilsAt w' w'.heap.size A yfs ∧ RoomyF A yfs c ∧ Below W.heap.size W w')) :
    Calls Try.prog 4 #[.int .i64 size, .int .i64 first, .slice A1 N1 cap1, .slice A2 N2 cap2, .int .i64 left, .string t] w fun e w' => e = .returned (.bool true) ∧ Below w.heap.size w w' := by
  have S0 := Lib.hid ((((St.start w).more (strsF14 A2 w.heap.size r) ⟨hA2, Nat.le_refl _⟩).more (strsF14 A1 w.heap.size l) ⟨hA1, Nat.le_refl _⟩).more (eSg HS) hE)
  clear hE hA1 hA2
  go_enter Try.func4, Try.ntmps4
  go_wp2_with fail
  refine (KN _ (S0.out.fact 0 rfl)).out.mono ?_
  rintro e w1 ⟨Af, cf, rfl, hT, hR, hB⟩
  have S1 := Lib.hid ((S0.out.on hB).more (filF14 Af w1.heap.size fs0) ⟨hT, Nat.le_refl _⟩)
  have HRf := Lib.hid hR
  clear hB hT hR S0
  obtain ⟨Bf, hBe⟩ : ∃ b, b = w1.heap.size := ⟨_, rfl⟩
  rw [← hBe] at S1
  clear hBe
  go_wp2_with (first
    | (refine wpList_store_st rfl 25 _ _ rfl S1.out _ #[.int .i64 sz, .int .i64 fi, .slice Af n0 cf] _ rfl rfl (by rfl) rfl (seg_one14 _ _ _ _ _) ?_; intro b0 w2 hp hS hBn; (try rw [← hp]); have S2 := Lib.hid hS; clear hS hp hBn)
    | (refine wpList_loadg_st (by rfl) 25 _ rfl S2.out 0 _ _ rfl rfl _ Try.underlying25 rfl (by rfl) ?_))
  refine (pf1 _ Af cf ((S2.out.fact 0 rfl).1.more (S2.out.fact 0 rfl).2) ((S2.out.fact 2 rfl).1.more (S2.out.fact 2 rfl).2)).out.mono ?_
  rintro e w3 ⟨rfl, hB⟩
  have S3 := Lib.hid (S2.out.on hB)
  clear hB S2
  go_wp2_with (refine wpList_loadg_st (by rfl) 25 _ rfl S3.out 0 _ _ rfl rfl _ Try.underlying25 rfl (by rfl) ?_)
  refine (pf2 _ Af cf ((S3.out.fact 0 rfl).1.more (S3.out.fact 0 rfl).2) ((S3.out.fact 3 rfl).1.more (S3.out.fact 3 rfl).2)).out.mono ?_
  rintro e w4 ⟨rfl, hB⟩
  have S4 := Lib.hid (S3.out.on hB)
  clear hB S3
  go_wp2_with (refine wpList_load_st rfl 25 _ rfl S4.out 0 _ _ rfl rfl _ Try.underlying25 rfl (by rfl) ?_)
  refine (KA _ Af cf (S4.out.fact 1 rfl) ((S4.out.fact 0 rfl).1.more (S4.out.fact 0 rfl).2) HRf.out ((S4.out.fact 2 rfl).1.more (S4.out.fact 2 rfl).2)).out.mono ?_
  rintro e w5 ⟨Ax, cx, rfl, hT, hR, hB⟩
  have S5 := Lib.hid ((S4.out.on hB).more (filF14 Ax w5.heap.size xfs) ⟨hT, Nat.le_refl _⟩)
  have HRx := Lib.hid hR
  clear hB hT hR S4
  obtain ⟨Bx, hBe⟩ : ∃ b, b = w5.heap.size := ⟨_, rfl⟩
  rw [← hBe] at S5
  clear hBe
  clear KA pf1 pf2 KN j3
  go_wp2_with (first
    | (refine wpList_store_st rfl 25 _ _ rfl S5.out _ #[.int .i64 xs, .int .i64 xf, .slice Ax xn cx] _ rfl rfl (by rfl) rfl (seg_one14 _ _ _ _ _) ?_; intro b1 w6 hp hS hBn; (try rw [← hp]); have S6 := Lib.hid hS; clear hS hp hBn)
    | (refine wpList_load_st rfl 25 _ rfl S6.out 0 _ _ rfl rfl _ Try.underlying25 rfl (by rfl) ?_))
  refine (KV _ Ax cx (S6.out.fact 2 rfl) ((S6.out.fact 0 rfl).1.more (S6.out.fact 0 rfl).2) HRx.out).out.mono ?_
  rintro e w7 ⟨Av, cv, rfl, hT, hR, hB⟩
  have S7 := Lib.hid ((S6.out.on hB).more (filF14 Av w7.heap.size vfs) ⟨hT, Nat.le_refl _⟩)
  have HRv := Lib.hid hR
  clear hB hT hR S6
  obtain ⟨Bv, hBe⟩ : ∃ b, b = w7.heap.size := ⟨_, rfl⟩
  rw [← hBe] at S7
  clear hBe
  clear KV
  go_wp2_with (first
    | (refine wpList_store_st rfl 25 _ _ rfl S7.out _ #[.int .i64 vs, .int .i64 vf, .slice Av vn cv] _ rfl rfl (by rfl) rfl (seg_one14 _ _ _ _ _) ?_; intro b2 w8 hp hS hBn; (try rw [← hp]); have S8 := Lib.hid hS; clear hS hp hBn)
    | (refine wpList_load_st rfl 25 _ rfl S8.out 0 _ _ rfl rfl _ Try.underlying25 rfl (by rfl) ?_))
  refine (KB _ Av cv (S8.out.fact 3 rfl) ((S8.out.fact 0 rfl).1.more (S8.out.fact 0 rfl).2) HRv.out ((S8.out.fact 5 rfl).1.more (S8.out.fact 5 rfl).2)).out.mono ?_
  rintro e w9 ⟨Ay, cy, rfl, hT, hR, hB⟩
  have S9 := Lib.hid ((S8.out.on hB).more (filF14 Ay w9.heap.size yfs) ⟨hT, Nat.le_refl _⟩)
  have HRy := Lib.hid hR
  clear hB hT hR S8
  obtain ⟨By, hBe⟩ : ∃ b, b = w9.heap.size := ⟨_, rfl⟩
  rw [← hBe] at S9
  clear hBe
  clear KB
  go_wp2_with (refine wpList_store_st rfl 25 _ _ rfl S9.out _ #[.int .i64 ys, .int .i64 yf, .slice Ay yn cy] _ rfl rfl (by rfl) rfl (seg_one14 _ _ _ _ _) ?_; intro b3 w10 hp hS hBn; (try rw [← hp]); have S10 := Lib.hid hS; clear hS hp hBn)
  refine (Lib.hid (HC.out _ (S10.out.fact 4 rfl))).out.mono ?_
  rintro e w11 ⟨rfl, hB⟩
  have S11 := Lib.hid (S10.out.on hB)
  clear hB S10
  go_wp2
  go_ret
  exact ⟨rfl, S11.out.below⟩

set_option maxHeartbeats 4000000 in
theorem segmentCrash_bad2 {E : World → Prop} (HS : Hid (SegK E)) (HC : Hid (PartedK E)) (size first : Int) (A1 : Option Addr) (N1 cap1 : Nat) (l : List ByteArray) (A2 : Option Addr) (N2 cap2 : Nat) (r : List ByteArray) (left : Int) (t : ByteArray) (w : World) (hE : E w) (hA1 : StrsAt w w.heap.size A1 l) (hA2 : StrsAt w w.heap.size A2 r) (sz fi : Int) (n0 : Nat) (fs0 : List Fil) (xn : Nat) (xfs : List Fil) (xs xf : Int) (vn : Nat) (vfs : List Fil) (vs vf : Int) (yn : Nat) (yfs : List Fil) (ys yf : Int) (j3 : ((100 : Int) < (t.size : Int)) = False) (he : Int) (jh : (he != 0) = true)
    (KN : ∀ (W : World) (_h : E W), Hid (Calls Try.prog 8 #[.int .i64 size, .int .i64 first] W fun e w' => ∃ A c, e = .returned (.tuple #[.agg #[.int .i64 sz, .int .i64 fi, .slice A n0 c], .int .i64 0]) ∧ FilsAt w' w'.heap.size A fs0 ∧ RoomyF A fs0 c ∧ Below W.heap.size W w'))
    (pf1 : ∀ (W : World) (A : Option Addr) (c : Nat) (_hA : FilsAt W W.heap.size A fs0) (_hB : StrsAt W W.heap.size A1 l), Hid (Calls Try.prog 9 #[.agg #[.int .i64 sz, .int .i64 fi, .slice A n0 c], .slice A1 N1 cap1] W fun e w' => e = .returned (.bool false) ∧ Below W.heap.size W w'))
    (pf2 : ∀ (W : World) (A : Option Addr) (c : Nat) (_hA : FilsAt W W.heap.size A fs0) (_hB : StrsAt W W.heap.size A2 r), Hid (Calls Try.prog 9 #[.agg #[.int .i64 sz, .int .i64 fi, .slice A n0 c], .slice A2 N2 cap2] W fun e w' => e = .returned (.bool false) ∧ Below W.heap.size W w'))
    (KA : ∀ (W : World) (A : Option Addr) (c : Nat) (_h : E W) (_hA : FilsAt W W.heap.size A fs0) (_hR : RoomyF A fs0 c) (_hB : StrsAt W W.heap.size A1 l), Hid (Calls Try.prog 11 #[.agg #[.int .i64 sz, .int .i64 fi, .slice A n0 c], .slice A1 N1 cap1] W fun e w' => ∃ A c, e = .returned (.tuple #[.agg #[.int .i64 xs, .int .i64 xf, .slice A xn c], .int .i64 0]) ∧ FilsAt w' w'.heap.size A xfs ∧ RoomyF A xfs c ∧ Below W.heap.size W w'))
    (KV : ∀ (W : World) (A : Option Addr) (c : Nat) (_h : E W) (_hA : FilsAt W W.heap.size A xfs) (_hR : RoomyF A xfs c), Hid (Calls Try.prog 16 #[.agg #[.int .i64 xs, .int .i64 xf, .slice A xn c]] W fun e w' => ∃ A c, e = .returned (.tuple #[.agg #[.int .i64 vs, .int .i64 vf, .slice A vn c], .int .i64 0]) ∧ FilsAt w' w'.heap.size A vfs ∧ RoomyF A vfs c ∧ Below W.heap.size W w'))
    (KB : ∀ (W : World) (A : Option Addr) (c : Nat) (_h : E W) (_hA : FilsAt W W.heap.size A vfs) (_hR : RoomyF A vfs c) (_hB : StrsAt W W.heap.size A2 r), Hid (Calls Try.prog 11 #[.agg #[.int .i64 vs, .int .i64 vf, .slice A vn c], .slice A2 N2 cap2] W fun e w' => ∃ A c, e = .returned (.tuple #[.agg #[.int .i64 ys, .int .i64 yf, .slice A yn c], .int .i64 he]) ∧ FilsAt w' w'.heap.size A yfs ∧ RoomyF A yfs c ∧ Below W.heap.size W w')) :
    Calls Try.prog 4 #[.int .i64 size, .int .i64 first, .slice A1 N1 cap1, .slice A2 N2 cap2, .int .i64 left, .string t] w fun e w' => e = .returned (.bool true) ∧ Below w.heap.size w w' := by
  have S0 := Lib.hid ((((St.start w).more (strsF14 A2 w.heap.size r) ⟨hA2, Nat.le_refl _⟩).more (strsF14 A1 w.heap.size l) ⟨hA1, Nat.le_refl _⟩).more (eSg HS) hE)
  clear hE hA1 hA2
  go_enter Try.func4, Try.ntmps4
  go_wp2_with fail
  refine (KN _ (S0.out.fact 0 rfl)).out.mono ?_
  rintro e w1 ⟨Af, cf, rfl, hT, hR, hB⟩
  have S1 := Lib.hid ((S0.out.on hB).more (filF14 Af w1.heap.size fs0) ⟨hT, Nat.le_refl _⟩)
  have HRf := Lib.hid hR
  clear hB hT hR S0
  obtain ⟨Bf, hBe⟩ : ∃ b, b = w1.heap.size := ⟨_, rfl⟩
  rw [← hBe] at S1
  clear hBe
  go_wp2_with (first
    | (refine wpList_store_st rfl 25 _ _ rfl S1.out _ #[.int .i64 sz, .int .i64 fi, .slice Af n0 cf] _ rfl rfl (by rfl) rfl (seg_one14 _ _ _ _ _) ?_; intro b0 w2 hp hS hBn; (try rw [← hp]); have S2 := Lib.hid hS; clear hS hp hBn)
    | (refine wpList_loadg_st (by rfl) 25 _ rfl S2.out 0 _ _ rfl rfl _ Try.underlying25 rfl (by rfl) ?_))
  refine (pf1 _ Af cf ((S2.out.fact 0 rfl).1.more (S2.out.fact 0 rfl).2) ((S2.out.fact 2 rfl).1.more (S2.out.fact 2 rfl).2)).out.mono ?_
  rintro e w3 ⟨rfl, hB⟩
  have S3 := Lib.hid (S2.out.on hB)
  clear hB S2
  go_wp2_with (refine wpList_loadg_st (by rfl) 25 _ rfl S3.out 0 _ _ rfl rfl _ Try.underlying25 rfl (by rfl) ?_)
  refine (pf2 _ Af cf ((S3.out.fact 0 rfl).1.more (S3.out.fact 0 rfl).2) ((S3.out.fact 3 rfl).1.more (S3.out.fact 3 rfl).2)).out.mono ?_
  rintro e w4 ⟨rfl, hB⟩
  have S4 := Lib.hid (S3.out.on hB)
  clear hB S3
  go_wp2_with (refine wpList_load_st rfl 25 _ rfl S4.out 0 _ _ rfl rfl _ Try.underlying25 rfl (by rfl) ?_)
  refine (KA _ Af cf (S4.out.fact 1 rfl) ((S4.out.fact 0 rfl).1.more (S4.out.fact 0 rfl).2) HRf.out ((S4.out.fact 2 rfl).1.more (S4.out.fact 2 rfl).2)).out.mono ?_
  rintro e w5 ⟨Ax, cx, rfl, hT, hR, hB⟩
  have S5 := Lib.hid ((S4.out.on hB).more (filF14 Ax w5.heap.size xfs) ⟨hT, Nat.le_refl _⟩)
  have HRx := Lib.hid hR
  clear hB hT hR S4
  obtain ⟨Bx, hBe⟩ : ∃ b, b = w5.heap.size := ⟨_, rfl⟩
  rw [← hBe] at S5
  clear hBe
  clear KA pf1 pf2 KN j3
  go_wp2_with (first
    | (refine wpList_store_st rfl 25 _ _ rfl S5.out _ #[.int .i64 xs, .int .i64 xf, .slice Ax xn cx] _ rfl rfl (by rfl) rfl (seg_one14 _ _ _ _ _) ?_; intro b1 w6 hp hS hBn; (try rw [← hp]); have S6 := Lib.hid hS; clear hS hp hBn)
    | (refine wpList_load_st rfl 25 _ rfl S6.out 0 _ _ rfl rfl _ Try.underlying25 rfl (by rfl) ?_))
  refine (KV _ Ax cx (S6.out.fact 2 rfl) ((S6.out.fact 0 rfl).1.more (S6.out.fact 0 rfl).2) HRx.out).out.mono ?_
  rintro e w7 ⟨Av, cv, rfl, hT, hR, hB⟩
  have S7 := Lib.hid ((S6.out.on hB).more (filF14 Av w7.heap.size vfs) ⟨hT, Nat.le_refl _⟩)
  have HRv := Lib.hid hR
  clear hB hT hR S6
  obtain ⟨Bv, hBe⟩ : ∃ b, b = w7.heap.size := ⟨_, rfl⟩
  rw [← hBe] at S7
  clear hBe
  clear KV
  go_wp2_with (first
    | (refine wpList_store_st rfl 25 _ _ rfl S7.out _ #[.int .i64 vs, .int .i64 vf, .slice Av vn cv] _ rfl rfl (by rfl) rfl (seg_one14 _ _ _ _ _) ?_; intro b2 w8 hp hS hBn; (try rw [← hp]); have S8 := Lib.hid hS; clear hS hp hBn)
    | (refine wpList_load_st rfl 25 _ rfl S8.out 0 _ _ rfl rfl _ Try.underlying25 rfl (by rfl) ?_))
  refine (KB _ Av cv (S8.out.fact 3 rfl) ((S8.out.fact 0 rfl).1.more (S8.out.fact 0 rfl).2) HRv.out ((S8.out.fact 5 rfl).1.more (S8.out.fact 5 rfl).2)).out.mono ?_
  rintro e w9 ⟨Ay, cy, rfl, hT, hR, hB⟩
  have S9 := Lib.hid ((S8.out.on hB).more (filF14 Ay w9.heap.size yfs) ⟨hT, Nat.le_refl _⟩)
  have HRy := Lib.hid hR
  clear hB hT hR S8
  obtain ⟨By, hBe⟩ : ∃ b, b = w9.heap.size := ⟨_, rfl⟩
  rw [← hBe] at S9
  clear hBe
  clear KB
  go_wp2_with (refine wpList_store_st rfl 25 _ _ rfl S9.out _ #[.int .i64 ys, .int .i64 yf, .slice Ay yn cy] _ rfl rfl (by rfl) rfl (seg_one14 _ _ _ _ _) ?_; intro b3 w10 hp hS hBn; (try rw [← hp]); have S10 := Lib.hid hS; clear hS hp hBn)
  refine (Lib.hid (HC.out _ (S10.out.fact 4 rfl))).out.mono ?_
  rintro e w11 ⟨rfl, hB⟩
  have S11 := Lib.hid (S10.out.on hB)
  clear hB S10
  go_wp2
  go_ret
  exact ⟨rfl, S11.out.below⟩

set_option maxHeartbeats 4000000 in
theorem segmentCrash_full2 {E : World → Prop} (HS : Hid (SegK E)) (HC : Hid (PartedK E)) (size first : Int) (A1 : Option Addr) (N1 cap1 : Nat) (l : List ByteArray) (A2 : Option Addr) (N2 cap2 : Nat) (r : List ByteArray) (left : Int) (t : ByteArray) (w : World) (hE : E w) (hA1 : StrsAt w w.heap.size A1 l) (hA2 : StrsAt w w.heap.size A2 r) (sz fi : Int) (n0 : Nat) (fs0 : List Fil) (xn : Nat) (xfs : List Fil) (xs xf : Int) (vn : Nat) (vfs : List Fil) (vs vf : Int) (yn : Nat) (yfs : List Fil) (ys yf : Int) (dn : Nat) (dfs : List Fil) (ds df : Int) (mn : Nat) (mfs : List Fil) (ms mf : Int) (j3 : ((100 : Int) < (t.size : Int)) = False) (hN1 : N1 = l.length) (hN2 : N2 = r.length) (hl1 : N1 ≤ 25) (hl2 : N2 ≤ 25) (hnil1 : A1 = none → cap1 = 0) (hnil2 : A2 = none → cap2 = 0) (al tk : List ByteArray) (hal : l ++ r = al) (L J : Nat) (hL : L = al.length) (hJL : J ≤ L) (htk : al.take J = tk) (jJ1 : ((J : Int) < (N1 : Int)) = False) (jJ2 : ((L : Int) < (J : Int)) = False)
    (KN : ∀ (W : World) (_h : E W), Hid (Calls Try.prog 8 #[.int .i64 size, .int .i64 first] W fun e w' => ∃ A c, e = .returned (.tuple #[.agg #[.int .i64 sz, .int .i64 fi, .slice A n0 c], .int .i64 0]) ∧ FilsAt w' w'.heap.size A fs0 ∧ RoomyF A fs0 c ∧ Below W.heap.size W w'))
    (pf1 : ∀ (W : World) (A : Option Addr) (c : Nat) (_hA : FilsAt W W.heap.size A fs0) (_hB : StrsAt W W.heap.size A1 l), Hid (Calls Try.prog 9 #[.agg #[.int .i64 sz, .int .i64 fi, .slice A n0 c], .slice A1 N1 cap1] W fun e w' => e = .returned (.bool false) ∧ Below W.heap.size W w'))
    (pf2 : ∀ (W : World) (A : Option Addr) (c : Nat) (_hA : FilsAt W W.heap.size A fs0) (_hB : StrsAt W W.heap.size A2 r), Hid (Calls Try.prog 9 #[.agg #[.int .i64 sz, .int .i64 fi, .slice A n0 c], .slice A2 N2 cap2] W fun e w' => e = .returned (.bool false) ∧ Below W.heap.size W w'))
    (KA : ∀ (W : World) (A : Option Addr) (c : Nat) (_h : E W) (_hA : FilsAt W W.heap.size A fs0) (_hR : RoomyF A fs0 c) (_hB : StrsAt W W.heap.size A1 l), Hid (Calls Try.prog 11 #[.agg #[.int .i64 sz, .int .i64 fi, .slice A n0 c], .slice A1 N1 cap1] W fun e w' => ∃ A c, e = .returned (.tuple #[.agg #[.int .i64 xs, .int .i64 xf, .slice A xn c], .int .i64 0]) ∧ FilsAt w' w'.heap.size A xfs ∧ RoomyF A xfs c ∧ Below W.heap.size W w'))
    (KV : ∀ (W : World) (A : Option Addr) (c : Nat) (_h : E W) (_hA : FilsAt W W.heap.size A xfs) (_hR : RoomyF A xfs c), Hid (Calls Try.prog 16 #[.agg #[.int .i64 xs, .int .i64 xf, .slice A xn c]] W fun e w' => ∃ A c, e = .returned (.tuple #[.agg #[.int .i64 vs, .int .i64 vf, .slice A vn c], .int .i64 0]) ∧ FilsAt w' w'.heap.size A vfs ∧ RoomyF A vfs c ∧ Below W.heap.size W w'))
    (KB : ∀ (W : World) (A : Option Addr) (c : Nat) (_h : E W) (_hA : FilsAt W W.heap.size A vfs) (_hR : RoomyF A vfs c) (_hB : StrsAt W W.heap.size A2 r), Hid (Calls Try.prog 11 #[.agg #[.int .i64 vs, .int .i64 vf, .slice A vn c], .slice A2 N2 cap2] W fun e w' => ∃ A c, e = .returned (.tuple #[.agg #[.int .i64 ys, .int .i64 yf, .slice A yn c], .int .i64 0]) ∧ FilsAt w' w'.heap.size A yfs ∧ RoomyF A yfs c ∧ Below W.heap.size W w'))
    (KD : ∀ (W : World) (A : Option Addr) (c : Nat) (_h : E W) (_hA : FilsAt W W.heap.size A yfs) (_hR : RoomyF A yfs c), Hid (Calls Try.prog 17 #[.agg #[.int .i64 ys, .int .i64 yf, .slice A yn c], .int .i64 left] W fun e w' => ∃ A c, e = .returned (.tuple #[.agg #[.int .i64 ds, .int .i64 df, .slice A dn c], .int .i64 0]) ∧ FilsAt w' w'.heap.size A dfs ∧ RoomyF A dfs c ∧ Below W.heap.size W w'))
    (KM : ∀ (W : World) (A : Option Addr) (c : Nat) (_h : E W) (_hA : FilsAt W W.heap.size A dfs) (_hR : RoomyF A dfs c), Hid (Calls Try.prog 18 #[.agg #[.int .i64 ds, .int .i64 df, .slice A dn c]] W fun e w' => ∃ A c, e = .returned (.tuple #[.agg #[.int .i64 ms, .int .i64 mf, .slice A mn c], .int .i64 0]) ∧ FilsAt w' w'.heap.size A mfs ∧ RoomyF A mfs c ∧ Below W.heap.size W w'))
    (KR : ∀ (W : World) (A : Option Addr) (c : Nat) (_h : E W) (_hA : FilsAt W W.heap.size A mfs) (_hR : RoomyF A mfs c), Hid (Calls Try.prog 12 #[.agg #[.int .i64 ms, .int .i64 mf, .slice A mn c]] W fun e w' => ∃ A c, e = .returned (.tuple #[.slice A J c, .int .i64 0]) ∧ StrsAt w' w'.heap.size A tk ∧ J ≤ c ∧ Below W.heap.size W w'))
    (KT : ∀ (W : World) (A B : Option Addr) (c d : Nat) (_hA : StrsAt W W.heap.size A tk) (_hB : StrsAt W W.heap.size B tk), Hid (Calls Try.prog 14 #[.slice A J c, .slice B J d] W fun e w' => e = .returned (.bool true) ∧ Below W.heap.size W w'))
    (KZ : ∀ (W : World) (A : Option Addr) (c : Nat) (_h : E W) (_hA : FilsAt W W.heap.size A mfs) (_hR : RoomyF A mfs c) (A3 : Addr) (_hB : StrsAt W W.heap.size (some A3) [t]), Hid (Calls Try.prog 11 #[.agg #[.int .i64 ms, .int .i64 mf, .slice A mn c], .slice (some A3) 1 1] W fun e w' => ∃ A c, e = .returned (.tuple #[.agg #[.int .i64 0, .int .i64 0, .slice A 0 c], .int .i64 2]) ∧ FilsAt w' w'.heap.size A ([] : List Fil) ∧ RoomyF A ([] : List Fil) c ∧ Below W.heap.size W w'))
    (KO : ∀ (W : World) (A : Option Addr) (c : Nat) (_h : E W) (_hA : FilsAt W W.heap.size A ([] : List Fil)) (_hR : RoomyF A ([] : List Fil) c), Hid (Calls Try.prog 12 #[.agg #[.int .i64 0, .int .i64 0, .slice A 0 c]] W fun e w' => ∃ A c, e = .returned (.tuple #[.slice A 0 c, .int .i64 1]) ∧ StrsAt w' w'.heap.size A ([] : List ByteArray) ∧ 0 ≤ c ∧ Below W.heap.size W w')) :
    Calls Try.prog 4 #[.int .i64 size, .int .i64 first, .slice A1 N1 cap1, .slice A2 N2 cap2, .int .i64 left, .string t] w fun e w' => e = .returned (.bool true) ∧ Below w.heap.size w w' := by
  have HN1 := Lib.hid hN1
  have HN2 := Lib.hid hN2
  have Hl : Hid (l.length ≤ 25 ∧ r.length ≤ 25) := Lib.hid ⟨by omega, by omega⟩
  have Hal := Lib.hid hal
  have HL := Lib.hid hL
  have Hn1 := Lib.hid hnil1
  have Hn2 := Lib.hid hnil2
  have HJL := Lib.hid hJL
  have Htk := Lib.hid htk
  have HJ1 := Lib.hid jJ1
  have HJ2 := Lib.hid jJ2
  have HJ60 : Hid (J ≤ 60) := Lib.hid (by rw [← hal, List.length_append] at hL; omega)
  clear hN1 hN2 hl1 hl2 hal hL hnil1 hnil2 hJL htk jJ1 jJ2
  have S0 := Lib.hid ((((St.start w).more (strsF14 A2 w.heap.size r) ⟨hA2, Nat.le_refl _⟩).more (strsF14 A1 w.heap.size l) ⟨hA1, Nat.le_refl _⟩).more (eSg HS) hE)
  clear hE hA1 hA2
  go_enter Try.func4, Try.ntmps4
  go_wp2_with fail
  refine (KN _ (S0.out.fact 0 rfl)).out.mono ?_
  rintro e w1 ⟨Af, cf, rfl, hT, hR, hB⟩
  have S1 := Lib.hid ((S0.out.on hB).more (filF14 Af w1.heap.size fs0) ⟨hT, Nat.le_refl _⟩)
  have HRf := Lib.hid hR
  clear hB hT hR S0
  obtain ⟨Bf, hBe⟩ : ∃ b, b = w1.heap.size := ⟨_, rfl⟩
  rw [← hBe] at S1
  clear hBe
  go_wp2_with (first
    | (refine wpList_store_st rfl 25 _ _ rfl S1.out _ #[.int .i64 sz, .int .i64 fi, .slice Af n0 cf] _ rfl rfl (by rfl) rfl (seg_one14 _ _ _ _ _) ?_; intro b0 w2 hp hS hBn; (try rw [← hp]); have S2 := Lib.hid hS; clear hS hp hBn)
    | (refine wpList_loadg_st (by rfl) 25 _ rfl S2.out 0 _ _ rfl rfl _ Try.underlying25 rfl (by rfl) ?_))
  refine (pf1 _ Af cf ((S2.out.fact 0 rfl).1.more (S2.out.fact 0 rfl).2) ((S2.out.fact 2 rfl).1.more (S2.out.fact 2 rfl).2)).out.mono ?_
  rintro e w3 ⟨rfl, hB⟩
  have S3 := Lib.hid (S2.out.on hB)
  clear hB S2
  go_wp2_with (refine wpList_loadg_st (by rfl) 25 _ rfl S3.out 0 _ _ rfl rfl _ Try.underlying25 rfl (by rfl) ?_)
  refine (pf2 _ Af cf ((S3.out.fact 0 rfl).1.more (S3.out.fact 0 rfl).2) ((S3.out.fact 3 rfl).1.more (S3.out.fact 3 rfl).2)).out.mono ?_
  rintro e w4 ⟨rfl, hB⟩
  have S4 := Lib.hid (S3.out.on hB)
  clear hB S3
  go_wp2_with (refine wpList_load_st rfl 25 _ rfl S4.out 0 _ _ rfl rfl _ Try.underlying25 rfl (by rfl) ?_)
  refine (KA _ Af cf (S4.out.fact 1 rfl) ((S4.out.fact 0 rfl).1.more (S4.out.fact 0 rfl).2) HRf.out ((S4.out.fact 2 rfl).1.more (S4.out.fact 2 rfl).2)).out.mono ?_
  rintro e w5 ⟨Ax, cx, rfl, hT, hR, hB⟩
  have S5 := Lib.hid ((S4.out.on hB).more (filF14 Ax w5.heap.size xfs) ⟨hT, Nat.le_refl _⟩)
  have HRx := Lib.hid hR
  clear hB hT hR S4
  obtain ⟨Bx, hBe⟩ : ∃ b, b = w5.heap.size := ⟨_, rfl⟩
  rw [← hBe] at S5
  clear hBe
  clear KA pf1 pf2 KN j3
  go_wp2_with (first
    | (refine wpList_store_st rfl 25 _ _ rfl S5.out _ #[.int .i64 xs, .int .i64 xf, .slice Ax xn cx] _ rfl rfl (by rfl) rfl (seg_one14 _ _ _ _ _) ?_; intro b1 w6 hp hS hBn; (try rw [← hp]); have S6 := Lib.hid hS; clear hS hp hBn)
    | (refine wpList_load_st rfl 25 _ rfl S6.out 0 _ _ rfl rfl _ Try.underlying25 rfl (by rfl) ?_))
  refine (KV _ Ax cx (S6.out.fact 2 rfl) ((S6.out.fact 0 rfl).1.more (S6.out.fact 0 rfl).2) HRx.out).out.mono ?_
  rintro e w7 ⟨Av, cv, rfl, hT, hR, hB⟩
  have S7 := Lib.hid ((S6.out.on hB).more (filF14 Av w7.heap.size vfs) ⟨hT, Nat.le_refl _⟩)
  have HRv := Lib.hid hR
  clear hB hT hR S6
  obtain ⟨Bv, hBe⟩ : ∃ b, b = w7.heap.size := ⟨_, rfl⟩
  rw [← hBe] at S7
  clear hBe
  clear KV
  go_wp2_with (first
    | (refine wpList_store_st rfl 25 _ _ rfl S7.out _ #[.int .i64 vs, .int .i64 vf, .slice Av vn cv] _ rfl rfl (by rfl) rfl (seg_one14 _ _ _ _ _) ?_; intro b2 w8 hp hS hBn; (try rw [← hp]); have S8 := Lib.hid hS; clear hS hp hBn)
    | (refine wpList_load_st rfl 25 _ rfl S8.out 0 _ _ rfl rfl _ Try.underlying25 rfl (by rfl) ?_))
  refine (KB _ Av cv (S8.out.fact 3 rfl) ((S8.out.fact 0 rfl).1.more (S8.out.fact 0 rfl).2) HRv.out ((S8.out.fact 5 rfl).1.more (S8.out.fact 5 rfl).2)).out.mono ?_
  rintro e w9 ⟨Ay, cy, rfl, hT, hR, hB⟩
  have S9 := Lib.hid ((S8.out.on hB).more (filF14 Ay w9.heap.size yfs) ⟨hT, Nat.le_refl _⟩)
  have HRy := Lib.hid hR
  clear hB hT hR S8
  obtain ⟨By, hBe⟩ : ∃ b, b = w9.heap.size := ⟨_, rfl⟩
  rw [← hBe] at S9
  clear hBe
  clear KB
  go_wp2_with (first
    | (refine wpList_store_st rfl 25 _ _ rfl S9.out _ #[.int .i64 ys, .int .i64 yf, .slice Ay yn cy] _ rfl rfl (by rfl) rfl (seg_one14 _ _ _ _ _) ?_; intro b3 w10 hp hS hBn; (try rw [← hp]); have S10 := Lib.hid hS; clear hS hp hBn)
    | (refine wpList_load_st rfl 25 _ rfl S10.out 0 _ _ rfl rfl _ Try.underlying25 rfl (by rfl) ?_))
  refine (KD _ Ay cy (S10.out.fact 4 rfl) ((S10.out.fact 0 rfl).1.more (S10.out.fact 0 rfl).2) HRy.out).out.mono ?_
  rintro e w11 ⟨Ad, cd, rfl, hT, hR, hB⟩
  have S11 := Lib.hid ((S10.out.on hB).more (filF14 Ad w11.heap.size dfs) ⟨hT, Nat.le_refl _⟩)
  have HRd := Lib.hid hR
  clear hB hT hR S10
  obtain ⟨Bd, hBe⟩ : ∃ b, b = w11.heap.size := ⟨_, rfl⟩
  rw [← hBe] at S11
  clear hBe
  clear KD
  go_wp2_with (first
    | (refine wpList_store_st rfl 25 _ _ rfl S11.out _ #[.int .i64 ds, .int .i64 df, .slice Ad dn cd] _ rfl rfl (by rfl) rfl (seg_one14 _ _ _ _ _) ?_; intro b4 w12 hp hS hBn; (try rw [← hp]); have S12 := Lib.hid hS; clear hS hp hBn)
    | (refine wpList_load_st rfl 25 _ rfl S12.out 0 _ _ rfl rfl _ Try.underlying25 rfl (by rfl) ?_))
  refine (KM _ Ad cd (S12.out.fact 5 rfl) ((S12.out.fact 0 rfl).1.more (S12.out.fact 0 rfl).2) HRd.out).out.mono ?_
  rintro e w13 ⟨Am, cm, rfl, hT, hR, hB⟩
  have S13 := Lib.hid ((S12.out.on hB).more (filF14 Am w13.heap.size mfs) ⟨hT, Nat.le_refl _⟩)
  have HRm := Lib.hid hR
  clear hB hT hR S12
  obtain ⟨Bm, hBe⟩ : ∃ b, b = w13.heap.size := ⟨_, rfl⟩
  rw [← hBe] at S13
  clear hBe
  clear KM
  go_wp2_with (first
    | (refine wpList_store_st rfl 25 _ _ rfl S13.out _ #[.int .i64 ms, .int .i64 mf, .slice Am mn cm] _ rfl rfl (by rfl) rfl (seg_one14 _ _ _ _ _) ?_; intro b5 w14 hp hS hBn; (try rw [← hp]); have S14 := Lib.hid hS; clear hS hp hBn)
    | (refine wpList_load_st rfl 25 _ rfl S14.out 0 _ _ rfl rfl _ Try.underlying25 rfl (by rfl) ?_))
  refine (KR _ Am cm (S14.out.fact 6 rfl) ((S14.out.fact 0 rfl).1.more (S14.out.fact 0 rfl).2) HRm.out).out.mono ?_
  rintro e w15 ⟨Au, cu, rfl, hT, _, hB⟩
  have S15 := Lib.hid ((S14.out.on hB).more (strsF14 Au w15.heap.size tk) ⟨hT, Nat.le_refl _⟩)
  clear hB hT S14
  obtain ⟨Bu, hBe⟩ : ∃ b, b = w15.heap.size := ⟨_, rfl⟩
  rw [← hBe] at S15
  clear hBe
  clear KR
  go_upto_region 15 with (first
    | (refine wpList_append_strs rfl _ _ rfl w15 _ [] l l (List.nil_append l) rfl (OwnTs.nil w15) A1 N1 cap1 HN1.out rfl ((S15.out.fact 8 rfl).1.more (S15.out.fact 8 rfl).2) Hn1.out (by have := Hl.out; simp; omega) ?_; intro v1 u1 hO1; have HO1 := Lib.hid hO1; clear hO1)
    | (refine wpList_append_strs rfl _ _ rfl w15 _ l r al Hal.out rfl HO1.out A2 N2 cap2 HN2.out rfl (((S15.out.on HO1.out.2).fact 9 rfl).1.more ((S15.out.on HO1.out.2).fact 9 rfl).2) Hn2.out (by have := Hl.out; omega) ?_
       intro v2 u2 hO2
       have hnil4 := hO2.none13 HL.out
       obtain ⟨Aa, ca, hv, hca, hT, hB4⟩ := hO2.slice HL.out
       have Hnil4 : Hid (Aa = none → L = 0 ∧ ca = 0) := Lib.hid (fun h => hnil4 ca (by rw [hv, h]))
       subst hv
       have S16 := Lib.hid ((S15.out.on hB4).more (strsF14 Aa u2.heap.size al) ⟨hT, Nat.le_refl _⟩)
       have Hca := Lib.hid hca
       clear hT hB4 hO2 hca HO1 S15 hnil4
       obtain ⟨Ba, hBea⟩ : ∃ b, b = u2.heap.size := ⟨_, rfl⟩
       rw [← hBea] at S16
       clear hBea))
  have j1 := HJ1.out
  have j2 := HJ2.out
  have hJ4 : J ≤ ca := Nat.le_trans HJL.out Hca.out
  have hsl := fun W => run_slice_strs W Aa L ca J hJ4 (fun h => (Hnil4.out h).2)
  clear hJ4
  go_wp2_with fail
  refine (KT _ Au Aa cu ca ((S16.out.fact 1 rfl).1.more (S16.out.fact 1 rfl).2) (by have h := ((S16.out.fact 0 rfl).1.more (S16.out.fact 0 rfl).2); rw [← Htk.out]; exact h.take13 J)).out.mono ?_
  rintro e w17 ⟨rfl, hB⟩
  have S17 := Lib.hid (S16.out.on hB)
  clear hB S16
  clear hsl j1 j2
  go_wp2_with (refine wpList_load_st rfl 25 _ rfl S17.out 0 _ _ rfl rfl _ Try.underlying25 rfl (by rfl) ?_)
  have hsq := StrsAt.new w17 [t] 9
  have S18 := Lib.hid (S17.out.on (below_new w17 (.cells #[.string t] 9)))
  clear S17
  refine (KZ _ Am cm (S18.out.fact 8 rfl) ((S18.out.fact 2 rfl).1.more (S18.out.fact 2 rfl).2) HRm.out _ (by simpa using hsq)).out.mono ?_
  rintro e w19 ⟨Az, cz, rfl, hT, hR, hB⟩
  have S19 := Lib.hid ((S18.out.on hB).more (filF14 Az w19.heap.size ([] : List Fil)) ⟨hT, Nat.le_refl _⟩)
  have HRz := Lib.hid hR
  clear hB hT hR S18
  obtain ⟨Bz, hBe⟩ : ∃ b, b = w19.heap.size := ⟨_, rfl⟩
  rw [← hBe] at S19
  clear hBe
  clear hsq KZ
  go_wp2_with (first
    | (refine wpList_store_st rfl 25 _ _ rfl S19.out _ #[.int .i64 0, .int .i64 0, .slice Az 0 cz] _ rfl rfl (by rfl) rfl (seg_one14 _ _ _ _ _) ?_; intro b6 w20 hp hS hBn; (try rw [← hp]); have S20 := Lib.hid hS; clear hS hp hBn)
    | (refine wpList_load_st rfl 25 _ rfl S20.out 0 _ _ rfl rfl _ Try.underlying25 rfl (by rfl) ?_))
  refine (KO _ Az cz (S20.out.fact 9 rfl) ((S20.out.fact 0 rfl).1.more (S20.out.fact 0 rfl).2) HRz.out).out.mono ?_
  rintro e w21 ⟨Ao, co, rfl, hT, _, hB⟩
  have S21 := Lib.hid ((S20.out.on hB).more (strsF14 Ao w21.heap.size ([] : List ByteArray)) ⟨hT, Nat.le_refl _⟩)
  clear hB hT S20
  obtain ⟨Bo, hBe⟩ : ∃ b, b = w21.heap.size := ⟨_, rfl⟩
  rw [← hBe] at S21
  clear hBe
  go_wp2_with fail
  refine (Lib.hid (HC.out _ (S21.out.fact 10 rfl))).out.mono ?_
  rintro e w22 ⟨rfl, hB⟩
  have S22 := Lib.hid (S21.out.on hB)
  clear hB S21
  go_wp2
  go_ret
  exact ⟨rfl, S22.out.below⟩

set_option maxHeartbeats 4000000 in
theorem segmentCrash_full81 {E : World → Prop} (HS : Hid (SegK E)) (HC : Hid (PartedK E)) (size first : Int) (A1 : Option Addr) (N1 cap1 : Nat) (l : List ByteArray) (A2 : Option Addr) (N2 cap2 : Nat) (r : List ByteArray) (left : Int) (t : ByteArray) (w : World) (hE : E w) (hA1 : StrsAt w w.heap.size A1 l) (hA2 : StrsAt w w.heap.size A2 r) (sz fi : Int) (n0 : Nat) (fs0 : List Fil) (xn : Nat) (xfs : List Fil) (xs xf : Int) (vn : Nat) (vfs : List Fil) (vs vf : Int) (yn : Nat) (yfs : List Fil) (ys yf : Int) (dn : Nat) (dfs : List Fil) (ds df : Int) (mn : Nat) (mfs : List Fil) (ms mf : Int) (j3 : ((100 : Int) < (t.size : Int)) = False) (hN1 : N1 = l.length) (hN2 : N2 = r.length) (hl1 : N1 ≤ 25) (hl2 : N2 ≤ 25) (hnil1 : A1 = none → cap1 = 0) (hnil2 : A2 = none → cap2 = 0) (al tk : List ByteArray) (hal : l ++ r = al) (L J : Nat) (hL : L = al.length) (hJL : J ≤ L) (htk : al.take J = tk) (jJ1 : ((J : Int) < (N1 : Int)) = False) (jJ2 : ((L : Int) < (J : Int)) = False)
    (KN : ∀ (W : World) (_h : E W), Hid (Calls Try.prog 8 #[.int .i64 size, .int .i64 first] W fun e w' => ∃ A c, e = .returned (.tuple #[.agg #[.int .i64 sz, .int .i64 fi, .slice A n0 c], .int .i64 0]) ∧ FilsAt w' w'.heap.size A fs0 ∧ RoomyF A fs0 c ∧ Below W.heap.size W w'))
    (pf1 : ∀ (W : World) (A : Option Addr) (c : Nat) (_hA : FilsAt W W.heap.size A fs0) (_hB : StrsAt W W.heap.size A1 l), Hid (Calls Try.prog 9 #[.agg #[.int .i64 sz, .int .i64 fi, .slice A n0 c], .slice A1 N1 cap1] W fun e w' => e = .returned (.bool false) ∧ Below W.heap.size W w'))
    (pf2 : ∀ (W : World) (A : Option Addr) (c : Nat) (_hA : FilsAt W W.heap.size A fs0) (_hB : StrsAt W W.heap.size A2 r), Hid (Calls Try.prog 9 #[.agg #[.int .i64 sz, .int .i64 fi, .slice A n0 c], .slice A2 N2 cap2] W fun e w' => e = .returned (.bool false) ∧ Below W.heap.size W w'))
    (KA : ∀ (W : World) (A : Option Addr) (c : Nat) (_h : E W) (_hA : FilsAt W W.heap.size A fs0) (_hR : RoomyF A fs0 c) (_hB : StrsAt W W.heap.size A1 l), Hid (Calls Try.prog 11 #[.agg #[.int .i64 sz, .int .i64 fi, .slice A n0 c], .slice A1 N1 cap1] W fun e w' => ∃ A c, e = .returned (.tuple #[.agg #[.int .i64 xs, .int .i64 xf, .slice A xn c], .int .i64 0]) ∧ FilsAt w' w'.heap.size A xfs ∧ RoomyF A xfs c ∧ Below W.heap.size W w'))
    (KV : ∀ (W : World) (A : Option Addr) (c : Nat) (_h : E W) (_hA : FilsAt W W.heap.size A xfs) (_hR : RoomyF A xfs c), Hid (Calls Try.prog 16 #[.agg #[.int .i64 xs, .int .i64 xf, .slice A xn c]] W fun e w' => ∃ A c, e = .returned (.tuple #[.agg #[.int .i64 vs, .int .i64 vf, .slice A vn c], .int .i64 0]) ∧ FilsAt w' w'.heap.size A vfs ∧ RoomyF A vfs c ∧ Below W.heap.size W w'))
    (KB : ∀ (W : World) (A : Option Addr) (c : Nat) (_h : E W) (_hA : FilsAt W W.heap.size A vfs) (_hR : RoomyF A vfs c) (_hB : StrsAt W W.heap.size A2 r), Hid (Calls Try.prog 11 #[.agg #[.int .i64 vs, .int .i64 vf, .slice A vn c], .slice A2 N2 cap2] W fun e w' => ∃ A c, e = .returned (.tuple #[.agg #[.int .i64 ys, .int .i64 yf, .slice A yn c], .int .i64 0]) ∧ FilsAt w' w'.heap.size A yfs ∧ RoomyF A yfs c ∧ Below W.heap.size W w'))
    (KD : ∀ (W : World) (A : Option Addr) (c : Nat) (_h : E W) (_hA : FilsAt W W.heap.size A yfs) (_hR : RoomyF A yfs c), Hid (Calls Try.prog 17 #[.agg #[.int .i64 ys, .int .i64 yf, .slice A yn c], .int .i64 left] W fun e w' => ∃ A c, e = .returned (.tuple #[.agg #[.int .i64 ds, .int .i64 df, .slice A dn c], .int .i64 0]) ∧ FilsAt w' w'.heap.size A dfs ∧ RoomyF A dfs c ∧ Below W.heap.size W w'))
    (KM : ∀ (W : World) (A : Option Addr) (c : Nat) (_h : E W) (_hA : FilsAt W W.heap.size A dfs) (_hR : RoomyF A dfs c), Hid (Calls Try.prog 18 #[.agg #[.int .i64 ds, .int .i64 df, .slice A dn c]] W fun e w' => ∃ A c, e = .returned (.tuple #[.agg #[.int .i64 ms, .int .i64 mf, .slice A mn c], .int .i64 0]) ∧ FilsAt w' w'.heap.size A mfs ∧ RoomyF A mfs c ∧ Below W.heap.size W w'))
    (KR : ∀ (W : World) (A : Option Addr) (c : Nat) (_h : E W) (_hA : FilsAt W W.heap.size A mfs) (_hR : RoomyF A mfs c), Hid (Calls Try.prog 12 #[.agg #[.int .i64 ms, .int .i64 mf, .slice A mn c]] W fun e w' => ∃ A c, e = .returned (.tuple #[.slice A J c, .int .i64 0]) ∧ StrsAt w' w'.heap.size A tk ∧ J ≤ c ∧ Below W.heap.size W w'))
    (KT : ∀ (W : World) (A B : Option Addr) (c d : Nat) (_hA : StrsAt W W.heap.size A tk) (_hB : StrsAt W W.heap.size B tk), Hid (Calls Try.prog 14 #[.slice A J c, .slice B J d] W fun e w' => e = .returned (.bool true) ∧ Below W.heap.size W w'))
    (KZ : ∀ (W : World) (A : Option Addr) (c : Nat) (_h : E W) (_hA : FilsAt W W.heap.size A mfs) (_hR : RoomyF A mfs c) (A3 : Addr) (_hB : StrsAt W W.heap.size (some A3) [t]), Hid (Calls Try.prog 11 #[.agg #[.int .i64 ms, .int .i64 mf, .slice A mn c], .slice (some A3) 1 1] W fun e w' => ∃ A c, e = .returned (.tuple #[.agg #[.int .i64 0, .int .i64 0, .slice A 0 c], .int .i64 81]) ∧ FilsAt w' w'.heap.size A ([] : List Fil) ∧ RoomyF A ([] : List Fil) c ∧ Below W.heap.size W w'))
    (KO : ∀ (W : World) (A : Option Addr) (c : Nat) (_h : E W) (_hA : FilsAt W W.heap.size A ([] : List Fil)) (_hR : RoomyF A ([] : List Fil) c), Hid (Calls Try.prog 12 #[.agg #[.int .i64 0, .int .i64 0, .slice A 0 c]] W fun e w' => ∃ A c, e = .returned (.tuple #[.slice A 0 c, .int .i64 1]) ∧ StrsAt w' w'.heap.size A ([] : List ByteArray) ∧ 0 ≤ c ∧ Below W.heap.size W w')) :
    Calls Try.prog 4 #[.int .i64 size, .int .i64 first, .slice A1 N1 cap1, .slice A2 N2 cap2, .int .i64 left, .string t] w fun e w' => e = .returned (.bool true) ∧ Below w.heap.size w w' := by
  have HN1 := Lib.hid hN1
  have HN2 := Lib.hid hN2
  have Hl : Hid (l.length ≤ 25 ∧ r.length ≤ 25) := Lib.hid ⟨by omega, by omega⟩
  have Hal := Lib.hid hal
  have HL := Lib.hid hL
  have Hn1 := Lib.hid hnil1
  have Hn2 := Lib.hid hnil2
  have HJL := Lib.hid hJL
  have Htk := Lib.hid htk
  have HJ1 := Lib.hid jJ1
  have HJ2 := Lib.hid jJ2
  have HJ60 : Hid (J ≤ 60) := Lib.hid (by rw [← hal, List.length_append] at hL; omega)
  clear hN1 hN2 hl1 hl2 hal hL hnil1 hnil2 hJL htk jJ1 jJ2
  have S0 := Lib.hid ((((St.start w).more (strsF14 A2 w.heap.size r) ⟨hA2, Nat.le_refl _⟩).more (strsF14 A1 w.heap.size l) ⟨hA1, Nat.le_refl _⟩).more (eSg HS) hE)
  clear hE hA1 hA2
  go_enter Try.func4, Try.ntmps4
  go_wp2_with fail
  refine (KN _ (S0.out.fact 0 rfl)).out.mono ?_
  rintro e w1 ⟨Af, cf, rfl, hT, hR, hB⟩
  have S1 := Lib.hid ((S0.out.on hB).more (filF14 Af w1.heap.size fs0) ⟨hT, Nat.le_refl _⟩)
  have HRf := Lib.hid hR
  clear hB hT hR S0
  obtain ⟨Bf, hBe⟩ : ∃ b, b = w1.heap.size := ⟨_, rfl⟩
  rw [← hBe] at S1
  clear hBe
  go_wp2_with (first
    | (refine wpList_store_st rfl 25 _ _ rfl S1.out _ #[.int .i64 sz, .int .i64 fi, .slice Af n0 cf] _ rfl rfl (by rfl) rfl (seg_one14 _ _ _ _ _) ?_; intro b0 w2 hp hS hBn; (try rw [← hp]); have S2 := Lib.hid hS; clear hS hp hBn)
    | (refine wpList_loadg_st (by rfl) 25 _ rfl S2.out 0 _ _ rfl rfl _ Try.underlying25 rfl (by rfl) ?_))
  refine (pf1 _ Af cf ((S2.out.fact 0 rfl).1.more (S2.out.fact 0 rfl).2) ((S2.out.fact 2 rfl).1.more (S2.out.fact 2 rfl).2)).out.mono ?_
  rintro e w3 ⟨rfl, hB⟩
  have S3 := Lib.hid (S2.out.on hB)
  clear hB S2
  go_wp2_with (refine wpList_loadg_st (by rfl) 25 _ rfl S3.out 0 _ _ rfl rfl _ Try.underlying25 rfl (by rfl) ?_)
  refine (pf2 _ Af cf ((S3.out.fact 0 rfl).1.more (S3.out.fact 0 rfl).2) ((S3.out.fact 3 rfl).1.more (S3.out.fact 3 rfl).2)).out.mono ?_
  rintro e w4 ⟨rfl, hB⟩
  have S4 := Lib.hid (S3.out.on hB)
  clear hB S3
  go_wp2_with (refine wpList_load_st rfl 25 _ rfl S4.out 0 _ _ rfl rfl _ Try.underlying25 rfl (by rfl) ?_)
  refine (KA _ Af cf (S4.out.fact 1 rfl) ((S4.out.fact 0 rfl).1.more (S4.out.fact 0 rfl).2) HRf.out ((S4.out.fact 2 rfl).1.more (S4.out.fact 2 rfl).2)).out.mono ?_
  rintro e w5 ⟨Ax, cx, rfl, hT, hR, hB⟩
  have S5 := Lib.hid ((S4.out.on hB).more (filF14 Ax w5.heap.size xfs) ⟨hT, Nat.le_refl _⟩)
  have HRx := Lib.hid hR
  clear hB hT hR S4
  obtain ⟨Bx, hBe⟩ : ∃ b, b = w5.heap.size := ⟨_, rfl⟩
  rw [← hBe] at S5
  clear hBe
  clear KA pf1 pf2 KN j3
  go_wp2_with (first
    | (refine wpList_store_st rfl 25 _ _ rfl S5.out _ #[.int .i64 xs, .int .i64 xf, .slice Ax xn cx] _ rfl rfl (by rfl) rfl (seg_one14 _ _ _ _ _) ?_; intro b1 w6 hp hS hBn; (try rw [← hp]); have S6 := Lib.hid hS; clear hS hp hBn)
    | (refine wpList_load_st rfl 25 _ rfl S6.out 0 _ _ rfl rfl _ Try.underlying25 rfl (by rfl) ?_))
  refine (KV _ Ax cx (S6.out.fact 2 rfl) ((S6.out.fact 0 rfl).1.more (S6.out.fact 0 rfl).2) HRx.out).out.mono ?_
  rintro e w7 ⟨Av, cv, rfl, hT, hR, hB⟩
  have S7 := Lib.hid ((S6.out.on hB).more (filF14 Av w7.heap.size vfs) ⟨hT, Nat.le_refl _⟩)
  have HRv := Lib.hid hR
  clear hB hT hR S6
  obtain ⟨Bv, hBe⟩ : ∃ b, b = w7.heap.size := ⟨_, rfl⟩
  rw [← hBe] at S7
  clear hBe
  clear KV
  go_wp2_with (first
    | (refine wpList_store_st rfl 25 _ _ rfl S7.out _ #[.int .i64 vs, .int .i64 vf, .slice Av vn cv] _ rfl rfl (by rfl) rfl (seg_one14 _ _ _ _ _) ?_; intro b2 w8 hp hS hBn; (try rw [← hp]); have S8 := Lib.hid hS; clear hS hp hBn)
    | (refine wpList_load_st rfl 25 _ rfl S8.out 0 _ _ rfl rfl _ Try.underlying25 rfl (by rfl) ?_))
  refine (KB _ Av cv (S8.out.fact 3 rfl) ((S8.out.fact 0 rfl).1.more (S8.out.fact 0 rfl).2) HRv.out ((S8.out.fact 5 rfl).1.more (S8.out.fact 5 rfl).2)).out.mono ?_
  rintro e w9 ⟨Ay, cy, rfl, hT, hR, hB⟩
  have S9 := Lib.hid ((S8.out.on hB).more (filF14 Ay w9.heap.size yfs) ⟨hT, Nat.le_refl _⟩)
  have HRy := Lib.hid hR
  clear hB hT hR S8
  obtain ⟨By, hBe⟩ : ∃ b, b = w9.heap.size := ⟨_, rfl⟩
  rw [← hBe] at S9
  clear hBe
  clear KB
  go_wp2_with (first
    | (refine wpList_store_st rfl 25 _ _ rfl S9.out _ #[.int .i64 ys, .int .i64 yf, .slice Ay yn cy] _ rfl rfl (by rfl) rfl (seg_one14 _ _ _ _ _) ?_; intro b3 w10 hp hS hBn; (try rw [← hp]); have S10 := Lib.hid hS; clear hS hp hBn)
    | (refine wpList_load_st rfl 25 _ rfl S10.out 0 _ _ rfl rfl _ Try.underlying25 rfl (by rfl) ?_))
  refine (KD _ Ay cy (S10.out.fact 4 rfl) ((S10.out.fact 0 rfl).1.more (S10.out.fact 0 rfl).2) HRy.out).out.mono ?_
  rintro e w11 ⟨Ad, cd, rfl, hT, hR, hB⟩
  have S11 := Lib.hid ((S10.out.on hB).more (filF14 Ad w11.heap.size dfs) ⟨hT, Nat.le_refl _⟩)
  have HRd := Lib.hid hR
  clear hB hT hR S10
  obtain ⟨Bd, hBe⟩ : ∃ b, b = w11.heap.size := ⟨_, rfl⟩
  rw [← hBe] at S11
  clear hBe
  clear KD
  go_wp2_with (first
    | (refine wpList_store_st rfl 25 _ _ rfl S11.out _ #[.int .i64 ds, .int .i64 df, .slice Ad dn cd] _ rfl rfl (by rfl) rfl (seg_one14 _ _ _ _ _) ?_; intro b4 w12 hp hS hBn; (try rw [← hp]); have S12 := Lib.hid hS; clear hS hp hBn)
    | (refine wpList_load_st rfl 25 _ rfl S12.out 0 _ _ rfl rfl _ Try.underlying25 rfl (by rfl) ?_))
  refine (KM _ Ad cd (S12.out.fact 5 rfl) ((S12.out.fact 0 rfl).1.more (S12.out.fact 0 rfl).2) HRd.out).out.mono ?_
  rintro e w13 ⟨Am, cm, rfl, hT, hR, hB⟩
  have S13 := Lib.hid ((S12.out.on hB).more (filF14 Am w13.heap.size mfs) ⟨hT, Nat.le_refl _⟩)
  have HRm := Lib.hid hR
  clear hB hT hR S12
  obtain ⟨Bm, hBe⟩ : ∃ b, b = w13.heap.size := ⟨_, rfl⟩
  rw [← hBe] at S13
  clear hBe
  clear KM
  go_wp2_with (first
    | (refine wpList_store_st rfl 25 _ _ rfl S13.out _ #[.int .i64 ms, .int .i64 mf, .slice Am mn cm] _ rfl rfl (by rfl) rfl (seg_one14 _ _ _ _ _) ?_; intro b5 w14 hp hS hBn; (try rw [← hp]); have S14 := Lib.hid hS; clear hS hp hBn)
    | (refine wpList_load_st rfl 25 _ rfl S14.out 0 _ _ rfl rfl _ Try.underlying25 rfl (by rfl) ?_))
  refine (KR _ Am cm (S14.out.fact 6 rfl) ((S14.out.fact 0 rfl).1.more (S14.out.fact 0 rfl).2) HRm.out).out.mono ?_
  rintro e w15 ⟨Au, cu, rfl, hT, _, hB⟩
  have S15 := Lib.hid ((S14.out.on hB).more (strsF14 Au w15.heap.size tk) ⟨hT, Nat.le_refl _⟩)
  clear hB hT S14
  obtain ⟨Bu, hBe⟩ : ∃ b, b = w15.heap.size := ⟨_, rfl⟩
  rw [← hBe] at S15
  clear hBe
  clear KR
  go_upto_region 15 with (first
    | (refine wpList_append_strs rfl _ _ rfl w15 _ [] l l (List.nil_append l) rfl (OwnTs.nil w15) A1 N1 cap1 HN1.out rfl ((S15.out.fact 8 rfl).1.more (S15.out.fact 8 rfl).2) Hn1.out (by have := Hl.out; simp; omega) ?_; intro v1 u1 hO1; have HO1 := Lib.hid hO1; clear hO1)
    | (refine wpList_append_strs rfl _ _ rfl w15 _ l r al Hal.out rfl HO1.out A2 N2 cap2 HN2.out rfl (((S15.out.on HO1.out.2).fact 9 rfl).1.more ((S15.out.on HO1.out.2).fact 9 rfl).2) Hn2.out (by have := Hl.out; omega) ?_
       intro v2 u2 hO2
       have hnil4 := hO2.none13 HL.out
       obtain ⟨Aa, ca, hv, hca, hT, hB4⟩ := hO2.slice HL.out
       have Hnil4 : Hid (Aa = none → L = 0 ∧ ca = 0) := Lib.hid (fun h => hnil4 ca (by rw [hv, h]))
       subst hv
       have S16 := Lib.hid ((S15.out.on hB4).more (strsF14 Aa u2.heap.size al) ⟨hT, Nat.le_refl _⟩)
       have Hca := Lib.hid hca
       clear hT hB4 hO2 hca HO1 S15 hnil4
       obtain ⟨Ba, hBea⟩ : ∃ b, b = u2.heap.size := ⟨_, rfl⟩
       rw [← hBea] at S16
       clear hBea))
  have j1 := HJ1.out
  have j2 := HJ2.out
  have hJ4 : J ≤ ca := Nat.le_trans HJL.out Hca.out
  have hsl := fun W => run_slice_strs W Aa L ca J hJ4 (fun h => (Hnil4.out h).2)
  clear hJ4
  go_wp2_with fail
  refine (KT _ Au Aa cu ca ((S16.out.fact 1 rfl).1.more (S16.out.fact 1 rfl).2) (by have h := ((S16.out.fact 0 rfl).1.more (S16.out.fact 0 rfl).2); rw [← Htk.out]; exact h.take13 J)).out.mono ?_
  rintro e w17 ⟨rfl, hB⟩
  have S17 := Lib.hid (S16.out.on hB)
  clear hB S16
  clear hsl j1 j2
  go_wp2_with (refine wpList_load_st rfl 25 _ rfl S17.out 0 _ _ rfl rfl _ Try.underlying25 rfl (by rfl) ?_)
  have hsq := StrsAt.new w17 [t] 9
  have S18 := Lib.hid (S17.out.on (below_new w17 (.cells #[.string t] 9)))
  clear S17
  refine (KZ _ Am cm (S18.out.fact 8 rfl) ((S18.out.fact 2 rfl).1.more (S18.out.fact 2 rfl).2) HRm.out _ (by simpa using hsq)).out.mono ?_
  rintro e w19 ⟨Az, cz, rfl, hT, hR, hB⟩
  have S19 := Lib.hid ((S18.out.on hB).more (filF14 Az w19.heap.size ([] : List Fil)) ⟨hT, Nat.le_refl _⟩)
  have HRz := Lib.hid hR
  clear hB hT hR S18
  obtain ⟨Bz, hBe⟩ : ∃ b, b = w19.heap.size := ⟨_, rfl⟩
  rw [← hBe] at S19
  clear hBe
  clear hsq KZ
  go_wp2_with (first
    | (refine wpList_store_st rfl 25 _ _ rfl S19.out _ #[.int .i64 0, .int .i64 0, .slice Az 0 cz] _ rfl rfl (by rfl) rfl (seg_one14 _ _ _ _ _) ?_; intro b6 w20 hp hS hBn; (try rw [← hp]); have S20 := Lib.hid hS; clear hS hp hBn)
    | (refine wpList_load_st rfl 25 _ rfl S20.out 0 _ _ rfl rfl _ Try.underlying25 rfl (by rfl) ?_))
  refine (KO _ Az cz (S20.out.fact 9 rfl) ((S20.out.fact 0 rfl).1.more (S20.out.fact 0 rfl).2) HRz.out).out.mono ?_
  rintro e w21 ⟨Ao, co, rfl, hT, _, hB⟩
  have S21 := Lib.hid ((S20.out.on hB).more (strsF14 Ao w21.heap.size ([] : List ByteArray)) ⟨hT, Nat.le_refl _⟩)
  clear hB hT S20
  obtain ⟨Bo, hBe⟩ : ∃ b, b = w21.heap.size := ⟨_, rfl⟩
  rw [← hBe] at S21
  clear hBe
  go_wp2_with fail
  refine (Lib.hid (HC.out _ (S21.out.fact 10 rfl))).out.mono ?_
  rintro e w22 ⟨rfl, hB⟩
  have S22 := Lib.hid (S21.out.on hB)
  clear hB S21
  go_wp2
  go_ret
  exact ⟨rfl, S22.out.below⟩

set_option maxHeartbeats 4000000 in
theorem segmentCrash_ok {E : World → Prop} (HS : Hid (SegK E)) (HC : Hid (PartedK E)) (size first : Int) (A1 : Option Addr) (N1 cap1 : Nat) (l : List ByteArray) (A2 : Option Addr) (N2 cap2 : Nat) (r : List ByteArray) (left : Int) (t : ByteArray) (w : World) (hE : E w) (hA1 : StrsAt w w.heap.size A1 l) (hA2 : StrsAt w w.heap.size A2 r) (sz fi : Int) (n0 : Nat) (fs0 : List Fil) (xn : Nat) (xfs : List Fil) (xs xf : Int) (vn : Nat) (vfs : List Fil) (vs vf : Int) (yn : Nat) (yfs : List Fil) (ys yf : Int) (dn : Nat) (dfs : List Fil) (ds df : Int) (mn : Nat) (mfs : List Fil) (ms mf : Int) (zn : Nat) (zfs : List Fil) (zs zf : Int) (j3 : ((100 : Int) < (t.size : Int)) = False) (hN1 : N1 = l.length) (hN2 : N2 = r.length) (hl1 : N1 ≤ 25) (hl2 : N2 ≤ 25) (hnil1 : A1 = none → cap1 = 0) (hnil2 : A2 = none → cap2 = 0) (al tk : List ByteArray) (hal : l ++ r = al) (L J : Nat) (hL : L = al.length) (hJL : J ≤ L) (htk : al.take J = tk) (jJ1 : ((J : Int) < (N1 : Int)) = False) (jJ2 : ((L : Int) < (J : Int)) = False)
    (KN : ∀ (W : World) (_h : E W), Hid (Calls Try.prog 8 #[.int .i64 size, .int .i64 first] W fun e w' => ∃ A c, e = .returned (.tuple #[.agg #[.int .i64 sz, .int .i64 fi, .slice A n0 c], .int .i64 0]) ∧ FilsAt w' w'.heap.size A fs0 ∧ RoomyF A fs0 c ∧ Below W.heap.size W w'))
    (pf1 : ∀ (W : World) (A : Option Addr) (c : Nat) (_hA : FilsAt W W.heap.size A fs0) (_hB : StrsAt W W.heap.size A1 l), Hid (Calls Try.prog 9 #[.agg #[.int .i64 sz, .int .i64 fi, .slice A n0 c], .slice A1 N1 cap1] W fun e w' => e = .returned (.bool false) ∧ Below W.heap.size W w'))
    (pf2 : ∀ (W : World) (A : Option Addr) (c : Nat) (_hA : FilsAt W W.heap.size A fs0) (_hB : StrsAt W W.heap.size A2 r), Hid (Calls Try.prog 9 #[.agg #[.int .i64 sz, .int .i64 fi, .slice A n0 c], .slice A2 N2 cap2] W fun e w' => e = .returned (.bool false) ∧ Below W.heap.size W w'))
    (KA : ∀ (W : World) (A : Option Addr) (c : Nat) (_h : E W) (_hA : FilsAt W W.heap.size A fs0) (_hR : RoomyF A fs0 c) (_hB : StrsAt W W.heap.size A1 l), Hid (Calls Try.prog 11 #[.agg #[.int .i64 sz, .int .i64 fi, .slice A n0 c], .slice A1 N1 cap1] W fun e w' => ∃ A c, e = .returned (.tuple #[.agg #[.int .i64 xs, .int .i64 xf, .slice A xn c], .int .i64 0]) ∧ FilsAt w' w'.heap.size A xfs ∧ RoomyF A xfs c ∧ Below W.heap.size W w'))
    (KV : ∀ (W : World) (A : Option Addr) (c : Nat) (_h : E W) (_hA : FilsAt W W.heap.size A xfs) (_hR : RoomyF A xfs c), Hid (Calls Try.prog 16 #[.agg #[.int .i64 xs, .int .i64 xf, .slice A xn c]] W fun e w' => ∃ A c, e = .returned (.tuple #[.agg #[.int .i64 vs, .int .i64 vf, .slice A vn c], .int .i64 0]) ∧ FilsAt w' w'.heap.size A vfs ∧ RoomyF A vfs c ∧ Below W.heap.size W w'))
    (KB : ∀ (W : World) (A : Option Addr) (c : Nat) (_h : E W) (_hA : FilsAt W W.heap.size A vfs) (_hR : RoomyF A vfs c) (_hB : StrsAt W W.heap.size A2 r), Hid (Calls Try.prog 11 #[.agg #[.int .i64 vs, .int .i64 vf, .slice A vn c], .slice A2 N2 cap2] W fun e w' => ∃ A c, e = .returned (.tuple #[.agg #[.int .i64 ys, .int .i64 yf, .slice A yn c], .int .i64 0]) ∧ FilsAt w' w'.heap.size A yfs ∧ RoomyF A yfs c ∧ Below W.heap.size W w'))
    (KD : ∀ (W : World) (A : Option Addr) (c : Nat) (_h : E W) (_hA : FilsAt W W.heap.size A yfs) (_hR : RoomyF A yfs c), Hid (Calls Try.prog 17 #[.agg #[.int .i64 ys, .int .i64 yf, .slice A yn c], .int .i64 left] W fun e w' => ∃ A c, e = .returned (.tuple #[.agg #[.int .i64 ds, .int .i64 df, .slice A dn c], .int .i64 0]) ∧ FilsAt w' w'.heap.size A dfs ∧ RoomyF A dfs c ∧ Below W.heap.size W w'))
    (KM : ∀ (W : World) (A : Option Addr) (c : Nat) (_h : E W) (_hA : FilsAt W W.heap.size A dfs) (_hR : RoomyF A dfs c), Hid (Calls Try.prog 18 #[.agg #[.int .i64 ds, .int .i64 df, .slice A dn c]] W fun e w' => ∃ A c, e = .returned (.tuple #[.agg #[.int .i64 ms, .int .i64 mf, .slice A mn c], .int .i64 0]) ∧ FilsAt w' w'.heap.size A mfs ∧ RoomyF A mfs c ∧ Below W.heap.size W w'))
    (KR : ∀ (W : World) (A : Option Addr) (c : Nat) (_h : E W) (_hA : FilsAt W W.heap.size A mfs) (_hR : RoomyF A mfs c), Hid (Calls Try.prog 12 #[.agg #[.int .i64 ms, .int .i64 mf, .slice A mn c]] W fun e w' => ∃ A c, e = .returned (.tuple #[.slice A J c, .int .i64 0]) ∧ StrsAt w' w'.heap.size A tk ∧ J ≤ c ∧ Below W.heap.size W w'))
    (KT : ∀ (W : World) (A B : Option Addr) (c d : Nat) (_hA : StrsAt W W.heap.size A tk) (_hB : StrsAt W W.heap.size B tk), Hid (Calls Try.prog 14 #[.slice A J c, .slice B J d] W fun e w' => e = .returned (.bool true) ∧ Below W.heap.size W w'))
    (KZ : ∀ (W : World) (A : Option Addr) (c : Nat) (_h : E W) (_hA : FilsAt W W.heap.size A mfs) (_hR : RoomyF A mfs c) (A3 : Addr) (_hB : StrsAt W W.heap.size (some A3) [t]), Hid (Calls Try.prog 11 #[.agg #[.int .i64 ms, .int .i64 mf, .slice A mn c], .slice (some A3) 1 1] W fun e w' => ∃ A c, e = .returned (.tuple #[.agg #[.int .i64 zs, .int .i64 zf, .slice A zn c], .int .i64 0]) ∧ FilsAt w' w'.heap.size A zfs ∧ RoomyF A zfs c ∧ Below W.heap.size W w'))
    (KU : ∀ (W : World) (A : Option Addr) (c : Nat) (_h : E W) (_hA : FilsAt W W.heap.size A zfs) (_hR : RoomyF A zfs c), Hid (Calls Try.prog 12 #[.agg #[.int .i64 zs, .int .i64 zf, .slice A zn c]] W fun e w' => ∃ A c, e = .returned (.tuple #[.slice A (J + 1) c, .int .i64 0]) ∧ StrsAt w' w'.heap.size A (tk ++ [t]) ∧ (J + 1) ≤ c ∧ Below W.heap.size W w')) :
    Calls Try.prog 4 #[.int .i64 size, .int .i64 first, .slice A1 N1 cap1, .slice A2 N2 cap2, .int .i64 left, .string t] w fun e w' => e = .returned (.bool true) ∧ Below w.heap.size w w' := by
  have HN1 := Lib.hid hN1
  have HN2 := Lib.hid hN2
  have Hl : Hid (l.length ≤ 25 ∧ r.length ≤ 25) := Lib.hid ⟨by omega, by omega⟩
  have Hal := Lib.hid hal
  have HL := Lib.hid hL
  have Hn1 := Lib.hid hnil1
  have Hn2 := Lib.hid hnil2
  have HJL := Lib.hid hJL
  have Htk := Lib.hid htk
  have HJ1 := Lib.hid jJ1
  have HJ2 := Lib.hid jJ2
  have HJ60 : Hid (J ≤ 60) := Lib.hid (by rw [← hal, List.length_append] at hL; omega)
  clear hN1 hN2 hl1 hl2 hal hL hnil1 hnil2 hJL htk jJ1 jJ2
  have S0 := Lib.hid ((((St.start w).more (strsF14 A2 w.heap.size r) ⟨hA2, Nat.le_refl _⟩).more (strsF14 A1 w.heap.size l) ⟨hA1, Nat.le_refl _⟩).more (eSg HS) hE)
  clear hE hA1 hA2
  go_enter Try.func4, Try.ntmps4
  go_wp2_with fail
  refine (KN _ (S0.out.fact 0 rfl)).out.mono ?_
  rintro e w1 ⟨Af, cf, rfl, hT, hR, hB⟩
  have S1 := Lib.hid ((S0.out.on hB).more (filF14 Af w1.heap.size fs0) ⟨hT, Nat.le_refl _⟩)
  have HRf := Lib.hid hR
  clear hB hT hR S0
  obtain ⟨Bf, hBe⟩ : ∃ b, b = w1.heap.size := ⟨_, rfl⟩
  rw [← hBe] at S1
  clear hBe
  go_wp2_with (first
    | (refine wpList_store_st rfl 25 _ _ rfl S1.out _ #[.int .i64 sz, .int .i64 fi, .slice Af n0 cf] _ rfl rfl (by rfl) rfl (seg_one14 _ _ _ _ _) ?_; intro b0 w2 hp hS hBn; (try rw [← hp]); have S2 := Lib.hid hS; clear hS hp hBn)
    | (refine wpList_loadg_st (by rfl) 25 _ rfl S2.out 0 _ _ rfl rfl _ Try.underlying25 rfl (by rfl) ?_))
  refine (pf1 _ Af cf ((S2.out.fact 0 rfl).1.more (S2.out.fact 0 rfl).2) ((S2.out.fact 2 rfl).1.more (S2.out.fact 2 rfl).2)).out.mono ?_
  rintro e w3 ⟨rfl, hB⟩
  have S3 := Lib.hid (S2.out.on hB)
  clear hB S2
  go_wp2_with (refine wpList_loadg_st (by rfl) 25 _ rfl S3.out 0 _ _ rfl rfl _ Try.underlying25 rfl (by rfl) ?_)
  refine (pf2 _ Af cf ((S3.out.fact 0 rfl).1.more (S3.out.fact 0 rfl).2) ((S3.out.fact 3 rfl).1.more (S3.out.fact 3 rfl).2)).out.mono ?_
  rintro e w4 ⟨rfl, hB⟩
  have S4 := Lib.hid (S3.out.on hB)
  clear hB S3
  go_wp2_with (refine wpList_load_st rfl 25 _ rfl S4.out 0 _ _ rfl rfl _ Try.underlying25 rfl (by rfl) ?_)
  refine (KA _ Af cf (S4.out.fact 1 rfl) ((S4.out.fact 0 rfl).1.more (S4.out.fact 0 rfl).2) HRf.out ((S4.out.fact 2 rfl).1.more (S4.out.fact 2 rfl).2)).out.mono ?_
  rintro e w5 ⟨Ax, cx, rfl, hT, hR, hB⟩
  have S5 := Lib.hid ((S4.out.on hB).more (filF14 Ax w5.heap.size xfs) ⟨hT, Nat.le_refl _⟩)
  have HRx := Lib.hid hR
  clear hB hT hR S4
  obtain ⟨Bx, hBe⟩ : ∃ b, b = w5.heap.size := ⟨_, rfl⟩
  rw [← hBe] at S5
  clear hBe
  clear KA pf1 pf2 KN j3
  go_wp2_with (first
    | (refine wpList_store_st rfl 25 _ _ rfl S5.out _ #[.int .i64 xs, .int .i64 xf, .slice Ax xn cx] _ rfl rfl (by rfl) rfl (seg_one14 _ _ _ _ _) ?_; intro b1 w6 hp hS hBn; (try rw [← hp]); have S6 := Lib.hid hS; clear hS hp hBn)
    | (refine wpList_load_st rfl 25 _ rfl S6.out 0 _ _ rfl rfl _ Try.underlying25 rfl (by rfl) ?_))
  refine (KV _ Ax cx (S6.out.fact 2 rfl) ((S6.out.fact 0 rfl).1.more (S6.out.fact 0 rfl).2) HRx.out).out.mono ?_
  rintro e w7 ⟨Av, cv, rfl, hT, hR, hB⟩
  have S7 := Lib.hid ((S6.out.on hB).more (filF14 Av w7.heap.size vfs) ⟨hT, Nat.le_refl _⟩)
  have HRv := Lib.hid hR
  clear hB hT hR S6
  obtain ⟨Bv, hBe⟩ : ∃ b, b = w7.heap.size := ⟨_, rfl⟩
  rw [← hBe] at S7
  clear hBe
  clear KV
  go_wp2_with (first
    | (refine wpList_store_st rfl 25 _ _ rfl S7.out _ #[.int .i64 vs, .int .i64 vf, .slice Av vn cv] _ rfl rfl (by rfl) rfl (seg_one14 _ _ _ _ _) ?_; intro b2 w8 hp hS hBn; (try rw [← hp]); have S8 := Lib.hid hS; clear hS hp hBn)
    | (refine wpList_load_st rfl 25 _ rfl S8.out 0 _ _ rfl rfl _ Try.underlying25 rfl (by rfl) ?_))
  refine (KB _ Av cv (S8.out.fact 3 rfl) ((S8.out.fact 0 rfl).1.more (S8.out.fact 0 rfl).2) HRv.out ((S8.out.fact 5 rfl).1.more (S8.out.fact 5 rfl).2)).out.mono ?_
  rintro e w9 ⟨Ay, cy, rfl, hT, hR, hB⟩
  have S9 := Lib.hid ((S8.out.on hB).more (filF14 Ay w9.heap.size yfs) ⟨hT, Nat.le_refl _⟩)
  have HRy := Lib.hid hR
  clear hB hT hR S8
  obtain ⟨By, hBe⟩ : ∃ b, b = w9.heap.size := ⟨_, rfl⟩
  rw [← hBe] at S9
  clear hBe
  clear KB
  go_wp2_with (first
    | (refine wpList_store_st rfl 25 _ _ rfl S9.out _ #[.int .i64 ys, .int .i64 yf, .slice Ay yn cy] _ rfl rfl (by rfl) rfl (seg_one14 _ _ _ _ _) ?_; intro b3 w10 hp hS hBn; (try rw [← hp]); have S10 := Lib.hid hS; clear hS hp hBn)
    | (refine wpList_load_st rfl 25 _ rfl S10.out 0 _ _ rfl rfl _ Try.underlying25 rfl (by rfl) ?_))
  refine (KD _ Ay cy (S10.out.fact 4 rfl) ((S10.out.fact 0 rfl).1.more (S10.out.fact 0 rfl).2) HRy.out).out.mono ?_
  rintro e w11 ⟨Ad, cd, rfl, hT, hR, hB⟩
  have S11 := Lib.hid ((S10.out.on hB).more (filF14 Ad w11.heap.size dfs) ⟨hT, Nat.le_refl _⟩)
  have HRd := Lib.hid hR
  clear hB hT hR S10
  obtain ⟨Bd, hBe⟩ : ∃ b, b = w11.heap.size := ⟨_, rfl⟩
  rw [← hBe] at S11
  clear hBe
  clear KD
  go_wp2_with (first
    | (refine wpList_store_st rfl 25 _ _ rfl S11.out _ #[.int .i64 ds, .int .i64 df, .slice Ad dn cd] _ rfl rfl (by rfl) rfl (seg_one14 _ _ _ _ _) ?_; intro b4 w12 hp hS hBn; (try rw [← hp]); have S12 := Lib.hid hS; clear hS hp hBn)
    | (refine wpList_load_st rfl 25 _ rfl S12.out 0 _ _ rfl rfl _ Try.underlying25 rfl (by rfl) ?_))
  refine (KM _ Ad cd (S12.out.fact 5 rfl) ((S12.out.fact 0 rfl).1.more (S12.out.fact 0 rfl).2) HRd.out).out.mono ?_
  rintro e w13 ⟨Am, cm, rfl, hT, hR, hB⟩
  have S13 := Lib.hid ((S12.out.on hB).more (filF14 Am w13.heap.size mfs) ⟨hT, Nat.le_refl _⟩)
  have HRm := Lib.hid hR
  clear hB hT hR S12
  obtain ⟨Bm, hBe⟩ : ∃ b, b = w13.heap.size := ⟨_, rfl⟩
  rw [← hBe] at S13
  clear hBe
  clear KM
  go_wp2_with (first
    | (refine wpList_store_st rfl 25 _ _ rfl S13.out _ #[.int .i64 ms, .int .i64 mf, .slice Am mn cm] _ rfl rfl (by rfl) rfl (seg_one14 _ _ _ _ _) ?_; intro b5 w14 hp hS hBn; (try rw [← hp]); have S14 := Lib.hid hS; clear hS hp hBn)
    | (refine wpList_load_st rfl 25 _ rfl S14.out 0 _ _ rfl rfl _ Try.underlying25 rfl (by rfl) ?_))
  refine (KR _ Am cm (S14.out.fact 6 rfl) ((S14.out.fact 0 rfl).1.more (S14.out.fact 0 rfl).2) HRm.out).out.mono ?_
  rintro e w15 ⟨Au, cu, rfl, hT, _, hB⟩
  have S15 := Lib.hid ((S14.out.on hB).more (strsF14 Au w15.heap.size tk) ⟨hT, Nat.le_refl _⟩)
  clear hB hT S14
  obtain ⟨Bu, hBe⟩ : ∃ b, b = w15.heap.size := ⟨_, rfl⟩
  rw [← hBe] at S15
  clear hBe
  clear KR
  go_upto_region 15 with (first
    | (refine wpList_append_strs rfl _ _ rfl w15 _ [] l l (List.nil_append l) rfl (OwnTs.nil w15) A1 N1 cap1 HN1.out rfl ((S15.out.fact 8 rfl).1.more (S15.out.fact 8 rfl).2) Hn1.out (by have := Hl.out; simp; omega) ?_; intro v1 u1 hO1; have HO1 := Lib.hid hO1; clear hO1)
    | (refine wpList_append_strs rfl _ _ rfl w15 _ l r al Hal.out rfl HO1.out A2 N2 cap2 HN2.out rfl (((S15.out.on HO1.out.2).fact 9 rfl).1.more ((S15.out.on HO1.out.2).fact 9 rfl).2) Hn2.out (by have := Hl.out; omega) ?_
       intro v2 u2 hO2
       have hnil4 := hO2.none13 HL.out
       obtain ⟨Aa, ca, hv, hca, hT, hB4⟩ := hO2.slice HL.out
       have Hnil4 : Hid (Aa = none → L = 0 ∧ ca = 0) := Lib.hid (fun h => hnil4 ca (by rw [hv, h]))
       subst hv
       have S16 := Lib.hid ((S15.out.on hB4).more (strsF14 Aa u2.heap.size al) ⟨hT, Nat.le_refl _⟩)
       have Hca := Lib.hid hca
       clear hT hB4 hO2 hca HO1 S15 hnil4
       obtain ⟨Ba, hBea⟩ : ∃ b, b = u2.heap.size := ⟨_, rfl⟩
       rw [← hBea] at S16
       clear hBea))
  have j1 := HJ1.out
  have j2 := HJ2.out
  have hJ4 : J ≤ ca := Nat.le_trans HJL.out Hca.out
  have hsl := fun W => run_slice_strs W Aa L ca J hJ4 (fun h => (Hnil4.out h).2)
  clear hJ4
  go_wp2_with fail
  refine (KT _ Au Aa cu ca ((S16.out.fact 1 rfl).1.more (S16.out.fact 1 rfl).2) (by have h := ((S16.out.fact 0 rfl).1.more (S16.out.fact 0 rfl).2); rw [← Htk.out]; exact h.take13 J)).out.mono ?_
  rintro e w17 ⟨rfl, hB⟩
  have S17 := Lib.hid (S16.out.on hB)
  clear hB S16
  clear hsl j1 j2
  go_wp2_with (refine wpList_load_st rfl 25 _ rfl S17.out 0 _ _ rfl rfl _ Try.underlying25 rfl (by rfl) ?_)
  have hsq := StrsAt.new w17 [t] 9
  have S18 := Lib.hid (S17.out.on (below_new w17 (.cells #[.string t] 9)))
  clear S17
  refine (KZ _ Am cm (S18.out.fact 8 rfl) ((S18.out.fact 2 rfl).1.more (S18.out.fact 2 rfl).2) HRm.out _ (by simpa using hsq)).out.mono ?_
  rintro e w19 ⟨Az, cz, rfl, hT, hR, hB⟩
  have S19 := Lib.hid ((S18.out.on hB).more (filF14 Az w19.heap.size zfs) ⟨hT, Nat.le_refl _⟩)
  have HRz := Lib.hid hR
  clear hB hT hR S18
  obtain ⟨Bz, hBe⟩ : ∃ b, b = w19.heap.size := ⟨_, rfl⟩
  rw [← hBe] at S19
  clear hBe
  clear hsq KZ
  go_wp2_with (first
    | (refine wpList_store_st rfl 25 _ _ rfl S19.out _ #[.int .i64 zs, .int .i64 zf, .slice Az zn cz] _ rfl rfl (by rfl) rfl (seg_one14 _ _ _ _ _) ?_; intro b6 w20 hp hS hBn; (try rw [← hp]); have S20 := Lib.hid hS; clear hS hp hBn)
    | (refine wpList_load_st rfl 25 _ rfl S20.out 0 _ _ rfl rfl _ Try.underlying25 rfl (by rfl) ?_))
  refine (KU _ Az cz (S20.out.fact 9 rfl) ((S20.out.fact 0 rfl).1.more (S20.out.fact 0 rfl).2) HRz.out).out.mono ?_
  rintro e w21 ⟨Av2, cv2, rfl, hT, hc5, hB⟩
  have S21 := Lib.hid ((S20.out.on hB).more (strsF14 Av2 w21.heap.size (tk ++ [t])) ⟨hT, Nat.le_refl _⟩)
  clear hB hT S20
  obtain ⟨Bv2, hBe⟩ : ∃ b, b = w21.heap.size := ⟨_, rfl⟩
  rw [← hBe] at S21
  clear hBe
  have hjtk : tk.length = J := by rw [← Htk.out, List.length_take, ← HL.out]; have := HJL.out; omega
  obtain ⟨b5x, off5, rfl, _, hcs⟩ := (S21.out.fact 0 rfl).1 J (by simp; omega)
  have hcs2 : (tk ++ [t])[J]'(by simp; omega) = t := by simp [← hjtk]
  rw [hcs2] at hcs
  have Hcs := Lib.hid hcs
  have Hjtk := Lib.hid hjtk
  have hJ5 : J ≤ cv2 := by omega
  have HJ5 := Lib.hid hJ5
  clear hcs hjtk hcs2 hJ5 hc5
  go_wp2_with fail
  refine (HC.out w21 (S21.out.fact 10 rfl)).mono ?_
  rintro e w22 ⟨rfl, hB⟩
  have S22 := Lib.hid (S21.out.on hB)
  have hcx : w22.cell? ⟨b5x, off5 + J, none⟩ = some (.string t) := (hB.cell (p := ⟨b5x, off5 + J, none⟩) (World.block_lt_of_cell? _ _ Hcs.out)).trans Hcs.out
  clear hB S21
  have iwj : wrap64 ((J : Int) + 1) = (J : Int) + 1 := by have := HJ60.out; unfold wrap64; omega
  have hsl := fun W => run_slice_strs W (some ⟨b5x, off5, none⟩) (J + 1) cv2 J HJ5.out (fun h => by cases h)
  go_wp2_with fail
  refine (KT _ (some ⟨b5x, off5, none⟩) Au cv2 cu (by have h := ((S22.out.fact 0 rfl).1.more (S22.out.fact 0 rfl).2); have h2 := h.take13 J; rw [List.take_left' Hjtk.out] at h2; exact h2) ((S22.out.fact 3 rfl).1.more (S22.out.fact 3 rfl).2)).out.mono ?_
  rintro e w23 ⟨rfl, hB⟩
  have S23 := Lib.hid (S22.out.on hB)
  clear hB S22
  clear hsl hcx
  go_wp2
  go_ret
  exact ⟨rfl, S23.out.below⟩
end Go.Proofs.Ytlnchfnmpamliaa
