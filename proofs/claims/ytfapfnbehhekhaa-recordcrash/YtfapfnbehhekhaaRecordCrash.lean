/-
  Layer 13 (record): the law RecordCrash, over the structures (printed by tools/gen-reccrash.py).
-/
import Derived.Test.YtfapfnbehhekhaaRecApp
import Derived.Test.YtfapfnbehhekhaaRecFar
import Derived.Deep.Cut
namespace Go.Proofs.Ytfapfnbehhekhaa
set_option maxRecDepth 10000
open Go.RowKit


set_option maxHeartbeats 4000000 in
theorem recordCrash_new {E : World → Prop} (HS : Hid (RecK E)) (HC : Hid (RecordedK E)) (most n : Int) (A1 : Option Addr) (N1 cap1 : Nat) (l : List ByteArray) (A2 : Option Addr) (N2 cap2 : Nat) (r : List ByteArray) (left : Int) (s : ByteArray) (w : World) (hE : E w) (hA1 : StrsAt w w.heap.size A1 l) (hA2 : StrsAt w w.heap.size A2 r) 
    (KN : ∀ (W : World) (_h : E W), Hid (Calls Try.prog 22 #[.int .i64 most] W fun e w' => e = .returned (.tuple #[.agg #[.int .i64 0, .string ⟨#[]⟩, .string ⟨#[]⟩], .int .i64 1]) ∧ Below W.heap.size W w')) :
    Calls Try.prog 5 #[.int .i64 most, .int .i64 n, .slice A1 N1 cap1, .slice A2 N2 cap2, .int .i64 left, .string s] w fun e w' => e = .returned (.bool true) ∧ Below w.heap.size w w' := by
  have S0 := Lib.hid ((((St.start w).more (strsF13 A2 w.heap.size r) ⟨hA2, Nat.le_refl _⟩).more (strsF13 A1 w.heap.size l) ⟨hA1, Nat.le_refl _⟩).more (eRc HS) hE)
  clear hE hA1 hA2
  go_enter Try.func5, Try.ntmps5
  go_wp2_with fail
  refine (KN w (S0.out.fact 0 rfl)).out.mono ?_
  rintro e w1 ⟨rfl, hB⟩
  have S1 := Lib.hid (S0.out.on hB)
  clear hB S0
  go_wp2_with (refine wpList_store_st rfl 23 _ _ rfl S1.out _ #[.int .i64 0, .string ⟨#[]⟩, .string ⟨#[]⟩] _ rfl rfl (by rfl) rfl (fil_one13 _ _ _) ?_; intro pf0 w2 hp hS hBn; (try rw [← hp]); have S2 := Lib.hid hS; clear hS hp hBn)
  refine (Lib.hid (HC.out w2 (S2.out.fact 0 rfl))).out.mono ?_
  rintro e w3 ⟨rfl, hB⟩
  have S3 := Lib.hid (S2.out.on hB)
  clear hB S2
  go_wp2
  go_ret
  exact ⟨rfl, S3.out.below⟩

set_option maxHeartbeats 4000000 in
theorem recordCrash_far1 {E : World → Prop} (HS : Hid (RecK E)) (HC : Hid (RecordedK E)) (most n : Int) (A1 : Option Addr) (N1 cap1 : Nat) (l : List ByteArray) (A2 : Option Addr) (N2 cap2 : Nat) (r : List ByteArray) (left : Int) (s : ByteArray) (w : World) (hE : E w) (hA1 : StrsAt w w.heap.size A1 l) (hA2 : StrsAt w w.heap.size A2 r) 
    (KN : ∀ (W : World) (_h : E W), Hid (Calls Try.prog 22 #[.int .i64 most] W fun e w' => e = .returned (.tuple #[.agg #[.int .i64 most, .string ⟨#[]⟩, .string ⟨#[]⟩], .int .i64 0]) ∧ Below W.heap.size W w'))
    (pf1 : ∀ (W : World) (_hA : StrsAt W W.heap.size A1 l), Hid (Calls Try.prog 8 #[.agg #[.int .i64 most, .string ⟨#[]⟩, .string ⟨#[]⟩], .slice A1 N1 cap1] W fun e w' => e = .returned (.bool true) ∧ Below W.heap.size W w')) :
    Calls Try.prog 5 #[.int .i64 most, .int .i64 n, .slice A1 N1 cap1, .slice A2 N2 cap2, .int .i64 left, .string s] w fun e w' => e = .returned (.bool true) ∧ Below w.heap.size w w' := by
  have S0 := Lib.hid ((((St.start w).more (strsF13 A2 w.heap.size r) ⟨hA2, Nat.le_refl _⟩).more (strsF13 A1 w.heap.size l) ⟨hA1, Nat.le_refl _⟩).more (eRc HS) hE)
  clear hE hA1 hA2
  go_enter Try.func5, Try.ntmps5
  go_wp2_with fail
  refine (KN w (S0.out.fact 0 rfl)).out.mono ?_
  rintro e w1 ⟨rfl, hB⟩
  have S1 := Lib.hid (S0.out.on hB)
  clear hB S0
  go_wp2_with (first
    | (refine wpList_store_st rfl 23 _ _ rfl S1.out _ #[.int .i64 most, .string ⟨#[]⟩, .string ⟨#[]⟩] _ rfl rfl (by rfl) rfl (fil_one13 _ _ _) ?_; intro pf0 w2 hp hS hBn; (try rw [← hp]); have S2 := Lib.hid hS; clear hS hp hBn)
    | (refine wpList_loadg_st (by rfl) 23 _ rfl S2.out 0 _ _ rfl rfl _ Try.underlying23 rfl (by rfl) ?_))
  refine (pf1 w2 ((S2.out.fact 1 rfl).1.more (S2.out.fact 1 rfl).2)).out.mono ?_
  rintro e w3 ⟨rfl, hB⟩
  have S3 := Lib.hid (S2.out.on hB)
  clear hB S2
  go_wp2_with fail
  refine (Lib.hid (HC.out w3 (S3.out.fact 0 rfl))).out.mono ?_
  rintro e w4 ⟨rfl, hB⟩
  have S4 := Lib.hid (S3.out.on hB)
  clear hB S3
  go_wp2
  go_ret
  exact ⟨rfl, S4.out.below⟩

set_option maxHeartbeats 4000000 in
theorem recordCrash_far2 {E : World → Prop} (HS : Hid (RecK E)) (HC : Hid (RecordedK E)) (most n : Int) (A1 : Option Addr) (N1 cap1 : Nat) (l : List ByteArray) (A2 : Option Addr) (N2 cap2 : Nat) (r : List ByteArray) (left : Int) (s : ByteArray) (w : World) (hE : E w) (hA1 : StrsAt w w.heap.size A1 l) (hA2 : StrsAt w w.heap.size A2 r) 
    (KN : ∀ (W : World) (_h : E W), Hid (Calls Try.prog 22 #[.int .i64 most] W fun e w' => e = .returned (.tuple #[.agg #[.int .i64 most, .string ⟨#[]⟩, .string ⟨#[]⟩], .int .i64 0]) ∧ Below W.heap.size W w'))
    (pf1 : ∀ (W : World) (_hA : StrsAt W W.heap.size A1 l), Hid (Calls Try.prog 8 #[.agg #[.int .i64 most, .string ⟨#[]⟩, .string ⟨#[]⟩], .slice A1 N1 cap1] W fun e w' => e = .returned (.bool false) ∧ Below W.heap.size W w'))
    (pf2 : ∀ (W : World) (_hA : StrsAt W W.heap.size A2 r), Hid (Calls Try.prog 8 #[.agg #[.int .i64 most, .string ⟨#[]⟩, .string ⟨#[]⟩], .slice A2 N2 cap2] W fun e w' => e = .returned (.bool true) ∧ Below W.heap.size W w')) :
    Calls Try.prog 5 #[.int .i64 most, .int .i64 n, .slice A1 N1 cap1, .slice A2 N2 cap2, .int .i64 left, .string s] w fun e w' => e = .returned (.bool true) ∧ Below w.heap.size w w' := by
  have S0 := Lib.hid ((((St.start w).more (strsF13 A2 w.heap.size r) ⟨hA2, Nat.le_refl _⟩).more (strsF13 A1 w.heap.size l) ⟨hA1, Nat.le_refl _⟩).more (eRc HS) hE)
  clear hE hA1 hA2
  go_enter Try.func5, Try.ntmps5
  go_wp2_with fail
  refine (KN w (S0.out.fact 0 rfl)).out.mono ?_
  rintro e w1 ⟨rfl, hB⟩
  have S1 := Lib.hid (S0.out.on hB)
  clear hB S0
  go_wp2_with (first
    | (refine wpList_store_st rfl 23 _ _ rfl S1.out _ #[.int .i64 most, .string ⟨#[]⟩, .string ⟨#[]⟩] _ rfl rfl (by rfl) rfl (fil_one13 _ _ _) ?_; intro pf0 w2 hp hS hBn; (try rw [← hp]); have S2 := Lib.hid hS; clear hS hp hBn)
    | (refine wpList_loadg_st (by rfl) 23 _ rfl S2.out 0 _ _ rfl rfl _ Try.underlying23 rfl (by rfl) ?_))
  refine (pf1 w2 ((S2.out.fact 1 rfl).1.more (S2.out.fact 1 rfl).2)).out.mono ?_
  rintro e w3 ⟨rfl, hB⟩
  have S3 := Lib.hid (S2.out.on hB)
  clear hB S2
  go_wp2_with (refine wpList_loadg_st (by rfl) 23 _ rfl S3.out 0 _ _ rfl rfl _ Try.underlying23 rfl (by rfl) ?_)
  refine (pf2 w3 ((S3.out.fact 2 rfl).1.more (S3.out.fact 2 rfl).2)).out.mono ?_
  rintro e w4 ⟨rfl, hB⟩
  have S4 := Lib.hid (S3.out.on hB)
  clear hB S3
  go_wp2_with fail
  refine (Lib.hid (HC.out w4 (S4.out.fact 0 rfl))).out.mono ?_
  rintro e w5 ⟨rfl, hB⟩
  have S5 := Lib.hid (S4.out.on hB)
  clear hB S4
  go_wp2
  go_ret
  exact ⟨rfl, S5.out.below⟩

set_option maxHeartbeats 4000000 in
theorem recordCrash_neg {E : World → Prop} (HS : Hid (RecK E)) (HC : Hid (RecordedK E)) (most n : Int) (A1 : Option Addr) (N1 cap1 : Nat) (l : List ByteArray) (A2 : Option Addr) (N2 cap2 : Nat) (r : List ByteArray) (left : Int) (s : ByteArray) (w : World) (hE : E w) (hA1 : StrsAt w w.heap.size A1 l) (hA2 : StrsAt w w.heap.size A2 r) (j1 : (n < 0) = True)
    (KN : ∀ (W : World) (_h : E W), Hid (Calls Try.prog 22 #[.int .i64 most] W fun e w' => e = .returned (.tuple #[.agg #[.int .i64 most, .string ⟨#[]⟩, .string ⟨#[]⟩], .int .i64 0]) ∧ Below W.heap.size W w'))
    (pf1 : ∀ (W : World) (_hA : StrsAt W W.heap.size A1 l), Hid (Calls Try.prog 8 #[.agg #[.int .i64 most, .string ⟨#[]⟩, .string ⟨#[]⟩], .slice A1 N1 cap1] W fun e w' => e = .returned (.bool false) ∧ Below W.heap.size W w'))
    (pf2 : ∀ (W : World) (_hA : StrsAt W W.heap.size A2 r), Hid (Calls Try.prog 8 #[.agg #[.int .i64 most, .string ⟨#[]⟩, .string ⟨#[]⟩], .slice A2 N2 cap2] W fun e w' => e = .returned (.bool false) ∧ Below W.heap.size W w')) :
    Calls Try.prog 5 #[.int .i64 most, .int .i64 n, .slice A1 N1 cap1, .slice A2 N2 cap2, .int .i64 left, .string s] w fun e w' => e = .returned (.bool true) ∧ Below w.heap.size w w' := by
  have S0 := Lib.hid ((((St.start w).more (strsF13 A2 w.heap.size r) ⟨hA2, Nat.le_refl _⟩).more (strsF13 A1 w.heap.size l) ⟨hA1, Nat.le_refl _⟩).more (eRc HS) hE)
  clear hE hA1 hA2
  go_enter Try.func5, Try.ntmps5
  go_wp2_with fail
  refine (KN w (S0.out.fact 0 rfl)).out.mono ?_
  rintro e w1 ⟨rfl, hB⟩
  have S1 := Lib.hid (S0.out.on hB)
  clear hB S0
  go_wp2_with (first
    | (refine wpList_store_st rfl 23 _ _ rfl S1.out _ #[.int .i64 most, .string ⟨#[]⟩, .string ⟨#[]⟩] _ rfl rfl (by rfl) rfl (fil_one13 _ _ _) ?_; intro pf0 w2 hp hS hBn; (try rw [← hp]); have S2 := Lib.hid hS; clear hS hp hBn)
    | (refine wpList_loadg_st (by rfl) 23 _ rfl S2.out 0 _ _ rfl rfl _ Try.underlying23 rfl (by rfl) ?_))
  refine (pf1 w2 ((S2.out.fact 1 rfl).1.more (S2.out.fact 1 rfl).2)).out.mono ?_
  rintro e w3 ⟨rfl, hB⟩
  have S3 := Lib.hid (S2.out.on hB)
  clear hB S2
  go_wp2_with (refine wpList_loadg_st (by rfl) 23 _ rfl S3.out 0 _ _ rfl rfl _ Try.underlying23 rfl (by rfl) ?_)
  refine (pf2 w3 ((S3.out.fact 2 rfl).1.more (S3.out.fact 2 rfl).2)).out.mono ?_
  rintro e w4 ⟨rfl, hB⟩
  have S4 := Lib.hid (S3.out.on hB)
  clear hB S3
  go_wp2_with fail
  refine (Lib.hid (HC.out w4 (S4.out.fact 0 rfl))).out.mono ?_
  rintro e w5 ⟨rfl, hB⟩
  have S5 := Lib.hid (S4.out.on hB)
  clear hB S4
  go_wp2
  go_ret
  exact ⟨rfl, S5.out.below⟩

set_option maxHeartbeats 4000000 in
theorem recordCrash_big {E : World → Prop} (HS : Hid (RecK E)) (HC : Hid (RecordedK E)) (most n : Int) (A1 : Option Addr) (N1 cap1 : Nat) (l : List ByteArray) (A2 : Option Addr) (N2 cap2 : Nat) (r : List ByteArray) (left : Int) (s : ByteArray) (w : World) (hE : E w) (hA1 : StrsAt w w.heap.size A1 l) (hA2 : StrsAt w w.heap.size A2 r) (j1 : (n < 0) = False) (j2 : ((900000000 : Int) < n) = True)
    (KN : ∀ (W : World) (_h : E W), Hid (Calls Try.prog 22 #[.int .i64 most] W fun e w' => e = .returned (.tuple #[.agg #[.int .i64 most, .string ⟨#[]⟩, .string ⟨#[]⟩], .int .i64 0]) ∧ Below W.heap.size W w'))
    (pf1 : ∀ (W : World) (_hA : StrsAt W W.heap.size A1 l), Hid (Calls Try.prog 8 #[.agg #[.int .i64 most, .string ⟨#[]⟩, .string ⟨#[]⟩], .slice A1 N1 cap1] W fun e w' => e = .returned (.bool false) ∧ Below W.heap.size W w'))
    (pf2 : ∀ (W : World) (_hA : StrsAt W W.heap.size A2 r), Hid (Calls Try.prog 8 #[.agg #[.int .i64 most, .string ⟨#[]⟩, .string ⟨#[]⟩], .slice A2 N2 cap2] W fun e w' => e = .returned (.bool false) ∧ Below W.heap.size W w')) :
    Calls Try.prog 5 #[.int .i64 most, .int .i64 n, .slice A1 N1 cap1, .slice A2 N2 cap2, .int .i64 left, .string s] w fun e w' => e = .returned (.bool true) ∧ Below w.heap.size w w' := by
  have S0 := Lib.hid ((((St.start w).more (strsF13 A2 w.heap.size r) ⟨hA2, Nat.le_refl _⟩).more (strsF13 A1 w.heap.size l) ⟨hA1, Nat.le_refl _⟩).more (eRc HS) hE)
  clear hE hA1 hA2
  go_enter Try.func5, Try.ntmps5
  go_wp2_with fail
  refine (KN w (S0.out.fact 0 rfl)).out.mono ?_
  rintro e w1 ⟨rfl, hB⟩
  have S1 := Lib.hid (S0.out.on hB)
  clear hB S0
  go_wp2_with (first
    | (refine wpList_store_st rfl 23 _ _ rfl S1.out _ #[.int .i64 most, .string ⟨#[]⟩, .string ⟨#[]⟩] _ rfl rfl (by rfl) rfl (fil_one13 _ _ _) ?_; intro pf0 w2 hp hS hBn; (try rw [← hp]); have S2 := Lib.hid hS; clear hS hp hBn)
    | (refine wpList_loadg_st (by rfl) 23 _ rfl S2.out 0 _ _ rfl rfl _ Try.underlying23 rfl (by rfl) ?_))
  refine (pf1 w2 ((S2.out.fact 1 rfl).1.more (S2.out.fact 1 rfl).2)).out.mono ?_
  rintro e w3 ⟨rfl, hB⟩
  have S3 := Lib.hid (S2.out.on hB)
  clear hB S2
  go_wp2_with (refine wpList_loadg_st (by rfl) 23 _ rfl S3.out 0 _ _ rfl rfl _ Try.underlying23 rfl (by rfl) ?_)
  refine (pf2 w3 ((S3.out.fact 2 rfl).1.more (S3.out.fact 2 rfl).2)).out.mono ?_
  rintro e w4 ⟨rfl, hB⟩
  have S4 := Lib.hid (S3.out.on hB)
  clear hB S3
  go_wp2_with fail
  refine (Lib.hid (HC.out w4 (S4.out.fact 0 rfl))).out.mono ?_
  rintro e w5 ⟨rfl, hB⟩
  have S5 := Lib.hid (S4.out.on hB)
  clear hB S4
  go_wp2
  go_ret
  exact ⟨rfl, S5.out.below⟩

set_option maxHeartbeats 4000000 in
theorem recordCrash_long {E : World → Prop} (HS : Hid (RecK E)) (HC : Hid (RecordedK E)) (most n : Int) (A1 : Option Addr) (N1 cap1 : Nat) (l : List ByteArray) (A2 : Option Addr) (N2 cap2 : Nat) (r : List ByteArray) (left : Int) (s : ByteArray) (w : World) (hE : E w) (hA1 : StrsAt w w.heap.size A1 l) (hA2 : StrsAt w w.heap.size A2 r) (j1 : (n < 0) = False) (j2 : ((900000000 : Int) < n) = False) (j3 : ((200 : Int) < (s.size : Int)) = True)
    (KN : ∀ (W : World) (_h : E W), Hid (Calls Try.prog 22 #[.int .i64 most] W fun e w' => e = .returned (.tuple #[.agg #[.int .i64 most, .string ⟨#[]⟩, .string ⟨#[]⟩], .int .i64 0]) ∧ Below W.heap.size W w'))
    (pf1 : ∀ (W : World) (_hA : StrsAt W W.heap.size A1 l), Hid (Calls Try.prog 8 #[.agg #[.int .i64 most, .string ⟨#[]⟩, .string ⟨#[]⟩], .slice A1 N1 cap1] W fun e w' => e = .returned (.bool false) ∧ Below W.heap.size W w'))
    (pf2 : ∀ (W : World) (_hA : StrsAt W W.heap.size A2 r), Hid (Calls Try.prog 8 #[.agg #[.int .i64 most, .string ⟨#[]⟩, .string ⟨#[]⟩], .slice A2 N2 cap2] W fun e w' => e = .returned (.bool false) ∧ Below W.heap.size W w')) :
    Calls Try.prog 5 #[.int .i64 most, .int .i64 n, .slice A1 N1 cap1, .slice A2 N2 cap2, .int .i64 left, .string s] w fun e w' => e = .returned (.bool true) ∧ Below w.heap.size w w' := by
  have S0 := Lib.hid ((((St.start w).more (strsF13 A2 w.heap.size r) ⟨hA2, Nat.le_refl _⟩).more (strsF13 A1 w.heap.size l) ⟨hA1, Nat.le_refl _⟩).more (eRc HS) hE)
  clear hE hA1 hA2
  go_enter Try.func5, Try.ntmps5
  go_wp2_with fail
  refine (KN w (S0.out.fact 0 rfl)).out.mono ?_
  rintro e w1 ⟨rfl, hB⟩
  have S1 := Lib.hid (S0.out.on hB)
  clear hB S0
  go_wp2_with (first
    | (refine wpList_store_st rfl 23 _ _ rfl S1.out _ #[.int .i64 most, .string ⟨#[]⟩, .string ⟨#[]⟩] _ rfl rfl (by rfl) rfl (fil_one13 _ _ _) ?_; intro pf0 w2 hp hS hBn; (try rw [← hp]); have S2 := Lib.hid hS; clear hS hp hBn)
    | (refine wpList_loadg_st (by rfl) 23 _ rfl S2.out 0 _ _ rfl rfl _ Try.underlying23 rfl (by rfl) ?_))
  refine (pf1 w2 ((S2.out.fact 1 rfl).1.more (S2.out.fact 1 rfl).2)).out.mono ?_
  rintro e w3 ⟨rfl, hB⟩
  have S3 := Lib.hid (S2.out.on hB)
  clear hB S2
  go_wp2_with (refine wpList_loadg_st (by rfl) 23 _ rfl S3.out 0 _ _ rfl rfl _ Try.underlying23 rfl (by rfl) ?_)
  refine (pf2 w3 ((S3.out.fact 2 rfl).1.more (S3.out.fact 2 rfl).2)).out.mono ?_
  rintro e w4 ⟨rfl, hB⟩
  have S4 := Lib.hid (S3.out.on hB)
  clear hB S3
  go_wp2_with fail
  refine (Lib.hid (HC.out w4 (S4.out.fact 0 rfl))).out.mono ?_
  rintro e w5 ⟨rfl, hB⟩
  have S5 := Lib.hid (S4.out.on hB)
  clear hB S4
  go_wp2
  go_ret
  exact ⟨rfl, S5.out.below⟩

set_option maxHeartbeats 4000000 in
theorem recordCrash_bad1 {E : World → Prop} (HS : Hid (RecK E)) (HC : Hid (RecordedK E)) (most n : Int) (A1 : Option Addr) (N1 cap1 : Nat) (l : List ByteArray) (A2 : Option Addr) (N2 cap2 : Nat) (r : List ByteArray) (left : Int) (s : ByteArray) (w : World) (hE : E w) (hA1 : StrsAt w w.heap.size A1 l) (hA2 : StrsAt w w.heap.size A2 r) (j1 : (n < 0) = False) (j2 : ((900000000 : Int) < n) = False) (j3 : ((200 : Int) < (s.size : Int)) = False) (xm vm ym : Int) (xk xl vk vl yk yl : ByteArray) (n2 : Int) (Iw : Hid (wrap64 (n + (N1 : Int)) = n2)) (ge ve he : Int) (jg : (ge != 0) = true)
    (KN : ∀ (W : World) (_h : E W), Hid (Calls Try.prog 22 #[.int .i64 most] W fun e w' => e = .returned (.tuple #[.agg #[.int .i64 most, .string ⟨#[]⟩, .string ⟨#[]⟩], .int .i64 0]) ∧ Below W.heap.size W w'))
    (pf1 : ∀ (W : World) (_hA : StrsAt W W.heap.size A1 l), Hid (Calls Try.prog 8 #[.agg #[.int .i64 most, .string ⟨#[]⟩, .string ⟨#[]⟩], .slice A1 N1 cap1] W fun e w' => e = .returned (.bool false) ∧ Below W.heap.size W w'))
    (pf2 : ∀ (W : World) (_hA : StrsAt W W.heap.size A2 r), Hid (Calls Try.prog 8 #[.agg #[.int .i64 most, .string ⟨#[]⟩, .string ⟨#[]⟩], .slice A2 N2 cap2] W fun e w' => e = .returned (.bool false) ∧ Below W.heap.size W w'))
    (KA : ∀ (W : World) (_h : E W) (_hA : StrsAt W W.heap.size A1 l), Hid (Calls Try.prog 14 #[.agg #[.int .i64 most, .string ⟨#[]⟩, .string ⟨#[]⟩], .int .i64 n, .slice A1 N1 cap1] W fun e w' => e = .returned (.tuple #[.agg #[.int .i64 xm, .string xk, .string xl], .int .i64 ge]) ∧ Below W.heap.size W w'))
    (KV : ∀ (W : World) (_h : E W), Hid (Calls Try.prog 24 #[.agg #[.int .i64 xm, .string xk, .string xl]] W fun e w' => e = .returned (.tuple #[.agg #[.int .i64 vm, .string vk, .string vl], .int .i64 ve]) ∧ Below W.heap.size W w'))
    (KB : ∀ (W : World) (_h : E W) (_hA : StrsAt W W.heap.size A2 r), Hid (Calls Try.prog 14 #[.agg #[.int .i64 vm, .string vk, .string vl], .int .i64 n2, .slice A2 N2 cap2] W fun e w' => e = .returned (.tuple #[.agg #[.int .i64 ym, .string yk, .string yl], .int .i64 he]) ∧ Below W.heap.size W w')) :
    Calls Try.prog 5 #[.int .i64 most, .int .i64 n, .slice A1 N1 cap1, .slice A2 N2 cap2, .int .i64 left, .string s] w fun e w' => e = .returned (.bool true) ∧ Below w.heap.size w w' := by
  have S0 := Lib.hid ((((St.start w).more (strsF13 A2 w.heap.size r) ⟨hA2, Nat.le_refl _⟩).more (strsF13 A1 w.heap.size l) ⟨hA1, Nat.le_refl _⟩).more (eRc HS) hE)
  clear hE hA1 hA2
  go_enter Try.func5, Try.ntmps5
  go_wp2_with fail
  refine (KN w (S0.out.fact 0 rfl)).out.mono ?_
  rintro e w1 ⟨rfl, hB⟩
  have S1 := Lib.hid (S0.out.on hB)
  clear hB S0
  go_wp2_with (first
    | (refine wpList_store_st rfl 23 _ _ rfl S1.out _ #[.int .i64 most, .string ⟨#[]⟩, .string ⟨#[]⟩] _ rfl rfl (by rfl) rfl (fil_one13 _ _ _) ?_; intro pf0 w2 hp hS hBn; (try rw [← hp]); have S2 := Lib.hid hS; clear hS hp hBn)
    | (refine wpList_loadg_st (by rfl) 23 _ rfl S2.out 0 _ _ rfl rfl _ Try.underlying23 rfl (by rfl) ?_))
  refine (pf1 w2 ((S2.out.fact 1 rfl).1.more (S2.out.fact 1 rfl).2)).out.mono ?_
  rintro e w3 ⟨rfl, hB⟩
  have S3 := Lib.hid (S2.out.on hB)
  clear hB S2
  go_wp2_with (refine wpList_loadg_st (by rfl) 23 _ rfl S3.out 0 _ _ rfl rfl _ Try.underlying23 rfl (by rfl) ?_)
  refine (pf2 w3 ((S3.out.fact 2 rfl).1.more (S3.out.fact 2 rfl).2)).out.mono ?_
  rintro e w4 ⟨rfl, hB⟩
  have S4 := Lib.hid (S3.out.on hB)
  clear hB S3
  go_wp2_with (refine wpList_load_st rfl 23 _ rfl S4.out 0 _ _ rfl rfl _ Try.underlying23 rfl (by rfl) ?_)
  refine (KA w4 (S4.out.fact 0 rfl) ((S4.out.fact 1 rfl).1.more (S4.out.fact 1 rfl).2)).out.mono ?_
  rintro e w5 ⟨rfl, hB⟩
  have S5 := Lib.hid (S4.out.on hB)
  clear hB S4
  clear KA pf1 pf2 KN j1 j2 j3
  go_wp2_with (first
    | (refine wpList_store_st rfl 23 _ _ rfl S5.out _ #[.int .i64 xm, .string xk, .string xl] _ rfl rfl (by rfl) rfl (fil_one13 _ _ _) ?_; intro px w6 hp hS hBn; (try rw [← hp]); have S6 := Lib.hid hS; clear hS hp hBn)
    | (refine wpList_load_st rfl 23 _ rfl S6.out 0 _ _ rfl rfl _ Try.underlying23 rfl (by rfl) ?_))
  refine (KV w6 (S6.out.fact 0 rfl)).out.mono ?_
  rintro e w7 ⟨rfl, hB⟩
  have S7 := Lib.hid (S6.out.on hB)
  clear hB S6
  clear KV
  have iw := Iw.out
  go_wp2_with (first
    | (refine wpList_store_st rfl 23 _ _ rfl S7.out _ #[.int .i64 vm, .string vk, .string vl] _ rfl rfl (by rfl) rfl (fil_one13 _ _ _) ?_; intro pv w8 hp hS hBn; (try rw [← hp]); have S8 := Lib.hid hS; clear hS hp hBn)
    | (refine wpList_load_st rfl 23 _ rfl S8.out 0 _ _ rfl rfl _ Try.underlying23 rfl (by rfl) ?_))
  refine (KB w8 (S8.out.fact 0 rfl) ((S8.out.fact 2 rfl).1.more (S8.out.fact 2 rfl).2)).out.mono ?_
  rintro e w9 ⟨rfl, hB⟩
  have S9 := Lib.hid (S8.out.on hB)
  clear hB S8
  clear KB iw Iw
  go_wp2_with (refine wpList_store_st rfl 23 _ _ rfl S9.out _ #[.int .i64 ym, .string yk, .string yl] _ rfl rfl (by rfl) rfl (fil_one13 _ _ _) ?_; intro py w10 hp hS hBn; (try rw [← hp]); have S10 := Lib.hid hS; clear hS hp hBn)
  refine (Lib.hid (HC.out w10 (S10.out.fact 0 rfl))).out.mono ?_
  rintro e w11 ⟨rfl, hB⟩
  have S11 := Lib.hid (S10.out.on hB)
  clear hB S10
  go_wp2
  go_ret
  exact ⟨rfl, S11.out.below⟩

set_option maxHeartbeats 4000000 in
theorem recordCrash_bad2 {E : World → Prop} (HS : Hid (RecK E)) (HC : Hid (RecordedK E)) (most n : Int) (A1 : Option Addr) (N1 cap1 : Nat) (l : List ByteArray) (A2 : Option Addr) (N2 cap2 : Nat) (r : List ByteArray) (left : Int) (s : ByteArray) (w : World) (hE : E w) (hA1 : StrsAt w w.heap.size A1 l) (hA2 : StrsAt w w.heap.size A2 r) (j1 : (n < 0) = False) (j2 : ((900000000 : Int) < n) = False) (j3 : ((200 : Int) < (s.size : Int)) = False) (xm vm ym : Int) (xk xl vk vl yk yl : ByteArray) (n2 : Int) (Iw : Hid (wrap64 (n + (N1 : Int)) = n2)) (he : Int) (jh : (he != 0) = true)
    (KN : ∀ (W : World) (_h : E W), Hid (Calls Try.prog 22 #[.int .i64 most] W fun e w' => e = .returned (.tuple #[.agg #[.int .i64 most, .string ⟨#[]⟩, .string ⟨#[]⟩], .int .i64 0]) ∧ Below W.heap.size W w'))
    (pf1 : ∀ (W : World) (_hA : StrsAt W W.heap.size A1 l), Hid (Calls Try.prog 8 #[.agg #[.int .i64 most, .string ⟨#[]⟩, .string ⟨#[]⟩], .slice A1 N1 cap1] W fun e w' => e = .returned (.bool false) ∧ Below W.heap.size W w'))
    (pf2 : ∀ (W : World) (_hA : StrsAt W W.heap.size A2 r), Hid (Calls Try.prog 8 #[.agg #[.int .i64 most, .string ⟨#[]⟩, .string ⟨#[]⟩], .slice A2 N2 cap2] W fun e w' => e = .returned (.bool false) ∧ Below W.heap.size W w'))
    (KA : ∀ (W : World) (_h : E W) (_hA : StrsAt W W.heap.size A1 l), Hid (Calls Try.prog 14 #[.agg #[.int .i64 most, .string ⟨#[]⟩, .string ⟨#[]⟩], .int .i64 n, .slice A1 N1 cap1] W fun e w' => e = .returned (.tuple #[.agg #[.int .i64 xm, .string xk, .string xl], .int .i64 0]) ∧ Below W.heap.size W w'))
    (KV : ∀ (W : World) (_h : E W), Hid (Calls Try.prog 24 #[.agg #[.int .i64 xm, .string xk, .string xl]] W fun e w' => e = .returned (.tuple #[.agg #[.int .i64 vm, .string vk, .string vl], .int .i64 0]) ∧ Below W.heap.size W w'))
    (KB : ∀ (W : World) (_h : E W) (_hA : StrsAt W W.heap.size A2 r), Hid (Calls Try.prog 14 #[.agg #[.int .i64 vm, .string vk, .string vl], .int .i64 n2, .slice A2 N2 cap2] W fun e w' => e = .returned (.tuple #[.agg #[.int .i64 ym, .string yk, .string yl], .int .i64 he]) ∧ Below W.heap.size W w')) :
    Calls Try.prog 5 #[.int .i64 most, .int .i64 n, .slice A1 N1 cap1, .slice A2 N2 cap2, .int .i64 left, .string s] w fun e w' => e = .returned (.bool true) ∧ Below w.heap.size w w' := by
  have S0 := Lib.hid ((((St.start w).more (strsF13 A2 w.heap.size r) ⟨hA2, Nat.le_refl _⟩).more (strsF13 A1 w.heap.size l) ⟨hA1, Nat.le_refl _⟩).more (eRc HS) hE)
  clear hE hA1 hA2
  go_enter Try.func5, Try.ntmps5
  go_wp2_with fail
  refine (KN w (S0.out.fact 0 rfl)).out.mono ?_
  rintro e w1 ⟨rfl, hB⟩
  have S1 := Lib.hid (S0.out.on hB)
  clear hB S0
  go_wp2_with (first
    | (refine wpList_store_st rfl 23 _ _ rfl S1.out _ #[.int .i64 most, .string ⟨#[]⟩, .string ⟨#[]⟩] _ rfl rfl (by rfl) rfl (fil_one13 _ _ _) ?_; intro pf0 w2 hp hS hBn; (try rw [← hp]); have S2 := Lib.hid hS; clear hS hp hBn)
    | (refine wpList_loadg_st (by rfl) 23 _ rfl S2.out 0 _ _ rfl rfl _ Try.underlying23 rfl (by rfl) ?_))
  refine (pf1 w2 ((S2.out.fact 1 rfl).1.more (S2.out.fact 1 rfl).2)).out.mono ?_
  rintro e w3 ⟨rfl, hB⟩
  have S3 := Lib.hid (S2.out.on hB)
  clear hB S2
  go_wp2_with (refine wpList_loadg_st (by rfl) 23 _ rfl S3.out 0 _ _ rfl rfl _ Try.underlying23 rfl (by rfl) ?_)
  refine (pf2 w3 ((S3.out.fact 2 rfl).1.more (S3.out.fact 2 rfl).2)).out.mono ?_
  rintro e w4 ⟨rfl, hB⟩
  have S4 := Lib.hid (S3.out.on hB)
  clear hB S3
  go_wp2_with (refine wpList_load_st rfl 23 _ rfl S4.out 0 _ _ rfl rfl _ Try.underlying23 rfl (by rfl) ?_)
  refine (KA w4 (S4.out.fact 0 rfl) ((S4.out.fact 1 rfl).1.more (S4.out.fact 1 rfl).2)).out.mono ?_
  rintro e w5 ⟨rfl, hB⟩
  have S5 := Lib.hid (S4.out.on hB)
  clear hB S4
  clear KA pf1 pf2 KN j1 j2 j3
  go_wp2_with (first
    | (refine wpList_store_st rfl 23 _ _ rfl S5.out _ #[.int .i64 xm, .string xk, .string xl] _ rfl rfl (by rfl) rfl (fil_one13 _ _ _) ?_; intro px w6 hp hS hBn; (try rw [← hp]); have S6 := Lib.hid hS; clear hS hp hBn)
    | (refine wpList_load_st rfl 23 _ rfl S6.out 0 _ _ rfl rfl _ Try.underlying23 rfl (by rfl) ?_))
  refine (KV w6 (S6.out.fact 0 rfl)).out.mono ?_
  rintro e w7 ⟨rfl, hB⟩
  have S7 := Lib.hid (S6.out.on hB)
  clear hB S6
  clear KV
  have iw := Iw.out
  go_wp2_with (first
    | (refine wpList_store_st rfl 23 _ _ rfl S7.out _ #[.int .i64 vm, .string vk, .string vl] _ rfl rfl (by rfl) rfl (fil_one13 _ _ _) ?_; intro pv w8 hp hS hBn; (try rw [← hp]); have S8 := Lib.hid hS; clear hS hp hBn)
    | (refine wpList_load_st rfl 23 _ rfl S8.out 0 _ _ rfl rfl _ Try.underlying23 rfl (by rfl) ?_))
  refine (KB w8 (S8.out.fact 0 rfl) ((S8.out.fact 2 rfl).1.more (S8.out.fact 2 rfl).2)).out.mono ?_
  rintro e w9 ⟨rfl, hB⟩
  have S9 := Lib.hid (S8.out.on hB)
  clear hB S8
  clear KB iw Iw
  go_wp2_with (refine wpList_store_st rfl 23 _ _ rfl S9.out _ #[.int .i64 ym, .string yk, .string yl] _ rfl rfl (by rfl) rfl (fil_one13 _ _ _) ?_; intro py w10 hp hS hBn; (try rw [← hp]); have S10 := Lib.hid hS; clear hS hp hBn)
  refine (Lib.hid (HC.out w10 (S10.out.fact 0 rfl))).out.mono ?_
  rintro e w11 ⟨rfl, hB⟩
  have S11 := Lib.hid (S10.out.on hB)
  clear hB S10
  go_wp2
  go_ret
  exact ⟨rfl, S11.out.below⟩

set_option maxHeartbeats 4000000 in
theorem recordCrash_full {E : World → Prop} (HS : Hid (RecK E)) (HC : Hid (RecordedK E)) (most n : Int) (A1 : Option Addr) (N1 cap1 : Nat) (l : List ByteArray) (A2 : Option Addr) (N2 cap2 : Nat) (r : List ByteArray) (left : Int) (s : ByteArray) (w : World) (hE : E w) (hA1 : StrsAt w w.heap.size A1 l) (hA2 : StrsAt w w.heap.size A2 r) (j1 : (n < 0) = False) (j2 : ((900000000 : Int) < n) = False) (j3 : ((200 : Int) < (s.size : Int)) = False) (xm vm ym : Int) (xk xl vk vl yk yl : ByteArray) (n2 : Int) (Iw : Hid (wrap64 (n + (N1 : Int)) = n2)) (hN1 : N1 = l.length) (hN2 : N2 = r.length) (hl1 : N1 ≤ 30) (hl2 : N2 ≤ 30) (hnil1 : A1 = none → cap1 = 0) (hnil2 : A2 = none → cap2 = 0) (zs tk : List ByteArray) (hzs : l ++ r = zs) (L J : Nat) (hL : L = zs.length) (hJL : J ≤ L) (htk : zs.take J = tk) (jJ1 : ((J : Int) < (N1 : Int)) = False) (jJ2 : ((L : Int) < (J : Int)) = False) (dm gm zm n3 : Int) (dk dl gk gl zk zl : ByteArray) (Iw3 : Hid (wrap64 (n + (J : Int)) = n3))
    (KN : ∀ (W : World) (_h : E W), Hid (Calls Try.prog 22 #[.int .i64 most] W fun e w' => e = .returned (.tuple #[.agg #[.int .i64 most, .string ⟨#[]⟩, .string ⟨#[]⟩], .int .i64 0]) ∧ Below W.heap.size W w'))
    (pf1 : ∀ (W : World) (_hA : StrsAt W W.heap.size A1 l), Hid (Calls Try.prog 8 #[.agg #[.int .i64 most, .string ⟨#[]⟩, .string ⟨#[]⟩], .slice A1 N1 cap1] W fun e w' => e = .returned (.bool false) ∧ Below W.heap.size W w'))
    (pf2 : ∀ (W : World) (_hA : StrsAt W W.heap.size A2 r), Hid (Calls Try.prog 8 #[.agg #[.int .i64 most, .string ⟨#[]⟩, .string ⟨#[]⟩], .slice A2 N2 cap2] W fun e w' => e = .returned (.bool false) ∧ Below W.heap.size W w'))
    (KA : ∀ (W : World) (_h : E W) (_hA : StrsAt W W.heap.size A1 l), Hid (Calls Try.prog 14 #[.agg #[.int .i64 most, .string ⟨#[]⟩, .string ⟨#[]⟩], .int .i64 n, .slice A1 N1 cap1] W fun e w' => e = .returned (.tuple #[.agg #[.int .i64 xm, .string xk, .string xl], .int .i64 0]) ∧ Below W.heap.size W w'))
    (KV : ∀ (W : World) (_h : E W), Hid (Calls Try.prog 24 #[.agg #[.int .i64 xm, .string xk, .string xl]] W fun e w' => e = .returned (.tuple #[.agg #[.int .i64 vm, .string vk, .string vl], .int .i64 0]) ∧ Below W.heap.size W w'))
    (KB : ∀ (W : World) (_h : E W) (_hA : StrsAt W W.heap.size A2 r), Hid (Calls Try.prog 14 #[.agg #[.int .i64 vm, .string vk, .string vl], .int .i64 n2, .slice A2 N2 cap2] W fun e w' => e = .returned (.tuple #[.agg #[.int .i64 ym, .string yk, .string yl], .int .i64 0]) ∧ Below W.heap.size W w'))
    (KD : ∀ (W : World) (_h : E W), Hid (Calls Try.prog 25 #[.agg #[.int .i64 ym, .string yk, .string yl], .int .i64 left] W fun e w' => e = .returned (.tuple #[.agg #[.int .i64 dm, .string dk, .string dl], .int .i64 0]) ∧ Below W.heap.size W w'))
    (KM : ∀ (W : World) (_h : E W), Hid (Calls Try.prog 18 #[.agg #[.int .i64 dm, .string dk, .string dl], .int .i64 n] W fun e w' => e = .returned (.tuple #[.agg #[.int .i64 gm, .string gk, .string gl], .int .i64 (J : Int), .int .i64 0]) ∧ Below W.heap.size W w'))
    (KR : ∀ (W : World) (_h : E W), Hid (Calls Try.prog 16 #[.agg #[.int .i64 gm, .string gk, .string gl], .int .i64 n] W fun e w' => ∃ A c, e = .returned (.tuple #[.slice A J c, .int .i64 0]) ∧ StrsAt w' w'.heap.size A tk ∧ J ≤ c ∧ Below W.heap.size W w'))
    (KT : ∀ (W : World) (A B : Option Addr) (c d : Nat) (_hA : StrsAt W W.heap.size A tk) (_hB : StrsAt W W.heap.size B tk), Hid (Calls Try.prog 21 #[.slice A J c, .slice B J d] W fun e w' => e = .returned (.bool true) ∧ Below W.heap.size W w'))
    (KZ : ∀ (W : World) (A : Addr) (_h : E W) (_hA : StrsAt W W.heap.size (some A) [s]), Hid (Calls Try.prog 14 #[.agg #[.int .i64 gm, .string gk, .string gl], .int .i64 n3, .slice (some A) 1 1] W fun e w' => e = .returned (.tuple #[.agg #[.int .i64 zm, .string zk, .string zl], .int .i64 81]) ∧ Below W.heap.size W w')) :
    Calls Try.prog 5 #[.int .i64 most, .int .i64 n, .slice A1 N1 cap1, .slice A2 N2 cap2, .int .i64 left, .string s] w fun e w' => e = .returned (.bool true) ∧ Below w.heap.size w w' := by
  have HN1 := Lib.hid hN1
  have HN2 := Lib.hid hN2
  have Hl : Hid (l.length ≤ 30 ∧ r.length ≤ 30) := Lib.hid ⟨by omega, by omega⟩
  have Hzs := Lib.hid hzs
  have HL := Lib.hid hL
  have Hn1 := Lib.hid hnil1
  have Hn2 := Lib.hid hnil2
  have HJL := Lib.hid hJL
  have Htk := Lib.hid htk
  have HJ1 := Lib.hid jJ1
  have HJ2 := Lib.hid jJ2
  have HJ60 : Hid (J ≤ 60) := Lib.hid (by rw [← hzs, List.length_append] at hL; omega)
  clear hN1 hN2 hl1 hl2 hzs hL hnil1 hnil2 hJL htk jJ1 jJ2
  have S0 := Lib.hid ((((St.start w).more (strsF13 A2 w.heap.size r) ⟨hA2, Nat.le_refl _⟩).more (strsF13 A1 w.heap.size l) ⟨hA1, Nat.le_refl _⟩).more (eRc HS) hE)
  clear hE hA1 hA2
  go_enter Try.func5, Try.ntmps5
  go_wp2_with fail
  refine (KN w (S0.out.fact 0 rfl)).out.mono ?_
  rintro e w1 ⟨rfl, hB⟩
  have S1 := Lib.hid (S0.out.on hB)
  clear hB S0
  go_wp2_with (first
    | (refine wpList_store_st rfl 23 _ _ rfl S1.out _ #[.int .i64 most, .string ⟨#[]⟩, .string ⟨#[]⟩] _ rfl rfl (by rfl) rfl (fil_one13 _ _ _) ?_; intro pf0 w2 hp hS hBn; (try rw [← hp]); have S2 := Lib.hid hS; clear hS hp hBn)
    | (refine wpList_loadg_st (by rfl) 23 _ rfl S2.out 0 _ _ rfl rfl _ Try.underlying23 rfl (by rfl) ?_))
  refine (pf1 w2 ((S2.out.fact 1 rfl).1.more (S2.out.fact 1 rfl).2)).out.mono ?_
  rintro e w3 ⟨rfl, hB⟩
  have S3 := Lib.hid (S2.out.on hB)
  clear hB S2
  go_wp2_with (refine wpList_loadg_st (by rfl) 23 _ rfl S3.out 0 _ _ rfl rfl _ Try.underlying23 rfl (by rfl) ?_)
  refine (pf2 w3 ((S3.out.fact 2 rfl).1.more (S3.out.fact 2 rfl).2)).out.mono ?_
  rintro e w4 ⟨rfl, hB⟩
  have S4 := Lib.hid (S3.out.on hB)
  clear hB S3
  go_wp2_with (refine wpList_load_st rfl 23 _ rfl S4.out 0 _ _ rfl rfl _ Try.underlying23 rfl (by rfl) ?_)
  refine (KA w4 (S4.out.fact 0 rfl) ((S4.out.fact 1 rfl).1.more (S4.out.fact 1 rfl).2)).out.mono ?_
  rintro e w5 ⟨rfl, hB⟩
  have S5 := Lib.hid (S4.out.on hB)
  clear hB S4
  clear KA pf1 pf2 KN j1 j2 j3
  go_wp2_with (first
    | (refine wpList_store_st rfl 23 _ _ rfl S5.out _ #[.int .i64 xm, .string xk, .string xl] _ rfl rfl (by rfl) rfl (fil_one13 _ _ _) ?_; intro px w6 hp hS hBn; (try rw [← hp]); have S6 := Lib.hid hS; clear hS hp hBn)
    | (refine wpList_load_st rfl 23 _ rfl S6.out 0 _ _ rfl rfl _ Try.underlying23 rfl (by rfl) ?_))
  refine (KV w6 (S6.out.fact 0 rfl)).out.mono ?_
  rintro e w7 ⟨rfl, hB⟩
  have S7 := Lib.hid (S6.out.on hB)
  clear hB S6
  clear KV
  have iw := Iw.out
  go_wp2_with (first
    | (refine wpList_store_st rfl 23 _ _ rfl S7.out _ #[.int .i64 vm, .string vk, .string vl] _ rfl rfl (by rfl) rfl (fil_one13 _ _ _) ?_; intro pv w8 hp hS hBn; (try rw [← hp]); have S8 := Lib.hid hS; clear hS hp hBn)
    | (refine wpList_load_st rfl 23 _ rfl S8.out 0 _ _ rfl rfl _ Try.underlying23 rfl (by rfl) ?_))
  refine (KB w8 (S8.out.fact 0 rfl) ((S8.out.fact 2 rfl).1.more (S8.out.fact 2 rfl).2)).out.mono ?_
  rintro e w9 ⟨rfl, hB⟩
  have S9 := Lib.hid (S8.out.on hB)
  clear hB S8
  clear KB iw Iw
  go_wp2_with (first
    | (refine wpList_store_st rfl 23 _ _ rfl S9.out _ #[.int .i64 ym, .string yk, .string yl] _ rfl rfl (by rfl) rfl (fil_one13 _ _ _) ?_; intro py w10 hp hS hBn; (try rw [← hp]); have S10 := Lib.hid hS; clear hS hp hBn)
    | (refine wpList_load_st rfl 23 _ rfl S10.out 0 _ _ rfl rfl _ Try.underlying23 rfl (by rfl) ?_))
  refine (KD w10 (S10.out.fact 0 rfl)).out.mono ?_
  rintro e w11 ⟨rfl, hB⟩
  have S11 := Lib.hid (S10.out.on hB)
  clear hB S10
  clear KD
  go_wp2_with (first
    | (refine wpList_store_st rfl 23 _ _ rfl S11.out _ #[.int .i64 dm, .string dk, .string dl] _ rfl rfl (by rfl) rfl (fil_one13 _ _ _) ?_; intro pd w12 hp hS hBn; (try rw [← hp]); have S12 := Lib.hid hS; clear hS hp hBn)
    | (refine wpList_load_st rfl 23 _ rfl S12.out 0 _ _ rfl rfl _ Try.underlying23 rfl (by rfl) ?_))
  refine (KM w12 (S12.out.fact 0 rfl)).out.mono ?_
  rintro e w13 ⟨rfl, hB⟩
  have S13 := Lib.hid (S12.out.on hB)
  clear hB S12
  clear KM
  go_wp2_with (first
    | (refine wpList_store_st rfl 23 _ _ rfl S13.out _ #[.int .i64 gm, .string gk, .string gl] _ rfl rfl (by rfl) rfl (fil_one13 _ _ _) ?_; intro pg w14 hp hS hBn; (try rw [← hp]); have S14 := Lib.hid hS; clear hS hp hBn)
    | (refine wpList_load_st rfl 23 _ rfl S14.out 0 _ _ rfl rfl _ Try.underlying23 rfl (by rfl) ?_))
  refine (KR w14 (S14.out.fact 0 rfl)).out.mono ?_
  rintro e w15 ⟨A3, c3, rfl, hT, _, hB⟩
  have S15 := Lib.hid ((S14.out.on hB).more (strsF13 A3 w15.heap.size tk) ⟨hT, Nat.le_refl _⟩)
  clear hB hT S14
  obtain ⟨B3, hBe⟩ : ∃ b, b = w15.heap.size := ⟨_, rfl⟩
  rw [← hBe] at S15
  clear hBe
  clear KR
  go_upto_region 15 with (first
    | (refine wpList_append_strs rfl _ _ rfl w15 _ [] l l (List.nil_append l) rfl (OwnTs.nil w15) A1 N1 cap1 HN1.out rfl ((S15.out.fact 2 rfl).1.more (S15.out.fact 2 rfl).2) Hn1.out (by have := Hl.out; simp; omega) ?_; intro v1 u1 hO1; have HO1 := Lib.hid hO1; clear hO1)
    | (refine wpList_append_strs rfl _ _ rfl w15 _ l r zs Hzs.out rfl HO1.out A2 N2 cap2 HN2.out rfl (((S15.out.on HO1.out.2).fact 3 rfl).1.more ((S15.out.on HO1.out.2).fact 3 rfl).2) Hn2.out (by have := Hl.out; omega) ?_
       intro v2 u2 hO2
       have hnil4 := hO2.none13 HL.out
       obtain ⟨A4, c4, hv, hc4, hT, hB4⟩ := hO2.slice HL.out
       have Hnil4 : Hid (A4 = none → L = 0 ∧ c4 = 0) := Lib.hid (fun h => hnil4 c4 (by rw [hv, h]))
       subst hv
       have S16 := Lib.hid ((S15.out.on hB4).more (strsF13 A4 u2.heap.size zs) ⟨hT, Nat.le_refl _⟩)
       have Hc4 := Lib.hid hc4
       clear hT hB4 hO2 hc4 HO1 S15 hnil4
       obtain ⟨B4, hBe4⟩ : ∃ b, b = u2.heap.size := ⟨_, rfl⟩
       rw [← hBe4] at S16
       clear hBe4))
  have j1 := HJ1.out
  have j2 := HJ2.out
  have hJ4 : J ≤ c4 := Nat.le_trans HJL.out Hc4.out
  have hsl := fun W => run_slice_strs W A4 L c4 J hJ4 (fun h => (Hnil4.out h).2)
  have Hjc := Lib.hid hJ4
  clear hJ4
  go_wp2_with fail
  refine (KT u2 A3 A4 c3 c4 ((S16.out.fact 1 rfl).1.more (S16.out.fact 1 rfl).2) (by have h := ((S16.out.fact 0 rfl).1.more (S16.out.fact 0 rfl).2); rw [← Htk.out]; exact h.take13 J)).out.mono ?_
  rintro e w16 ⟨rfl, hB⟩
  have S17 := Lib.hid (S16.out.on hB)
  clear hB S16 hsl j1 j2
  have iw3 := Iw3.out
  go_wp2_with (refine wpList_load_st rfl 23 _ rfl S17.out 0 _ _ rfl rfl _ Try.underlying23 rfl (by rfl) ?_)
  have hs18 := StrsAt.new w16 [s] 9
  have S18 := Lib.hid (S17.out.on (below_new w16 (.cells #[.string s] 9)))
  clear S17
  refine (KZ _ _ (S18.out.fact 2 rfl) (by simpa using hs18)).out.mono ?_
  rintro e w17 ⟨rfl, hB⟩
  have S19 := Lib.hid (S18.out.on hB)
  clear hB S18
  clear hs18 KZ iw3 Iw3
  go_wp2_with (refine wpList_store_st rfl 23 _ _ rfl S19.out _ #[.int .i64 zm, .string zk, .string zl] _ rfl rfl (by rfl) rfl (fil_one13 _ _ _) ?_; intro pz w18 hp hS hBn; (try rw [← hp]); have S20 := Lib.hid hS; clear hS hp hBn)
  refine (Lib.hid (HC.out w18 (S20.out.fact 2 rfl))).out.mono ?_
  rintro e w19 ⟨rfl, hB⟩
  have S21 := Lib.hid (S20.out.on hB)
  clear hB S20
  go_wp2
  go_ret
  exact ⟨rfl, S21.out.below⟩

set_option maxHeartbeats 4000000 in
theorem recordCrash_ok {E : World → Prop} (HS : Hid (RecK E)) (HC : Hid (RecordedK E)) (most n : Int) (A1 : Option Addr) (N1 cap1 : Nat) (l : List ByteArray) (A2 : Option Addr) (N2 cap2 : Nat) (r : List ByteArray) (left : Int) (s : ByteArray) (w : World) (hE : E w) (hA1 : StrsAt w w.heap.size A1 l) (hA2 : StrsAt w w.heap.size A2 r) (j1 : (n < 0) = False) (j2 : ((900000000 : Int) < n) = False) (j3 : ((200 : Int) < (s.size : Int)) = False) (xm vm ym : Int) (xk xl vk vl yk yl : ByteArray) (n2 : Int) (Iw : Hid (wrap64 (n + (N1 : Int)) = n2)) (hN1 : N1 = l.length) (hN2 : N2 = r.length) (hl1 : N1 ≤ 30) (hl2 : N2 ≤ 30) (hnil1 : A1 = none → cap1 = 0) (hnil2 : A2 = none → cap2 = 0) (zs tk : List ByteArray) (hzs : l ++ r = zs) (L J : Nat) (hL : L = zs.length) (hJL : J ≤ L) (htk : zs.take J = tk) (jJ1 : ((J : Int) < (N1 : Int)) = False) (jJ2 : ((L : Int) < (J : Int)) = False) (dm gm zm n3 : Int) (dk dl gk gl zk zl : ByteArray) (Iw3 : Hid (wrap64 (n + (J : Int)) = n3))
    (KN : ∀ (W : World) (_h : E W), Hid (Calls Try.prog 22 #[.int .i64 most] W fun e w' => e = .returned (.tuple #[.agg #[.int .i64 most, .string ⟨#[]⟩, .string ⟨#[]⟩], .int .i64 0]) ∧ Below W.heap.size W w'))
    (pf1 : ∀ (W : World) (_hA : StrsAt W W.heap.size A1 l), Hid (Calls Try.prog 8 #[.agg #[.int .i64 most, .string ⟨#[]⟩, .string ⟨#[]⟩], .slice A1 N1 cap1] W fun e w' => e = .returned (.bool false) ∧ Below W.heap.size W w'))
    (pf2 : ∀ (W : World) (_hA : StrsAt W W.heap.size A2 r), Hid (Calls Try.prog 8 #[.agg #[.int .i64 most, .string ⟨#[]⟩, .string ⟨#[]⟩], .slice A2 N2 cap2] W fun e w' => e = .returned (.bool false) ∧ Below W.heap.size W w'))
    (KA : ∀ (W : World) (_h : E W) (_hA : StrsAt W W.heap.size A1 l), Hid (Calls Try.prog 14 #[.agg #[.int .i64 most, .string ⟨#[]⟩, .string ⟨#[]⟩], .int .i64 n, .slice A1 N1 cap1] W fun e w' => e = .returned (.tuple #[.agg #[.int .i64 xm, .string xk, .string xl], .int .i64 0]) ∧ Below W.heap.size W w'))
    (KV : ∀ (W : World) (_h : E W), Hid (Calls Try.prog 24 #[.agg #[.int .i64 xm, .string xk, .string xl]] W fun e w' => e = .returned (.tuple #[.agg #[.int .i64 vm, .string vk, .string vl], .int .i64 0]) ∧ Below W.heap.size W w'))
    (KB : ∀ (W : World) (_h : E W) (_hA : StrsAt W W.heap.size A2 r), Hid (Calls Try.prog 14 #[.agg #[.int .i64 vm, .string vk, .string vl], .int .i64 n2, .slice A2 N2 cap2] W fun e w' => e = .returned (.tuple #[.agg #[.int .i64 ym, .string yk, .string yl], .int .i64 0]) ∧ Below W.heap.size W w'))
    (KD : ∀ (W : World) (_h : E W), Hid (Calls Try.prog 25 #[.agg #[.int .i64 ym, .string yk, .string yl], .int .i64 left] W fun e w' => e = .returned (.tuple #[.agg #[.int .i64 dm, .string dk, .string dl], .int .i64 0]) ∧ Below W.heap.size W w'))
    (KM : ∀ (W : World) (_h : E W), Hid (Calls Try.prog 18 #[.agg #[.int .i64 dm, .string dk, .string dl], .int .i64 n] W fun e w' => e = .returned (.tuple #[.agg #[.int .i64 gm, .string gk, .string gl], .int .i64 (J : Int), .int .i64 0]) ∧ Below W.heap.size W w'))
    (KR : ∀ (W : World) (_h : E W), Hid (Calls Try.prog 16 #[.agg #[.int .i64 gm, .string gk, .string gl], .int .i64 n] W fun e w' => ∃ A c, e = .returned (.tuple #[.slice A J c, .int .i64 0]) ∧ StrsAt w' w'.heap.size A tk ∧ J ≤ c ∧ Below W.heap.size W w'))
    (KT : ∀ (W : World) (A B : Option Addr) (c d : Nat) (_hA : StrsAt W W.heap.size A tk) (_hB : StrsAt W W.heap.size B tk), Hid (Calls Try.prog 21 #[.slice A J c, .slice B J d] W fun e w' => e = .returned (.bool true) ∧ Below W.heap.size W w'))
    (KZ : ∀ (W : World) (A : Addr) (_h : E W) (_hA : StrsAt W W.heap.size (some A) [s]), Hid (Calls Try.prog 14 #[.agg #[.int .i64 gm, .string gk, .string gl], .int .i64 n3, .slice (some A) 1 1] W fun e w' => e = .returned (.tuple #[.agg #[.int .i64 zm, .string zk, .string zl], .int .i64 0]) ∧ Below W.heap.size W w'))
    (KU : ∀ (W : World) (_h : E W), Hid (Calls Try.prog 16 #[.agg #[.int .i64 zm, .string zk, .string zl], .int .i64 n] W fun e w' => ∃ A c, e = .returned (.tuple #[.slice A (J + 1) c, .int .i64 0]) ∧ StrsAt w' w'.heap.size A (tk ++ [s]) ∧ (J + 1) ≤ c ∧ Below W.heap.size W w')) :
    Calls Try.prog 5 #[.int .i64 most, .int .i64 n, .slice A1 N1 cap1, .slice A2 N2 cap2, .int .i64 left, .string s] w fun e w' => e = .returned (.bool true) ∧ Below w.heap.size w w' := by
  have HN1 := Lib.hid hN1
  have HN2 := Lib.hid hN2
  have Hl : Hid (l.length ≤ 30 ∧ r.length ≤ 30) := Lib.hid ⟨by omega, by omega⟩
  have Hzs := Lib.hid hzs
  have HL := Lib.hid hL
  have Hn1 := Lib.hid hnil1
  have Hn2 := Lib.hid hnil2
  have HJL := Lib.hid hJL
  have Htk := Lib.hid htk
  have HJ1 := Lib.hid jJ1
  have HJ2 := Lib.hid jJ2
  have HJ60 : Hid (J ≤ 60) := Lib.hid (by rw [← hzs, List.length_append] at hL; omega)
  clear hN1 hN2 hl1 hl2 hzs hL hnil1 hnil2 hJL htk jJ1 jJ2
  have S0 := Lib.hid ((((St.start w).more (strsF13 A2 w.heap.size r) ⟨hA2, Nat.le_refl _⟩).more (strsF13 A1 w.heap.size l) ⟨hA1, Nat.le_refl _⟩).more (eRc HS) hE)
  clear hE hA1 hA2
  go_enter Try.func5, Try.ntmps5
  go_wp2_with fail
  refine (KN w (S0.out.fact 0 rfl)).out.mono ?_
  rintro e w1 ⟨rfl, hB⟩
  have S1 := Lib.hid (S0.out.on hB)
  clear hB S0
  go_wp2_with (first
    | (refine wpList_store_st rfl 23 _ _ rfl S1.out _ #[.int .i64 most, .string ⟨#[]⟩, .string ⟨#[]⟩] _ rfl rfl (by rfl) rfl (fil_one13 _ _ _) ?_; intro pf0 w2 hp hS hBn; (try rw [← hp]); have S2 := Lib.hid hS; clear hS hp hBn)
    | (refine wpList_loadg_st (by rfl) 23 _ rfl S2.out 0 _ _ rfl rfl _ Try.underlying23 rfl (by rfl) ?_))
  refine (pf1 w2 ((S2.out.fact 1 rfl).1.more (S2.out.fact 1 rfl).2)).out.mono ?_
  rintro e w3 ⟨rfl, hB⟩
  have S3 := Lib.hid (S2.out.on hB)
  clear hB S2
  go_wp2_with (refine wpList_loadg_st (by rfl) 23 _ rfl S3.out 0 _ _ rfl rfl _ Try.underlying23 rfl (by rfl) ?_)
  refine (pf2 w3 ((S3.out.fact 2 rfl).1.more (S3.out.fact 2 rfl).2)).out.mono ?_
  rintro e w4 ⟨rfl, hB⟩
  have S4 := Lib.hid (S3.out.on hB)
  clear hB S3
  go_wp2_with (refine wpList_load_st rfl 23 _ rfl S4.out 0 _ _ rfl rfl _ Try.underlying23 rfl (by rfl) ?_)
  refine (KA w4 (S4.out.fact 0 rfl) ((S4.out.fact 1 rfl).1.more (S4.out.fact 1 rfl).2)).out.mono ?_
  rintro e w5 ⟨rfl, hB⟩
  have S5 := Lib.hid (S4.out.on hB)
  clear hB S4
  clear KA pf1 pf2 KN j1 j2 j3
  go_wp2_with (first
    | (refine wpList_store_st rfl 23 _ _ rfl S5.out _ #[.int .i64 xm, .string xk, .string xl] _ rfl rfl (by rfl) rfl (fil_one13 _ _ _) ?_; intro px w6 hp hS hBn; (try rw [← hp]); have S6 := Lib.hid hS; clear hS hp hBn)
    | (refine wpList_load_st rfl 23 _ rfl S6.out 0 _ _ rfl rfl _ Try.underlying23 rfl (by rfl) ?_))
  refine (KV w6 (S6.out.fact 0 rfl)).out.mono ?_
  rintro e w7 ⟨rfl, hB⟩
  have S7 := Lib.hid (S6.out.on hB)
  clear hB S6
  clear KV
  have iw := Iw.out
  go_wp2_with (first
    | (refine wpList_store_st rfl 23 _ _ rfl S7.out _ #[.int .i64 vm, .string vk, .string vl] _ rfl rfl (by rfl) rfl (fil_one13 _ _ _) ?_; intro pv w8 hp hS hBn; (try rw [← hp]); have S8 := Lib.hid hS; clear hS hp hBn)
    | (refine wpList_load_st rfl 23 _ rfl S8.out 0 _ _ rfl rfl _ Try.underlying23 rfl (by rfl) ?_))
  refine (KB w8 (S8.out.fact 0 rfl) ((S8.out.fact 2 rfl).1.more (S8.out.fact 2 rfl).2)).out.mono ?_
  rintro e w9 ⟨rfl, hB⟩
  have S9 := Lib.hid (S8.out.on hB)
  clear hB S8
  clear KB iw Iw
  go_wp2_with (first
    | (refine wpList_store_st rfl 23 _ _ rfl S9.out _ #[.int .i64 ym, .string yk, .string yl] _ rfl rfl (by rfl) rfl (fil_one13 _ _ _) ?_; intro py w10 hp hS hBn; (try rw [← hp]); have S10 := Lib.hid hS; clear hS hp hBn)
    | (refine wpList_load_st rfl 23 _ rfl S10.out 0 _ _ rfl rfl _ Try.underlying23 rfl (by rfl) ?_))
  refine (KD w10 (S10.out.fact 0 rfl)).out.mono ?_
  rintro e w11 ⟨rfl, hB⟩
  have S11 := Lib.hid (S10.out.on hB)
  clear hB S10
  clear KD
  go_wp2_with (first
    | (refine wpList_store_st rfl 23 _ _ rfl S11.out _ #[.int .i64 dm, .string dk, .string dl] _ rfl rfl (by rfl) rfl (fil_one13 _ _ _) ?_; intro pd w12 hp hS hBn; (try rw [← hp]); have S12 := Lib.hid hS; clear hS hp hBn)
    | (refine wpList_load_st rfl 23 _ rfl S12.out 0 _ _ rfl rfl _ Try.underlying23 rfl (by rfl) ?_))
  refine (KM w12 (S12.out.fact 0 rfl)).out.mono ?_
  rintro e w13 ⟨rfl, hB⟩
  have S13 := Lib.hid (S12.out.on hB)
  clear hB S12
  clear KM
  go_wp2_with (first
    | (refine wpList_store_st rfl 23 _ _ rfl S13.out _ #[.int .i64 gm, .string gk, .string gl] _ rfl rfl (by rfl) rfl (fil_one13 _ _ _) ?_; intro pg w14 hp hS hBn; (try rw [← hp]); have S14 := Lib.hid hS; clear hS hp hBn)
    | (refine wpList_load_st rfl 23 _ rfl S14.out 0 _ _ rfl rfl _ Try.underlying23 rfl (by rfl) ?_))
  refine (KR w14 (S14.out.fact 0 rfl)).out.mono ?_
  rintro e w15 ⟨A3, c3, rfl, hT, _, hB⟩
  have S15 := Lib.hid ((S14.out.on hB).more (strsF13 A3 w15.heap.size tk) ⟨hT, Nat.le_refl _⟩)
  clear hB hT S14
  obtain ⟨B3, hBe⟩ : ∃ b, b = w15.heap.size := ⟨_, rfl⟩
  rw [← hBe] at S15
  clear hBe
  clear KR
  go_upto_region 15 with (first
    | (refine wpList_append_strs rfl _ _ rfl w15 _ [] l l (List.nil_append l) rfl (OwnTs.nil w15) A1 N1 cap1 HN1.out rfl ((S15.out.fact 2 rfl).1.more (S15.out.fact 2 rfl).2) Hn1.out (by have := Hl.out; simp; omega) ?_; intro v1 u1 hO1; have HO1 := Lib.hid hO1; clear hO1)
    | (refine wpList_append_strs rfl _ _ rfl w15 _ l r zs Hzs.out rfl HO1.out A2 N2 cap2 HN2.out rfl (((S15.out.on HO1.out.2).fact 3 rfl).1.more ((S15.out.on HO1.out.2).fact 3 rfl).2) Hn2.out (by have := Hl.out; omega) ?_
       intro v2 u2 hO2
       have hnil4 := hO2.none13 HL.out
       obtain ⟨A4, c4, hv, hc4, hT, hB4⟩ := hO2.slice HL.out
       have Hnil4 : Hid (A4 = none → L = 0 ∧ c4 = 0) := Lib.hid (fun h => hnil4 c4 (by rw [hv, h]))
       subst hv
       have S16 := Lib.hid ((S15.out.on hB4).more (strsF13 A4 u2.heap.size zs) ⟨hT, Nat.le_refl _⟩)
       have Hc4 := Lib.hid hc4
       clear hT hB4 hO2 hc4 HO1 S15 hnil4
       obtain ⟨B4, hBe4⟩ : ∃ b, b = u2.heap.size := ⟨_, rfl⟩
       rw [← hBe4] at S16
       clear hBe4))
  have j1 := HJ1.out
  have j2 := HJ2.out
  have hJ4 : J ≤ c4 := Nat.le_trans HJL.out Hc4.out
  have hsl := fun W => run_slice_strs W A4 L c4 J hJ4 (fun h => (Hnil4.out h).2)
  have Hjc := Lib.hid hJ4
  clear hJ4
  go_wp2_with fail
  refine (KT u2 A3 A4 c3 c4 ((S16.out.fact 1 rfl).1.more (S16.out.fact 1 rfl).2) (by have h := ((S16.out.fact 0 rfl).1.more (S16.out.fact 0 rfl).2); rw [← Htk.out]; exact h.take13 J)).out.mono ?_
  rintro e w16 ⟨rfl, hB⟩
  have S17 := Lib.hid (S16.out.on hB)
  clear hB S16 hsl j1 j2
  have iw3 := Iw3.out
  go_wp2_with (refine wpList_load_st rfl 23 _ rfl S17.out 0 _ _ rfl rfl _ Try.underlying23 rfl (by rfl) ?_)
  have hs18 := StrsAt.new w16 [s] 9
  have S18 := Lib.hid (S17.out.on (below_new w16 (.cells #[.string s] 9)))
  clear S17
  refine (KZ _ _ (S18.out.fact 2 rfl) (by simpa using hs18)).out.mono ?_
  rintro e w17 ⟨rfl, hB⟩
  have S19 := Lib.hid (S18.out.on hB)
  clear hB S18
  clear hs18 KZ iw3 Iw3
  go_wp2_with (first
    | (refine wpList_store_st rfl 23 _ _ rfl S19.out _ #[.int .i64 zm, .string zk, .string zl] _ rfl rfl (by rfl) rfl (fil_one13 _ _ _) ?_; intro pz w18 hp hS hBn; (try rw [← hp]); have S20 := Lib.hid hS; clear hS hp hBn)
    | (refine wpList_load_st rfl 23 _ rfl S20.out 0 _ _ rfl rfl _ Try.underlying23 rfl (by rfl) ?_))
  refine (KU w18 (S20.out.fact 2 rfl)).out.mono ?_
  rintro e w19 ⟨A5, c5, rfl, hT, hc5, hB⟩
  have S21 := Lib.hid ((S20.out.on hB).more (strsF13 A5 w19.heap.size (tk ++ [s])) ⟨hT, Nat.le_refl _⟩)
  clear hB hT S20
  obtain ⟨B5, hBe⟩ : ∃ b, b = w19.heap.size := ⟨_, rfl⟩
  rw [← hBe] at S21
  clear hBe
  have hjtk : tk.length = J := by rw [← Htk.out, List.length_take, ← HL.out]; have := HJL.out; omega
  obtain ⟨b5, off5, rfl, _, hcs⟩ := (S21.out.fact 0 rfl).1 J (by simp; omega)
  have hcs2 : (tk ++ [s])[J]'(by simp; omega) = s := by simp [← hjtk]
  rw [hcs2] at hcs
  have Hcs := Lib.hid hcs
  have Hjtk := Lib.hid hjtk
  have hJ5 : J ≤ c5 := by omega
  have HJ5 := Lib.hid hJ5
  clear hcs hjtk hcs2 hJ5 hc5
  go_wp2_with fail
  refine (HC.out w19 (S21.out.fact 3 rfl)).mono ?_
  rintro e w20 ⟨rfl, hB⟩
  have S22 := Lib.hid (S21.out.on hB)
  have hcx : w20.cell? ⟨b5, off5 + J, none⟩ = some (.string s) := (hB.cell (p := ⟨b5, off5 + J, none⟩) (World.block_lt_of_cell? _ _ Hcs.out)).trans Hcs.out
  clear hB S21
  have iwj : wrap64 ((J : Int) + 1) = (J : Int) + 1 := by have := HJ60.out; unfold wrap64; omega
  have hsl := fun W => run_slice_strs W (some ⟨b5, off5, none⟩) (J + 1) c5 J HJ5.out (fun h => by cases h)
  go_wp2_with fail
  refine (KT w20 (some ⟨b5, off5, none⟩) A3 c5 c3 (by have h := ((S22.out.fact 0 rfl).1.more (S22.out.fact 0 rfl).2); have h2 := h.take13 J; rw [List.take_left' Hjtk.out] at h2; exact h2) ((S22.out.fact 2 rfl).1.more (S22.out.fact 2 rfl).2)).out.mono ?_
  rintro e w21 ⟨rfl, hB⟩
  have S23 := Lib.hid (S22.out.on hB)
  clear hB S22 hsl hcx
  go_wp2
  go_ret
  exact ⟨rfl, S23.out.below⟩
end Go.Proofs.Ytfapfnbehhekhaa
