/-
  Layer 13 (record): the law RecordBack, over the structures (printed by tools/gen-recback.py).
-/
import Derived.Test.YtfapfnbehhekhaaRecApp
import Derived.Test.YtfapfnbehhekhaaRecFar
import Derived.Deep.Cut
import Derived.Deep.RegionHeld3
namespace Go.Proofs.Ytfapfnbehhekhaa
set_option maxRecDepth 10000
open Go.RowKit


set_option maxHeartbeats 1000000 in
theorem recordBack_new {E : World → Prop} (HS : Hid (RecK E)) (HC : Hid (RecordedK E)) (most n : Int) (A1 : Option Addr) (N1 cap1 : Nat) (l : List ByteArray) (A2 : Option Addr) (N2 cap2 : Nat) (r : List ByteArray) (w : World) (hE : E w) (hA1 : StrsAt w w.heap.size A1 l) (hA2 : StrsAt w w.heap.size A2 r)
    (KN : ∀ (W : World) (_h : E W), Hid (Calls Try.prog 22 #[.int .i64 most] W fun e w' => e = .returned (.tuple #[.agg #[.int .i64 0, .string ⟨#[]⟩, .string ⟨#[]⟩], .int .i64 1]) ∧ Below W.heap.size W w')) :
    Calls Try.prog 4 #[.int .i64 most, .int .i64 n, .slice A1 N1 cap1, .slice A2 N2 cap2] w fun e w' => e = .returned (.bool true) ∧ Below w.heap.size w w' := by
  have S0 := Lib.hid ((((St.start w).more (strsF13 A2 w.heap.size r) ⟨hA2, Nat.le_refl _⟩).more (strsF13 A1 w.heap.size l) ⟨hA1, Nat.le_refl _⟩).more (eRc HS) hE)
  clear hE hA1 hA2
  go_enter Try.func4, Try.ntmps4
  go_wp2_with fail
  refine (KN w (S0.out.fact 0 rfl)).out.mono ?_
  rintro e w1 ⟨rfl, hB⟩
  have S1 := Lib.hid (S0.out.on hB)
  clear hB S0
  go_wp2_with (refine wpList_store_st rfl 23 _ _ rfl S1.out _ #[.int .i64 0, .string ⟨#[]⟩, .string ⟨#[]⟩] _ rfl rfl (by rfl) rfl (fil_one13 _ _ _) ?_; intro pf0 w2 hp hS hBn; (try rw [← hp]); have S2 := Lib.hid hS; clear hS hp hBn)
  refine (Lib.hid (HC.out w2 (S2.out.fact 0 rfl))).out.mono ?_
  rintro e w3 ⟨rfl, hB⟩
  have S3 := Lib.hid (S2.out.on hB)
  clear hB S2
  go_wp2
  go_ret
  exact ⟨rfl, S3.out.below⟩

set_option maxHeartbeats 1000000 in
theorem recordBack_far1 {E : World → Prop} (HS : Hid (RecK E)) (HC : Hid (RecordedK E)) (most n : Int) (A1 : Option Addr) (N1 cap1 : Nat) (l : List ByteArray) (A2 : Option Addr) (N2 cap2 : Nat) (r : List ByteArray) (w : World) (hE : E w) (hA1 : StrsAt w w.heap.size A1 l) (hA2 : StrsAt w w.heap.size A2 r)
    (KN : ∀ (W : World) (_h : E W), Hid (Calls Try.prog 22 #[.int .i64 most] W fun e w' => e = .returned (.tuple #[.agg #[.int .i64 most, .string ⟨#[]⟩, .string ⟨#[]⟩], .int .i64 0]) ∧ Below W.heap.size W w'))
    (pf1 : ∀ (W : World) (_hA : StrsAt W W.heap.size A1 l), Hid (Calls Try.prog 8 #[.agg #[.int .i64 most, .string ⟨#[]⟩, .string ⟨#[]⟩], .slice A1 N1 cap1] W fun e w' => e = .returned (.bool true) ∧ Below W.heap.size W w')) :
    Calls Try.prog 4 #[.int .i64 most, .int .i64 n, .slice A1 N1 cap1, .slice A2 N2 cap2] w fun e w' => e = .returned (.bool true) ∧ Below w.heap.size w w' := by
  have S0 := Lib.hid ((((St.start w).more (strsF13 A2 w.heap.size r) ⟨hA2, Nat.le_refl _⟩).more (strsF13 A1 w.heap.size l) ⟨hA1, Nat.le_refl _⟩).more (eRc HS) hE)
  clear hE hA1 hA2
  go_enter Try.func4, Try.ntmps4
  go_wp2_with fail
  refine (KN w (S0.out.fact 0 rfl)).out.mono ?_
  rintro e w1 ⟨rfl, hB⟩
  have S1 := Lib.hid (S0.out.on hB)
  clear hB S0
  go_wp2_with (first
    | (refine wpList_store_st rfl 23 _ _ rfl S1.out _ #[.int .i64 most, .string ⟨#[]⟩, .string ⟨#[]⟩] _ rfl rfl (by rfl) rfl (fil_one13 _ _ _) ?_; intro pf0 w2 hp hS hBn; (try rw [← hp]); have S2 := Lib.hid hS; clear hS hp hBn)
    | (refine wpList_loadg_st (by rfl) 23 _ rfl S2.out 0 _ _ rfl rfl _ Try.underlying23 rfl (by rfl) ?_))
  refine (pf1 w2 ((S2.out.fact 1 rfl).1.more (S2.out.fact 1 rfl).2)).out.mono ?_
  rintro e w3 ⟨rfl, hB⟩
  have S3 := Lib.hid (S2.out.on hB)
  clear hB S2
  go_wp2_with fail
  refine (Lib.hid (HC.out w3 (S3.out.fact 0 rfl))).out.mono ?_
  rintro e w4 ⟨rfl, hB⟩
  have S4 := Lib.hid (S3.out.on hB)
  clear hB S3
  go_wp2
  go_ret
  exact ⟨rfl, S4.out.below⟩

set_option maxHeartbeats 1000000 in
theorem recordBack_far2 {E : World → Prop} (HS : Hid (RecK E)) (HC : Hid (RecordedK E)) (most n : Int) (A1 : Option Addr) (N1 cap1 : Nat) (l : List ByteArray) (A2 : Option Addr) (N2 cap2 : Nat) (r : List ByteArray) (w : World) (hE : E w) (hA1 : StrsAt w w.heap.size A1 l) (hA2 : StrsAt w w.heap.size A2 r)
    (KN : ∀ (W : World) (_h : E W), Hid (Calls Try.prog 22 #[.int .i64 most] W fun e w' => e = .returned (.tuple #[.agg #[.int .i64 most, .string ⟨#[]⟩, .string ⟨#[]⟩], .int .i64 0]) ∧ Below W.heap.size W w'))
    (pf1 : ∀ (W : World) (_hA : StrsAt W W.heap.size A1 l), Hid (Calls Try.prog 8 #[.agg #[.int .i64 most, .string ⟨#[]⟩, .string ⟨#[]⟩], .slice A1 N1 cap1] W fun e w' => e = .returned (.bool false) ∧ Below W.heap.size W w'))
    (pf2 : ∀ (W : World) (_hA : StrsAt W W.heap.size A2 r), Hid (Calls Try.prog 8 #[.agg #[.int .i64 most, .string ⟨#[]⟩, .string ⟨#[]⟩], .slice A2 N2 cap2] W fun e w' => e = .returned (.bool true) ∧ Below W.heap.size W w')) :
    Calls Try.prog 4 #[.int .i64 most, .int .i64 n, .slice A1 N1 cap1, .slice A2 N2 cap2] w fun e w' => e = .returned (.bool true) ∧ Below w.heap.size w w' := by
  have S0 := Lib.hid ((((St.start w).more (strsF13 A2 w.heap.size r) ⟨hA2, Nat.le_refl _⟩).more (strsF13 A1 w.heap.size l) ⟨hA1, Nat.le_refl _⟩).more (eRc HS) hE)
  clear hE hA1 hA2
  go_enter Try.func4, Try.ntmps4
  go_wp2_with fail
  refine (KN w (S0.out.fact 0 rfl)).out.mono ?_
  rintro e w1 ⟨rfl, hB⟩
  have S1 := Lib.hid (S0.out.on hB)
  clear hB S0
  go_wp2_with (first
    | (refine wpList_store_st rfl 23 _ _ rfl S1.out _ #[.int .i64 most, .string ⟨#[]⟩, .string ⟨#[]⟩] _ rfl rfl (by rfl) rfl (fil_one13 _ _ _) ?_; intro pf0 w2 hp hS hBn; (try rw [← hp]); have S2 := Lib.hid hS; clear hS hp hBn)
    | (refine wpList_loadg_st (by rfl) 23 _ rfl S2.out 0 _ _ rfl rfl _ Try.underlying23 rfl (by rfl) ?_))
  refine (pf1 w2 ((S2.out.fact 1 rfl).1.more (S2.out.fact 1 rfl).2)).out.mono ?_
  rintro e w3 ⟨rfl, hB⟩
  have S3 := Lib.hid (S2.out.on hB)
  clear hB S2
  go_wp2_with (refine wpList_loadg_st (by rfl) 23 _ rfl S3.out 0 _ _ rfl rfl _ Try.underlying23 rfl (by rfl) ?_)
  refine (pf2 w3 ((S3.out.fact 2 rfl).1.more (S3.out.fact 2 rfl).2)).out.mono ?_
  rintro e w4 ⟨rfl, hB⟩
  have S4 := Lib.hid (S3.out.on hB)
  clear hB S3
  go_wp2_with fail
  refine (Lib.hid (HC.out w4 (S4.out.fact 0 rfl))).out.mono ?_
  rintro e w5 ⟨rfl, hB⟩
  have S5 := Lib.hid (S4.out.on hB)
  clear hB S4
  go_wp2
  go_ret
  exact ⟨rfl, S5.out.below⟩

set_option maxHeartbeats 1000000 in
theorem recordBack_bad1 {E : World → Prop} (HS : Hid (RecK E)) (HC : Hid (RecordedK E)) (most n : Int) (A1 : Option Addr) (N1 cap1 : Nat) (l : List ByteArray) (A2 : Option Addr) (N2 cap2 : Nat) (r : List ByteArray) (w : World) (hE : E w) (hA1 : StrsAt w w.heap.size A1 l) (hA2 : StrsAt w w.heap.size A2 r) (xm ym : Int) (xk xl yk yl : ByteArray) (n2 : Int) (Iw : Hid (wrap64 (n + (N1 : Int)) = n2)) (ge he : Int) (jg : (ge != 0) = true)
    (KN : ∀ (W : World) (_h : E W), Hid (Calls Try.prog 22 #[.int .i64 most] W fun e w' => e = .returned (.tuple #[.agg #[.int .i64 most, .string ⟨#[]⟩, .string ⟨#[]⟩], .int .i64 0]) ∧ Below W.heap.size W w'))
    (pf1 : ∀ (W : World) (_hA : StrsAt W W.heap.size A1 l), Hid (Calls Try.prog 8 #[.agg #[.int .i64 most, .string ⟨#[]⟩, .string ⟨#[]⟩], .slice A1 N1 cap1] W fun e w' => e = .returned (.bool false) ∧ Below W.heap.size W w'))
    (pf2 : ∀ (W : World) (_hA : StrsAt W W.heap.size A2 r), Hid (Calls Try.prog 8 #[.agg #[.int .i64 most, .string ⟨#[]⟩, .string ⟨#[]⟩], .slice A2 N2 cap2] W fun e w' => e = .returned (.bool false) ∧ Below W.heap.size W w'))
    (KA : ∀ (W : World) (_h : E W) (_hA : StrsAt W W.heap.size A1 l), Hid (Calls Try.prog 14 #[.agg #[.int .i64 most, .string ⟨#[]⟩, .string ⟨#[]⟩], .int .i64 n, .slice A1 N1 cap1] W fun e w' => e = .returned (.tuple #[.agg #[.int .i64 xm, .string xk, .string xl], .int .i64 ge]) ∧ Below W.heap.size W w'))
    (KB : ∀ (W : World) (_h : E W) (_hA : StrsAt W W.heap.size A2 r), Hid (Calls Try.prog 14 #[.agg #[.int .i64 xm, .string xk, .string xl], .int .i64 n2, .slice A2 N2 cap2] W fun e w' => e = .returned (.tuple #[.agg #[.int .i64 ym, .string yk, .string yl], .int .i64 he]) ∧ Below W.heap.size W w')) :
    Calls Try.prog 4 #[.int .i64 most, .int .i64 n, .slice A1 N1 cap1, .slice A2 N2 cap2] w fun e w' => e = .returned (.bool true) ∧ Below w.heap.size w w' := by
  have S0 := Lib.hid ((((St.start w).more (strsF13 A2 w.heap.size r) ⟨hA2, Nat.le_refl _⟩).more (strsF13 A1 w.heap.size l) ⟨hA1, Nat.le_refl _⟩).more (eRc HS) hE)
  clear hE hA1 hA2
  go_enter Try.func4, Try.ntmps4
  go_wp2_with fail
  refine (KN w (S0.out.fact 0 rfl)).out.mono ?_
  rintro e w1 ⟨rfl, hB⟩
  have S1 := Lib.hid (S0.out.on hB)
  clear hB S0
  go_wp2_with (first
    | (refine wpList_store_st rfl 23 _ _ rfl S1.out _ #[.int .i64 most, .string ⟨#[]⟩, .string ⟨#[]⟩] _ rfl rfl (by rfl) rfl (fil_one13 _ _ _) ?_; intro pf0 w2 hp hS hBn; (try rw [← hp]); have S2 := Lib.hid hS; clear hS hp hBn)
    | (refine wpList_loadg_st (by rfl) 23 _ rfl S2.out 0 _ _ rfl rfl _ Try.underlying23 rfl (by rfl) ?_))
  refine (pf1 w2 ((S2.out.fact 1 rfl).1.more (S2.out.fact 1 rfl).2)).out.mono ?_
  rintro e w3 ⟨rfl, hB⟩
  have S3 := Lib.hid (S2.out.on hB)
  clear hB S2
  go_wp2_with (refine wpList_loadg_st (by rfl) 23 _ rfl S3.out 0 _ _ rfl rfl _ Try.underlying23 rfl (by rfl) ?_)
  refine (pf2 w3 ((S3.out.fact 2 rfl).1.more (S3.out.fact 2 rfl).2)).out.mono ?_
  rintro e w4 ⟨rfl, hB⟩
  have S4 := Lib.hid (S3.out.on hB)
  clear hB S3
  go_wp2_with (refine wpList_load_st rfl 23 _ rfl S4.out 0 _ _ rfl rfl _ Try.underlying23 rfl (by rfl) ?_)
  refine (KA w4 (S4.out.fact 0 rfl) ((S4.out.fact 1 rfl).1.more (S4.out.fact 1 rfl).2)).out.mono ?_
  rintro e w5 ⟨rfl, hB⟩
  have S5 := Lib.hid (S4.out.on hB)
  clear hB S4
  clear KA pf1 pf2 KN
  have iw := Iw.out
  go_wp2_with (first
    | (refine wpList_store_st rfl 23 _ _ rfl S5.out _ #[.int .i64 xm, .string xk, .string xl] _ rfl rfl (by rfl) rfl (fil_one13 _ _ _) ?_; intro px w6 hp hS hBn; (try rw [← hp]); have S6 := Lib.hid hS; clear hS hp hBn)
    | (refine wpList_load_st rfl 23 _ rfl S6.out 0 _ _ rfl rfl _ Try.underlying23 rfl (by rfl) ?_))
  refine (KB w6 (S6.out.fact 0 rfl) ((S6.out.fact 2 rfl).1.more (S6.out.fact 2 rfl).2)).out.mono ?_
  rintro e w7 ⟨rfl, hB⟩
  have S7 := Lib.hid (S6.out.on hB)
  clear hB S6
  clear KB iw Iw
  go_wp2_with (refine wpList_store_st rfl 23 _ _ rfl S7.out _ #[.int .i64 ym, .string yk, .string yl] _ rfl rfl (by rfl) rfl (fil_one13 _ _ _) ?_; intro py w8 hp hS hBn; (try rw [← hp]); have S8 := Lib.hid hS; clear hS hp hBn)
  refine (Lib.hid (HC.out w8 (S8.out.fact 0 rfl))).out.mono ?_
  rintro e w9 ⟨rfl, hB⟩
  have S9 := Lib.hid (S8.out.on hB)
  clear hB S8
  go_wp2
  go_ret
  exact ⟨rfl, S9.out.below⟩

set_option maxHeartbeats 1000000 in
theorem recordBack_bad2 {E : World → Prop} (HS : Hid (RecK E)) (HC : Hid (RecordedK E)) (most n : Int) (A1 : Option Addr) (N1 cap1 : Nat) (l : List ByteArray) (A2 : Option Addr) (N2 cap2 : Nat) (r : List ByteArray) (w : World) (hE : E w) (hA1 : StrsAt w w.heap.size A1 l) (hA2 : StrsAt w w.heap.size A2 r) (xm ym : Int) (xk xl yk yl : ByteArray) (n2 : Int) (Iw : Hid (wrap64 (n + (N1 : Int)) = n2)) (he : Int) (jh : (he != 0) = true)
    (KN : ∀ (W : World) (_h : E W), Hid (Calls Try.prog 22 #[.int .i64 most] W fun e w' => e = .returned (.tuple #[.agg #[.int .i64 most, .string ⟨#[]⟩, .string ⟨#[]⟩], .int .i64 0]) ∧ Below W.heap.size W w'))
    (pf1 : ∀ (W : World) (_hA : StrsAt W W.heap.size A1 l), Hid (Calls Try.prog 8 #[.agg #[.int .i64 most, .string ⟨#[]⟩, .string ⟨#[]⟩], .slice A1 N1 cap1] W fun e w' => e = .returned (.bool false) ∧ Below W.heap.size W w'))
    (pf2 : ∀ (W : World) (_hA : StrsAt W W.heap.size A2 r), Hid (Calls Try.prog 8 #[.agg #[.int .i64 most, .string ⟨#[]⟩, .string ⟨#[]⟩], .slice A2 N2 cap2] W fun e w' => e = .returned (.bool false) ∧ Below W.heap.size W w'))
    (KA : ∀ (W : World) (_h : E W) (_hA : StrsAt W W.heap.size A1 l), Hid (Calls Try.prog 14 #[.agg #[.int .i64 most, .string ⟨#[]⟩, .string ⟨#[]⟩], .int .i64 n, .slice A1 N1 cap1] W fun e w' => e = .returned (.tuple #[.agg #[.int .i64 xm, .string xk, .string xl], .int .i64 0]) ∧ Below W.heap.size W w'))
    (KB : ∀ (W : World) (_h : E W) (_hA : StrsAt W W.heap.size A2 r), Hid (Calls Try.prog 14 #[.agg #[.int .i64 xm, .string xk, .string xl], .int .i64 n2, .slice A2 N2 cap2] W fun e w' => e = .returned (.tuple #[.agg #[.int .i64 ym, .string yk, .string yl], .int .i64 he]) ∧ Below W.heap.size W w')) :
    Calls Try.prog 4 #[.int .i64 most, .int .i64 n, .slice A1 N1 cap1, .slice A2 N2 cap2] w fun e w' => e = .returned (.bool true) ∧ Below w.heap.size w w' := by
  have S0 := Lib.hid ((((St.start w).more (strsF13 A2 w.heap.size r) ⟨hA2, Nat.le_refl _⟩).more (strsF13 A1 w.heap.size l) ⟨hA1, Nat.le_refl _⟩).more (eRc HS) hE)
  clear hE hA1 hA2
  go_enter Try.func4, Try.ntmps4
  go_wp2_with fail
  refine (KN w (S0.out.fact 0 rfl)).out.mono ?_
  rintro e w1 ⟨rfl, hB⟩
  have S1 := Lib.hid (S0.out.on hB)
  clear hB S0
  go_wp2_with (first
    | (refine wpList_store_st rfl 23 _ _ rfl S1.out _ #[.int .i64 most, .string ⟨#[]⟩, .string ⟨#[]⟩] _ rfl rfl (by rfl) rfl (fil_one13 _ _ _) ?_; intro pf0 w2 hp hS hBn; (try rw [← hp]); have S2 := Lib.hid hS; clear hS hp hBn)
    | (refine wpList_loadg_st (by rfl) 23 _ rfl S2.out 0 _ _ rfl rfl _ Try.underlying23 rfl (by rfl) ?_))
  refine (pf1 w2 ((S2.out.fact 1 rfl).1.more (S2.out.fact 1 rfl).2)).out.mono ?_
  rintro e w3 ⟨rfl, hB⟩
  have S3 := Lib.hid (S2.out.on hB)
  clear hB S2
  go_wp2_with (refine wpList_loadg_st (by rfl) 23 _ rfl S3.out 0 _ _ rfl rfl _ Try.underlying23 rfl (by rfl) ?_)
  refine (pf2 w3 ((S3.out.fact 2 rfl).1.more (S3.out.fact 2 rfl).2)).out.mono ?_
  rintro e w4 ⟨rfl, hB⟩
  have S4 := Lib.hid (S3.out.on hB)
  clear hB S3
  go_wp2_with (refine wpList_load_st rfl 23 _ rfl S4.out 0 _ _ rfl rfl _ Try.underlying23 rfl (by rfl) ?_)
  refine (KA w4 (S4.out.fact 0 rfl) ((S4.out.fact 1 rfl).1.more (S4.out.fact 1 rfl).2)).out.mono ?_
  rintro e w5 ⟨rfl, hB⟩
  have S5 := Lib.hid (S4.out.on hB)
  clear hB S4
  clear KA pf1 pf2 KN
  have iw := Iw.out
  go_wp2_with (first
    | (refine wpList_store_st rfl 23 _ _ rfl S5.out _ #[.int .i64 xm, .string xk, .string xl] _ rfl rfl (by rfl) rfl (fil_one13 _ _ _) ?_; intro px w6 hp hS hBn; (try rw [← hp]); have S6 := Lib.hid hS; clear hS hp hBn)
    | (refine wpList_load_st rfl 23 _ rfl S6.out 0 _ _ rfl rfl _ Try.underlying23 rfl (by rfl) ?_))
  refine (KB w6 (S6.out.fact 0 rfl) ((S6.out.fact 2 rfl).1.more (S6.out.fact 2 rfl).2)).out.mono ?_
  rintro e w7 ⟨rfl, hB⟩
  have S7 := Lib.hid (S6.out.on hB)
  clear hB S6
  clear KB iw Iw
  go_wp2_with (refine wpList_store_st rfl 23 _ _ rfl S7.out _ #[.int .i64 ym, .string yk, .string yl] _ rfl rfl (by rfl) rfl (fil_one13 _ _ _) ?_; intro py w8 hp hS hBn; (try rw [← hp]); have S8 := Lib.hid hS; clear hS hp hBn)
  refine (Lib.hid (HC.out w8 (S8.out.fact 0 rfl))).out.mono ?_
  rintro e w9 ⟨rfl, hB⟩
  have S9 := Lib.hid (S8.out.on hB)
  clear hB S8
  go_wp2
  go_ret
  exact ⟨rfl, S9.out.below⟩

set_option maxHeartbeats 1000000 in
theorem recordBack_bad3 {E : World → Prop} (HS : Hid (RecK E)) (HC : Hid (RecordedK E)) (most n : Int) (A1 : Option Addr) (N1 cap1 : Nat) (l : List ByteArray) (A2 : Option Addr) (N2 cap2 : Nat) (r : List ByteArray) (w : World) (hE : E w) (hA1 : StrsAt w w.heap.size A1 l) (hA2 : StrsAt w w.heap.size A2 r) (xm ym : Int) (xk xl yk yl : ByteArray) (n2 : Int) (Iw : Hid (wrap64 (n + (N1 : Int)) = n2)) (jn : ((900000000 : Int) < n) = True)
    (KN : ∀ (W : World) (_h : E W), Hid (Calls Try.prog 22 #[.int .i64 most] W fun e w' => e = .returned (.tuple #[.agg #[.int .i64 most, .string ⟨#[]⟩, .string ⟨#[]⟩], .int .i64 0]) ∧ Below W.heap.size W w'))
    (pf1 : ∀ (W : World) (_hA : StrsAt W W.heap.size A1 l), Hid (Calls Try.prog 8 #[.agg #[.int .i64 most, .string ⟨#[]⟩, .string ⟨#[]⟩], .slice A1 N1 cap1] W fun e w' => e = .returned (.bool false) ∧ Below W.heap.size W w'))
    (pf2 : ∀ (W : World) (_hA : StrsAt W W.heap.size A2 r), Hid (Calls Try.prog 8 #[.agg #[.int .i64 most, .string ⟨#[]⟩, .string ⟨#[]⟩], .slice A2 N2 cap2] W fun e w' => e = .returned (.bool false) ∧ Below W.heap.size W w'))
    (KA : ∀ (W : World) (_h : E W) (_hA : StrsAt W W.heap.size A1 l), Hid (Calls Try.prog 14 #[.agg #[.int .i64 most, .string ⟨#[]⟩, .string ⟨#[]⟩], .int .i64 n, .slice A1 N1 cap1] W fun e w' => e = .returned (.tuple #[.agg #[.int .i64 xm, .string xk, .string xl], .int .i64 0]) ∧ Below W.heap.size W w'))
    (KB : ∀ (W : World) (_h : E W) (_hA : StrsAt W W.heap.size A2 r), Hid (Calls Try.prog 14 #[.agg #[.int .i64 xm, .string xk, .string xl], .int .i64 n2, .slice A2 N2 cap2] W fun e w' => e = .returned (.tuple #[.agg #[.int .i64 ym, .string yk, .string yl], .int .i64 0]) ∧ Below W.heap.size W w')) :
    Calls Try.prog 4 #[.int .i64 most, .int .i64 n, .slice A1 N1 cap1, .slice A2 N2 cap2] w fun e w' => e = .returned (.bool true) ∧ Below w.heap.size w w' := by
  have S0 := Lib.hid ((((St.start w).more (strsF13 A2 w.heap.size r) ⟨hA2, Nat.le_refl _⟩).more (strsF13 A1 w.heap.size l) ⟨hA1, Nat.le_refl _⟩).more (eRc HS) hE)
  clear hE hA1 hA2
  go_enter Try.func4, Try.ntmps4
  go_wp2_with fail
  refine (KN w (S0.out.fact 0 rfl)).out.mono ?_
  rintro e w1 ⟨rfl, hB⟩
  have S1 := Lib.hid (S0.out.on hB)
  clear hB S0
  go_wp2_with (first
    | (refine wpList_store_st rfl 23 _ _ rfl S1.out _ #[.int .i64 most, .string ⟨#[]⟩, .string ⟨#[]⟩] _ rfl rfl (by rfl) rfl (fil_one13 _ _ _) ?_; intro pf0 w2 hp hS hBn; (try rw [← hp]); have S2 := Lib.hid hS; clear hS hp hBn)
    | (refine wpList_loadg_st (by rfl) 23 _ rfl S2.out 0 _ _ rfl rfl _ Try.underlying23 rfl (by rfl) ?_))
  refine (pf1 w2 ((S2.out.fact 1 rfl).1.more (S2.out.fact 1 rfl).2)).out.mono ?_
  rintro e w3 ⟨rfl, hB⟩
  have S3 := Lib.hid (S2.out.on hB)
  clear hB S2
  go_wp2_with (refine wpList_loadg_st (by rfl) 23 _ rfl S3.out 0 _ _ rfl rfl _ Try.underlying23 rfl (by rfl) ?_)
  refine (pf2 w3 ((S3.out.fact 2 rfl).1.more (S3.out.fact 2 rfl).2)).out.mono ?_
  rintro e w4 ⟨rfl, hB⟩
  have S4 := Lib.hid (S3.out.on hB)
  clear hB S3
  go_wp2_with (refine wpList_load_st rfl 23 _ rfl S4.out 0 _ _ rfl rfl _ Try.underlying23 rfl (by rfl) ?_)
  refine (KA w4 (S4.out.fact 0 rfl) ((S4.out.fact 1 rfl).1.more (S4.out.fact 1 rfl).2)).out.mono ?_
  rintro e w5 ⟨rfl, hB⟩
  have S5 := Lib.hid (S4.out.on hB)
  clear hB S4
  clear KA pf1 pf2 KN
  have iw := Iw.out
  go_wp2_with (first
    | (refine wpList_store_st rfl 23 _ _ rfl S5.out _ #[.int .i64 xm, .string xk, .string xl] _ rfl rfl (by rfl) rfl (fil_one13 _ _ _) ?_; intro px w6 hp hS hBn; (try rw [← hp]); have S6 := Lib.hid hS; clear hS hp hBn)
    | (refine wpList_load_st rfl 23 _ rfl S6.out 0 _ _ rfl rfl _ Try.underlying23 rfl (by rfl) ?_))
  refine (KB w6 (S6.out.fact 0 rfl) ((S6.out.fact 2 rfl).1.more (S6.out.fact 2 rfl).2)).out.mono ?_
  rintro e w7 ⟨rfl, hB⟩
  have S7 := Lib.hid (S6.out.on hB)
  clear hB S6
  clear KB iw Iw
  go_wp2_with (refine wpList_store_st rfl 23 _ _ rfl S7.out _ #[.int .i64 ym, .string yk, .string yl] _ rfl rfl (by rfl) rfl (fil_one13 _ _ _) ?_; intro py w8 hp hS hBn; (try rw [← hp]); have S8 := Lib.hid hS; clear hS hp hBn)
  refine (Lib.hid (HC.out w8 (S8.out.fact 0 rfl))).out.mono ?_
  rintro e w9 ⟨rfl, hB⟩
  have S9 := Lib.hid (S8.out.on hB)
  clear hB S8
  go_wp2
  go_ret
  exact ⟨rfl, S9.out.below⟩

set_option maxHeartbeats 4000000 in
theorem recordBack_ok {E : World → Prop} (HS : Hid (RecK E)) (HC : Hid (RecordedK E)) (most n : Int) (A1 : Option Addr) (N1 cap1 : Nat) (l : List ByteArray) (A2 : Option Addr) (N2 cap2 : Nat) (r : List ByteArray) (w : World) (hE : E w) (hA1 : StrsAt w w.heap.size A1 l) (hA2 : StrsAt w w.heap.size A2 r) (hN1 : N1 = l.length) (hN2 : N2 = r.length) (hl1 : N1 ≤ 30) (hl2 : N2 ≤ 30) (hnil1 : A1 = none → cap1 = 0) (hnil2 : A2 = none → cap2 = 0) (xm ym : Int) (xk xl yk yl : ByteArray) (n2 : Int) (Iw : Hid (wrap64 (n + (N1 : Int)) = n2)) (jn : ((900000000 : Int) < n) = False) (zs : List ByteArray) (hzs : l ++ r = zs) (L : Nat) (hL : L = zs.length) (zm : Int) (zk zl s : ByteArray)
    (KN : ∀ (W : World) (_h : E W), Hid (Calls Try.prog 22 #[.int .i64 most] W fun e w' => e = .returned (.tuple #[.agg #[.int .i64 most, .string ⟨#[]⟩, .string ⟨#[]⟩], .int .i64 0]) ∧ Below W.heap.size W w'))
    (pf1 : ∀ (W : World) (_hA : StrsAt W W.heap.size A1 l), Hid (Calls Try.prog 8 #[.agg #[.int .i64 most, .string ⟨#[]⟩, .string ⟨#[]⟩], .slice A1 N1 cap1] W fun e w' => e = .returned (.bool false) ∧ Below W.heap.size W w'))
    (pf2 : ∀ (W : World) (_hA : StrsAt W W.heap.size A2 r), Hid (Calls Try.prog 8 #[.agg #[.int .i64 most, .string ⟨#[]⟩, .string ⟨#[]⟩], .slice A2 N2 cap2] W fun e w' => e = .returned (.bool false) ∧ Below W.heap.size W w'))
    (KA : ∀ (W : World) (_h : E W) (_hA : StrsAt W W.heap.size A1 l), Hid (Calls Try.prog 14 #[.agg #[.int .i64 most, .string ⟨#[]⟩, .string ⟨#[]⟩], .int .i64 n, .slice A1 N1 cap1] W fun e w' => e = .returned (.tuple #[.agg #[.int .i64 xm, .string xk, .string xl], .int .i64 0]) ∧ Below W.heap.size W w'))
    (KB : ∀ (W : World) (_h : E W) (_hA : StrsAt W W.heap.size A2 r), Hid (Calls Try.prog 14 #[.agg #[.int .i64 xm, .string xk, .string xl], .int .i64 n2, .slice A2 N2 cap2] W fun e w' => e = .returned (.tuple #[.agg #[.int .i64 ym, .string yk, .string yl], .int .i64 0]) ∧ Below W.heap.size W w'))
    (KR : ∀ (W : World) (_h : E W), Hid (Calls Try.prog 16 #[.agg #[.int .i64 ym, .string yk, .string yl], .int .i64 n] W fun e w' => ∃ A c, e = .returned (.tuple #[.slice A L c, .int .i64 0]) ∧ StrsAt w' w'.heap.size A zs ∧ L ≤ c ∧ Below W.heap.size W w'))
    (KZ : ∀ (W : World) (A : Option Addr) (c : Nat) (_h : E W) (_hA : StrsAt W W.heap.size A zs) (_hc : L ≤ c), Hid (Calls Try.prog 14 #[.agg #[.int .i64 most, .string ⟨#[]⟩, .string ⟨#[]⟩], .int .i64 n, .slice A L c] W fun e w' => e = .returned (.tuple #[.agg #[.int .i64 zm, .string zk, .string zl], .int .i64 0]) ∧ Below W.heap.size W w'))
    (KT : ∀ (W : World) (A B : Option Addr) (c d : Nat) (_hA : StrsAt W W.heap.size A zs) (_hB : StrsAt W W.heap.size B zs), Hid (Calls Try.prog 21 #[.slice A L c, .slice B L d] W fun e w' => e = .returned (.bool true) ∧ Below W.heap.size W w'))
    (KF : ∀ (W : World) (_h : E W), Hid (Calls Try.prog 23 #[.agg #[.int .i64 zm, .string zk, .string zl]] W fun e w' => e = .returned (.string s) ∧ Below W.heap.size W w'))
    (KG : ∀ (W : World) (_h : E W), Hid (Calls Try.prog 23 #[.agg #[.int .i64 ym, .string yk, .string yl]] W fun e w' => e = .returned (.string s) ∧ Below W.heap.size W w')) :
    Calls Try.prog 4 #[.int .i64 most, .int .i64 n, .slice A1 N1 cap1, .slice A2 N2 cap2] w fun e w' => e = .returned (.bool true) ∧ Below w.heap.size w w' := by
  have HN1 := Lib.hid hN1
  have HN2 := Lib.hid hN2
  have Hl : Hid (l.length ≤ 30 ∧ r.length ≤ 30) := Lib.hid ⟨by omega, by omega⟩
  have Hzs := Lib.hid hzs
  have HL := Lib.hid hL
  have Hn1 := Lib.hid hnil1
  have Hn2 := Lib.hid hnil2
  clear hN1 hN2 hl1 hl2 hzs hL hnil1 hnil2
  have S0 := Lib.hid ((((St.start w).more (strsF13 A2 w.heap.size r) ⟨hA2, Nat.le_refl _⟩).more (strsF13 A1 w.heap.size l) ⟨hA1, Nat.le_refl _⟩).more (eRc HS) hE)
  clear hE hA1 hA2
  go_enter Try.func4, Try.ntmps4
  go_wp2_with fail
  refine (KN w (S0.out.fact 0 rfl)).out.mono ?_
  rintro e w1 ⟨rfl, hB⟩
  have S1 := Lib.hid (S0.out.on hB)
  clear hB S0
  go_wp2_with (first
    | (refine wpList_store_st rfl 23 _ _ rfl S1.out _ #[.int .i64 most, .string ⟨#[]⟩, .string ⟨#[]⟩] _ rfl rfl (by rfl) rfl (fil_one13 _ _ _) ?_; intro pf0 w2 hp hS hBn; (try rw [← hp]); have S2 := Lib.hid hS; clear hS hp hBn)
    | (refine wpList_loadg_st (by rfl) 23 _ rfl S2.out 0 _ _ rfl rfl _ Try.underlying23 rfl (by rfl) ?_))
  refine (pf1 w2 ((S2.out.fact 1 rfl).1.more (S2.out.fact 1 rfl).2)).out.mono ?_
  rintro e w3 ⟨rfl, hB⟩
  have S3 := Lib.hid (S2.out.on hB)
  clear hB S2
  go_wp2_with (refine wpList_loadg_st (by rfl) 23 _ rfl S3.out 0 _ _ rfl rfl _ Try.underlying23 rfl (by rfl) ?_)
  refine (pf2 w3 ((S3.out.fact 2 rfl).1.more (S3.out.fact 2 rfl).2)).out.mono ?_
  rintro e w4 ⟨rfl, hB⟩
  have S4 := Lib.hid (S3.out.on hB)
  clear hB S3
  go_wp2_with (refine wpList_load_st rfl 23 _ rfl S4.out 0 _ _ rfl rfl _ Try.underlying23 rfl (by rfl) ?_)
  refine (KA w4 (S4.out.fact 0 rfl) ((S4.out.fact 1 rfl).1.more (S4.out.fact 1 rfl).2)).out.mono ?_
  rintro e w5 ⟨rfl, hB⟩
  have S5 := Lib.hid (S4.out.on hB)
  clear hB S4
  clear KA pf1 pf2 KN
  have iw := Iw.out
  go_wp2_with (first
    | (refine wpList_store_st rfl 23 _ _ rfl S5.out _ #[.int .i64 xm, .string xk, .string xl] _ rfl rfl (by rfl) rfl (fil_one13 _ _ _) ?_; intro px w6 hp hS hBn; (try rw [← hp]); have S6 := Lib.hid hS; clear hS hp hBn)
    | (refine wpList_load_st rfl 23 _ rfl S6.out 0 _ _ rfl rfl _ Try.underlying23 rfl (by rfl) ?_))
  refine (KB w6 (S6.out.fact 0 rfl) ((S6.out.fact 2 rfl).1.more (S6.out.fact 2 rfl).2)).out.mono ?_
  rintro e w7 ⟨rfl, hB⟩
  have S7 := Lib.hid (S6.out.on hB)
  clear hB S6
  clear KB iw Iw
  go_wp2_with (first
    | (refine wpList_store_st rfl 23 _ _ rfl S7.out _ #[.int .i64 ym, .string yk, .string yl] _ rfl rfl (by rfl) rfl (fil_one13 _ _ _) ?_; intro py w8 hp hS hBn; (try rw [← hp]); have S8 := Lib.hid hS; clear hS hp hBn)
    | (refine wpList_append_strs rfl _ _ rfl w8 _ [] l l (List.nil_append l) rfl (OwnTs.nil w8) A1 N1 cap1 HN1.out rfl ((S8.out.fact 1 rfl).1.more (S8.out.fact 1 rfl).2) Hn1.out (by have := Hl.out; simp; omega) ?_; intro v1 u1 hO1; have HO1 := Lib.hid hO1; clear hO1)
    | (refine wpList_append_strs rfl _ _ rfl w8 _ l r zs Hzs.out rfl HO1.out A2 N2 cap2 HN2.out rfl (((S8.out.on HO1.out.2).fact 2 rfl).1.more ((S8.out.on HO1.out.2).fact 2 rfl).2) Hn2.out (by have := Hl.out; omega) ?_
       intro v2 u2 hO2
       obtain ⟨A4, c4, hv, hc4, hT, hB4⟩ := hO2.slice HL.out
       subst hv
       have S9 := Lib.hid ((S8.out.on hB4).more (strsF13 A4 u2.heap.size zs) ⟨hT, Nat.le_refl _⟩)
       have Hc4 := Lib.hid hc4
       clear hT hB4 hO2 hc4 HO1 S8
       obtain ⟨B4, hBe4⟩ : ∃ b, b = u2.heap.size := ⟨_, rfl⟩
       rw [← hBe4] at S9
       clear hBe4)
    | (refine wpList_load_st rfl 23 _ rfl S9.out 0 _ _ rfl rfl _ Try.underlying23 rfl (by rfl) ?_))
  refine (KR u2 (S9.out.fact 1 rfl)).out.mono ?_
  rintro e w10 ⟨A3, c3, rfl, hT, _, hB⟩
  have S10 := Lib.hid ((S9.out.on hB).more (strsF13 A3 w10.heap.size zs) ⟨hT, Nat.le_refl _⟩)
  clear hB hT S9
  obtain ⟨B3, hBe⟩ : ∃ b, b = w10.heap.size := ⟨_, rfl⟩
  rw [← hBe] at S10
  clear hBe
  go_wp2_with (refine wpList_load_st rfl 23 _ rfl S10.out 2 _ _ rfl rfl _ Try.underlying23 rfl (by rfl) ?_)
  refine (KZ w10 A4 c4 (S10.out.fact 2 rfl) ((S10.out.fact 1 rfl).1.more (S10.out.fact 1 rfl).2) Hc4.out).out.mono ?_
  rintro e w11 ⟨rfl, hB⟩
  have S11 := Lib.hid (S10.out.on hB)
  clear hB S10
  clear KZ KR
  go_upto_region 13 with (refine wpList_store_st rfl 23 _ _ rfl S11.out _ #[.int .i64 zm, .string zk, .string zl] _ rfl rfl (by rfl) rfl (fil_one13 _ _ _) ?_; intro pz w12 hp hS hBn; (try rw [← hp]); have S12 := Lib.hid hS; clear hS hp hBn)
  clear S11
  go_wp2_with fail
  have hS : St w w12.drew [(pz, #[.int .i64 zm, .string zk, .string zl]), (py, #[.int .i64 ym, .string yk, .string yl]), (px, #[.int .i64 xm, .string xk, .string xl]), (pf0, #[.int .i64 most, .string ⟨#[]⟩, .string ⟨#[]⟩])] [strsF13 A3 B3 zs, strsF13 A4 B4 zs, eRc HS, strsF13 A1 w.heap.size l, strsF13 A2 w.heap.size r] := S12.out.drew
  clear S12
  refine wp_region_held_drew (S := (fun W : World => St w W [(pz, #[.int .i64 zm, .string zk, .string zl]), (py, #[.int .i64 ym, .string yk, .string yl]), (px, #[.int .i64 xm, .string xk, .string xl]), (pf0, #[.int .i64 most, .string ⟨#[]⟩, .string ⟨#[]⟩])] [strsF13 A3 B3 zs, strsF13 A4 B4 zs, eRc HS, strsF13 A1 w.heap.size l, strsF13 A2 w.heap.size r])) (by kernel_rfl) hS (fun hHeld => ?_)
  refine wpAnyH_ready (rs := [0]) (by kernel_rfl) (by simp) ?_
  refine AllReadyH.cons (o := { dst := some 85, op := Op.call { callee := Callee.value (Operand.func 20), args := #[], argTypes := #[] }, type := 4, pos := _, after := #[], guard := none }) rfl (fun K hK => ?_) AllReadyH.nil
  go_simp
  refine (HC.out _ (hS.fact 2 rfl)).mono ?_
  rintro e y1 ⟨rfl, hB'⟩
  replace hS := hS.on hB'
  clear hB'
  go_wp2_with fail
  refine hK.out _ _ hS (fun hHeld => ?_)
  clear hK K
  (try simp only [Act.put, List.setIfInBounds_toArray, List.set_cons_zero, List.set_cons_succ])
  refine wpAnyH_take (i := 1) (oi := { dst := some 86, op := Op.move (Operand.tmp 85), type := 4, pos := _, after := #[{ on := 0, ground := Ground.data }, { on := 0, ground := Ground.chain }], guard := none }) (v := ?_) rfl (by kernel_rfl) (by kernel_rfl) (by kernel_rfl) (fun _ _ _ h => h) (Or.inl ⟨by rfl, ?hy⟩) hHeld ?_
  case hy => intro w0 hSw; (try dsimp only at hSw); go_simp; (try with_reducible rfl)
  (try simp only [Act.put, List.setIfInBounds_toArray, List.set_cons_zero, List.set_cons_succ])
  refine wpAnyH_take (i := 2) (oi := { dst := some 87, op := Op.move (Operand.tmp 17), type := 27, pos := _, after := #[{ on := 1, ground := Ground.guard }], guard := some (1, true) }) (v := ?_) rfl (by kernel_rfl) (by kernel_rfl) (by kernel_rfl) (fun _ _ _ h => h) (Or.inl ⟨by rfl, ?hy⟩) hHeld ?_
  case hy => intro w0 hSw; (try dsimp only at hSw); go_simp; (try with_reducible rfl)
  (try simp only [Act.put, List.setIfInBounds_toArray, List.set_cons_zero, List.set_cons_succ])
  refine wpAnyH_take (i := 3) (oi := { dst := some 88, op := Op.binOp BinOp.eql 27 (Operand.tmp 87) (Operand.const (Value.int IntKind.i64 0)) 27, type := 4, pos := _, after := #[{ on := 2, ground := Ground.data }, { on := 1, ground := Ground.guard }], guard := some (1, true) }) (v := ?_) rfl (by kernel_rfl) (by kernel_rfl) (by kernel_rfl) (fun _ _ _ h => h) (Or.inl ⟨by rfl, ?hy⟩) hHeld ?_
  case hy => intro w0 hSw; (try dsimp only at hSw); go_simp; (try with_reducible rfl)
  (try simp only [Act.put, List.setIfInBounds_toArray, List.set_cons_zero, List.set_cons_succ])
  refine wpAnyH_take (i := 4) (oi := { dst := some 89, op := Op.pick (Operand.tmp 86) (Operand.tmp 88) (Operand.const (Value.bool false)), type := 4, pos := _, after := #[{ on := 1, ground := Ground.data }, { on := 3, ground := Ground.data }], guard := none }) (v := ?_) rfl (by kernel_rfl) (by kernel_rfl) (by kernel_rfl) (fun _ _ _ h => h) (Or.inl ⟨by rfl, ?hy⟩) hHeld ?_
  case hy => intro w0 hSw; (try dsimp only at hSw); go_simp; (try with_reducible rfl)
  (try simp only [Act.put, List.setIfInBounds_toArray, List.set_cons_zero, List.set_cons_succ])
  refine wpAnyH_take (i := 5) (oi := { dst := some 90, op := Op.move (Operand.tmp 89), type := 4, pos := _, after := #[{ on := 4, ground := Ground.data }, { on := 1, ground := Ground.chain }], guard := none }) (v := ?_) rfl (by kernel_rfl) (by kernel_rfl) (by kernel_rfl) (fun _ _ _ h => h) (Or.inl ⟨by rfl, ?hy⟩) hHeld ?_
  case hy => intro w0 hSw; (try dsimp only at hSw); go_simp; (try with_reducible rfl)
  (try simp only [Act.put, List.setIfInBounds_toArray, List.set_cons_zero, List.set_cons_succ])
  refine wpAnyH_take (i := 6) (oi := { dst := some 91, op := Op.move (Operand.tmp 16), type := 24, pos := _, after := #[{ on := 5, ground := Ground.guard }], guard := some (5, true) }) (v := ?_) rfl (by kernel_rfl) (by kernel_rfl) (by kernel_rfl) (fun _ _ _ h => h) (Or.inl ⟨by rfl, ?hy⟩) hHeld ?_
  case hy => intro w0 hSw; (try dsimp only at hSw); go_simp; (try with_reducible rfl)
  (try simp only [Act.put, List.setIfInBounds_toArray, List.set_cons_zero, List.set_cons_succ])
  refine wpAnyH_take (i := 7) (oi := { dst := some 92, op := Op.move (Operand.tmp 15), type := 24, pos := _, after := #[{ on := 5, ground := Ground.guard }], guard := some (5, true) }) (v := ?_) rfl (by kernel_rfl) (by kernel_rfl) (by kernel_rfl) (fun _ _ _ h => h) (Or.inl ⟨by rfl, ?hy⟩) hHeld ?_
  case hy => intro w0 hSw; (try dsimp only at hSw); go_simp; (try with_reducible rfl)
  (try simp only [Act.put, List.setIfInBounds_toArray, List.set_cons_zero, List.set_cons_succ])
  refine wpAnyH_ready (rs := [8]) (by kernel_rfl) (by simp) ?_
  refine AllReadyH.cons (o := { dst := some 93, op := Op.call { callee := Callee.value (Operand.func 21), args := #[Operand.tmp 91, Operand.tmp 92], argTypes := #[24, 24] }, type := 4, pos := _, after := #[{ on := 6, ground := Ground.data }, { on := 7, ground := Ground.data }, { on := 5, ground := Ground.chain }, { on := 5, ground := Ground.guard }], guard := some (5, true) }) rfl (fun K hK => ?_) AllReadyH.nil
  go_simp
  refine (KT _ A3 A4 c3 c4 ((hS.fact 0 rfl).1.more (hS.fact 0 rfl).2) ((hS.fact 1 rfl).1.more (hS.fact 1 rfl).2)).out.mono ?_
  rintro e y2 ⟨rfl, hB'⟩
  replace hS := hS.on hB'
  clear hB'
  go_wp2_with fail
  refine hK.out _ _ hS (fun hHeld => ?_)
  clear hK K
  (try simp only [Act.put, List.setIfInBounds_toArray, List.set_cons_zero, List.set_cons_succ])
  refine wpAnyH_take (i := 9) (oi := { dst := some 94, op := Op.pick (Operand.tmp 90) (Operand.tmp 93) (Operand.const (Value.bool false)), type := 4, pos := _, after := #[{ on := 5, ground := Ground.data }, { on := 8, ground := Ground.data }], guard := none }) (v := ?_) rfl (by kernel_rfl) (by kernel_rfl) (by kernel_rfl) (fun _ _ _ h => h) (Or.inl ⟨by rfl, ?hy⟩) hHeld ?_
  case hy => intro w0 hSw; (try dsimp only at hSw); go_simp; (try with_reducible rfl)
  (try simp only [Act.put, List.setIfInBounds_toArray, List.set_cons_zero, List.set_cons_succ])
  refine wpAnyH_take (i := 10) (oi := { dst := some 95, op := Op.move (Operand.tmp 94), type := 4, pos := _, after := #[{ on := 9, ground := Ground.data }, { on := 8, ground := Ground.chain }], guard := none }) (v := ?_) rfl (by kernel_rfl) (by kernel_rfl) (by kernel_rfl) (fun _ _ _ h => h) (Or.inl ⟨by rfl, ?hy⟩) hHeld ?_
  case hy => intro w0 hSw; (try dsimp only at hSw); go_simp; (try with_reducible rfl)
  (try simp only [Act.put, List.setIfInBounds_toArray, List.set_cons_zero, List.set_cons_succ])
  refine wpAnyH_take (i := 11) (oi := { dst := some 96, op := Op.move (Operand.tmp 19), type := 27, pos := _, after := #[{ on := 10, ground := Ground.guard }], guard := some (10, true) }) (v := ?_) rfl (by kernel_rfl) (by kernel_rfl) (by kernel_rfl) (fun _ _ _ h => h) (Or.inl ⟨by rfl, ?hy⟩) hHeld ?_
  case hy => intro w0 hSw; (try dsimp only at hSw); go_simp; (try with_reducible rfl)
  (try simp only [Act.put, List.setIfInBounds_toArray, List.set_cons_zero, List.set_cons_succ])
  refine wpAnyH_take (i := 12) (oi := { dst := some 97, op := Op.binOp BinOp.eql 27 (Operand.tmp 96) (Operand.const (Value.int IntKind.i64 0)) 27, type := 4, pos := _, after := #[{ on := 11, ground := Ground.data }, { on := 10, ground := Ground.guard }], guard := some (10, true) }) (v := ?_) rfl (by kernel_rfl) (by kernel_rfl) (by kernel_rfl) (fun _ _ _ h => h) (Or.inl ⟨by rfl, ?hy⟩) hHeld ?_
  case hy => intro w0 hSw; (try dsimp only at hSw); go_simp; (try with_reducible rfl)
  (try simp only [Act.put, List.setIfInBounds_toArray, List.set_cons_zero, List.set_cons_succ])
  refine wpAnyH_take (i := 13) (oi := { dst := some 98, op := Op.pick (Operand.tmp 95) (Operand.tmp 97) (Operand.const (Value.bool false)), type := 4, pos := _, after := #[{ on := 10, ground := Ground.data }, { on := 12, ground := Ground.data }], guard := none }) (v := ?_) rfl (by kernel_rfl) (by kernel_rfl) (by kernel_rfl) (fun _ _ _ h => h) (Or.inl ⟨by rfl, ?hy⟩) hHeld ?_
  case hy => intro w0 hSw; (try dsimp only at hSw); go_simp; (try with_reducible rfl)
  (try simp only [Act.put, List.setIfInBounds_toArray, List.set_cons_zero, List.set_cons_succ])
  refine wpAnyH_take (i := 14) (oi := { dst := some 99, op := Op.move (Operand.tmp 98), type := 4, pos := _, after := #[{ on := 13, ground := Ground.data }, { on := 10, ground := Ground.chain }], guard := none }) (v := ?_) rfl (by kernel_rfl) (by kernel_rfl) (by kernel_rfl) (fun _ _ _ h => h) (Or.inl ⟨by rfl, ?hy⟩) hHeld ?_
  case hy => intro w0 hSw; (try dsimp only at hSw); go_simp; (try with_reducible rfl)
  (try simp only [Act.put, List.setIfInBounds_toArray, List.set_cons_zero, List.set_cons_succ])
  refine wpAnyH_take (i := 15) (oi := { dst := some 100, op := Op.load 23 (Operand.tmp 18), type := 23, pos := _, after := #[{ on := 14, ground := Ground.guard }], guard := some (14, true) }) (v := ?_) rfl (by kernel_rfl) (by kernel_rfl) (by kernel_rfl) (fun _ _ _ h => h) (Or.inl ⟨by rfl, ?hy⟩) hHeld ?_
  case hy => intro w0 hSw; have d0 := hSw.cell 0 rfl 0 rfl; have d1 := hSw.cell 0 rfl 1 rfl; have d2 := hSw.cell 0 rfl 2 rfl; clear hSw; go_simp; (try with_reducible rfl)
  (try simp only [Act.put, List.setIfInBounds_toArray, List.set_cons_zero, List.set_cons_succ])
  refine wpAnyH_take (i := 17) (oi := { dst := some 102, op := Op.load 23 (Operand.tmp 13), type := 23, pos := _, after := #[{ on := 14, ground := Ground.guard }], guard := some (14, true) }) (v := ?_) rfl (by kernel_rfl) (by kernel_rfl) (by kernel_rfl) (fun _ _ _ h => h) (Or.inl ⟨by rfl, ?hy⟩) hHeld ?_
  case hy => intro w0 hSw; have d0 := hSw.cell 1 rfl 0 rfl; have d1 := hSw.cell 1 rfl 1 rfl; have d2 := hSw.cell 1 rfl 2 rfl; clear hSw; go_simp; (try with_reducible rfl)
  (try simp only [Act.put, List.setIfInBounds_toArray, List.set_cons_zero, List.set_cons_succ])
  refine wpAnyH_ready (rs := [16]) (by kernel_rfl) (by simp) ?_
  refine AllReadyH.cons (o := { dst := some 101, op := Op.call { callee := Callee.value (Operand.func 23), args := #[Operand.tmp 100], argTypes := #[23] }, type := 9, pos := _, after := #[{ on := 15, ground := Ground.data }, { on := 14, ground := Ground.chain }, { on := 14, ground := Ground.guard }], guard := some (14, true) }) rfl (fun K hK => ?_) AllReadyH.nil
  go_simp
  refine (KF _ (hS.fact 2 rfl)).out.mono ?_
  rintro e y3 ⟨rfl, hB'⟩
  replace hS := hS.on hB'
  clear hB'
  go_wp2_with fail
  refine hK.out _ _ hS (fun hHeld => ?_)
  clear hK K
  (try simp only [Act.put, List.setIfInBounds_toArray, List.set_cons_zero, List.set_cons_succ])
  refine wpAnyH_ready (rs := [18]) (by kernel_rfl) (by simp) ?_
  refine AllReadyH.cons (o := { dst := some 103, op := Op.call { callee := Callee.value (Operand.func 23), args := #[Operand.tmp 102], argTypes := #[23] }, type := 9, pos := _, after := #[{ on := 17, ground := Ground.data }, { on := 16, ground := Ground.chain }, { on := 14, ground := Ground.guard }], guard := some (14, true) }) rfl (fun K hK => ?_) AllReadyH.nil
  go_simp
  refine (KG _ (hS.fact 2 rfl)).out.mono ?_
  rintro e y4 ⟨rfl, hB'⟩
  replace hS := hS.on hB'
  clear hB'
  go_wp2_with fail
  refine hK.out _ _ hS (fun hHeld => ?_)
  clear hK K
  (try simp only [Act.put, List.setIfInBounds_toArray, List.set_cons_zero, List.set_cons_succ])
  refine wpAnyH_take (i := 19) (oi := { dst := some 104, op := Op.binOp BinOp.eql 9 (Operand.tmp 101) (Operand.tmp 103) 9, type := 4, pos := _, after := #[{ on := 16, ground := Ground.data }, { on := 18, ground := Ground.data }, { on := 14, ground := Ground.guard }], guard := some (14, true) }) (v := ?_) rfl (by kernel_rfl) (by kernel_rfl) (by kernel_rfl) (fun _ _ _ h => h) (Or.inl ⟨by rfl, ?hy⟩) hHeld ?_
  case hy => intro w0 hSw; (try dsimp only at hSw); go_simp; (try with_reducible rfl)
  (try simp only [Act.put, List.setIfInBounds_toArray, List.set_cons_zero, List.set_cons_succ])
  refine wpAnyH_take (i := 20) (oi := { dst := some 105, op := Op.pick (Operand.tmp 99) (Operand.tmp 104) (Operand.const (Value.bool false)), type := 4, pos := _, after := #[{ on := 14, ground := Ground.data }, { on := 19, ground := Ground.data }], guard := none }) (v := ?_) rfl (by kernel_rfl) (by kernel_rfl) (by kernel_rfl) (fun _ _ _ h => h) (Or.inl ⟨by rfl, ?hy⟩) hHeld ?_
  case hy => intro w0 hSw; (try dsimp only at hSw); go_simp; (try with_reducible rfl)
  (try simp only [Act.put, List.setIfInBounds_toArray, List.set_cons_zero, List.set_cons_succ])
  refine wpAnyH_take (i := 21) (oi := { dst := some 8, op := Op.assign (Operand.tmp 105), type := 4, pos := _, after := #[{ on := 20, ground := Ground.data }, { on := 18, ground := Ground.chain }, { on := 0, ground := Ground.phase }, { on := 1, ground := Ground.phase }, { on := 2, ground := Ground.phase }, { on := 3, ground := Ground.phase }, { on := 4, ground := Ground.phase }, { on := 5, ground := Ground.phase }, { on := 6, ground := Ground.phase }, { on := 7, ground := Ground.phase }, { on := 8, ground := Ground.phase }, { on := 9, ground := Ground.phase }, { on := 10, ground := Ground.phase }, { on := 11, ground := Ground.phase }, { on := 12, ground := Ground.phase }, { on := 13, ground := Ground.phase }, { on := 14, ground := Ground.phase }, { on := 15, ground := Ground.phase }, { on := 16, ground := Ground.phase }, { on := 17, ground := Ground.phase }, { on := 18, ground := Ground.phase }, { on := 19, ground := Ground.phase }, { on := 20, ground := Ground.phase }], guard := none }) (v := ?_) rfl (by kernel_rfl) (by kernel_rfl) (by kernel_rfl) (fun _ _ _ h => h) (Or.inl ⟨by rfl, ?hy⟩) hHeld ?_
  case hy => intro w0 hSw; (try dsimp only at hSw); go_simp; (try with_reducible rfl)
  (try simp only [Act.put, List.setIfInBounds_toArray, List.set_cons_zero, List.set_cons_succ])
  refine wpAnyH_done (by kernel_rfl) ?_ _
  clear hHeld
  have HSe := Lib.hid hS
  clear hS
  go_wp2
  go_ret
  exact ⟨rfl, HSe.out.below⟩

theorem recordBack_walk {E : World → Prop} (HS : Hid (RecK E)) (HC : Hid (RecordedK E)) (HF : Hid (FilR E)) (most n : Int) (A1 : Option Addr) (N1 cap1 : Nat) (l : List ByteArray) (A2 : Option Addr) (N2 cap2 : Nat) (r : List ByteArray) (w : World) (hE : E w) (_hm : (Lit.int .i64 most).wf = true) (hwf : (Lit.int .i64 n).wf = true) (hI1 : IsStrs w A1 N1 cap1 l) (hI2 : IsStrs w A2 N2 cap2 r) :
    Calls Try.prog 4 #[.int .i64 most, .int .i64 n, .slice A1 N1 cap1, .slice A2 N2 cap2] w fun e w' => e = .returned (.bool true) ∧ Below w.heap.size w w' := by
  obtain ⟨hN1, hM1, hA1, hs1⟩ := hI1.strs
  obtain ⟨hN2, hM2, hA2, hs2⟩ := hI2.strs
  have hc1 := hI1.cap13
  have hc2 := hI2.cap13
  subst hN1 hN2
  have hn64 : -9223372036854775808 ≤ n ∧ n ≤ 9223372036854775807 := by have h := hwf; simp [Lit.wf] at h; exact h
  have KN := fun W (h : E W) => Lib.hid (HF.out.new most W h)
  by_cases hm : 1 ≤ most ∧ most ≤ 4000
  case neg =>
    have e1 : Fi.new most = Fi.no := by unfold Fi.new; rw [if_neg hm]
    have e2 : Fi.newE most = 1 := by unfold Fi.newE; rw [if_neg hm]
    rw [e1, e2] at KN
    exact recordBack_new HS HC most n A1 _ cap1 l A2 _ cap2 r w hE hA1 hA2 KN
  have e1 : Fi.new most = ⟨most, ⟨#[]⟩, ⟨#[]⟩⟩ := by unfold Fi.new; rw [if_pos hm]
  have e2 : Fi.newE most = 0 := by unfold Fi.newE; rw [if_pos hm]
  rw [e1, e2] at KN
  have f0i : Fi.is ⟨most, ⟨#[]⟩, ⟨#[]⟩⟩ = true := decide_eq_true ⟨hm.1, hm.2, by show (0 : Int) + 0 ≤ most; omega⟩
  have f0s : Fi.small ⟨most, ⟨#[]⟩, ⟨#[]⟩⟩ := ⟨Nat.zero_le _, Nat.zero_le _⟩
  have pf1 := fun W (h : StrsAt W W.heap.size A1 l) => Lib.hid (far13_any most ⟨#[]⟩ ⟨#[]⟩ A1 cap1 l W h hM1 hs1)
  have pf2 := fun W (h : StrsAt W W.heap.size A2 r) => Lib.hid (far13_any most ⟨#[]⟩ ⟨#[]⟩ A2 cap2 r W h hM2 hs2)
  cases hf1 : farB ⟨#[]⟩ ⟨#[]⟩ l
  case true => rw [hf1] at pf1; exact recordBack_far1 HS HC most n A1 _ cap1 l A2 _ cap2 r w hE hA1 hA2 KN pf1
  cases hf2 : farB ⟨#[]⟩ ⟨#[]⟩ r
  case true => rw [hf1] at pf1; rw [hf2] at pf2; exact recordBack_far2 HS HC most n A1 _ cap1 l A2 _ cap2 r w hE hA1 hA2 KN pf1 pf2
  rw [hf1] at pf1; rw [hf2] at pf2
  obtain ⟨_, hl1, hz1⟩ := farB_no hf1
  obtain ⟨_, hl2, hz2⟩ := farB_no hf2
  have hz1' : ∀ s ∈ l, s.size ≤ 9000 := fun s hs => by have := (hz1 s hs).1; omega
  have hz2' : ∀ s ∈ r, s.size ≤ 9000 := fun s hs => by have := (hz2 s hs).1; omega
  have KA := fun W (h : E W) (hA : StrsAt W W.heap.size A1 l) => Lib.hid (HS.out.add ⟨most, ⟨#[]⟩, ⟨#[]⟩⟩ n A1 l.length cap1 l W h f0s hA rfl (by omega) hc1.1 hz1')
  have KB := fun W (h : E W) (hA : StrsAt W W.heap.size A2 r) => Lib.hid (HS.out.add (Rc.add ⟨most, ⟨#[]⟩, ⟨#[]⟩⟩ n l) (wrap64 (n + (l.length : Int))) A2 r.length cap2 r W h (Rc.add_small _ _ _) hA rfl (by omega) hc2.1 hz2')
  by_cases hg : Rc.addE ⟨most, ⟨#[]⟩, ⟨#[]⟩⟩ n l = 0
  case neg => exact recordBack_bad1 HS HC most n A1 _ cap1 l A2 _ cap2 r w hE hA1 hA2 _ _ _ _ _ _ _ (Lib.hid rfl) _ _ (by rw [bne_iff_ne]; exact hg) KN pf1 pf2 KA KB
  rw [hg] at KA
  by_cases hh : Rc.addE (Rc.add ⟨most, ⟨#[]⟩, ⟨#[]⟩⟩ n l) (wrap64 (n + (l.length : Int))) r = 0
  case neg => exact recordBack_bad2 HS HC most n A1 _ cap1 l A2 _ cap2 r w hE hA1 hA2 _ _ _ _ _ _ _ (Lib.hid rfl) _ (by rw [bne_iff_ne]; exact hh) KN pf1 pf2 KA KB
  rw [hh] at KB
  by_cases hn : 900000000 < n
  · exact recordBack_bad3 HS HC most n A1 _ cap1 l A2 _ cap2 r w hE hA1 hA2 _ _ _ _ _ _ _ (Lib.hid rfl) (eq_true hn) KN pf1 pf2 KA KB
  obtain ⟨_, hok1, _⟩ := Rc.addE_zero.1 hg
  obtain ⟨_, hok2, _⟩ := Rc.addE_zero.1 hh
  have hbr := Rc.add_read hh
  rw [Rc.add_read hg] at hbr
  have hnl : wrap64 (n + (l.length : Int)) = n + (l.length : Int) := by
    have h0 := ((Rc.okAll_iff n (l.map bl)).1 hok1).1
    rw [List.length_map] at h0
    rcases h0 with h0 | h0
    · have : l = [] := by simpa using h0
      subst this
      show wrap64 (n + 0) = n + 0
      unfold wrap64; omega
    · unfold wrap64; omega
  have hokz : Rc.okAll n ((l ++ r).map bl) := by
    rw [List.map_append, Rc.okAll_append, List.length_map]
    rw [hnl] at hok2
    exact ⟨hok1, hok2⟩
  have hbz : bl (Fi.read (Rc.add (Rc.add ⟨most, ⟨#[]⟩, ⟨#[]⟩⟩ n l) (wrap64 (n + (l.length : Int))) r)) = Rc.recs n ((l ++ r).map bl) := by
    rw [hbr, List.map_append, Rc.recs_append, List.length_map, hnl]
    rfl
  have hbi2 := Rc.add_is hh
  have hbs := Rc.add_small (Rc.add ⟨most, ⟨#[]⟩, ⟨#[]⟩⟩ n l) (wrap64 (n + (l.length : Int))) r
  have KR := fun W (h : E W) => Lib.hid (HS.out.read (Rc.add (Rc.add ⟨most, ⟨#[]⟩, ⟨#[]⟩⟩ n l) (wrap64 (n + (l.length : Int))) r) n W h hbs)
  have htx : Rc.texts (Rc.add (Rc.add ⟨most, ⟨#[]⟩, ⟨#[]⟩⟩ n l) (wrap64 (n + (l.length : Int))) r) n = l ++ r := by
    rw [Rc.texts_yes hbi2]; unfold Rc.sc; rw [hbz, Rc.scan_whole hokz]; exact Rc.map_back _
  have hbb : Fi.badE (Rc.add (Rc.add ⟨most, ⟨#[]⟩, ⟨#[]⟩⟩ n l) (wrap64 (n + (l.length : Int))) r) = 0 := by unfold Fi.badE; rw [hbi2]; rfl
  rw [htx, hbb] at KR
  have hmost : (Rc.add (Rc.add ⟨most, ⟨#[]⟩, ⟨#[]⟩⟩ n l) (wrap64 (n + (l.length : Int))) r).most = most := by rw [Rc.add_ok hh, Rc.add_ok hg]
  have hzz : Rc.addE ⟨most, ⟨#[]⟩, ⟨#[]⟩⟩ n (l ++ r) = 0 := by
    refine Rc.addE_zero.2 ⟨f0i, hokz, ?_⟩
    have h1 := Fi.is_small hbi2
    have h2 := congrArg List.length hbz
    rw [bl_length, Fi.read_size] at h2
    rw [hmost] at h1
    show (0 : Int) + 0 + ((Rc.recs n ((l ++ r).map bl)).length : Nat) ≤ most
    omega
  have hall : ∀ s ∈ l ++ r, s.size ≤ 9000 := fun s hs => by
    rcases List.mem_append.1 hs with h | h
    · exact hz1' s h
    · exact hz2' s h
  have hLs : (l ++ r).length ≤ 60 := by rw [List.length_append]; omega
  have KZ := fun W (A : Option Addr) (c : Nat) (h : E W) (hA : StrsAt W W.heap.size A (l ++ r)) (hc : (l ++ r).length ≤ c) => Lib.hid (HS.out.add ⟨most, ⟨#[]⟩, ⟨#[]⟩⟩ n A (l ++ r).length c (l ++ r) W h f0s hA rfl (by omega) hc hall)
  rw [hzz] at KZ
  have hrz : Fi.read (Rc.add ⟨most, ⟨#[]⟩, ⟨#[]⟩⟩ n (l ++ r)) = Fi.read (Rc.add (Rc.add ⟨most, ⟨#[]⟩, ⟨#[]⟩⟩ n l) (wrap64 (n + (l.length : Int))) r) := by
    apply bl_inj
    rw [hbz, Rc.add_read hzz]; rfl
  have KF := fun W (h : E W) => Lib.hid (HF.out.read (Rc.add ⟨most, ⟨#[]⟩, ⟨#[]⟩⟩ n (l ++ r)) W h (Rc.add_small _ _ _))
  rw [hrz] at KF
  have KG := fun W (h : E W) => Lib.hid (HF.out.read (Rc.add (Rc.add ⟨most, ⟨#[]⟩, ⟨#[]⟩⟩ n l) (wrap64 (n + (l.length : Int))) r) W h hbs)
  exact recordBack_ok HS HC most n A1 _ cap1 l A2 _ cap2 r w hE hA1 hA2 rfl rfl hl1 hl2 hc1.2 hc2.2 _ _ _ _ _ _ _ (Lib.hid rfl) (eq_false hn) (l ++ r) rfl _ rfl _ _ _ _ KN pf1 pf2 KA KB KR KZ
    (fun W A B c d hA hB => Lib.hid ((Texts_any A B c d _ _ W hA hB (by unfold maxLen; omega)).mono fun e w' ⟨h1, q, h2⟩ => ⟨by rw [h1]; simp, h2 ▸ below_drew (Below.refl _ _) q⟩)) KF KG
end Go.Proofs.Ytfapfnbehhekhaa
