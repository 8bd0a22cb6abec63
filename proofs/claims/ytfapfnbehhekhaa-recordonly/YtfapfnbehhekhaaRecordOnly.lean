/-
  Layer 13 (record): the law RecordOnly, over the structures (printed by tools/gen-reconly.py).
-/
import Derived.Test.YtfapfnbehhekhaaRecK
import Derived.Test.YtfapfnbehhekhaaRecFar
import Derived.Test.YtfapfnbehhekhaaRecLoad
namespace Go.Proofs.Ytfapfnbehhekhaa
set_option maxRecDepth 10000
open Go.RowKit


set_option maxHeartbeats 1000000 in
theorem recordOnly_far {E : World → Prop} (HS : Hid (RecK E)) (HC : Hid (RecordedK E)) (n first : Int) (A : Option Addr) (N cap : Nat) (ss : List ByteArray) (w : World) (hE : E w) (hA : StrsAt w w.heap.size A ss)
    (KN : ∀ (W : World) (_h : E W), Hid (Calls Try.prog 22 #[.int .i64 4000] W fun e w' => e = .returned (.tuple #[.agg #[.int .i64 4000, .string ⟨#[]⟩, .string ⟨#[]⟩], .int .i64 0]) ∧ Below W.heap.size W w'))
    (pf : ∀ (W : World) (_hA : StrsAt W W.heap.size A ss), Hid (Calls Try.prog 8 #[.agg #[.int .i64 4000, .string ⟨#[]⟩, .string ⟨#[]⟩], .slice A N cap] W fun e w' => e = .returned (.bool true) ∧ Below W.heap.size W w')) :
    Calls Try.prog 7 #[.int .i64 n, .int .i64 first, .slice A N cap] w fun e w' => e = .returned (.bool true) ∧ Below w.heap.size w w' := by
  have S0 := Lib.hid (((St.start w).more (strsF13 A w.heap.size ss) ⟨hA, Nat.le_refl _⟩).more (eRc HS) hE)
  clear hE hA
  go_enter Try.func7, Try.ntmps7
  go_wp2_with fail
  refine (KN w (S0.out.fact 0 rfl)).out.mono ?_
  rintro e w1 ⟨rfl, hB⟩
  have S1 := Lib.hid (S0.out.on hB)
  clear hB S0
  go_wp2_with (first
    | (refine wpList_store_st rfl 23 _ _ rfl S1.out _ #[.int .i64 4000, .string ⟨#[]⟩, .string ⟨#[]⟩] _ rfl rfl (by rfl) rfl (fil_one13 _ _ _) ?_; intro pf0 w2 hp hS hBn; (try rw [← hp]); have S2 := Lib.hid hS; clear hS hp hBn)
    | (refine wpList_load_st rfl 23 _ rfl S2.out 0 _ _ rfl rfl _ Try.underlying23 rfl (by rfl) ?_))
  refine (pf w2 ((S2.out.fact 1 rfl).1.more (S2.out.fact 1 rfl).2)).out.mono ?_
  rintro e w3 ⟨rfl, hB⟩
  have S3 := Lib.hid (S2.out.on hB)
  clear hB S2
  clear pf
  go_wp2_with fail
  refine (Lib.hid (HC.out w3 (S3.out.fact 0 rfl))).out.mono ?_
  rintro e w4 ⟨rfl, hB⟩
  have S4 := Lib.hid (S3.out.on hB)
  clear hB S3
  go_wp2
  go_ret
  exact ⟨rfl, S4.out.below⟩

set_option maxHeartbeats 1000000 in
theorem recordOnly_none {E : World → Prop} (HS : Hid (RecK E)) (HC : Hid (RecordedK E)) (n first : Int) (A : Option Addr) (N cap : Nat) (ss : List ByteArray) (w : World) (hE : E w) (hA : StrsAt w w.heap.size A ss) (jN : ((N : Int) == 0) = true)
    (KN : ∀ (W : World) (_h : E W), Hid (Calls Try.prog 22 #[.int .i64 4000] W fun e w' => e = .returned (.tuple #[.agg #[.int .i64 4000, .string ⟨#[]⟩, .string ⟨#[]⟩], .int .i64 0]) ∧ Below W.heap.size W w'))
    (pf : ∀ (W : World) (_hA : StrsAt W W.heap.size A ss), Hid (Calls Try.prog 8 #[.agg #[.int .i64 4000, .string ⟨#[]⟩, .string ⟨#[]⟩], .slice A N cap] W fun e w' => e = .returned (.bool false) ∧ Below W.heap.size W w')) :
    Calls Try.prog 7 #[.int .i64 n, .int .i64 first, .slice A N cap] w fun e w' => e = .returned (.bool true) ∧ Below w.heap.size w w' := by
  have S0 := Lib.hid (((St.start w).more (strsF13 A w.heap.size ss) ⟨hA, Nat.le_refl _⟩).more (eRc HS) hE)
  clear hE hA
  go_enter Try.func7, Try.ntmps7
  go_wp2_with fail
  refine (KN w (S0.out.fact 0 rfl)).out.mono ?_
  rintro e w1 ⟨rfl, hB⟩
  have S1 := Lib.hid (S0.out.on hB)
  clear hB S0
  go_wp2_with (first
    | (refine wpList_store_st rfl 23 _ _ rfl S1.out _ #[.int .i64 4000, .string ⟨#[]⟩, .string ⟨#[]⟩] _ rfl rfl (by rfl) rfl (fil_one13 _ _ _) ?_; intro pf0 w2 hp hS hBn; (try rw [← hp]); have S2 := Lib.hid hS; clear hS hp hBn)
    | (refine wpList_load_st rfl 23 _ rfl S2.out 0 _ _ rfl rfl _ Try.underlying23 rfl (by rfl) ?_))
  refine (pf w2 ((S2.out.fact 1 rfl).1.more (S2.out.fact 1 rfl).2)).out.mono ?_
  rintro e w3 ⟨rfl, hB⟩
  have S3 := Lib.hid (S2.out.on hB)
  clear hB S2
  clear pf
  go_wp2_with fail
  refine (Lib.hid (HC.out w3 (S3.out.fact 0 rfl))).out.mono ?_
  rintro e w4 ⟨rfl, hB⟩
  have S4 := Lib.hid (S3.out.on hB)
  clear hB S3
  go_wp2
  go_ret
  exact ⟨rfl, S4.out.below⟩

set_option maxHeartbeats 1000000 in
theorem recordOnly_bad {E : World → Prop} (HS : Hid (RecK E)) (HC : Hid (RecordedK E)) (n first : Int) (A : Option Addr) (N cap : Nat) (ss : List ByteArray) (w : World) (hE : E w) (hA : StrsAt w w.heap.size A ss) (jN : ((N : Int) == 0) = false) (ae : Int) (jae : (ae != 0) = true)
    (KN : ∀ (W : World) (_h : E W), Hid (Calls Try.prog 22 #[.int .i64 4000] W fun e w' => e = .returned (.tuple #[.agg #[.int .i64 4000, .string ⟨#[]⟩, .string ⟨#[]⟩], .int .i64 0]) ∧ Below W.heap.size W w'))
    (pf : ∀ (W : World) (_hA : StrsAt W W.heap.size A ss), Hid (Calls Try.prog 8 #[.agg #[.int .i64 4000, .string ⟨#[]⟩, .string ⟨#[]⟩], .slice A N cap] W fun e w' => e = .returned (.bool false) ∧ Below W.heap.size W w'))
    (KA : ∀ (W : World) (_h : E W) (_hA : StrsAt W W.heap.size A ss), Hid (Calls Try.prog 14 #[.agg #[.int .i64 4000, .string ⟨#[]⟩, .string ⟨#[]⟩], .int .i64 n, .slice A N cap] W fun e w' => e = .returned (.tuple #[.agg #[.int .i64 0, .string ⟨#[]⟩, .string ⟨#[]⟩], .int .i64 ae]) ∧ Below W.heap.size W w')) :
    Calls Try.prog 7 #[.int .i64 n, .int .i64 first, .slice A N cap] w fun e w' => e = .returned (.bool true) ∧ Below w.heap.size w w' := by
  have S0 := Lib.hid (((St.start w).more (strsF13 A w.heap.size ss) ⟨hA, Nat.le_refl _⟩).more (eRc HS) hE)
  clear hE hA
  go_enter Try.func7, Try.ntmps7
  go_wp2_with fail
  refine (KN w (S0.out.fact 0 rfl)).out.mono ?_
  rintro e w1 ⟨rfl, hB⟩
  have S1 := Lib.hid (S0.out.on hB)
  clear hB S0
  go_wp2_with (first
    | (refine wpList_store_st rfl 23 _ _ rfl S1.out _ #[.int .i64 4000, .string ⟨#[]⟩, .string ⟨#[]⟩] _ rfl rfl (by rfl) rfl (fil_one13 _ _ _) ?_; intro pf0 w2 hp hS hBn; (try rw [← hp]); have S2 := Lib.hid hS; clear hS hp hBn)
    | (refine wpList_load_st rfl 23 _ rfl S2.out 0 _ _ rfl rfl _ Try.underlying23 rfl (by rfl) ?_))
  refine (pf w2 ((S2.out.fact 1 rfl).1.more (S2.out.fact 1 rfl).2)).out.mono ?_
  rintro e w3 ⟨rfl, hB⟩
  have S3 := Lib.hid (S2.out.on hB)
  clear hB S2
  clear pf
  go_wp2_with (refine wpList_load_st rfl 23 _ rfl S3.out 0 _ _ rfl rfl _ Try.underlying23 rfl (by rfl) ?_)
  refine (KA w3 (S3.out.fact 0 rfl) ((S3.out.fact 1 rfl).1.more (S3.out.fact 1 rfl).2)).out.mono ?_
  rintro e w4 ⟨rfl, hB⟩
  have S4 := Lib.hid (S3.out.on hB)
  clear hB S3
  go_wp2_with (refine wpList_store_st rfl 23 _ _ rfl S4.out _ #[.int .i64 0, .string ⟨#[]⟩, .string ⟨#[]⟩] _ rfl rfl (by rfl) rfl (fil_one13 _ _ _) ?_; intro px w5 hp hS hBn; (try rw [← hp]); have S5 := Lib.hid hS; clear hS hp hBn)
  refine (Lib.hid (HC.out w5 (S5.out.fact 0 rfl))).out.mono ?_
  rintro e w6 ⟨rfl, hB⟩
  have S6 := Lib.hid (S5.out.on hB)
  clear hB S5
  go_wp2
  go_ret
  exact ⟨rfl, S6.out.below⟩

set_option maxHeartbeats 4000000 in
theorem recordOnly_same {E : World → Prop} (HS : Hid (RecK E)) (HC : Hid (RecordedK E)) (n : Int) (A : Option Addr) (N cap : Nat) (ss : List ByteArray) (w : World) (hE : E w) (hA : StrsAt w w.heap.size A ss) (hl : N = ss.length) (jN : ((N : Int) == 0) = false) (hN : 0 < N) (Z : Int) (jZ : (0 < Z) = True) (xm : Int) (xk xl s b t0 : ByteArray) (ht0 : ss[0]? = some t0) (hcat : ¬ 9223372036854775807 < b.size + b.size)
    (KN : ∀ (W : World) (_h : E W), Hid (Calls Try.prog 22 #[.int .i64 4000] W fun e w' => e = .returned (.tuple #[.agg #[.int .i64 4000, .string ⟨#[]⟩, .string ⟨#[]⟩], .int .i64 0]) ∧ Below W.heap.size W w'))
    (pf : ∀ (W : World) (_hA : StrsAt W W.heap.size A ss), Hid (Calls Try.prog 8 #[.agg #[.int .i64 4000, .string ⟨#[]⟩, .string ⟨#[]⟩], .slice A N cap] W fun e w' => e = .returned (.bool false) ∧ Below W.heap.size W w'))
    (KA : ∀ (W : World) (_h : E W) (_hA : StrsAt W W.heap.size A ss), Hid (Calls Try.prog 14 #[.agg #[.int .i64 4000, .string ⟨#[]⟩, .string ⟨#[]⟩], .int .i64 n, .slice A N cap] W fun e w' => e = .returned (.tuple #[.agg #[.int .i64 xm, .string xk, .string xl], .int .i64 0]) ∧ Below W.heap.size W w'))
    (KF : ∀ (W : World) (_h : E W), Hid (Calls Try.prog 23 #[.agg #[.int .i64 xm, .string xk, .string xl]] W fun e w' => e = .returned (.string s) ∧ Below W.heap.size W w'))
    (KS : ∀ (W : World) (_h : E W), Hid (Calls Try.prog 12 #[.string s, .int .i64 n] W fun e w' => ∃ A c, e = .returned (.tuple #[.slice A N c, .int .i64 Z]) ∧ StrsAt w' w'.heap.size A ss ∧ N ≤ c ∧ Below W.heap.size W w'))
    (KP : ∀ (W : World) (_h : E W), Hid (Calls Try.prog 10 #[.int .i64 n, .string t0] W fun e w' => e = .returned (.tuple #[.string b, .int .i64 0]) ∧ Below W.heap.size W w'))
    (K2 : ∀ (W : World) (_h : E W), Hid (Calls Try.prog 12 #[.string (b ++ b), .int .i64 n] W fun e w' => ∃ A c, e = .returned (.tuple #[.slice A 1 c, .int .i64 (b.size : Int)]) ∧ StrsAt w' w'.heap.size A [t0] ∧ 1 ≤ c ∧ Below W.heap.size W w')) :
    Calls Try.prog 7 #[.int .i64 n, .int .i64 n, .slice A N cap] w fun e w' => e = .returned (.bool true) ∧ Below w.heap.size w w' := by
  have Hcat := Lib.hid hcat
  clear hcat
  obtain ⟨b0, off, rfl, hb0, hc0⟩ := hA 0 (by omega)
  have Hc : Hid (∀ W : World, Below w.heap.size w W → W.cell? ⟨b0, off, none⟩ = some (.string t0)) := Lib.hid (fun W hB => by
    have e : ss[0] = t0 := by rw [List.getElem?_eq_getElem (by omega)] at ht0; exact Option.some.inj ht0
    rw [e] at hc0
    exact (hB.cell (p := ⟨b0, off, none⟩) hb0).trans hc0)
  clear hb0 hc0 ht0 hl
  have S0 := Lib.hid (((St.start w).more (strsF13 (some ⟨b0, off, none⟩) w.heap.size ss) ⟨hA, Nat.le_refl _⟩).more (eRc HS) hE)
  clear hE hA
  go_enter Try.func7, Try.ntmps7
  go_wp2_with fail
  refine (KN w (S0.out.fact 0 rfl)).out.mono ?_
  rintro e w1 ⟨rfl, hB⟩
  have S1 := Lib.hid (S0.out.on hB)
  clear hB S0
  go_wp2_with (first
    | (refine wpList_store_st rfl 23 _ _ rfl S1.out _ #[.int .i64 4000, .string ⟨#[]⟩, .string ⟨#[]⟩] _ rfl rfl (by rfl) rfl (fil_one13 _ _ _) ?_; intro pf0 w2 hp hS hBn; (try rw [← hp]); have S2 := Lib.hid hS; clear hS hp hBn)
    | (refine wpList_load_st rfl 23 _ rfl S2.out 0 _ _ rfl rfl _ Try.underlying23 rfl (by rfl) ?_))
  refine (pf w2 ((S2.out.fact 1 rfl).1.more (S2.out.fact 1 rfl).2)).out.mono ?_
  rintro e w3 ⟨rfl, hB⟩
  have S3 := Lib.hid (S2.out.on hB)
  clear hB S2
  clear pf
  go_wp2_with (refine wpList_load_st rfl 23 _ rfl S3.out 0 _ _ rfl rfl _ Try.underlying23 rfl (by rfl) ?_)
  refine (KA w3 (S3.out.fact 0 rfl) ((S3.out.fact 1 rfl).1.more (S3.out.fact 1 rfl).2)).out.mono ?_
  rintro e w4 ⟨rfl, hB⟩
  have S4 := Lib.hid (S3.out.on hB)
  clear hB S3
  clear KA
  go_wp2_with (first
    | (refine wpList_store_st rfl 23 _ _ rfl S4.out _ #[.int .i64 xm, .string xk, .string xl] _ rfl rfl (by rfl) rfl (fil_one13 _ _ _) ?_; intro px w5 hp hS hBn; (try rw [← hp]); have S5 := Lib.hid hS; clear hS hp hBn)
    | (refine wpList_load_st rfl 23 _ rfl S5.out 0 _ _ rfl rfl _ Try.underlying23 rfl (by rfl) ?_))
  refine (KF w5 (S5.out.fact 0 rfl)).out.mono ?_
  rintro e w6 ⟨rfl, hB⟩
  have S6 := Lib.hid (S5.out.on hB)
  clear hB S5
  go_wp2_with fail
  refine (KS w6 (S6.out.fact 0 rfl)).out.mono ?_
  rintro e w7 ⟨A1, c1, rfl, hT, _, hB⟩
  have S7 := Lib.hid ((S6.out.on hB).more (strsF13 A1 w7.heap.size ss) ⟨hT, Nat.le_refl _⟩)
  clear hB hT S6
  obtain ⟨B1, hBe⟩ : ∃ b, b = w7.heap.size := ⟨_, rfl⟩
  rw [← hBe] at S7
  clear hBe
  have hc1 := Hc.out w7 S7.out.below
  go_wp2_with fail
  refine (KP w7 (S7.out.fact 1 rfl)).out.mono ?_
  rintro e w8 ⟨rfl, hB⟩
  have S8 := Lib.hid (S7.out.on hB)
  clear hB S7
  clear hc1
  have hcat := Hcat.out
  go_wp2_with fail
  refine (K2 w8 (S8.out.fact 1 rfl)).out.mono ?_
  rintro e w9 ⟨A2, c2, rfl, hT, _, hB⟩
  have S9 := Lib.hid ((S8.out.on hB).more (strsF13 A2 w9.heap.size [t0]) ⟨hT, Nat.le_refl _⟩)
  clear hB hT S8
  obtain ⟨B2, hBe⟩ : ∃ b, b = w9.heap.size := ⟨_, rfl⟩
  rw [← hBe] at S9
  clear hBe
  clear hcat
  go_wp2_with fail
  refine (Lib.hid (HC.out w9 (S9.out.fact 2 rfl))).out.mono ?_
  rintro e w10 ⟨rfl, hB⟩
  have S10 := Lib.hid (S9.out.on hB)
  clear hB S9
  go_wp2
  go_ret
  exact ⟨rfl, S10.out.below⟩

set_option maxHeartbeats 4000000 in
theorem recordOnly_other {E : World → Prop} (HS : Hid (RecK E)) (HC : Hid (RecordedK E)) (n first : Int) (A : Option Addr) (N cap : Nat) (ss : List ByteArray) (w : World) (hE : E w) (hA : StrsAt w w.heap.size A ss) (hl : N = ss.length) (jN : ((N : Int) == 0) = false) (hN : 0 < N) (j1 : (first == n) = false) (j2 : (first != n) = true) (xm : Int) (xk xl s b t0 : ByteArray) (ht0 : ss[0]? = some t0) (hcat : ¬ 9223372036854775807 < b.size + b.size)
    (KN : ∀ (W : World) (_h : E W), Hid (Calls Try.prog 22 #[.int .i64 4000] W fun e w' => e = .returned (.tuple #[.agg #[.int .i64 4000, .string ⟨#[]⟩, .string ⟨#[]⟩], .int .i64 0]) ∧ Below W.heap.size W w'))
    (pf : ∀ (W : World) (_hA : StrsAt W W.heap.size A ss), Hid (Calls Try.prog 8 #[.agg #[.int .i64 4000, .string ⟨#[]⟩, .string ⟨#[]⟩], .slice A N cap] W fun e w' => e = .returned (.bool false) ∧ Below W.heap.size W w'))
    (KA : ∀ (W : World) (_h : E W) (_hA : StrsAt W W.heap.size A ss), Hid (Calls Try.prog 14 #[.agg #[.int .i64 4000, .string ⟨#[]⟩, .string ⟨#[]⟩], .int .i64 n, .slice A N cap] W fun e w' => e = .returned (.tuple #[.agg #[.int .i64 xm, .string xk, .string xl], .int .i64 0]) ∧ Below W.heap.size W w'))
    (KF : ∀ (W : World) (_h : E W), Hid (Calls Try.prog 23 #[.agg #[.int .i64 xm, .string xk, .string xl]] W fun e w' => e = .returned (.string s) ∧ Below W.heap.size W w'))
    (KS : ∀ (W : World) (_h : E W), Hid (Calls Try.prog 12 #[.string s, .int .i64 first] W fun e w' => ∃ A c, e = .returned (.tuple #[.slice A 0 c, .int .i64 0]) ∧ StrsAt w' w'.heap.size A ([] : List ByteArray) ∧ 0 ≤ c ∧ Below W.heap.size W w'))
    (KP : ∀ (W : World) (_h : E W), Hid (Calls Try.prog 10 #[.int .i64 n, .string t0] W fun e w' => e = .returned (.tuple #[.string b, .int .i64 0]) ∧ Below W.heap.size W w'))
    (K2 : ∀ (W : World) (_h : E W), Hid (Calls Try.prog 12 #[.string (b ++ b), .int .i64 n] W fun e w' => ∃ A c, e = .returned (.tuple #[.slice A 1 c, .int .i64 (b.size : Int)]) ∧ StrsAt w' w'.heap.size A [t0] ∧ 1 ≤ c ∧ Below W.heap.size W w')) :
    Calls Try.prog 7 #[.int .i64 n, .int .i64 first, .slice A N cap] w fun e w' => e = .returned (.bool true) ∧ Below w.heap.size w w' := by
  have Hcat := Lib.hid hcat
  clear hcat
  obtain ⟨b0, off, rfl, hb0, hc0⟩ := hA 0 (by omega)
  have Hc : Hid (∀ W : World, Below w.heap.size w W → W.cell? ⟨b0, off, none⟩ = some (.string t0)) := Lib.hid (fun W hB => by
    have e : ss[0] = t0 := by rw [List.getElem?_eq_getElem (by omega)] at ht0; exact Option.some.inj ht0
    rw [e] at hc0
    exact (hB.cell (p := ⟨b0, off, none⟩) hb0).trans hc0)
  clear hb0 hc0 ht0 hl
  have S0 := Lib.hid (((St.start w).more (strsF13 (some ⟨b0, off, none⟩) w.heap.size ss) ⟨hA, Nat.le_refl _⟩).more (eRc HS) hE)
  clear hE hA
  go_enter Try.func7, Try.ntmps7
  go_wp2_with fail
  refine (KN w (S0.out.fact 0 rfl)).out.mono ?_
  rintro e w1 ⟨rfl, hB⟩
  have S1 := Lib.hid (S0.out.on hB)
  clear hB S0
  go_wp2_with (first
    | (refine wpList_store_st rfl 23 _ _ rfl S1.out _ #[.int .i64 4000, .string ⟨#[]⟩, .string ⟨#[]⟩] _ rfl rfl (by rfl) rfl (fil_one13 _ _ _) ?_; intro pf0 w2 hp hS hBn; (try rw [← hp]); have S2 := Lib.hid hS; clear hS hp hBn)
    | (refine wpList_load_st rfl 23 _ rfl S2.out 0 _ _ rfl rfl _ Try.underlying23 rfl (by rfl) ?_))
  refine (pf w2 ((S2.out.fact 1 rfl).1.more (S2.out.fact 1 rfl).2)).out.mono ?_
  rintro e w3 ⟨rfl, hB⟩
  have S3 := Lib.hid (S2.out.on hB)
  clear hB S2
  clear pf
  go_wp2_with (refine wpList_load_st rfl 23 _ rfl S3.out 0 _ _ rfl rfl _ Try.underlying23 rfl (by rfl) ?_)
  refine (KA w3 (S3.out.fact 0 rfl) ((S3.out.fact 1 rfl).1.more (S3.out.fact 1 rfl).2)).out.mono ?_
  rintro e w4 ⟨rfl, hB⟩
  have S4 := Lib.hid (S3.out.on hB)
  clear hB S3
  clear KA
  go_wp2_with (first
    | (refine wpList_store_st rfl 23 _ _ rfl S4.out _ #[.int .i64 xm, .string xk, .string xl] _ rfl rfl (by rfl) rfl (fil_one13 _ _ _) ?_; intro px w5 hp hS hBn; (try rw [← hp]); have S5 := Lib.hid hS; clear hS hp hBn)
    | (refine wpList_load_st rfl 23 _ rfl S5.out 0 _ _ rfl rfl _ Try.underlying23 rfl (by rfl) ?_))
  refine (KF w5 (S5.out.fact 0 rfl)).out.mono ?_
  rintro e w6 ⟨rfl, hB⟩
  have S6 := Lib.hid (S5.out.on hB)
  clear hB S5
  go_wp2_with fail
  refine (KS w6 (S6.out.fact 0 rfl)).out.mono ?_
  rintro e w7 ⟨A1, c1, rfl, hT, _, hB⟩
  have S7 := Lib.hid ((S6.out.on hB).more (strsF13 A1 w7.heap.size ([] : List ByteArray)) ⟨hT, Nat.le_refl _⟩)
  clear hB hT S6
  obtain ⟨B1, hBe⟩ : ∃ b, b = w7.heap.size := ⟨_, rfl⟩
  rw [← hBe] at S7
  clear hBe
  have hc1 := Hc.out w7 S7.out.below
  go_wp2_with fail
  refine (KP w7 (S7.out.fact 1 rfl)).out.mono ?_
  rintro e w8 ⟨rfl, hB⟩
  have S8 := Lib.hid (S7.out.on hB)
  clear hB S7
  clear hc1
  have hcat := Hcat.out
  go_wp2_with fail
  refine (K2 w8 (S8.out.fact 1 rfl)).out.mono ?_
  rintro e w9 ⟨A2, c2, rfl, hT, _, hB⟩
  have S9 := Lib.hid ((S8.out.on hB).more (strsF13 A2 w9.heap.size [t0]) ⟨hT, Nat.le_refl _⟩)
  clear hB hT S8
  obtain ⟨B2, hBe⟩ : ∃ b, b = w9.heap.size := ⟨_, rfl⟩
  rw [← hBe] at S9
  clear hBe
  clear hcat
  go_wp2_with fail
  refine (Lib.hid (HC.out w9 (S9.out.fact 2 rfl))).out.mono ?_
  rintro e w10 ⟨rfl, hB⟩
  have S10 := Lib.hid (S9.out.on hB)
  clear hB S9
  go_wp2
  go_ret
  exact ⟨rfl, S10.out.below⟩

theorem recordOnly_walk {E : World → Prop} (HS : Hid (RecK E)) (HC : Hid (RecordedK E)) (HF : Hid (FilR E)) (n first : Int) (A : Option Addr) (N cap : Nat) (ss : List ByteArray) (w : World) (hE : E w) (hI : IsStrs w A N cap ss) : Calls Try.prog 7 #[.int .i64 n, .int .i64 first, .slice A N cap] w fun e w' => e = .returned (.bool true) ∧ Below w.heap.size w w' := by
  obtain ⟨hN, hNm, hA, hsz⟩ := hI.strs
  have hcap : ss.length ≤ cap := by
    rcases hI with ⟨_, e1, e2, e3⟩ | ⟨x, _, e1, _, e2, _⟩
    · rw [e3]; exact Nat.zero_le _
    · omega
  subst hN
  have KN := fun W (h : E W) => Lib.hid (HF.out.new 4000 W h)
  have pf := fun W (h : StrsAt W W.heap.size A ss) => Lib.hid (far13_any 4000 ⟨#[]⟩ ⟨#[]⟩ A cap ss W h hNm hsz)
  cases hf : farB ⟨#[]⟩ ⟨#[]⟩ ss
  · rw [hf] at pf
    obtain ⟨_, h30, hss⟩ := farB_no hf
    have hz : ∀ s ∈ ss, s.size ≤ 9000 := fun s hs => by have := (hss s hs).1; omega
    by_cases h0 : ss.length = 0
    · exact recordOnly_none HS HC n first A _ cap ss w hE hA (by rw [h0]; rfl) KN pf
    · have jN : ((ss.length : Int) == 0) = false := by rw [beq_eq_false_iff_ne]; omega
      have f0s : Fi.small (Fi.new 4000) := ⟨Nat.zero_le _, Nat.zero_le _⟩
      have KA := fun W (h : E W) (hA : StrsAt W W.heap.size A ss) => Lib.hid (HS.out.add (Fi.new 4000) n A ss.length cap ss W h f0s hA rfl (by omega) hcap hz)
      by_cases he : Rc.addE (Fi.new 4000) n ss = 0
      · rw [he] at KA
        obtain ⟨_, hok, hle⟩ := Rc.addE_zero.1 he
        have hxs := Rc.add_small (Fi.new 4000) n ss
        have KF := fun W (h : E W) => Lib.hid (HF.out.read (Rc.add (Fi.new 4000) n ss) W h hxs)
        have hrd : bl (Fi.read (Rc.add (Fi.new 4000) n ss)) = Rc.recs n (ss.map bl) := by rw [Rc.add_read he]; rfl
        have hrs : (Fi.read (Rc.add (Fi.new 4000) n ss)).size ≤ 18000 := by rw [Fi.read_size]; unfold Fi.small at hxs; omega
        have KS := fun W (h : E W) => Lib.hid (HS.out.scan (Fi.read (Rc.add (Fi.new 4000) n ss)) first W h hrs)
        rw [hrd] at KS
        obtain ⟨t0, tr, rfl⟩ : ∃ t r, ss = t :: r := by
          cases ss with
          | nil => exact absurd rfl h0
          | cons t r => exact ⟨t, r, rfl⟩
        have hk0 : Rc.nOk n = true ∧ (bl t0).length ≤ 1000 := hok.1
        have hp0 := Rc.putE_zero.2 hk0
        have KP := fun W (h : E W) => Lib.hid (HS.out.put n t0 W h (by have := hz t0 (by simp); omega))
        rw [hp0, Rc.putS_yes hp0] at KP
        have hb : (strOf (Rc.rec1 n (bl t0))).size ≤ 2000 := by
          rw [Rc.strOf_size]; have := Rc.rec1_le hk0.1 hk0.2; omega
        have K2 := fun W (h : E W) => Lib.hid (HS.out.scan (strOf (Rc.rec1 n (bl t0)) ++ strOf (Rc.rec1 n (bl t0))) n W h (by rw [ByteArray.size_append]; omega))
        have e2 : Rc.scan (bl (strOf (Rc.rec1 n (bl t0)) ++ strOf (Rc.rec1 n (bl t0)))) n = ([bl t0], (strOf (Rc.rec1 n (bl t0))).size) := by
          have h2 := Rc.scan_other hk0.1 hk0.2 (first := n + 1) (by omega) []
          rw [List.append_nil] at h2
          rw [bl_append, bl_strOf, Rc.scan_rec hk0.1 hk0.2, h2, Rc.strOf_size]
          rfl
        rw [e2] at K2
        have e3 : ([bl t0].map strOf) = [t0] := Rc.map_back [t0]
        simp only [e3, List.length_singleton] at K2
        by_cases hfn : first = n
        · subst hfn
          rw [Rc.scan_whole hok] at KS
          simp only [List.length_map, Rc.map_back] at KS
          refine recordOnly_same HS HC first A _ cap (t0 :: tr) w hE hA rfl jN (by simp) _ (eq_true ?_) _ _ _ _ _ t0 rfl (by omega) KN pf KA KF KS KP K2
          have := Rc.rec_pos first (bl t0)
          show (0 : Int) < ((Rc.rec1 first (bl t0) ++ Rc.recs (first + 1) (tr.map bl)).length : Nat)
          rw [List.length_append]; omega
        · have e4 : Rc.scan (Rc.recs n ((t0 :: tr).map bl)) first = ([], 0) := Rc.scan_other hk0.1 hk0.2 hfn _
          rw [e4] at KS
          exact recordOnly_other HS HC n first A _ cap (t0 :: tr) w hE hA rfl jN (by simp) (by rw [beq_eq_false_iff_ne]; exact hfn) (by rw [bne_iff_ne]; exact hfn) _ _ _ _ _ t0 rfl (by omega) KN pf KA KF KS KP K2
      · rw [Rc.add_bad he] at KA
        exact recordOnly_bad HS HC n first A _ cap ss w hE hA jN _ (by rw [bne_iff_ne]; exact he) KN pf KA
  · rw [hf] at pf
    exact recordOnly_far HS HC n first A _ cap ss w hE hA KN pf
end Go.Proofs.Ytfapfnbehhekhaa
