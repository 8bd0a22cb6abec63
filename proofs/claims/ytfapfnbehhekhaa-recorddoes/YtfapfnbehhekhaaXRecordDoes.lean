/-
  Layer 13 (record): the law RecordDoes, over the structure beside the references (printed by tools/gen-recdoes.py).
-/
import Derived.Test.YtfapfnbehhekhaaXJd
import Derived.Test.YtfapfnbehhekhaaXRefRec4
import Derived.Test.YtfapfnbehhekhaaXRefOwn
import Derived.Test.YtfapfnbehhekhaaXRefTexts
namespace Go.Proofs.Ytfapfnbehhekhaa
set_option maxRecDepth 10000
open Go.RowKit

set_option maxHeartbeats 1000000 in
theorem recordDoes_far {E : World → Prop} (HS : Hid (RecK E)) (m : Int) (k l : ByteArray) (n : Int) (A : Option Addr) (N cap : Nat) (ss : List ByteArray) (s : ByteArray) (w : World) (hE : E w) (hA : StrsAt w w.heap.size A ss)
    (pf : ∀ (W : World) (_hA : StrsAt W W.heap.size A ss), Hid (Calls Try.prog 8 #[.agg #[.int .i64 m, .string k, .string l], .slice A N cap] W fun e w' => e = .returned (.bool true) ∧ Below W.heap.size W w')) :
    Calls Try.prog 3 #[.agg #[.int .i64 m, .string k, .string l], .int .i64 n, .slice A N cap, .string s] w fun e w' => e = .returned (.bool true) ∧ Below w.heap.size w w' := by
  have S0 := Lib.hid ((((St.start w).more (strsF13 A w.heap.size ss) ⟨hA, Nat.le_refl _⟩).more (eRc HS) hE).new #[.int .i64 m, .string k, .string l] 23)
  clear hE hA
  go_enter Try.func3, Try.ntmps3
  go_wp2_with (refine wpList_load_st rfl 23 _ rfl S0.out 0 _ _ rfl rfl _ Try.underlying23 rfl (by rfl) ?_)
  refine (pf _ ((S0.out.fact 1 rfl).1.more (S0.out.fact 1 rfl).2)).out.mono ?_
  rintro e w1 ⟨rfl, hB⟩
  have S1 := Lib.hid (S0.out.on hB)
  clear hB S0
  clear pf
  obtain ⟨p0, hp0⟩ : ∃ p, p = w.heap.size := ⟨_, rfl⟩
  rw [← hp0] at S1 ⊢
  clear hp0
  go_wp2
  go_ret
  exact ⟨rfl, S1.out.below⟩

set_option maxHeartbeats 1000000 in
theorem recordDoes_long {E : World → Prop} (HS : Hid (RecK E)) (m : Int) (k l : ByteArray) (n : Int) (A : Option Addr) (N cap : Nat) (ss : List ByteArray) (s : ByteArray) (w : World) (hE : E w) (hA : StrsAt w w.heap.size A ss) (j1 : ((1100 : Int) < (s.size : Int)) = True)
    (pf : ∀ (W : World) (_hA : StrsAt W W.heap.size A ss), Hid (Calls Try.prog 8 #[.agg #[.int .i64 m, .string k, .string l], .slice A N cap] W fun e w' => e = .returned (.bool false) ∧ Below W.heap.size W w')) :
    Calls Try.prog 3 #[.agg #[.int .i64 m, .string k, .string l], .int .i64 n, .slice A N cap, .string s] w fun e w' => e = .returned (.bool true) ∧ Below w.heap.size w w' := by
  have S0 := Lib.hid ((((St.start w).more (strsF13 A w.heap.size ss) ⟨hA, Nat.le_refl _⟩).more (eRc HS) hE).new #[.int .i64 m, .string k, .string l] 23)
  clear hE hA
  go_enter Try.func3, Try.ntmps3
  go_wp2_with (refine wpList_load_st rfl 23 _ rfl S0.out 0 _ _ rfl rfl _ Try.underlying23 rfl (by rfl) ?_)
  refine (pf _ ((S0.out.fact 1 rfl).1.more (S0.out.fact 1 rfl).2)).out.mono ?_
  rintro e w1 ⟨rfl, hB⟩
  have S1 := Lib.hid (S0.out.on hB)
  clear hB S0
  clear pf
  obtain ⟨p0, hp0⟩ : ∃ p, p = w.heap.size := ⟨_, rfl⟩
  rw [← hp0] at S1 ⊢
  clear hp0
  go_wp2
  go_ret
  exact ⟨rfl, S1.out.below⟩

set_option maxHeartbeats 4000000 in
theorem recordDoes_go {E : World → Prop} (HS : Hid (RecK E)) (HC : Hid (RecordedK E)) (m : Int) (k l : ByteArray) (n : Int) (A : Option Addr) (N cap : Nat) (ss : List ByteArray) (s : ByteArray) (w : World) (hE : E w) (hA : StrsAt w w.heap.size A ss) (j1 : ((1100 : Int) < (s.size : Int)) = False) (xm ym : Int) (xk xl yk yl b : ByteArray) (pe ae q1 q2 e2 : Int) (L1 L2 : Nat) (t1 t2 : List ByteArray)
    (pf : ∀ (W : World) (_hA : StrsAt W W.heap.size A ss), Hid (Calls Try.prog 8 #[.agg #[.int .i64 m, .string k, .string l], .slice A N cap] W fun e w' => e = .returned (.bool false) ∧ Below W.heap.size W w'))
    (KO : ∀ (W : World) (_hA : StrsAt W W.heap.size A ss), Hid (Calls Try.prog 9 #[.slice A N cap] W fun e w' => ∃ A2 c2, e = .returned (.slice A2 N c2) ∧ StrsAt w' w'.heap.size A2 ss ∧ Below W.heap.size W w'))
    (KP : ∀ (W : World) (_h : E W), Hid (Calls Try.prog 10 #[.int .i64 n, .string s] W fun e w' => e = .returned (.tuple #[.string b, .int .i64 pe]) ∧ Below W.heap.size W w'))
    (RP : ∀ (W : World) , Hid (Calls Try.prog 11 #[.int .i64 n, .string s] W fun e w' => e = .returned (.tuple #[.string b, .int .i64 pe]) ∧ Below W.heap.size W w'))
    (KS : ∀ (W : World) (_h : E W), Hid (Calls Try.prog 12 #[.string s, .int .i64 n] W fun e w' => ∃ A c, e = .returned (.tuple #[.slice A L1 c, .int .i64 q1]) ∧ StrsAt w' w'.heap.size A t1 ∧ L1 ≤ c ∧ Below W.heap.size W w'))
    (RS : ∀ (W : World) , Hid (Calls Try.prog 13 #[.string s, .int .i64 n] W fun e w' => ∃ A c, e = .returned (.tuple #[.slice A L1 c, .int .i64 q1]) ∧ StrsAt w' w'.heap.size A t1 ∧ L1 ≤ c ∧ Below W.heap.size W w'))
    (KA : ∀ (W : World) (_h : E W) (_hA : StrsAt W W.heap.size A ss), Hid (Calls Try.prog 14 #[.agg #[.int .i64 m, .string k, .string l], .int .i64 n, .slice A N cap] W fun e w' => e = .returned (.tuple #[.agg #[.int .i64 xm, .string xk, .string xl], .int .i64 ae]) ∧ Below W.heap.size W w'))
    (RA : ∀ (W : World) (A2 : Option Addr) (c2 : Nat) (_hA : StrsAt W W.heap.size A2 ss), Hid (Calls Try.prog 15 #[.agg #[.int .i64 m, .string k, .string l], .int .i64 n, .slice A2 N c2] W fun e w' => e = .returned (.tuple #[.agg #[.int .i64 xm, .string xk, .string xl], .int .i64 ae]) ∧ Below W.heap.size W w'))
    (KR : ∀ (W : World) (_h : E W), Hid (Calls Try.prog 16 #[.agg #[.int .i64 m, .string k, .string l], .int .i64 n] W fun e w' => ∃ A c, e = .returned (.tuple #[.slice A L2 c, .int .i64 e2]) ∧ StrsAt w' w'.heap.size A t2 ∧ L2 ≤ c ∧ Below W.heap.size W w'))
    (RR : ∀ (W : World) , Hid (Calls Try.prog 17 #[.agg #[.int .i64 m, .string k, .string l], .int .i64 n] W fun e w' => ∃ A c, e = .returned (.tuple #[.slice A L2 c, .int .i64 e2]) ∧ StrsAt w' w'.heap.size A t2 ∧ L2 ≤ c ∧ Below W.heap.size W w'))
    (KM : ∀ (W : World) (_h : E W), Hid (Calls Try.prog 18 #[.agg #[.int .i64 m, .string k, .string l], .int .i64 n] W fun e w' => e = .returned (.tuple #[.agg #[.int .i64 ym, .string yk, .string yl], .int .i64 q2, .int .i64 e2]) ∧ Below W.heap.size W w'))
    (RM : ∀ (W : World) , Hid (Calls Try.prog 19 #[.agg #[.int .i64 m, .string k, .string l], .int .i64 n] W fun e w' => e = .returned (.tuple #[.agg #[.int .i64 ym, .string yk, .string yl], .int .i64 q2, .int .i64 e2]) ∧ Below W.heap.size W w'))
    (KT1 : ∀ (W : World) (A B : Option Addr) (c d : Nat) (_hA : StrsAt W W.heap.size A t1) (_hB : StrsAt W W.heap.size B t1), Hid (Calls Try.prog 21 #[.slice A L1 c, .slice B L1 d] W fun e w' => e = .returned (.bool true) ∧ Below W.heap.size W w'))
    (KT2 : ∀ (W : World) (A B : Option Addr) (c d : Nat) (_hA : StrsAt W W.heap.size A t2) (_hB : StrsAt W W.heap.size B t2), Hid (Calls Try.prog 21 #[.slice A L2 c, .slice B L2 d] W fun e w' => e = .returned (.bool true) ∧ Below W.heap.size W w'))
    (KT3 : ∀ (W : World) (A B : Option Addr) (c d : Nat) (_hA : StrsAt W W.heap.size A ss) (_hB : StrsAt W W.heap.size B ss), Hid (Calls Try.prog 21 #[.slice A N c, .slice B N d] W fun e w' => e = .returned (.bool true) ∧ Below W.heap.size W w')) :
    Calls Try.prog 3 #[.agg #[.int .i64 m, .string k, .string l], .int .i64 n, .slice A N cap, .string s] w fun e w' => e = .returned (.bool true) ∧ Below w.heap.size w w' := by
  have S0 := Lib.hid ((((St.start w).more (strsF13 A w.heap.size ss) ⟨hA, Nat.le_refl _⟩).more (eRc HS) hE).new #[.int .i64 m, .string k, .string l] 23)
  clear hE hA
  go_enter Try.func3, Try.ntmps3
  go_wp2_with (refine wpList_load_st rfl 23 _ rfl S0.out 0 _ _ rfl rfl _ Try.underlying23 rfl (by rfl) ?_)
  refine (pf _ ((S0.out.fact 1 rfl).1.more (S0.out.fact 1 rfl).2)).out.mono ?_
  rintro e w1 ⟨rfl, hB⟩
  have S1 := Lib.hid (S0.out.on hB)
  clear hB S0
  clear pf
  obtain ⟨p0, hp0⟩ : ∃ p, p = w.heap.size := ⟨_, rfl⟩
  rw [← hp0] at S1 ⊢
  clear hp0
  go_wp2_with fail
  refine (KO w1 ((S1.out.fact 1 rfl).1.more (S1.out.fact 1 rfl).2)).out.mono ?_
  rintro e w2 ⟨A2, c2, rfl, hA2, hB⟩
  have S2 := Lib.hid ((S1.out.on hB).more (strsF13 A2 w2.heap.size ss) ⟨hA2, Nat.le_refl _⟩)
  clear hB hA2 S1 KO j1
  obtain ⟨B2, hBe⟩ : ∃ b, b = w2.heap.size := ⟨_, rfl⟩
  rw [← hBe] at S2
  clear hBe
  go_wp2_with fail
  refine (KP w2 (S2.out.fact 1 rfl)).out.mono ?_
  rintro e w3 ⟨rfl, hB⟩
  have S3 := Lib.hid (S2.out.on hB)
  clear hB S2
  go_wp2_with fail
  refine (RP w3).out.mono ?_
  rintro e w4 ⟨rfl, hB⟩
  have S4 := Lib.hid (S3.out.on hB)
  clear hB S3
  go_wp2_with fail
  refine (KS w4 (S4.out.fact 1 rfl)).out.mono ?_
  rintro e w5 ⟨A3, c3, rfl, hT, _, hB⟩
  have S5 := Lib.hid ((S4.out.on hB).more (strsF13 A3 w5.heap.size t1) ⟨hT, Nat.le_refl _⟩)
  clear hB hT S4
  obtain ⟨B3, hBe⟩ : ∃ b, b = w5.heap.size := ⟨_, rfl⟩
  rw [← hBe] at S5
  clear hBe
  go_wp2_with fail
  refine (RS w5).out.mono ?_
  rintro e w6 ⟨A4, c4, rfl, hT, _, hB⟩
  have S6 := Lib.hid ((S5.out.on hB).more (strsF13 A4 w6.heap.size t1) ⟨hT, Nat.le_refl _⟩)
  clear hB hT S5
  obtain ⟨B4, hBe⟩ : ∃ b, b = w6.heap.size := ⟨_, rfl⟩
  rw [← hBe] at S6
  clear hBe
  clear KP RP KS RS
  go_wp2_with (refine wpList_load_st rfl 23 _ rfl S6.out 0 _ _ rfl rfl _ Try.underlying23 rfl (by rfl) ?_)
  refine (KA w6 (S6.out.fact 3 rfl) ((S6.out.fact 4 rfl).1.more (S6.out.fact 4 rfl).2)).out.mono ?_
  rintro e w7 ⟨rfl, hB⟩
  have S7 := Lib.hid (S6.out.on hB)
  clear hB S6
  go_wp2_with (first
    | (refine wpList_store_st rfl 23 _ _ rfl S7.out _ #[.int .i64 xm, .string xk, .string xl] _ rfl rfl (by rfl) rfl (fil_one13 _ _ _) ?_; intro q1b w8 hp hS hBn; (try rw [← hp]); have S8 := Lib.hid hS; clear hS hp hBn)
    | (refine wpList_load_st rfl 23 _ rfl S8.out 1 _ _ rfl rfl _ Try.underlying23 rfl (by rfl) ?_))
  refine (RA w8 A2 c2 ((S8.out.fact 2 rfl).1.more (S8.out.fact 2 rfl).2)).out.mono ?_
  rintro e w9 ⟨rfl, hB⟩
  have S9 := Lib.hid (S8.out.on hB)
  clear hB S8
  clear KA RA
  go_wp2_with (first
    | (refine wpList_store_st rfl 23 _ _ rfl S9.out _ #[.int .i64 xm, .string xk, .string xl] _ rfl rfl (by rfl) rfl (fil_one13 _ _ _) ?_; intro q2b w10 hp hS hBn; (try rw [← hp]); have S10 := Lib.hid hS; clear hS hp hBn)
    | (refine wpList_load_st rfl 23 _ rfl S10.out 2 _ _ rfl rfl _ Try.underlying23 rfl (by rfl) ?_))
  refine (KR w10 (S10.out.fact 3 rfl)).out.mono ?_
  rintro e w11 ⟨A5, c5, rfl, hT, _, hB⟩
  have S11 := Lib.hid ((S10.out.on hB).more (strsF13 A5 w11.heap.size t2) ⟨hT, Nat.le_refl _⟩)
  clear hB hT S10
  obtain ⟨B5, hBe⟩ : ∃ b, b = w11.heap.size := ⟨_, rfl⟩
  rw [← hBe] at S11
  clear hBe
  go_wp2_with (refine wpList_load_st rfl 23 _ rfl S11.out 2 _ _ rfl rfl _ Try.underlying23 rfl (by rfl) ?_)
  refine (RR w11).out.mono ?_
  rintro e w12 ⟨A6, c6, rfl, hT, _, hB⟩
  have S12 := Lib.hid ((S11.out.on hB).more (strsF13 A6 w12.heap.size t2) ⟨hT, Nat.le_refl _⟩)
  clear hB hT S11
  obtain ⟨B6, hBe⟩ : ∃ b, b = w12.heap.size := ⟨_, rfl⟩
  rw [← hBe] at S12
  clear hBe
  clear KR RR
  go_wp2_with (refine wpList_load_st rfl 23 _ rfl S12.out 2 _ _ rfl rfl _ Try.underlying23 rfl (by rfl) ?_)
  refine (KM w12 (S12.out.fact 5 rfl)).out.mono ?_
  rintro e w13 ⟨rfl, hB⟩
  have S13 := Lib.hid (S12.out.on hB)
  clear hB S12
  go_wp2_with (first
    | (refine wpList_store_st rfl 23 _ _ rfl S13.out _ #[.int .i64 ym, .string yk, .string yl] _ rfl rfl (by rfl) rfl (fil_one13 _ _ _) ?_; intro q3b w14 hp hS hBn; (try rw [← hp]); have S14 := Lib.hid hS; clear hS hp hBn)
    | (refine wpList_load_st rfl 23 _ rfl S14.out 3 _ _ rfl rfl _ Try.underlying23 rfl (by rfl) ?_))
  refine (RM w14).out.mono ?_
  rintro e w15 ⟨rfl, hB⟩
  have S15 := Lib.hid (S14.out.on hB)
  clear hB S14
  clear KM RM
  go_wp2_with (refine wpList_store_st rfl 23 _ _ rfl S15.out _ #[.int .i64 ym, .string yk, .string yl] _ rfl rfl (by rfl) rfl (fil_one13 _ _ _) ?_; intro q4b w16 hp hS hBn; (try rw [← hp]); have S16 := Lib.hid hS; clear hS hp hBn)
  refine (Lib.hid (HC.out w16 (S16.out.fact 5 rfl))).out.mono ?_
  rintro e w17 ⟨rfl, hB⟩
  have S17 := Lib.hid (S16.out.on hB)
  clear hB S16
  go_wp2_with fail
  refine (KT1 w17 A3 A4 c3 c4 ((S17.out.fact 3 rfl).1.more (S17.out.fact 3 rfl).2) ((S17.out.fact 2 rfl).1.more (S17.out.fact 2 rfl).2)).out.mono ?_
  rintro e w18 ⟨rfl, hB⟩
  have S18 := Lib.hid (S17.out.on hB)
  clear hB S17
  have q1x := fun W => run_eql_file13 W xm xk xl
  go_wp2_with (first
    | (refine wpList_loadg_st (by rfl) 23 _ rfl S18.out 3 _ _ rfl rfl _ Try.underlying23 rfl (by rfl) ?_)
    | (refine wpList_loadg_st (by rfl) 23 _ rfl S18.out 2 _ _ rfl rfl _ Try.underlying23 rfl (by rfl) ?_))
  refine (KT2 w18 A5 A6 c5 c6 ((S18.out.fact 1 rfl).1.more (S18.out.fact 1 rfl).2) ((S18.out.fact 0 rfl).1.more (S18.out.fact 0 rfl).2)).out.mono ?_
  rintro e w19 ⟨rfl, hB⟩
  have S19 := Lib.hid (S18.out.on hB)
  clear hB S18
  clear q1x
  have q1y := fun W => run_eql_file13 W ym yk yl
  go_wp2_with (first
    | (refine wpList_loadg_st (by rfl) 23 _ rfl S19.out 1 _ _ rfl rfl _ Try.underlying23 rfl (by rfl) ?_)
    | (refine wpList_loadg_st (by rfl) 23 _ rfl S19.out 0 _ _ rfl rfl _ Try.underlying23 rfl (by rfl) ?_))
  refine (KT3 w19 A A2 cap c2 ((S19.out.fact 6 rfl).1.more (S19.out.fact 6 rfl).2) ((S19.out.fact 4 rfl).1.more (S19.out.fact 4 rfl).2)).out.mono ?_
  rintro e w20 ⟨rfl, hB⟩
  have S20 := Lib.hid (S19.out.on hB)
  clear hB S19
  clear q1y
  go_wp2
  go_ret
  exact ⟨rfl, S20.out.below⟩

theorem recordDoes_walk {E : World → Prop} (HS : Hid (RecK E)) (HC : Hid (RecordedK E)) (m : Int) (k l : ByteArray) (n : Int) (A : Option Addr) (N cap : Nat) (ss : List ByteArray) (s : ByteArray) (w : World) (hE : E w) (hI : IsStrs w A N cap ss) : Calls Try.prog 3 #[.agg #[.int .i64 m, .string k, .string l], .int .i64 n, .slice A N cap, .string s] w fun e w' => e = .returned (.bool true) ∧ Below w.heap.size w w' := by
  obtain ⟨hN, hNm, hA, hsz⟩ := hI.strs
  have hcap := hI.cap13
  subst hN
  have pf := fun W (h : StrsAt W W.heap.size A ss) => Lib.hid (far13_any m k l A cap ss W h hNm hsz)
  cases hf : farB k l ss
  case true => rw [hf] at pf; exact recordDoes_far HS m k l n A _ cap ss s w hE hA pf
  rw [hf] at pf
  by_cases j1 : (1100 : Int) < (s.size : Int)
  · exact recordDoes_long HS m k l n A _ cap ss s w hE hA (eq_true j1) pf
  obtain ⟨hkl2, h30, hss⟩ := farB_no hf
  have hkl : Fi.small ⟨m, k, l⟩ := by unfold Fi.small; simp only; omega
  have hz : ∀ s ∈ ss, s.size ≤ 9000 := fun s hs => by have := (hss s hs).1; omega
  have hs1 : s.size ≤ 18000 := by omega
  have KT : ∀ (ts : List ByteArray), ts.length ≤ maxLen → ∀ (W : World) (A B : Option Addr) (c d : Nat) (_hA : StrsAt W W.heap.size A ts) (_hB : StrsAt W W.heap.size B ts), Hid (Calls Try.prog 21 #[.slice A ts.length c, .slice B ts.length d] W fun e w' => e = .returned (.bool true) ∧ Below W.heap.size W w') := fun ts hl W A B c d hA hB =>
    Lib.hid ((Texts_any A B c d _ _ W hA hB hl).mono fun e w' ⟨h1, q, h2⟩ => ⟨by rw [h1]; simp, h2 ▸ below_drew (Below.refl _ _) q⟩)
  have hL : ∀ (b : List UInt8), ((Rc.scan b n).1.map strOf).length ≤ maxLen := fun b => by
    rw [List.length_map]; exact Nat.le_trans (Rc.okAll_len (Rc.scan_split b n).1) (by unfold maxLen; decide)
  have hL2 : (Rc.texts ⟨m, k, l⟩ n).length ≤ maxLen := by
    unfold Rc.texts; split
    · exact hL _
    · exact Nat.zero_le _
  have hs6 : k.size ≤ 9000 ∧ l.size ≤ 9000 := hkl
  have KT1 := KT _ (hL (bl s))
  rw [List.length_map] at KT1
  refine recordDoes_go HS HC m k l n A ss.length cap ss s w hE hA (eq_false j1) (Rc.add ⟨m, k, l⟩ n ss).most (Rc.mend ⟨m, k, l⟩ n).most (Rc.add ⟨m, k, l⟩ n ss).kept (Rc.add ⟨m, k, l⟩ n ss).loose (Rc.mend ⟨m, k, l⟩ n).kept (Rc.mend ⟨m, k, l⟩ n).loose
    (strOf (Rc.putS n (bl s))) (Rc.putE n (bl s)) (Rc.addE ⟨m, k, l⟩ n ss) ((Rc.scan (bl s) n).2 : Nat) ((Rc.texts ⟨m, k, l⟩ n).length : Nat) (Fi.badE ⟨m, k, l⟩) (Rc.scan (bl s) n).1.length (Rc.texts ⟨m, k, l⟩ n).length ((Rc.scan (bl s) n).1.map strOf) (Rc.texts ⟨m, k, l⟩ n)
    pf (fun W hA => Lib.hid ?_) (fun W h => Lib.hid (HS.out.put n s W h hs1)) (fun W => Lib.hid (RRPut_any n s (by omega) W)) (fun W h => Lib.hid (HS.out.scan s n W h hs1)) (fun W => Lib.hid (RScan_any s n hs1 W))
    (fun W h hA => Lib.hid (HS.out.add ⟨m, k, l⟩ n A ss.length cap ss W h hkl hA rfl (by omega) hcap.1 hz)) (fun W A2 c2 hA => Lib.hid (RRAdd_any m k l n A2 c2 ss hs6 W hA (by omega) hz))
    (fun W h => Lib.hid (HS.out.read ⟨m, k, l⟩ n W h hkl)) (fun W => Lib.hid (RRRead_any m k l n hs6 W)) (fun W h => Lib.hid (HS.out.mend ⟨m, k, l⟩ n W h hkl)) (fun W => Lib.hid (RRMend_any m k l n hs6 W))
    KT1 (KT _ hL2) (KT _ hNm)
  refine (OwnTexts_any A cap ss W hA hcap.2 (by omega)).mono ?_
  rintro e w' ⟨A2, c2, rfl, ho, hB⟩
  exact ⟨A2, c2, rfl, StrsAt.of_own ho, hB⟩
end Go.Proofs.Ytfapfnbehhekhaa
