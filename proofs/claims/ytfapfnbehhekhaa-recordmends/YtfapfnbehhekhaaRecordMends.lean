/-
  Layer 13 (record): the law RecordMends, over the structures (printed by tools/gen-recmends.py).
-/
import Derived.Test.YtfapfnbehhekhaaRecK
import Derived.Test.YtfapfnbehhekhaaRecFar
import Derived.Test.YtfapfnbehhekhaaRefTexts
import Derived.Test.YtfapfnbehhekhaaRecLoad
namespace Go.Proofs.Ytfapfnbehhekhaa
set_option maxRecDepth 10000
open Go.RowKit

theorem recordMends_far (m : Int) (k l : ByteArray) (n : Int) (w : World) (pf : ∀ W : World, Hid (Calls Try.prog 8 #[.agg #[.int .i64 m, .string k, .string l], .slice none 0 0] W fun e w' => e = .returned (.bool true) ∧ Below W.heap.size W w')) : Calls Try.prog 6 #[.agg #[.int .i64 m, .string k, .string l], .int .i64 n] w fun e w' => e = .returned (.bool true) ∧ Below w.heap.size w w' := by
  go_enter Try.func6, Try.ntmps6
  go_wp2_with fail
  refine (pf _).out.mono ?_
  rintro e w1 ⟨rfl, hB⟩
  have Hb := Lib.hid (below2 (below_new w _) hB)
  clear hB pf
  go_wp2
  go_ret
  exact ⟨rfl, Hb.out⟩

set_option maxHeartbeats 4000000 in
theorem recordMends_not {E : World → Prop} (HS : Hid (RecK E)) (HC : Hid (RecordedK E)) (m : Int) (k l : ByteArray) (n : Int) (w : World) (hE : E w)
    (pf : ∀ (W : World) , Hid (Calls Try.prog 8 #[.agg #[.int .i64 m, .string k, .string l], .slice none 0 0] W fun e w' => e = .returned (.bool false) ∧ Below W.heap.size W w'))
    (KM : ∀ (W : World) (_h : E W), Hid (Calls Try.prog 18 #[.agg #[.int .i64 m, .string k, .string l], .int .i64 n] W fun e w' => e = .returned (.tuple #[.agg #[.int .i64 0, .string ⟨#[]⟩, .string ⟨#[]⟩], .int .i64 0, .int .i64 1]) ∧ Below W.heap.size W w'))
    (KI : ∀ (W : World) (_h : E W), Hid (Calls Try.prog 26 #[.agg #[.int .i64 m, .string k, .string l]] W fun e w' => e = .returned (.bool false) ∧ Below W.heap.size W w')) :
    Calls Try.prog 6 #[.agg #[.int .i64 m, .string k, .string l], .int .i64 n] w fun e w' => e = .returned (.bool true) ∧ Below w.heap.size w w' := by
  have S0 := Lib.hid (((St.start w).more (eRc HS) hE).new #[.int .i64 m, .string k, .string l] 23)
  clear hE
  go_enter Try.func6, Try.ntmps6
  go_wp2_with (refine wpList_load_st rfl 23 _ rfl S0.out 0 _ _ rfl rfl _ Try.underlying23 rfl (by rfl) ?_)
  refine (pf _).out.mono ?_
  rintro e w1 ⟨rfl, hB⟩
  have S1 := Lib.hid (S0.out.on hB)
  clear hB S0
  clear pf
  obtain ⟨p0, hp0⟩ : ∃ p, p = w.heap.size := ⟨_, rfl⟩
  rw [← hp0] at S1 ⊢
  clear hp0
  go_wp2_with (refine wpList_load_st rfl 23 _ rfl S1.out 0 _ _ rfl rfl _ Try.underlying23 rfl (by rfl) ?_)
  refine (KM w1 (S1.out.fact 0 rfl)).out.mono ?_
  rintro e w2 ⟨rfl, hB⟩
  have S2 := Lib.hid (S1.out.on hB)
  clear hB S1
  go_wp2_with (refine wpList_store_st rfl 23 _ _ rfl S2.out _ #[.int .i64 0, .string ⟨#[]⟩, .string ⟨#[]⟩] _ rfl rfl (by rfl) rfl (fil_one13 _ _ _) ?_; intro px w3 hp hS hBn; (try rw [← hp]); have S3 := Lib.hid hS; clear hS hp hBn)
  refine (Lib.hid (HC.out w3 (S3.out.fact 0 rfl))).out.mono ?_
  rintro e w4 ⟨rfl, hB⟩
  have S4 := Lib.hid (S3.out.on hB)
  clear hB S3
  go_wp2_with (refine wpList_loadg_st (by rfl) 23 _ rfl S4.out 1 _ _ rfl rfl _ Try.underlying23 rfl (by rfl) ?_)
  refine (KI w4 (S4.out.fact 0 rfl)).out.mono ?_
  rintro e w5 ⟨rfl, hB⟩
  have S5 := Lib.hid (S4.out.on hB)
  clear hB S4
  go_wp2
  go_ret
  exact ⟨rfl, S5.out.below⟩

set_option maxHeartbeats 4000000 in
theorem recordMends_yes {E : World → Prop} (HS : Hid (RecK E)) (HC : Hid (RecordedK E)) (m : Int) (k l : ByteArray) (n : Int) (w : World) (hE : E w) (xm : Int) (xk xl s : ByteArray) (L : Nat) (ts : List ByteArray)
    (pf : ∀ (W : World) , Hid (Calls Try.prog 8 #[.agg #[.int .i64 m, .string k, .string l], .slice none 0 0] W fun e w' => e = .returned (.bool false) ∧ Below W.heap.size W w'))
    (KM : ∀ (W : World) (_h : E W), Hid (Calls Try.prog 18 #[.agg #[.int .i64 m, .string k, .string l], .int .i64 n] W fun e w' => e = .returned (.tuple #[.agg #[.int .i64 xm, .string xk, .string xl], .int .i64 (L : Int), .int .i64 0]) ∧ Below W.heap.size W w'))
    (KR : ∀ (W : World) (_h : E W), Hid (Calls Try.prog 16 #[.agg #[.int .i64 m, .string k, .string l], .int .i64 n] W fun e w' => ∃ A c, e = .returned (.tuple #[.slice A L c, .int .i64 0]) ∧ StrsAt w' w'.heap.size A ts ∧ L ≤ c ∧ Below W.heap.size W w'))
    (KX : ∀ (W : World) (_h : E W), Hid (Calls Try.prog 16 #[.agg #[.int .i64 xm, .string xk, .string xl], .int .i64 n] W fun e w' => ∃ A c, e = .returned (.tuple #[.slice A L c, .int .i64 0]) ∧ StrsAt w' w'.heap.size A ts ∧ L ≤ c ∧ Below W.heap.size W w'))
    (KY : ∀ (W : World) (_h : E W), Hid (Calls Try.prog 18 #[.agg #[.int .i64 xm, .string xk, .string xl], .int .i64 n] W fun e w' => e = .returned (.tuple #[.agg #[.int .i64 xm, .string xk, .string xl], .int .i64 (L : Int), .int .i64 0]) ∧ Below W.heap.size W w'))
    (KF : ∀ (W : World) (_h : E W), Hid (Calls Try.prog 23 #[.agg #[.int .i64 xm, .string xk, .string xl]] W fun e w' => e = .returned (.string s) ∧ Below W.heap.size W w'))
    (KS : ∀ (W : World) (_h : E W), Hid (Calls Try.prog 12 #[.string s, .int .i64 n] W fun e w' => ∃ A c, e = .returned (.tuple #[.slice A L c, .int .i64 (s.size : Int)]) ∧ StrsAt w' w'.heap.size A ts ∧ L ≤ c ∧ Below W.heap.size W w'))
    (KT : ∀ (W : World) (A B : Option Addr) (c d : Nat) (_hA : StrsAt W W.heap.size A ts) (_hB : StrsAt W W.heap.size B ts), Hid (Calls Try.prog 21 #[.slice A L c, .slice B L d] W fun e w' => e = .returned (.bool true) ∧ Below W.heap.size W w')) :
    Calls Try.prog 6 #[.agg #[.int .i64 m, .string k, .string l], .int .i64 n] w fun e w' => e = .returned (.bool true) ∧ Below w.heap.size w w' := by
  have S0 := Lib.hid (((St.start w).more (eRc HS) hE).new #[.int .i64 m, .string k, .string l] 23)
  clear hE
  go_enter Try.func6, Try.ntmps6
  go_wp2_with (refine wpList_load_st rfl 23 _ rfl S0.out 0 _ _ rfl rfl _ Try.underlying23 rfl (by rfl) ?_)
  refine (pf _).out.mono ?_
  rintro e w1 ⟨rfl, hB⟩
  have S1 := Lib.hid (S0.out.on hB)
  clear hB S0
  clear pf
  obtain ⟨p0, hp0⟩ : ∃ p, p = w.heap.size := ⟨_, rfl⟩
  rw [← hp0] at S1 ⊢
  clear hp0
  go_wp2_with (refine wpList_load_st rfl 23 _ rfl S1.out 0 _ _ rfl rfl _ Try.underlying23 rfl (by rfl) ?_)
  refine (KM w1 (S1.out.fact 0 rfl)).out.mono ?_
  rintro e w2 ⟨rfl, hB⟩
  have S2 := Lib.hid (S1.out.on hB)
  clear hB S1
  go_wp2_with (first
    | (refine wpList_store_st rfl 23 _ _ rfl S2.out _ #[.int .i64 xm, .string xk, .string xl] _ rfl rfl (by rfl) rfl (fil_one13 _ _ _) ?_; intro px w3 hp hS hBn; (try rw [← hp]); have S3 := Lib.hid hS; clear hS hp hBn)
    | (refine wpList_load_st rfl 23 _ rfl S3.out 1 _ _ rfl rfl _ Try.underlying23 rfl (by rfl) ?_))
  refine (KR w3 (S3.out.fact 0 rfl)).out.mono ?_
  rintro e w4 ⟨A1, c1, rfl, hT, _, hB⟩
  have S4 := Lib.hid ((S3.out.on hB).more (strsF13 A1 w4.heap.size ts) ⟨hT, Nat.le_refl _⟩)
  clear hB hT S3
  obtain ⟨B1, hBe⟩ : ∃ b, b = w4.heap.size := ⟨_, rfl⟩
  rw [← hBe] at S4
  clear hBe
  go_wp2_with (refine wpList_load_st rfl 23 _ rfl S4.out 0 _ _ rfl rfl _ Try.underlying23 rfl (by rfl) ?_)
  refine (KX w4 (S4.out.fact 1 rfl)).out.mono ?_
  rintro e w5 ⟨A2, c2, rfl, hT, _, hB⟩
  have S5 := Lib.hid ((S4.out.on hB).more (strsF13 A2 w5.heap.size ts) ⟨hT, Nat.le_refl _⟩)
  clear hB hT S4
  obtain ⟨B2, hBe⟩ : ∃ b, b = w5.heap.size := ⟨_, rfl⟩
  rw [← hBe] at S5
  clear hBe
  go_wp2_with (refine wpList_load_st rfl 23 _ rfl S5.out 0 _ _ rfl rfl _ Try.underlying23 rfl (by rfl) ?_)
  refine (KY w5 (S5.out.fact 2 rfl)).out.mono ?_
  rintro e w6 ⟨rfl, hB⟩
  have S6 := Lib.hid (S5.out.on hB)
  clear hB S5
  go_wp2_with (first
    | (refine wpList_store_st rfl 23 _ _ rfl S6.out _ #[.int .i64 xm, .string xk, .string xl] _ rfl rfl (by rfl) rfl (fil_one13 _ _ _) ?_; intro py w7 hp hS hBn; (try rw [← hp]); have S7 := Lib.hid hS; clear hS hp hBn)
    | (refine wpList_load_st rfl 23 _ rfl S7.out 1 _ _ rfl rfl _ Try.underlying23 rfl (by rfl) ?_))
  refine (KF w7 (S7.out.fact 2 rfl)).out.mono ?_
  rintro e w8 ⟨rfl, hB⟩
  have S8 := Lib.hid (S7.out.on hB)
  clear hB S7
  go_wp2_with fail
  refine (KS w8 (S8.out.fact 2 rfl)).out.mono ?_
  rintro e w9 ⟨A3, c3, rfl, hT, _, hB⟩
  have S9 := Lib.hid ((S8.out.on hB).more (strsF13 A3 w9.heap.size ts) ⟨hT, Nat.le_refl _⟩)
  clear hB hT S8
  obtain ⟨B3, hBe⟩ : ∃ b, b = w9.heap.size := ⟨_, rfl⟩
  rw [← hBe] at S9
  clear hBe
  go_wp2_with fail
  refine (Lib.hid (HC.out w9 (S9.out.fact 3 rfl))).out.mono ?_
  rintro e w10 ⟨rfl, hB⟩
  have S10 := Lib.hid (S9.out.on hB)
  clear hB S9
  go_wp2_with fail
  refine (KT w10 A1 A2 c1 c2 ((S10.out.fact 2 rfl).1.more (S10.out.fact 2 rfl).2) ((S10.out.fact 1 rfl).1.more (S10.out.fact 1 rfl).2)).out.mono ?_
  rintro e w11 ⟨rfl, hB⟩
  have S11 := Lib.hid (S10.out.on hB)
  clear hB S10
  have q1 := fun W => run_eql_file13 W xm xk xl
  go_wp2_with (first
    | (refine wpList_loadg_st (by rfl) 23 _ rfl S11.out 1 _ _ rfl rfl _ Try.underlying23 rfl (by rfl) ?_)
    | (refine wpList_loadg_st (by rfl) 23 _ rfl S11.out 0 _ _ rfl rfl _ Try.underlying23 rfl (by rfl) ?_))
  refine (KF w11 (S11.out.fact 3 rfl)).out.mono ?_
  rintro e w12 ⟨rfl, hB⟩
  have S12 := Lib.hid (S11.out.on hB)
  clear hB S11
  go_wp2
  go_ret
  exact ⟨rfl, S12.out.below⟩

theorem recordMends_walk {E : World → Prop} (HS : Hid (RecK E)) (HC : Hid (RecordedK E)) (HF : Hid (FilR E)) (m : Int) (k l : ByteArray) (n : Int) (w : World) (hE : E w) : Calls Try.prog 6 #[.agg #[.int .i64 m, .string k, .string l], .int .i64 n] w fun e w' => e = .returned (.bool true) ∧ Below w.heap.size w w' := by
  have pf := fun W => Lib.hid (far13_any m k l none 0 [] W (StrsAt.nil _ _ _) (Nat.zero_le _) (by simp))
  cases hf : farB k l []
  · rw [hf] at pf
    have hsm := (farB_no hf).1
    have hkl : Fi.small ⟨m, k, l⟩ := by unfold Fi.small; simp only; omega
    have KM := fun W (h : E W) => Lib.hid (HS.out.mend ⟨m, k, l⟩ n W h hkl)
    have KI := fun W (h : E W) => Lib.hid (HF.out.is ⟨m, k, l⟩ W h hkl)
    cases hi : Fi.is ⟨m, k, l⟩
    · have e1 : Rc.mend ⟨m, k, l⟩ n = Fi.no := by unfold Rc.mend; rw [hi]; rfl
      have e2 : Fi.badE ⟨m, k, l⟩ = 1 := by unfold Fi.badE; rw [hi]; rfl
      rw [e1, e2, Rc.texts_no hi] at KM
      rw [hi] at KI
      exact recordMends_not HS HC m k l n w hE pf KM KI
    · have e2 : Fi.badE ⟨m, k, l⟩ = 0 := by unfold Fi.badE; rw [hi]; rfl
      have KR := fun W (h : E W) => Lib.hid (HS.out.read ⟨m, k, l⟩ n W h hkl)
      rw [e2] at KM KR
      have hxi := Rc.mend_is hi n
      have hxs := Rc.mend_small ⟨m, k, l⟩ n
      have KX := fun W (h : E W) => Lib.hid (HS.out.read (Rc.mend ⟨m, k, l⟩ n) n W h hxs)
      have KY := fun W (h : E W) => Lib.hid (HS.out.mend (Rc.mend ⟨m, k, l⟩ n) n W h hxs)
      have KF := fun W (h : E W) => Lib.hid (HF.out.read (Rc.mend ⟨m, k, l⟩ n) W h hxs)
      have e3 : Fi.badE (Rc.mend ⟨m, k, l⟩ n) = 0 := by unfold Fi.badE; rw [hxi]; rfl
      have hsz : (Fi.read (Rc.mend ⟨m, k, l⟩ n)).size ≤ 18000 := by rw [Fi.read_size]; unfold Fi.small at hxs; omega
      have KS := fun W (h : E W) => Lib.hid (HS.out.scan (Fi.read (Rc.mend ⟨m, k, l⟩ n)) n W h hsz)
      have e4 : Rc.scan (bl (Fi.read (Rc.mend ⟨m, k, l⟩ n))) n = Rc.sc ⟨m, k, l⟩ n := Rc.mend_sc hi n
      have e5 : ((Rc.sc ⟨m, k, l⟩ n).2 : Nat) = (Fi.read (Rc.mend ⟨m, k, l⟩ n)).size := by rw [Rc.mend_read hi, Rc.strOf_size, Rc.sc_len]
      have e6 : (Rc.sc ⟨m, k, l⟩ n).1.length = (Rc.texts ⟨m, k, l⟩ n).length := by rw [Rc.texts_yes hi, List.length_map]
      rw [e4, e5, ← Rc.texts_yes hi, e6] at KS
      rw [e3, Rc.mend_texts hi] at KX KY
      rw [Rc.mend_again hi] at KY
      have hL : (Rc.texts ⟨m, k, l⟩ n).length ≤ maxLen := by
        have h1 := Rc.okAll_len (Rc.scan_split (bl (Fi.read ⟨m, k, l⟩)) n).1
        rw [← e6]; unfold maxLen; exact Nat.le_trans h1 (by decide)
      exact recordMends_yes HS HC m k l n w hE _ _ _ (Fi.read (Rc.mend ⟨m, k, l⟩ n)) (Rc.texts ⟨m, k, l⟩ n).length (Rc.texts ⟨m, k, l⟩ n) pf KM KR KX KY KF KS
        (fun W A B c d hA hB => Lib.hid ((Texts_any A B c d _ _ W hA hB hL).mono fun e w' ⟨h1, q, h2⟩ => ⟨by rw [h1]; simp, h2 ▸ below_drew (Below.refl _ _) q⟩))
  · rw [hf] at pf
    exact recordMends_far m k l n w pf
end Go.Proofs.Ytfapfnbehhekhaa
