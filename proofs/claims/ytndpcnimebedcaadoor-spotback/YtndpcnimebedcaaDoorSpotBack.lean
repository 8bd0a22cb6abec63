/-
  Layer 4 (spot): the walk of the law SpotBack.
-/
import Derived.Test.YtndpcnimebedcaaDoorSpotBack2
namespace Go.Proofs.YtndpcnimebedcaaDoor
open Go.RowKit

theorem Sp.at_num {b c : Int} (h : Sp.may b c = true) : 0 ≤ Sp.num b c ∧ Sp.num b c ≤ 791 ∧ Sp.atB (Sp.num b c) = b ∧ Sp.atC (Sp.num b c) = c ∧ Sp.atE (Sp.num b c) = 0 := by
  have hm := Sp.may_iff.1 h
  have e0 : Sp.num b c = 8 * (b - 1) + c := by unfold Sp.num; rw [if_pos h]
  rw [e0]
  have hn : Sp.isNum (8 * (b - 1) + c) = true := Sp.isNum_iff.2 (by omega)
  unfold Sp.atB Sp.atC Sp.atE
  rw [hn]
  clear e0
  exact ⟨by omega, by omega, by rw [if_pos rfl]; omega, by rw [if_pos rfl]; omega, rfl⟩
theorem Sp.num_at {n : Int} (h : Sp.isNum n = true) : Sp.may (Sp.atB n) (Sp.atC n) = true ∧ Sp.num (Sp.atB n) (Sp.atC n) = n ∧ Sp.numE (Sp.atB n) (Sp.atC n) = 0 ∧ Sp.atE n = 0 := by
  have hn := Sp.isNum_iff.1 h
  have e1 : Sp.atB n = n / 8 + 1 := by unfold Sp.atB; rw [if_pos h]
  have e2 : Sp.atC n = n % 8 := by unfold Sp.atC; rw [if_pos h]
  have hm : Sp.may (Sp.atB n) (Sp.atC n) = true := Sp.may_iff.2 (by rw [e1, e2]; omega)
  refine ⟨hm, ?_, by unfold Sp.numE; rw [hm]; rfl, by unfold Sp.atE; rw [h]; rfl⟩
  unfold Sp.num
  rw [if_pos hm, e1, e2]
  omega
theorem Sp.at_none {n : Int} (h : Sp.isNum n = false) : Sp.atB n = 0 ∧ Sp.atC n = 0 ∧ Sp.atE n = 1 := by
  unfold Sp.atB Sp.atC Sp.atE; rw [h]; exact ⟨rfl, rfl, rfl⟩
theorem Sp.ok_par {l : List UInt8} (h : Sp.ok l = true) : Sp.may (Sp.parB l) (Sp.parC l) = true ∧ Sp.prn (Sp.parB l) (Sp.parC l) = l ∧ Sp.numE (Sp.parB l) (Sp.parC l) = 0 ∧ Sp.parE l = 0 := by
  obtain ⟨b, c, hm, rfl⟩ := Sp.ok_iff.1 h
  obtain ⟨e1, e2, e3⟩ := Sp.par_txt hm
  rw [e1, e2, e3]
  exact ⟨hm, by unfold Sp.prn; rw [if_pos hm], by unfold Sp.numE; rw [hm]; rfl, rfl⟩

theorem c_none : Sp.num 0 0 = 0 ∧ Sp.numE 0 0 = 1 ∧ Sp.prn 0 0 = [] ∧ Sp.atB 0 = 1 ∧ Sp.atC 0 = 0 ∧ Sp.atE 0 = 0 ∧ Sp.parB [] = 0 ∧ Sp.parC [] = 0 ∧ Sp.parE [] = 20 := by decide +kernel

theorem gNum {b c n e : Int} (h1 : Sp.num b c = n) (h2 : Sp.numE b c = e) : Gives 9 #[spotV b c] (.tuple #[.int .i64 n, .int .i64 e]) := fun W => by rw [← h1, ← h2]; exact Number_any b c W
theorem gAt {n b c e : Int} (h1 : Sp.atB n = b) (h2 : Sp.atC n = c) (h3 : Sp.atE n = e) : Gives 11 #[.int .i64 n] (.tuple #[spotV b c, .int .i64 e]) := fun W => by rw [← h1, ← h2, ← h3]; exact At_any n W
theorem gPrint {b c e : Int} {t : ByteArray} (h1 : strOf (Sp.prn b c) = t) (h2 : Sp.numE b c = e) : Gives 13 #[spotV b c] (.tuple #[.string t, .int .i64 e]) := fun W => by rw [← h1, ← h2]; exact Print_any b c W
theorem gParse {s : ByteArray} {b c e : Int} (hs : s.size ≤ 400) (h1 : Sp.parB (bl s) = b) (h2 : Sp.parC (bl s) = c) (h3 : Sp.parE (bl s) = e) : GivesE 15 #[.string s] (.tuple #[spotV b c, .int .i64 e]) := fun W hW => by rw [← h1, ← h2, ← h3]; exact Parse_any s hs W hW
theorem gIs {b c : Int} {v : Bool} (h : Sp.may b c = v) : Gives 18 #[spotV b c] (.bool v) := fun W => by rw [← h]; exact Is_any b c W

theorem spotBack_walk (b c n : Int) (text : ByteArray) (w : World) (hE : Errs w) (_x0 : (Lit.int .i64 b).wf = true) (_x1 : (Lit.int .i64 c).wf = true) (_x2 : (Lit.int .i64 n).wf = true) (_x3 : text.size ≤ maxLen) :
    Calls Tryd.prog 4 #[.agg #[.int .i64 b, .int .i64 c], .int .i64 n, .string text] w fun e w' => e = .returned (.bool true) ∧ Below w.heap.size w w' := by
  have HE := Lib.hid hE
  by_cases hl : 200 < text.size
  · have hd : decide ((200 : Int) < (text.size : Int)) = true := decide_eq_true (by omega)
    clear hl _x0 _x1 _x2 _x3 hE
    go_enter Tryd.func4, Tryd.ntmps4
    go_wp2
    go_ret
    exact ⟨rfl, below_new _ _⟩
  have hd : decide ((200 : Int) < (text.size : Int)) = false := decide_eq_false (by omega)
  have hl2 : text.size ≤ 400 := by omega
  obtain ⟨z1, z2, z3, z4, z5, z6, z7, z8, z9⟩ := c_none
  cases hm : Sp.may b c
  · have a1 : Sp.num b c = 0 := by unfold Sp.num; rw [hm]; rfl
    have a2 : Sp.numE b c = 1 := by unfold Sp.numE; rw [hm]; rfl
    have a3 : strOf (Sp.prn b c) = ByteArray.empty := by unfold Sp.prn; rw [hm]; rfl
    have f1 := gNum a1 a2
    have f2 := gAt z4 z5 z6
    have f3 := gPrint a3 a2
    have f4 := gParse (s := ByteArray.empty) (by decide) z7 z8 z9
    have f5 := gIs hm
    cases hn : Sp.isNum n
    · obtain ⟨b1, b2, b3⟩ := Sp.at_none hn
      have g1 := gAt b1 b2 b3
      have g2 := gNum z1 z2
      cases hk : Sp.ok (bl text)
      · obtain ⟨d1, d2, d3⟩ := Sp.par_none hk
        exact back_nnn b c 0 n 0 0 0 0 _ text w HE hd f1 f2 f3 f4 f5 g1 g2 (gParse hl2 d1 d2 d3) (gPrint (by rw [z3]; rfl) z2)
      · obtain ⟨d1, d2, d3, d4⟩ := Sp.ok_par hk
        exact back_nny b c 0 n 0 0 _ _ _ text w HE hd f1 f2 f3 f4 f5 g1 g2 (gParse hl2 rfl rfl d4) (gPrint (by rw [d2, strOf_bl]) d3) (gIs d1)
    · obtain ⟨b1, b2, b3, b4⟩ := Sp.num_at hn
      have g1 := gAt rfl rfl b4
      have g2 := gNum b2 b3
      cases hk : Sp.ok (bl text)
      · obtain ⟨d1, d2, d3⟩ := Sp.par_none hk
        exact back_nyn b c 0 n _ _ 0 0 _ text w HE hd f1 f2 f3 f4 f5 g1 g2 (gParse hl2 d1 d2 d3) (gPrint (by rw [z3]; rfl) z2) (gIs b1)
      · obtain ⟨d1, d2, d3, d4⟩ := Sp.ok_par hk
        exact back_nyy b c 0 n _ _ _ _ _ text w HE hd f1 f2 f3 f4 f5 g1 g2 (gParse hl2 rfl rfl d4) (gPrint (by rw [d2, strOf_bl]) d3) (gIs b1) (gIs d1)
  · have a2 : Sp.numE b c = 0 := by unfold Sp.numE; rw [hm]; rfl
    obtain ⟨e1, e2, e3, e4, e5⟩ := Sp.at_num hm
    have a3 : Sp.prn b c = Sp.txt b c := by unfold Sp.prn; rw [if_pos hm]
    obtain ⟨t1, t2, t3⟩ := Sp.par_txt hm
    have f1 := gNum (rfl : Sp.num b c = Sp.num b c) a2
    have f2 := gAt e3 e4 e5
    have f3 := gPrint (by rw [a3]) a2
    have f4 := gParse (s := strOf (Sp.txt b c)) (b := b) (c := c) (e := 0) (by rw [strOf_size]; have := Sp.txt_len hm; omega) (by rw [bl_strOf]; exact t1) (by rw [bl_strOf]; exact t2) (by rw [bl_strOf]; exact t3)
    have f5 := gIs hm
    have q1 : decide (Sp.num b c < 0) = false := decide_eq_false (by omega)
    have q2 : decide (791 < Sp.num b c) = false := decide_eq_false (by omega)
    cases hn : Sp.isNum n
    · obtain ⟨b1, b2, b3⟩ := Sp.at_none hn
      have g1 := gAt b1 b2 b3
      have g2 := gNum z1 z2
      cases hk : Sp.ok (bl text)
      · obtain ⟨d1, d2, d3⟩ := Sp.par_none hk
        exact back_ynn b c _ n 0 0 0 0 _ text w HE hd f1 f2 f3 f4 f5 q1 q2 g1 g2 (gParse hl2 d1 d2 d3) (gPrint (by rw [z3]; rfl) z2)
      · obtain ⟨d1, d2, d3, d4⟩ := Sp.ok_par hk
        exact back_yny b c _ n 0 0 _ _ _ text w HE hd f1 f2 f3 f4 f5 q1 q2 g1 g2 (gParse hl2 rfl rfl d4) (gPrint (by rw [d2, strOf_bl]) d3) (gIs d1)
    · obtain ⟨b1, b2, b3, b4⟩ := Sp.num_at hn
      have g1 := gAt rfl rfl b4
      have g2 := gNum b2 b3
      cases hk : Sp.ok (bl text)
      · obtain ⟨d1, d2, d3⟩ := Sp.par_none hk
        exact back_yyn b c _ n _ _ 0 0 _ text w HE hd f1 f2 f3 f4 f5 q1 q2 g1 g2 (gParse hl2 d1 d2 d3) (gPrint (by rw [z3]; rfl) z2) (gIs b1)
      · obtain ⟨d1, d2, d3, d4⟩ := Sp.ok_par hk
        exact back_yyy b c _ n _ _ _ _ _ text w HE hd f1 f2 f3 f4 f5 q1 q2 g1 g2 (gParse hl2 rfl rfl d4) (gPrint (by rw [d2, strOf_bl]) d3) (gIs b1) (gIs d1)

end Go.Proofs.YtndpcnimebedcaaDoor
