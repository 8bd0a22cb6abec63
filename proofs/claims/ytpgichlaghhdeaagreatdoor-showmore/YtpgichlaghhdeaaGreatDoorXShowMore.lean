/-
  Layer 11 (show): the law ShowMore, over the structures (printed by tools/gen-showmore.py).
-/
import Derived.Test.YtpgichlaghhdeaaGreatDoorXShowCount
import Derived.Test.YtpgichlaghhdeaaGreatDoorXJa
import Derived.Test.YtpgichlaghhdeaaGreatDoorXJb
namespace Go.Proofs.YtpgichlaghhdeaaGreatDoor
set_option maxRecDepth 10000
open Go.RowKit

theorem StrsAt.takeX {w : World} {b q : Nat} {A : Option Addr} {xs : List ByteArray} (h : StrsAt w b A xs) : StrsAt w b A (xs.take q) := fun i hi => by
  have hi2 : i < xs.length := Nat.lt_of_lt_of_le hi (by rw [List.length_take]; omega)
  obtain ⟨b0, o0, e, h1, h2⟩ := h i hi2
  exact ⟨b0, o0, e, h1, by rw [h2, List.getElem_take]⟩
/-- Windows are added. -/
def AddK : Prop := ∀ (A : Option Addr) (l c : Nat) (ls : List Win) (B : Option Addr) (k d : Nat) (ms : List Win) (q : Nat) (w : World) (_h : ToldW w A l c ls) (_h2 : ToldW w B k d ms) (_hq : q = (Mu.turn ls ms true).length), Calls Tryz.prog 26 #[.slice A l c, .slice B k d] w (GivesW w q (Mu.turn ls ms true) (Mu.turnE ls ms true))
theorem showMore_far1 (m n : Int) (A : Option Addr) (l c : Nat) (B : Option Addr) (k0 d : Nat) (y0 y1 y2 t1 t2 : Int) (w : World) (hf : 60 < l) : Calls Tryz.prog 6 #[.agg #[.int .i64 m, .int .i64 n, .slice A l c], .slice B k0 d, .agg #[.int .i64 y0, .int .i64 y1, .int .i64 y2], .int .i64 t1, .int .i64 t2] w fun e w' => e = .returned (.bool true) ∧ Below w.heap.size w w' := by
  have i1 : ((60 : Int) < (l : Int)) = True := eq_true (by omega)
  clear hf
  go_enter Tryz.func6, Tryz.ntmps6
  go_wp2
  go_ret
  exact ⟨rfl, below_new2 _ _ _⟩
theorem showMore_far2 (m n : Int) (A : Option Addr) (l c : Nat) (B : Option Addr) (k0 d : Nat) (y0 y1 y2 t1 t2 : Int) (w : World) (hf : l ≤ 60) (hf2 : 110 < k0) : Calls Tryz.prog 6 #[.agg #[.int .i64 m, .int .i64 n, .slice A l c], .slice B k0 d, .agg #[.int .i64 y0, .int .i64 y1, .int .i64 y2], .int .i64 t1, .int .i64 t2] w fun e w' => e = .returned (.bool true) ∧ Below w.heap.size w w' := by
  have i1 : ((60 : Int) < (l : Int)) = False := eq_false (by omega)
  have i2 : ((110 : Int) < (k0 : Int)) = True := eq_true (by omega)
  clear hf hf2
  go_enter Tryz.func6, Tryz.ntmps6
  go_wp2
  go_ret
  exact ⟨rfl, below_new2 _ _ _⟩

set_option maxHeartbeats 4000000 in
theorem showMore_err {E : World → Prop} (HS : Hid (ShowK E)) (HC : Hid (ShownK E)) (m n : Int) (A : Option Addr) (l c : Nat) (ls : List Alm) (B : Option Addr) (k0 d : Nat) (ws : List Win) (y0 y1 y2 t1 t2 : Int) (w : World) (hd al : List Alm) (mo : List Win) (qm : Nat) (ee ef eg : Int) (hE : E w) (hA : AlmsAt w w.heap.size A ls) (hW : WinsAt w w.heap.size B ws) (hf : l ≤ 60) (hf2 : k0 ≤ 110)
    (H1 : ∀ (W : World) (_h : E W) (_hA : AlmsAt W W.heap.size A ls) (_hB : WinsAt W W.heap.size B ws), Hid (Calls Tryz.prog 13 #[.agg #[.int .i64 m, .int .i64 n, .slice A l c], .slice B k0 d] W (GivesH W hd ee)))
    (H2 : ∀ (W : World) (_h : E W) (_hA : AlmsAt W W.heap.size A ls), Hid (Calls Tryz.prog 13 #[.agg #[.int .i64 m, .int .i64 n, .slice A l c], .slice none 0 0] W (GivesH W al ef)))
    (H3 : ∀ (W : World) (B2 : Addr) (_hB : WinsAt W W.heap.size B ws) (_h2 : WinsAt W W.heap.size (some B2) [(⟨y0, y1, y2⟩ : Win)]), Hid (Calls Tryz.prog 26 #[.slice B k0 d, .slice (some B2) 1 1] W (GivesW W qm mo eg)))
    (hX : ((ee == 0) = false ∧ (ee != 0) = true) ∨ (((ee == 0) = true ∧ (ee != 0) = false) ∧ ((ef == 0) = true ∧ (ef != 0) = false) ∧ ((eg == 0) = false ∧ (eg != 0) = true))) :
    Calls Tryz.prog 6 #[.agg #[.int .i64 m, .int .i64 n, .slice A l c], .slice B k0 d, .agg #[.int .i64 y0, .int .i64 y1, .int .i64 y2], .int .i64 t1, .int .i64 t2] w fun e w' => e = .returned (.bool true) ∧ Below w.heap.size w w' := by
  have S0 := Lib.hid ((((St.start w).more (rowF A ls) hA).more (winF B ws) hW).box2 #[.int .i64 m, .int .i64 n, .slice A l c] #[.int .i64 y0, .int .i64 y1, .int .i64 y2] 28 56)
  have HE0 := Lib.hid (HS.out.mono _ _ hE (below_new2 w (.cells #[.int .i64 m, .int .i64 n, .slice A l c] 28) (.cells #[.int .i64 y0, .int .i64 y1, .int .i64 y2] 56)))
  have i1 : ((60 : Int) < (l : Int)) = False := eq_false (by omega)
  have i2 : ((110 : Int) < (k0 : Int)) = False := eq_false (by omega)
  clear hE hA hW hf hf2
  go_enter Tryz.func6, Tryz.ntmps6
  go_wp2_with (first
    | (refine wpList_loadc8 rfl 26 _ rfl S0.out 1 _ _ rfl 2 _ rfl rfl Tryz.isAgg26 ?_)
    | (refine wpList_load_st rfl 28 _ rfl S0.out 1 _ _ rfl rfl _ Tryz.underlying28 rfl (by rfl) ?_))
  refine (H1 _ HE0.out (S0.out.fact 1 rfl) (S0.out.fact 0 rfl)).out.mono ?_
  rintro e w1 ⟨A1, q1, c1, hq1, rfl, hO, hB⟩
  have S1 := Lib.hid (S0.out.on hB)
  have HE1 := Lib.hid (HS.out.mono _ _ HE0.out hB)
  have Hq1 := Lib.hid hq1
  clear hO hq1
  clear hB S0 HE0
  obtain ⟨p1, hp1⟩ : ∃ p, p = w.heap.size + 1 := ⟨_, rfl⟩
  rw [← hp1] at S1 ⊢
  obtain ⟨p0, hp0⟩ : ∃ p, p = w.heap.size := ⟨_, rfl⟩
  rw [← hp0] at S1 ⊢
  clear hp1 hp0 H1
  go_wp2_with (refine wpList_load_st rfl 28 _ rfl S1.out 1 _ _ rfl rfl _ Tryz.underlying28 rfl (by rfl) ?_)
  refine (H2 _ HE1.out (S1.out.fact 1 rfl)).out.mono ?_
  rintro e w2 ⟨A2, q2, c2, hq2, rfl, hO, hB⟩
  have S2 := Lib.hid (S1.out.on hB)
  have HE2 := Lib.hid (HS.out.mono _ _ HE1.out hB)
  have Hq2 := Lib.hid hq2
  clear hO hq2
  clear hB S1 HE1
  clear H2
  go_wp2_with (refine wpList_load_st rfl 56 _ rfl S2.out 0 _ _ rfl rfl _ Tryz.underlying56 rfl (by rfl) ?_)
  have T3 := WinsAt.one w2 y0 y1 y2 56
  have HN3 := Lib.hid (below_new w2 (.cells #[.int .i64 y0, .int .i64 y1, .int .i64 y2] 56))
  have S3 := Lib.hid (S2.out.on HN3.out)
  have HE3 := Lib.hid (HS.out.mono _ _ HE2.out HN3.out)
  refine (H3 _ _ (S3.out.fact 0 rfl) T3).out.mono ?_
  rintro e w4 ⟨A3, c3, rfl, hO, hB⟩
  have S4 := Lib.hid (S3.out.on hB)
  have HE4 := Lib.hid (HS.out.mono _ _ HE3.out hB)
  have S4x := Lib.hid (S4.out.more (winF A3 mo) hO.rows.1)
  have R4 := Lib.hid hO.rows.2
  clear hO
  clear hB S3 HE3
  clear H3 T3 HN3 S2 HE2 S4
  rcases hX with ⟨a1, b1⟩ | ⟨⟨a1, b1⟩, ⟨a2, b2⟩, a3, b3⟩
  all_goals
    go_wp2_with fail
    refine (HC.out _ HE4.out).mono ?_
    rintro e w5 ⟨rfl, hB⟩
    have S5 := Lib.hid (S4x.out.on hB)
    clear hB
    go_wp2
    go_ret
    exact ⟨rfl, S5.out.below⟩

set_option maxHeartbeats 4000000 in
theorem showMore_j {E : World → Prop} (HS : Hid (ShowK E)) (HC : Hid (ShownK E)) (m n : Int) (A : Option Addr) (l c : Nat) (ls : List Alm) (B : Option Addr) (k0 d : Nat) (ws : List Win) (y0 y1 y2 t1 t2 : Int) (w : World) (hd al : List Alm) (mo : List Win) (qm : Nat) (hE : E w) (hA : AlmsAt w w.heap.size A ls) (hW : WinsAt w w.heap.size B ws) (hf : l ≤ 60) (hf2 : k0 ≤ 110) (hk : List Alm) (xs ys : List ByteArray) (ej eo : Int) (g5 : (ej != 0) = true)
    (H1 : ∀ (W : World) (_h : E W) (_hA : AlmsAt W W.heap.size A ls) (_hB : WinsAt W W.heap.size B ws), Hid (Calls Tryz.prog 13 #[.agg #[.int .i64 m, .int .i64 n, .slice A l c], .slice B k0 d] W (GivesH W hd 0)))
    (H2 : ∀ (W : World) (_h : E W) (_hA : AlmsAt W W.heap.size A ls), Hid (Calls Tryz.prog 13 #[.agg #[.int .i64 m, .int .i64 n, .slice A l c], .slice none 0 0] W (GivesH W al 0)))
    (H3 : ∀ (W : World) (B2 : Addr) (_hB : WinsAt W W.heap.size B ws) (_h2 : WinsAt W W.heap.size (some B2) [(⟨y0, y1, y2⟩ : Win)]), Hid (Calls Tryz.prog 26 #[.slice B k0 d, .slice (some B2) 1 1] W (GivesW W qm mo 0)))
    (H4 : ∀ (W : World) (A3 : Option Addr) (c3 : Nat) (_h : E W) (_hA : AlmsAt W W.heap.size A ls) (_hM : WinsAt W W.heap.size A3 mo) (_hR : Roomy A3 mo c3), Hid (Calls Tryz.prog 13 #[.agg #[.int .i64 m, .int .i64 n, .slice A l c], .slice A3 qm c3] W (GivesH W hk 0)))
    (H5 : ∀ (W : World) (_h : E W) (_hA : AlmsAt W W.heap.size A ls) (_hB : WinsAt W W.heap.size B ws), Hid (Calls Tryz.prog 15 #[.agg #[.int .i64 m, .int .i64 n, .slice A l c], .slice B k0 d, .int .i64 t1] W (GivesX W xs ej)))
    (H6 : ∀ (W : World) (_h : E W) (_hA : AlmsAt W W.heap.size A ls) (_hB : WinsAt W W.heap.size B ws), Hid (Calls Tryz.prog 15 #[.agg #[.int .i64 m, .int .i64 n, .slice A l c], .slice B k0 d, .int .i64 t2] W (GivesX W ys eo)))
    (hal : al.length = l) (hkl : hk.length ≤ hd.length) :
    Calls Tryz.prog 6 #[.agg #[.int .i64 m, .int .i64 n, .slice A l c], .slice B k0 d, .agg #[.int .i64 y0, .int .i64 y1, .int .i64 y2], .int .i64 t1, .int .i64 t2] w fun e w' => e = .returned (.bool true) ∧ Below w.heap.size w w' := by
  have Hal := Lib.hid hal
  have Hkl := Lib.hid hkl
  clear hal hkl
  have S0 := Lib.hid ((((St.start w).more (rowF A ls) hA).more (winF B ws) hW).box2 #[.int .i64 m, .int .i64 n, .slice A l c] #[.int .i64 y0, .int .i64 y1, .int .i64 y2] 28 56)
  have HE0 := Lib.hid (HS.out.mono _ _ hE (below_new2 w (.cells #[.int .i64 m, .int .i64 n, .slice A l c] 28) (.cells #[.int .i64 y0, .int .i64 y1, .int .i64 y2] 56)))
  have i1 : ((60 : Int) < (l : Int)) = False := eq_false (by omega)
  have i2 : ((110 : Int) < (k0 : Int)) = False := eq_false (by omega)
  clear hE hA hW hf hf2
  go_enter Tryz.func6, Tryz.ntmps6
  go_wp2_with (first
    | (refine wpList_loadc8 rfl 26 _ rfl S0.out 1 _ _ rfl 2 _ rfl rfl Tryz.isAgg26 ?_)
    | (refine wpList_load_st rfl 28 _ rfl S0.out 1 _ _ rfl rfl _ Tryz.underlying28 rfl (by rfl) ?_))
  refine (H1 _ HE0.out (S0.out.fact 1 rfl) (S0.out.fact 0 rfl)).out.mono ?_
  rintro e w1 ⟨A1, q1, c1, hq1, rfl, hO, hB⟩
  have S1 := Lib.hid (S0.out.on hB)
  have HE1 := Lib.hid (HS.out.mono _ _ HE0.out hB)
  have Hq1 := Lib.hid hq1
  clear hO hq1
  clear hB S0 HE0
  obtain ⟨p1, hp1⟩ : ∃ p, p = w.heap.size + 1 := ⟨_, rfl⟩
  rw [← hp1] at S1 ⊢
  obtain ⟨p0, hp0⟩ : ∃ p, p = w.heap.size := ⟨_, rfl⟩
  rw [← hp0] at S1 ⊢
  clear hp1 hp0 H1
  go_wp2_with (refine wpList_load_st rfl 28 _ rfl S1.out 1 _ _ rfl rfl _ Tryz.underlying28 rfl (by rfl) ?_)
  refine (H2 _ HE1.out (S1.out.fact 1 rfl)).out.mono ?_
  rintro e w2 ⟨A2, q2, c2, hq2, rfl, hO, hB⟩
  have S2 := Lib.hid (S1.out.on hB)
  have HE2 := Lib.hid (HS.out.mono _ _ HE1.out hB)
  have Hq2 := Lib.hid hq2
  clear hO hq2
  clear hB S1 HE1
  clear H2
  go_wp2_with (refine wpList_load_st rfl 56 _ rfl S2.out 0 _ _ rfl rfl _ Tryz.underlying56 rfl (by rfl) ?_)
  have T3 := WinsAt.one w2 y0 y1 y2 56
  have HN3 := Lib.hid (below_new w2 (.cells #[.int .i64 y0, .int .i64 y1, .int .i64 y2] 56))
  have S3 := Lib.hid (S2.out.on HN3.out)
  have HE3 := Lib.hid (HS.out.mono _ _ HE2.out HN3.out)
  refine (H3 _ _ (S3.out.fact 0 rfl) T3).out.mono ?_
  rintro e w4 ⟨A3, c3, rfl, hO, hB⟩
  have S4 := Lib.hid (S3.out.on hB)
  have HE4 := Lib.hid (HS.out.mono _ _ HE3.out hB)
  have S4x := Lib.hid (S4.out.more (winF A3 mo) hO.rows.1)
  have R4 := Lib.hid hO.rows.2
  clear hO
  clear hB S3 HE3
  clear H3 T3 HN3 S2 HE2 S4
  go_wp2_with (refine wpList_load_st rfl 28 _ rfl S4x.out 1 _ _ rfl rfl _ Tryz.underlying28 rfl (by rfl) ?_)
  refine (H4 _ A3 c3 HE4.out (S4x.out.fact 2 rfl) (S4x.out.fact 0 rfl) R4.out).out.mono ?_
  rintro e w5 ⟨A4, q4, c4, hq4, rfl, hO, hB⟩
  have S5 := Lib.hid (S4x.out.on hB)
  have HE5 := Lib.hid (HS.out.mono _ _ HE4.out hB)
  have Hq4 := Lib.hid hq4
  clear hO hq4
  clear hB S4x HE4
  clear H4 R4
  go_wp2_with (refine wpList_load_st rfl 28 _ rfl S5.out 1 _ _ rfl rfl _ Tryz.underlying28 rfl (by rfl) ?_)
  refine (H5 _ HE5.out (S5.out.fact 2 rfl) (S5.out.fact 1 rfl)).out.mono ?_
  rintro e w6 ⟨A5, q5, c5, hq5, rfl, hO, h5n, h5c, hB⟩
  have S6 := Lib.hid (S5.out.on hB)
  have HE6 := Lib.hid (HS.out.mono _ _ HE5.out hB)
  have S6x := Lib.hid (S6.out.more (texF A5 xs) hO)
  have Hq5 := Lib.hid hq5
  clear hO hq5 h5n h5c
  clear hB S5 HE5
  clear H5 S6
  go_wp2_with (refine wpList_load_st rfl 28 _ rfl S6x.out 1 _ _ rfl rfl _ Tryz.underlying28 rfl (by rfl) ?_)
  refine (H6 _ HE6.out (S6x.out.fact 3 rfl) (S6x.out.fact 2 rfl)).out.mono ?_
  rintro e w7 ⟨A6, q6, c6, hq6, rfl, hO, h6n, h6c, hB⟩
  have S7 := Lib.hid (S6x.out.on hB)
  have HE7 := Lib.hid (HS.out.mono _ _ HE6.out hB)
  have S7x := Lib.hid (S7.out.more (texF A6 ys) hO)
  have Hq6 := Lib.hid hq6
  have H6n := Lib.hid h6n
  have H6c := Lib.hid h6c
  clear hO hq6 h6n h6c
  clear hB S6x HE6
  clear H6 S7
  obtain rfl : q2 = l := Hq2.out.trans Hal.out
  have hkl := Hkl.out
  rw [← Hq1.out, ← Hq4.out] at hkl
  have g1 : ((q1 : Int) < (q4 : Int)) = False := eq_false (by omega)
  have g2 : (q1 < q4) = False := eq_false (by omega)
  have g3 : ¬ (q1 < q4) := by omega
  have g4 : q4 ≤ q1 := by omega
  have eB := S7x.out.cell 1 rfl 2 rfl
  clear hkl
  go_wp2_with fail
  refine (HC.out _ HE7.out).mono ?_
  rintro e w8 ⟨rfl, hB⟩
  have S8 := Lib.hid (S7x.out.on hB)
  clear hB
  go_wp2
  go_ret
  exact ⟨rfl, S8.out.below⟩

set_option maxHeartbeats 4000000 in
theorem showMore_o {E : World → Prop} (HS : Hid (ShowK E)) (HC : Hid (ShownK E)) (m n : Int) (A : Option Addr) (l c : Nat) (ls : List Alm) (B : Option Addr) (k0 d : Nat) (ws : List Win) (y0 y1 y2 t1 t2 : Int) (w : World) (hd al : List Alm) (mo : List Win) (qm : Nat) (hE : E w) (hA : AlmsAt w w.heap.size A ls) (hW : WinsAt w w.heap.size B ws) (hf : l ≤ 60) (hf2 : k0 ≤ 110) (hk : List Alm) (xs ys : List ByteArray) (eo : Int) (g5 : (eo != 0) = true)
    (H1 : ∀ (W : World) (_h : E W) (_hA : AlmsAt W W.heap.size A ls) (_hB : WinsAt W W.heap.size B ws), Hid (Calls Tryz.prog 13 #[.agg #[.int .i64 m, .int .i64 n, .slice A l c], .slice B k0 d] W (GivesH W hd 0)))
    (H2 : ∀ (W : World) (_h : E W) (_hA : AlmsAt W W.heap.size A ls), Hid (Calls Tryz.prog 13 #[.agg #[.int .i64 m, .int .i64 n, .slice A l c], .slice none 0 0] W (GivesH W al 0)))
    (H3 : ∀ (W : World) (B2 : Addr) (_hB : WinsAt W W.heap.size B ws) (_h2 : WinsAt W W.heap.size (some B2) [(⟨y0, y1, y2⟩ : Win)]), Hid (Calls Tryz.prog 26 #[.slice B k0 d, .slice (some B2) 1 1] W (GivesW W qm mo 0)))
    (H4 : ∀ (W : World) (A3 : Option Addr) (c3 : Nat) (_h : E W) (_hA : AlmsAt W W.heap.size A ls) (_hM : WinsAt W W.heap.size A3 mo) (_hR : Roomy A3 mo c3), Hid (Calls Tryz.prog 13 #[.agg #[.int .i64 m, .int .i64 n, .slice A l c], .slice A3 qm c3] W (GivesH W hk 0)))
    (H5 : ∀ (W : World) (_h : E W) (_hA : AlmsAt W W.heap.size A ls) (_hB : WinsAt W W.heap.size B ws), Hid (Calls Tryz.prog 15 #[.agg #[.int .i64 m, .int .i64 n, .slice A l c], .slice B k0 d, .int .i64 t1] W (GivesX W xs 0)))
    (H6 : ∀ (W : World) (_h : E W) (_hA : AlmsAt W W.heap.size A ls) (_hB : WinsAt W W.heap.size B ws), Hid (Calls Tryz.prog 15 #[.agg #[.int .i64 m, .int .i64 n, .slice A l c], .slice B k0 d, .int .i64 t2] W (GivesX W ys eo)))
    (hal : al.length = l) (hkl : hk.length ≤ hd.length) :
    Calls Tryz.prog 6 #[.agg #[.int .i64 m, .int .i64 n, .slice A l c], .slice B k0 d, .agg #[.int .i64 y0, .int .i64 y1, .int .i64 y2], .int .i64 t1, .int .i64 t2] w fun e w' => e = .returned (.bool true) ∧ Below w.heap.size w w' := by
  have Hal := Lib.hid hal
  have Hkl := Lib.hid hkl
  clear hal hkl
  have S0 := Lib.hid ((((St.start w).more (rowF A ls) hA).more (winF B ws) hW).box2 #[.int .i64 m, .int .i64 n, .slice A l c] #[.int .i64 y0, .int .i64 y1, .int .i64 y2] 28 56)
  have HE0 := Lib.hid (HS.out.mono _ _ hE (below_new2 w (.cells #[.int .i64 m, .int .i64 n, .slice A l c] 28) (.cells #[.int .i64 y0, .int .i64 y1, .int .i64 y2] 56)))
  have i1 : ((60 : Int) < (l : Int)) = False := eq_false (by omega)
  have i2 : ((110 : Int) < (k0 : Int)) = False := eq_false (by omega)
  clear hE hA hW hf hf2
  go_enter Tryz.func6, Tryz.ntmps6
  go_wp2_with (first
    | (refine wpList_loadc8 rfl 26 _ rfl S0.out 1 _ _ rfl 2 _ rfl rfl Tryz.isAgg26 ?_)
    | (refine wpList_load_st rfl 28 _ rfl S0.out 1 _ _ rfl rfl _ Tryz.underlying28 rfl (by rfl) ?_))
  refine (H1 _ HE0.out (S0.out.fact 1 rfl) (S0.out.fact 0 rfl)).out.mono ?_
  rintro e w1 ⟨A1, q1, c1, hq1, rfl, hO, hB⟩
  have S1 := Lib.hid (S0.out.on hB)
  have HE1 := Lib.hid (HS.out.mono _ _ HE0.out hB)
  have Hq1 := Lib.hid hq1
  clear hO hq1
  clear hB S0 HE0
  obtain ⟨p1, hp1⟩ : ∃ p, p = w.heap.size + 1 := ⟨_, rfl⟩
  rw [← hp1] at S1 ⊢
  obtain ⟨p0, hp0⟩ : ∃ p, p = w.heap.size := ⟨_, rfl⟩
  rw [← hp0] at S1 ⊢
  clear hp1 hp0 H1
  go_wp2_with (refine wpList_load_st rfl 28 _ rfl S1.out 1 _ _ rfl rfl _ Tryz.underlying28 rfl (by rfl) ?_)
  refine (H2 _ HE1.out (S1.out.fact 1 rfl)).out.mono ?_
  rintro e w2 ⟨A2, q2, c2, hq2, rfl, hO, hB⟩
  have S2 := Lib.hid (S1.out.on hB)
  have HE2 := Lib.hid (HS.out.mono _ _ HE1.out hB)
  have Hq2 := Lib.hid hq2
  clear hO hq2
  clear hB S1 HE1
  clear H2
  go_wp2_with (refine wpList_load_st rfl 56 _ rfl S2.out 0 _ _ rfl rfl _ Tryz.underlying56 rfl (by rfl) ?_)
  have T3 := WinsAt.one w2 y0 y1 y2 56
  have HN3 := Lib.hid (below_new w2 (.cells #[.int .i64 y0, .int .i64 y1, .int .i64 y2] 56))
  have S3 := Lib.hid (S2.out.on HN3.out)
  have HE3 := Lib.hid (HS.out.mono _ _ HE2.out HN3.out)
  refine (H3 _ _ (S3.out.fact 0 rfl) T3).out.mono ?_
  rintro e w4 ⟨A3, c3, rfl, hO, hB⟩
  have S4 := Lib.hid (S3.out.on hB)
  have HE4 := Lib.hid (HS.out.mono _ _ HE3.out hB)
  have S4x := Lib.hid (S4.out.more (winF A3 mo) hO.rows.1)
  have R4 := Lib.hid hO.rows.2
  clear hO
  clear hB S3 HE3
  clear H3 T3 HN3 S2 HE2 S4
  go_wp2_with (refine wpList_load_st rfl 28 _ rfl S4x.out 1 _ _ rfl rfl _ Tryz.underlying28 rfl (by rfl) ?_)
  refine (H4 _ A3 c3 HE4.out (S4x.out.fact 2 rfl) (S4x.out.fact 0 rfl) R4.out).out.mono ?_
  rintro e w5 ⟨A4, q4, c4, hq4, rfl, hO, hB⟩
  have S5 := Lib.hid (S4x.out.on hB)
  have HE5 := Lib.hid (HS.out.mono _ _ HE4.out hB)
  have Hq4 := Lib.hid hq4
  clear hO hq4
  clear hB S4x HE4
  clear H4 R4
  go_wp2_with (refine wpList_load_st rfl 28 _ rfl S5.out 1 _ _ rfl rfl _ Tryz.underlying28 rfl (by rfl) ?_)
  refine (H5 _ HE5.out (S5.out.fact 2 rfl) (S5.out.fact 1 rfl)).out.mono ?_
  rintro e w6 ⟨A5, q5, c5, hq5, rfl, hO, h5n, h5c, hB⟩
  have S6 := Lib.hid (S5.out.on hB)
  have HE6 := Lib.hid (HS.out.mono _ _ HE5.out hB)
  have S6x := Lib.hid (S6.out.more (texF A5 xs) hO)
  have Hq5 := Lib.hid hq5
  clear hO hq5 h5n h5c
  clear hB S5 HE5
  clear H5 S6
  go_wp2_with (refine wpList_load_st rfl 28 _ rfl S6x.out 1 _ _ rfl rfl _ Tryz.underlying28 rfl (by rfl) ?_)
  refine (H6 _ HE6.out (S6x.out.fact 3 rfl) (S6x.out.fact 2 rfl)).out.mono ?_
  rintro e w7 ⟨A6, q6, c6, hq6, rfl, hO, h6n, h6c, hB⟩
  have S7 := Lib.hid (S6x.out.on hB)
  have HE7 := Lib.hid (HS.out.mono _ _ HE6.out hB)
  have S7x := Lib.hid (S7.out.more (texF A6 ys) hO)
  have Hq6 := Lib.hid hq6
  have H6n := Lib.hid h6n
  have H6c := Lib.hid h6c
  clear hO hq6 h6n h6c
  clear hB S6x HE6
  clear H6 S7
  obtain rfl : q2 = l := Hq2.out.trans Hal.out
  have hkl := Hkl.out
  rw [← Hq1.out, ← Hq4.out] at hkl
  have g1 : ((q1 : Int) < (q4 : Int)) = False := eq_false (by omega)
  have g2 : (q1 < q4) = False := eq_false (by omega)
  have g3 : ¬ (q1 < q4) := by omega
  have g4 : q4 ≤ q1 := by omega
  have eB := S7x.out.cell 1 rfl 2 rfl
  clear hkl
  go_wp2_with fail
  refine (HC.out _ HE7.out).mono ?_
  rintro e w8 ⟨rfl, hB⟩
  have S8 := Lib.hid (S7x.out.on hB)
  clear hB
  go_wp2
  go_ret
  exact ⟨rfl, S8.out.below⟩

set_option maxHeartbeats 4000000 in
theorem showMore_g {E : World → Prop} (HS : Hid (ShowK E)) (HC : Hid (ShownK E)) (m n : Int) (A : Option Addr) (l c : Nat) (ls : List Alm) (B : Option Addr) (k0 d : Nat) (ws : List Win) (y0 y1 y2 t1 t2 : Int) (w : World) (hd al : List Alm) (mo : List Win) (qm : Nat) (hE : E w) (hA : AlmsAt w w.heap.size A ls) (hW : WinsAt w w.heap.size B ws) (hf : l ≤ 60) (hf2 : k0 ≤ 110) (hk : List Alm) (xs ys : List ByteArray) (g5 : (t2 < t1) = True)
    (H1 : ∀ (W : World) (_h : E W) (_hA : AlmsAt W W.heap.size A ls) (_hB : WinsAt W W.heap.size B ws), Hid (Calls Tryz.prog 13 #[.agg #[.int .i64 m, .int .i64 n, .slice A l c], .slice B k0 d] W (GivesH W hd 0)))
    (H2 : ∀ (W : World) (_h : E W) (_hA : AlmsAt W W.heap.size A ls), Hid (Calls Tryz.prog 13 #[.agg #[.int .i64 m, .int .i64 n, .slice A l c], .slice none 0 0] W (GivesH W al 0)))
    (H3 : ∀ (W : World) (B2 : Addr) (_hB : WinsAt W W.heap.size B ws) (_h2 : WinsAt W W.heap.size (some B2) [(⟨y0, y1, y2⟩ : Win)]), Hid (Calls Tryz.prog 26 #[.slice B k0 d, .slice (some B2) 1 1] W (GivesW W qm mo 0)))
    (H4 : ∀ (W : World) (A3 : Option Addr) (c3 : Nat) (_h : E W) (_hA : AlmsAt W W.heap.size A ls) (_hM : WinsAt W W.heap.size A3 mo) (_hR : Roomy A3 mo c3), Hid (Calls Tryz.prog 13 #[.agg #[.int .i64 m, .int .i64 n, .slice A l c], .slice A3 qm c3] W (GivesH W hk 0)))
    (H5 : ∀ (W : World) (_h : E W) (_hA : AlmsAt W W.heap.size A ls) (_hB : WinsAt W W.heap.size B ws), Hid (Calls Tryz.prog 15 #[.agg #[.int .i64 m, .int .i64 n, .slice A l c], .slice B k0 d, .int .i64 t1] W (GivesX W xs 0)))
    (H6 : ∀ (W : World) (_h : E W) (_hA : AlmsAt W W.heap.size A ls) (_hB : WinsAt W W.heap.size B ws), Hid (Calls Tryz.prog 15 #[.agg #[.int .i64 m, .int .i64 n, .slice A l c], .slice B k0 d, .int .i64 t2] W (GivesX W ys 0)))
    (hal : al.length = l) (hkl : hk.length ≤ hd.length) :
    Calls Tryz.prog 6 #[.agg #[.int .i64 m, .int .i64 n, .slice A l c], .slice B k0 d, .agg #[.int .i64 y0, .int .i64 y1, .int .i64 y2], .int .i64 t1, .int .i64 t2] w fun e w' => e = .returned (.bool true) ∧ Below w.heap.size w w' := by
  have Hal := Lib.hid hal
  have Hkl := Lib.hid hkl
  clear hal hkl
  have S0 := Lib.hid ((((St.start w).more (rowF A ls) hA).more (winF B ws) hW).box2 #[.int .i64 m, .int .i64 n, .slice A l c] #[.int .i64 y0, .int .i64 y1, .int .i64 y2] 28 56)
  have HE0 := Lib.hid (HS.out.mono _ _ hE (below_new2 w (.cells #[.int .i64 m, .int .i64 n, .slice A l c] 28) (.cells #[.int .i64 y0, .int .i64 y1, .int .i64 y2] 56)))
  have i1 : ((60 : Int) < (l : Int)) = False := eq_false (by omega)
  have i2 : ((110 : Int) < (k0 : Int)) = False := eq_false (by omega)
  clear hE hA hW hf hf2
  go_enter Tryz.func6, Tryz.ntmps6
  go_wp2_with (first
    | (refine wpList_loadc8 rfl 26 _ rfl S0.out 1 _ _ rfl 2 _ rfl rfl Tryz.isAgg26 ?_)
    | (refine wpList_load_st rfl 28 _ rfl S0.out 1 _ _ rfl rfl _ Tryz.underlying28 rfl (by rfl) ?_))
  refine (H1 _ HE0.out (S0.out.fact 1 rfl) (S0.out.fact 0 rfl)).out.mono ?_
  rintro e w1 ⟨A1, q1, c1, hq1, rfl, hO, hB⟩
  have S1 := Lib.hid (S0.out.on hB)
  have HE1 := Lib.hid (HS.out.mono _ _ HE0.out hB)
  have Hq1 := Lib.hid hq1
  clear hO hq1
  clear hB S0 HE0
  obtain ⟨p1, hp1⟩ : ∃ p, p = w.heap.size + 1 := ⟨_, rfl⟩
  rw [← hp1] at S1 ⊢
  obtain ⟨p0, hp0⟩ : ∃ p, p = w.heap.size := ⟨_, rfl⟩
  rw [← hp0] at S1 ⊢
  clear hp1 hp0 H1
  go_wp2_with (refine wpList_load_st rfl 28 _ rfl S1.out 1 _ _ rfl rfl _ Tryz.underlying28 rfl (by rfl) ?_)
  refine (H2 _ HE1.out (S1.out.fact 1 rfl)).out.mono ?_
  rintro e w2 ⟨A2, q2, c2, hq2, rfl, hO, hB⟩
  have S2 := Lib.hid (S1.out.on hB)
  have HE2 := Lib.hid (HS.out.mono _ _ HE1.out hB)
  have Hq2 := Lib.hid hq2
  clear hO hq2
  clear hB S1 HE1
  clear H2
  go_wp2_with (refine wpList_load_st rfl 56 _ rfl S2.out 0 _ _ rfl rfl _ Tryz.underlying56 rfl (by rfl) ?_)
  have T3 := WinsAt.one w2 y0 y1 y2 56
  have HN3 := Lib.hid (below_new w2 (.cells #[.int .i64 y0, .int .i64 y1, .int .i64 y2] 56))
  have S3 := Lib.hid (S2.out.on HN3.out)
  have HE3 := Lib.hid (HS.out.mono _ _ HE2.out HN3.out)
  refine (H3 _ _ (S3.out.fact 0 rfl) T3).out.mono ?_
  rintro e w4 ⟨A3, c3, rfl, hO, hB⟩
  have S4 := Lib.hid (S3.out.on hB)
  have HE4 := Lib.hid (HS.out.mono _ _ HE3.out hB)
  have S4x := Lib.hid (S4.out.more (winF A3 mo) hO.rows.1)
  have R4 := Lib.hid hO.rows.2
  clear hO
  clear hB S3 HE3
  clear H3 T3 HN3 S2 HE2 S4
  go_wp2_with (refine wpList_load_st rfl 28 _ rfl S4x.out 1 _ _ rfl rfl _ Tryz.underlying28 rfl (by rfl) ?_)
  refine (H4 _ A3 c3 HE4.out (S4x.out.fact 2 rfl) (S4x.out.fact 0 rfl) R4.out).out.mono ?_
  rintro e w5 ⟨A4, q4, c4, hq4, rfl, hO, hB⟩
  have S5 := Lib.hid (S4x.out.on hB)
  have HE5 := Lib.hid (HS.out.mono _ _ HE4.out hB)
  have Hq4 := Lib.hid hq4
  clear hO hq4
  clear hB S4x HE4
  clear H4 R4
  go_wp2_with (refine wpList_load_st rfl 28 _ rfl S5.out 1 _ _ rfl rfl _ Tryz.underlying28 rfl (by rfl) ?_)
  refine (H5 _ HE5.out (S5.out.fact 2 rfl) (S5.out.fact 1 rfl)).out.mono ?_
  rintro e w6 ⟨A5, q5, c5, hq5, rfl, hO, h5n, h5c, hB⟩
  have S6 := Lib.hid (S5.out.on hB)
  have HE6 := Lib.hid (HS.out.mono _ _ HE5.out hB)
  have S6x := Lib.hid (S6.out.more (texF A5 xs) hO)
  have Hq5 := Lib.hid hq5
  clear hO hq5 h5n h5c
  clear hB S5 HE5
  clear H5 S6
  go_wp2_with (refine wpList_load_st rfl 28 _ rfl S6x.out 1 _ _ rfl rfl _ Tryz.underlying28 rfl (by rfl) ?_)
  refine (H6 _ HE6.out (S6x.out.fact 3 rfl) (S6x.out.fact 2 rfl)).out.mono ?_
  rintro e w7 ⟨A6, q6, c6, hq6, rfl, hO, h6n, h6c, hB⟩
  have S7 := Lib.hid (S6x.out.on hB)
  have HE7 := Lib.hid (HS.out.mono _ _ HE6.out hB)
  have S7x := Lib.hid (S7.out.more (texF A6 ys) hO)
  have Hq6 := Lib.hid hq6
  have H6n := Lib.hid h6n
  have H6c := Lib.hid h6c
  clear hO hq6 h6n h6c
  clear hB S6x HE6
  clear H6 S7
  obtain rfl : q2 = l := Hq2.out.trans Hal.out
  have hkl := Hkl.out
  rw [← Hq1.out, ← Hq4.out] at hkl
  have g1 : ((q1 : Int) < (q4 : Int)) = False := eq_false (by omega)
  have g2 : (q1 < q4) = False := eq_false (by omega)
  have g3 : ¬ (q1 < q4) := by omega
  have g4 : q4 ≤ q1 := by omega
  have eB := S7x.out.cell 1 rfl 2 rfl
  clear hkl
  go_wp2_with fail
  refine (HC.out _ HE7.out).mono ?_
  rintro e w8 ⟨rfl, hB⟩
  have S8 := Lib.hid (S7x.out.on hB)
  clear hB
  go_wp2
  go_ret
  exact ⟨rfl, S8.out.below⟩

set_option maxHeartbeats 4000000 in
theorem showMore_k {E : World → Prop} (HS : Hid (ShowK E)) (HC : Hid (ShownK E)) (HX : Hid XSameK) (m n : Int) (A : Option Addr) (l c : Nat) (ls : List Alm) (B : Option Addr) (k0 d : Nat) (ws : List Win) (y0 y1 y2 t1 t2 : Int) (w : World) (hd al : List Alm) (mo : List Win) (qm : Nat) (hE : E w) (hA : AlmsAt w w.heap.size A ls) (hW : WinsAt w w.heap.size B ws) (hf : l ≤ 60) (hf2 : k0 ≤ 110) (hk : List Alm) (xs ys : List ByteArray) (g5 : (t2 < t1) = False) (z1 : xs.length ≤ ys.length) (z2 : ys.take xs.length = xs) (z3 : ((xs.length : Int) = t1) ∨ (xs.length = hd.length ∧ ys.length = hd.length)) (z4 : xs.length ≤ 1000)
    (H1 : ∀ (W : World) (_h : E W) (_hA : AlmsAt W W.heap.size A ls) (_hB : WinsAt W W.heap.size B ws), Hid (Calls Tryz.prog 13 #[.agg #[.int .i64 m, .int .i64 n, .slice A l c], .slice B k0 d] W (GivesH W hd 0)))
    (H2 : ∀ (W : World) (_h : E W) (_hA : AlmsAt W W.heap.size A ls), Hid (Calls Tryz.prog 13 #[.agg #[.int .i64 m, .int .i64 n, .slice A l c], .slice none 0 0] W (GivesH W al 0)))
    (H3 : ∀ (W : World) (B2 : Addr) (_hB : WinsAt W W.heap.size B ws) (_h2 : WinsAt W W.heap.size (some B2) [(⟨y0, y1, y2⟩ : Win)]), Hid (Calls Tryz.prog 26 #[.slice B k0 d, .slice (some B2) 1 1] W (GivesW W qm mo 0)))
    (H4 : ∀ (W : World) (A3 : Option Addr) (c3 : Nat) (_h : E W) (_hA : AlmsAt W W.heap.size A ls) (_hM : WinsAt W W.heap.size A3 mo) (_hR : Roomy A3 mo c3), Hid (Calls Tryz.prog 13 #[.agg #[.int .i64 m, .int .i64 n, .slice A l c], .slice A3 qm c3] W (GivesH W hk 0)))
    (H5 : ∀ (W : World) (_h : E W) (_hA : AlmsAt W W.heap.size A ls) (_hB : WinsAt W W.heap.size B ws), Hid (Calls Tryz.prog 15 #[.agg #[.int .i64 m, .int .i64 n, .slice A l c], .slice B k0 d, .int .i64 t1] W (GivesX W xs 0)))
    (H6 : ∀ (W : World) (_h : E W) (_hA : AlmsAt W W.heap.size A ls) (_hB : WinsAt W W.heap.size B ws), Hid (Calls Tryz.prog 15 #[.agg #[.int .i64 m, .int .i64 n, .slice A l c], .slice B k0 d, .int .i64 t2] W (GivesX W ys 0)))
    (hal : al.length = l) (hkl : hk.length ≤ hd.length) :
    Calls Tryz.prog 6 #[.agg #[.int .i64 m, .int .i64 n, .slice A l c], .slice B k0 d, .agg #[.int .i64 y0, .int .i64 y1, .int .i64 y2], .int .i64 t1, .int .i64 t2] w fun e w' => e = .returned (.bool true) ∧ Below w.heap.size w w' := by
  have Hal := Lib.hid hal
  have Hkl := Lib.hid hkl
  have Z1 := Lib.hid z1
  have Z2 := Lib.hid z2
  have Z3 := Lib.hid z3
  have Z4 := Lib.hid z4
  clear z1 z2 z3 z4
  clear hal hkl
  have S0 := Lib.hid ((((St.start w).more (rowF A ls) hA).more (winF B ws) hW).box2 #[.int .i64 m, .int .i64 n, .slice A l c] #[.int .i64 y0, .int .i64 y1, .int .i64 y2] 28 56)
  have HE0 := Lib.hid (HS.out.mono _ _ hE (below_new2 w (.cells #[.int .i64 m, .int .i64 n, .slice A l c] 28) (.cells #[.int .i64 y0, .int .i64 y1, .int .i64 y2] 56)))
  have i1 : ((60 : Int) < (l : Int)) = False := eq_false (by omega)
  have i2 : ((110 : Int) < (k0 : Int)) = False := eq_false (by omega)
  clear hE hA hW hf hf2
  go_enter Tryz.func6, Tryz.ntmps6
  go_wp2_with (first
    | (refine wpList_loadc8 rfl 26 _ rfl S0.out 1 _ _ rfl 2 _ rfl rfl Tryz.isAgg26 ?_)
    | (refine wpList_load_st rfl 28 _ rfl S0.out 1 _ _ rfl rfl _ Tryz.underlying28 rfl (by rfl) ?_))
  refine (H1 _ HE0.out (S0.out.fact 1 rfl) (S0.out.fact 0 rfl)).out.mono ?_
  rintro e w1 ⟨A1, q1, c1, hq1, rfl, hO, hB⟩
  have S1 := Lib.hid (S0.out.on hB)
  have HE1 := Lib.hid (HS.out.mono _ _ HE0.out hB)
  have Hq1 := Lib.hid hq1
  clear hO hq1
  clear hB S0 HE0
  obtain ⟨p1, hp1⟩ : ∃ p, p = w.heap.size + 1 := ⟨_, rfl⟩
  rw [← hp1] at S1 ⊢
  obtain ⟨p0, hp0⟩ : ∃ p, p = w.heap.size := ⟨_, rfl⟩
  rw [← hp0] at S1 ⊢
  clear hp1 hp0 H1
  go_wp2_with (refine wpList_load_st rfl 28 _ rfl S1.out 1 _ _ rfl rfl _ Tryz.underlying28 rfl (by rfl) ?_)
  refine (H2 _ HE1.out (S1.out.fact 1 rfl)).out.mono ?_
  rintro e w2 ⟨A2, q2, c2, hq2, rfl, hO, hB⟩
  have S2 := Lib.hid (S1.out.on hB)
  have HE2 := Lib.hid (HS.out.mono _ _ HE1.out hB)
  have Hq2 := Lib.hid hq2
  clear hO hq2
  clear hB S1 HE1
  clear H2
  go_wp2_with (refine wpList_load_st rfl 56 _ rfl S2.out 0 _ _ rfl rfl _ Tryz.underlying56 rfl (by rfl) ?_)
  have T3 := WinsAt.one w2 y0 y1 y2 56
  have HN3 := Lib.hid (below_new w2 (.cells #[.int .i64 y0, .int .i64 y1, .int .i64 y2] 56))
  have S3 := Lib.hid (S2.out.on HN3.out)
  have HE3 := Lib.hid (HS.out.mono _ _ HE2.out HN3.out)
  refine (H3 _ _ (S3.out.fact 0 rfl) T3).out.mono ?_
  rintro e w4 ⟨A3, c3, rfl, hO, hB⟩
  have S4 := Lib.hid (S3.out.on hB)
  have HE4 := Lib.hid (HS.out.mono _ _ HE3.out hB)
  have S4x := Lib.hid (S4.out.more (winF A3 mo) hO.rows.1)
  have R4 := Lib.hid hO.rows.2
  clear hO
  clear hB S3 HE3
  clear H3 T3 HN3 S2 HE2 S4
  go_wp2_with (refine wpList_load_st rfl 28 _ rfl S4x.out 1 _ _ rfl rfl _ Tryz.underlying28 rfl (by rfl) ?_)
  refine (H4 _ A3 c3 HE4.out (S4x.out.fact 2 rfl) (S4x.out.fact 0 rfl) R4.out).out.mono ?_
  rintro e w5 ⟨A4, q4, c4, hq4, rfl, hO, hB⟩
  have S5 := Lib.hid (S4x.out.on hB)
  have HE5 := Lib.hid (HS.out.mono _ _ HE4.out hB)
  have Hq4 := Lib.hid hq4
  clear hO hq4
  clear hB S4x HE4
  clear H4 R4
  go_wp2_with (refine wpList_load_st rfl 28 _ rfl S5.out 1 _ _ rfl rfl _ Tryz.underlying28 rfl (by rfl) ?_)
  refine (H5 _ HE5.out (S5.out.fact 2 rfl) (S5.out.fact 1 rfl)).out.mono ?_
  rintro e w6 ⟨A5, q5, c5, hq5, rfl, hO, h5n, h5c, hB⟩
  have S6 := Lib.hid (S5.out.on hB)
  have HE6 := Lib.hid (HS.out.mono _ _ HE5.out hB)
  have S6x := Lib.hid (S6.out.more (texF A5 xs) hO)
  have Hq5 := Lib.hid hq5
  clear hO hq5 h5n h5c
  clear hB S5 HE5
  clear H5 S6
  go_wp2_with (refine wpList_load_st rfl 28 _ rfl S6x.out 1 _ _ rfl rfl _ Tryz.underlying28 rfl (by rfl) ?_)
  refine (H6 _ HE6.out (S6x.out.fact 3 rfl) (S6x.out.fact 2 rfl)).out.mono ?_
  rintro e w7 ⟨A6, q6, c6, hq6, rfl, hO, h6n, h6c, hB⟩
  have S7 := Lib.hid (S6x.out.on hB)
  have HE7 := Lib.hid (HS.out.mono _ _ HE6.out hB)
  have S7x := Lib.hid (S7.out.more (texF A6 ys) hO)
  have Hq6 := Lib.hid hq6
  have H6n := Lib.hid h6n
  have H6c := Lib.hid h6c
  clear hO hq6 h6n h6c
  clear hB S6x HE6
  clear H6 S7
  obtain rfl : q2 = l := Hq2.out.trans Hal.out
  have hkl := Hkl.out
  rw [← Hq1.out, ← Hq4.out] at hkl
  have g1 : ((q1 : Int) < (q4 : Int)) = False := eq_false (by omega)
  have g2 : (q1 < q4) = False := eq_false (by omega)
  have g3 : ¬ (q1 < q4) := by omega
  have g4 : q4 ≤ q1 := by omega
  have eB := S7x.out.cell 1 rfl 2 rfl
  have z1 := Z1.out
  have z3 := Z3.out
  rw [← Hq5.out, ← Hq6.out] at z1
  rw [← Hq5.out, ← Hq1.out, ← Hq6.out] at z3
  have h6c := H6c.out
  have y1 : (q5 : Int) ≤ (q6 : Int) := by omega
  have y2 : (q5 : Int) ≤ (c6 : Int) := by omega
  have y3 : (0 : Int) ≤ (q5 : Int) := by omega
  clear hkl z1 h6c
  go_wp2_with fail
  refine (HC.out _ HE7.out).mono ?_
  rintro e w8 ⟨rfl, hB⟩
  have S8 := Lib.hid (S7x.out.on hB)
  clear hB
  go_wp2_with fail
  have k := HX.out A5 A6 q5 c5 c6 xs w8 Hq5.out (S8.out.fact 1 rfl) (by have h := StrsAt.takeX (q := xs.length) (S8.out.fact 0 rfl : StrsAt w8 w8.heap.size A6 ys); rw [Z2.out] at h; exact h) (by rw [Hq5.out]; exact Z4.out)
  refine k.mono ?_
  rintro e w9 ⟨rfl, hB⟩
  have S9 := Lib.hid (S8.out.on hB)
  clear hB k
  by_cases h : (q5 : Int) = t1
  · subst h
    clear z3
    go_wp2
    go_ret
    exact ⟨rfl, S9.out.below⟩
  · obtain ⟨h1, h2⟩ := z3.resolve_left h
    have hb : ((q5 : Int) == t1) = false := by rw [beq_eq_false_iff_ne]; exact h
    have hp : ((q5 : Int) = t1) = False := eq_false h
    clear h z3
    obtain rfl : q5 = q1 := h1
    obtain rfl : q6 = q5 := h2
    go_wp2
    go_ret
    exact ⟨rfl, S9.out.below⟩

theorem showMore_walk {E : World → Prop} (HS : Hid (ShowK E)) (HC : Hid (ShownK E)) (HX : Hid XSameK) (HM : Hid AddK) (m n : Int) (A : Option Addr) (c : Nat) (ls : List Alm) (B : Option Addr) (d : Nat) (ws : List Win) (y0 y1 y2 t1 t2 : Int) (w : World) (hE : E w) (hA : AlmsAt w w.heap.size A ls) (h0 : A = none → c = 0) (hW : WinsAt w w.heap.size B ws) (hR : Roomy B ws d) :
    Calls Tryz.prog 6 #[.agg #[.int .i64 m, .int .i64 n, .slice A ls.length c], .slice B ws.length d, .agg #[.int .i64 y0, .int .i64 y1, .int .i64 y2], .int .i64 t1, .int .i64 t2] w fun e w' => e = .returned (.bool true) ∧ Below w.heap.size w w' := by
  by_cases hf : 60 < ls.length
  · exact showMore_far1 m n A ls.length c B ws.length d y0 y1 y2 t1 t2 w hf
  by_cases hf2 : 110 < ws.length
  · exact showMore_far2 m n A ls.length c B ws.length d y0 y1 y2 t1 t2 w (by omega) hf2
  have k1 : ls.length ≤ 60 := by omega
  have k2 : ws.length ≤ 110 := by omega
  have H1 := fun (W : World) (h : E W) (hA : AlmsAt W W.heap.size A ls) (hB : WinsAt W W.heap.size B ws) => Lib.hid (HS.out.heard m n A ls.length c ls B ws.length d ws W h ⟨rfl, hA, h0, by omega⟩ ⟨rfl, hB, hR, by omega⟩)
  have H2 := fun (W : World) (h : E W) (hA : AlmsAt W W.heap.size A ls) => Lib.hid (HS.out.heard m n A ls.length c ls none 0 0 [] W h ⟨rfl, hA, h0, by omega⟩ ⟨rfl, WinsAt.nil _ _ _, ⟨fun _ => rfl, Nat.le_refl _⟩, by omega⟩)
  have H3 := fun (W : World) (B2 : Addr) (hB : WinsAt W W.heap.size B ws) (h2 : WinsAt W W.heap.size (some B2) [(⟨y0, y1, y2⟩ : Win)]) => Lib.hid (HM.out B ws.length d ws (some B2) 1 1 [(⟨y0, y1, y2⟩ : Win)] _ W ⟨rfl, hB, hR, by omega⟩ ⟨rfl, h2, ⟨(fun e => nomatch e), Nat.le_refl _⟩, by omega⟩ rfl)
  have H5 := fun (t : Int) (W : World) (h : E W) (hA : AlmsAt W W.heap.size A ls) (hB : WinsAt W W.heap.size B ws) => Lib.hid (HS.out.lines m n A ls.length c ls B ws.length d ws t W h ⟨rfl, hA, h0, by omega⟩ ⟨rfl, hB, hR, by omega⟩)
  have nz : ∀ e : Int, e ≠ 0 → (e == 0) = false ∧ (e != 0) = true := fun e h => by
    have h1 : (e == 0) = false := by rw [beq_eq_false_iff_ne]; exact h
    exact ⟨h1, by rw [bne, h1]; rfl⟩
  by_cases he : Sh.heardE m n ls ws = 0
  · have hfn := Sh.heardE_nil he
    by_cases hg : Mu.turnE ws [(⟨y0, y1, y2⟩ : Win)] true = 0
    · have hm := Sh.heardE_more he hg
      have hql := Mu.turn_len ws [(⟨y0, y1, y2⟩ : Win)] true
      have H4 := fun (W : World) (A3 : Option Addr) (c3 : Nat) (h : E W) (hA : AlmsAt W W.heap.size A ls) (hM : WinsAt W W.heap.size A3 (Mu.turn ws [(⟨y0, y1, y2⟩ : Win)] true)) (hR3 : Roomy A3 (Mu.turn ws [(⟨y0, y1, y2⟩ : Win)] true) c3) => Lib.hid (HS.out.heard m n A ls.length c ls A3 _ c3 _ W h ⟨rfl, hA, h0, by omega⟩ ⟨rfl, hM, hR3, by omega⟩)
      rw [he] at H1
      rw [hfn] at H2
      rw [hg] at H3
      rw [hm] at H4
      have hal := Sh.heard_all hfn
      have hkl := Sh.heard_more he hg
      have hE0 : ∀ t : Int, ¬ t < 1 → Sh.linesE m n ls ws t = 0 := fun t h => by unfold Sh.linesE; rw [if_pos he, if_neg h]
      have hE1 : ∀ t : Int, t < 1 → (Sh.linesE m n ls ws t != 0) = true := fun t h => by unfold Sh.linesE; rw [if_pos he, if_pos h]; rfl
      by_cases a1 : t1 < 1
      · exact showMore_j HS HC m n A ls.length c ls B ws.length d ws y0 y1 y2 t1 t2 w _ _ _ _ hE hA hW k1 k2 _ _ _ _ _ (hE1 t1 a1) H1 H2 H3 H4 (H5 t1) (H5 t2) hal hkl
      have G5 := H5 t1
      rw [hE0 t1 a1] at G5
      by_cases a2 : t2 < 1
      · exact showMore_o HS HC m n A ls.length c ls B ws.length d ws y0 y1 y2 t1 t2 w _ _ _ _ hE hA hW k1 k2 _ _ _ _ (hE1 t2 a2) H1 H2 H3 H4 G5 (H5 t2) hal hkl
      have G6 := H5 t2
      rw [hE0 t2 a2] at G6
      by_cases a3 : t2 < t1
      · exact showMore_g HS HC m n A ls.length c ls B ws.length d ws y0 y1 y2 t1 t2 w _ _ _ _ hE hA hW k1 k2 _ _ _ (eq_true a3) H1 H2 H3 H4 G5 G6 hal hkl
      have e5 := Sh.linesS_ok (hE0 t1 a1)
      have e6 := Sh.linesS_ok (hE0 t2 a2)
      have z := Sh.take_facts (Sh.heard m n ls ws) t1.toNat t2.toNat (by omega)
      have zl : (Sh.heard m n ls ws).length ≤ ls.length := by unfold Sh.heard; rw [if_pos he]; exact Sh.heard_len _ _ _
      rw [e5] at G5
      rw [e6] at G6
      refine showMore_k HS HC HX m n A ls.length c ls B ws.length d ws y0 y1 y2 t1 t2 w _ _ _ _ hE hA hW k1 k2 _ _ _ (eq_false a3) ?_ ?_ ?_ ?_ H1 H2 H3 H4 G5 G6 hal hkl
      · rw [List.length_map, List.length_map]; exact z.1
      · rw [List.length_map, ← List.map_take, z.2.1]
      · rw [List.length_map, List.length_map]
        rcases z.2.2 with h | h
        · left; rw [h]; omega
        · right; exact h
      · rw [List.length_map, List.length_take]; omega
    · exact showMore_err HS HC m n A ls.length c ls B ws.length d ws y0 y1 y2 t1 t2 w _ _ _ _ _ _ _ hE hA hW k1 k2 H1 H2 H3 (Or.inr ⟨⟨by rw [he]; rfl, by rw [he]; rfl⟩, ⟨by rw [hfn]; rfl, by rw [hfn]; rfl⟩, nz _ hg⟩)
  · exact showMore_err HS HC m n A ls.length c ls B ws.length d ws y0 y1 y2 t1 t2 w _ _ _ _ _ _ _ hE hA hW k1 k2 H1 H2 H3 (Or.inl (nz _ he))
end Go.Proofs.YtpgichlaghhdeaaGreatDoor
