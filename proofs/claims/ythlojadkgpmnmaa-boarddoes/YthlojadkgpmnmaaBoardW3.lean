/-
  Layer 8 (board): the walk of right.
-/
import Derived.Test.YthlojadkgpmnmaaBoardW2
namespace Go.Proofs.Ythlojadkgpmnmaa
open Go.RowKit

/-- A board that is wrong ahead of its alarms. -/
theorem Bd.isB_lt {m n : Int} {ls : List Alm} (h : m < 1) : Bd.isB m n ls = false := by
  unfold Bd.isB; rw [decide_eq_false (by omega : ¬ 1 ≤ m)]; rfl
theorem Bd.isB_gt {m n : Int} {ls : List Alm} (h : 200 < m) : Bd.isB m n ls = false := by
  unfold Bd.isB; rw [decide_eq_false (by omega : ¬ m ≤ 200)]; simp
theorem Bd.isB_t {m n : Int} {ls : List Alm} (h : Am.isT n = false) : Bd.isB m n ls = false := by
  unfold Bd.isB; rw [h]; simp
theorem Bd.isB_many {m n : Int} {ls : List Alm} (h : m < (ls.length : Int)) : Bd.isB m n ls = false := by
  unfold Bd.isB; rw [decide_eq_false (by omega : ¬ (ls.length : Int) ≤ m)]; simp
theorem Bd.isB_rise {m n : Int} {ls : List Alm} (h : Bd.rising ls = false) : Bd.isB m n ls = false := by
  unfold Bd.isB Bd.rows; rw [h]; simp
theorem Bd.isB_rest {m n : Int} {ls : List Alm} (h1 : ¬ m < 1) (h2 : ¬ 200 < m) (h3 : Am.isT n = true) (h4 : ¬ m < (ls.length : Int)) (h5 : Bd.rising ls = true) : Bd.isB m n ls = ls.all (Bd.may n) := by
  unfold Bd.isB Bd.rows; rw [h3, h5, decide_eq_true (by omega : 1 ≤ m), decide_eq_true (by omega : m ≤ 200), decide_eq_true (by omega : (ls.length : Int) ≤ m)]; simp

set_option maxRecDepth 10000 in
set_option maxHeartbeats 2000000 in
theorem right_any (m n : Int) (A : Option Addr) (l c : Nat) (ls : List Alm) (w : World) (h : Told w A l c ls) :
    Calls Try.prog 32 #[.agg #[.int .i64 m, .int .i64 n, .slice A l c]] w fun e w' => e = .returned (.bool (Bd.isB m n ls)) ∧ Below w.heap.size w w' := by
  obtain ⟨hl, hA, hn0, hf⟩ := h
  have HS := Lib.hid (((St.start w).more (rowF A ls) hA).new #[.int .i64 m, .int .i64 n, .slice A l c] 56)
  have Hl := Lib.hid hl
  have Hf := Lib.hid hf
  have Hn0 := Lib.hid hn0
  clear hA hn0 hf
  by_cases h1 : m < 1
  · rw [Bd.isB_lt h1]
    clear hl
    go_enter Try.func32, Try.ntmps32
    go_wp2
    go_ret
    exact ⟨rfl, below_new _ _⟩
  have i1 : (m < 1) = False := eq_false h1
  by_cases h2 : 200 < m
  · rw [Bd.isB_gt h2]
    clear hl h1
    go_enter Try.func32, Try.ntmps32
    go_wp2
    go_ret
    exact ⟨rfl, below_new _ _⟩
  have i2 : (200 < m) = False := eq_false h2
  have g1 := fun W => bIsTime_any n W
  cases h3 : Am.isT n
  · rw [Bd.isB_t h3]
    simp only [h3] at g1
    clear hl h1 h2 h3
    go_enter Try.func32, Try.ntmps32
    go_wp2_with fail
    refine (g1 _).mono ?_
    rintro e w1 ⟨rfl, rfl⟩
    go_wp2
    go_ret
    exact ⟨rfl, below_new _ _⟩
  simp only [h3] at g1
  have g2 := fun W => tooMany_any m n A l c W
  by_cases h4 : m < (l : Int)
  · rw [Bd.isB_many (by rw [← hl]; exact h4)]
    simp only [decide_eq_true h4] at g2
    clear hl h1 h2 h3 h4
    go_enter Try.func32, Try.ntmps32
    go_wp2_with fail
    refine (g1 _).mono ?_
    rintro e w1 ⟨rfl, rfl⟩
    go_wp2_with fail
    refine (g2 _).mono ?_
    rintro e w1 ⟨rfl, hB⟩
    have HB := Lib.hid (below2 (below_new w _) hB)
    clear hB
    go_wp2
    go_ret
    exact ⟨rfl, HB.out⟩
  simp only [decide_eq_false h4] at g2
  have g3 := fun W (hA : AlmsAt W W.heap.size A ls) => Lib.hid (rise_any A l c ls W ⟨Hl.out, hA, Hn0.out, Hf.out⟩)
  cases h5 : Bd.rising ls
  · rw [Bd.isB_rise h5]
    simp only [h5] at g3
    clear hl h1 h2 h3 h4 h5
    go_enter Try.func32, Try.ntmps32
    go_wp2_with fail
    refine (g1 _).mono ?_
    rintro e w1 ⟨rfl, rfl⟩
    go_wp2_with fail
    refine (g2 _).mono ?_
    rintro e w1 ⟨rfl, hB⟩
    replace HS := Lib.hid (HS.out.on hB)
    clear hB
    have s2 := HS.out.cell 0 rfl 2 rfl
    go_wp2_with fail
    refine (g3 _ (HS.out.fact 0 rfl)).out.mono ?_
    rintro e w2 ⟨rfl, hB⟩
    replace HS := Lib.hid (HS.out.on hB)
    clear hB s2
    go_wp2
    go_ret
    exact ⟨rfl, HS.out.below⟩
  simp only [h5] at g3
  rw [Bd.isB_rest h1 h2 h3 (by rw [← hl]; exact h4) h5]
  obtain ⟨r, hr⟩ : ∃ r, r = ls.all (Bd.may n) := ⟨_, rfl⟩
  have Hr := Lib.hid hr
  rw [← hr]
  clear hl h1 h2 h3 h4 h5 hr
  go_enter Try.func32, Try.ntmps32
  go_wp2_with fail
  refine (g1 _).mono ?_
  rintro e w1 ⟨rfl, rfl⟩
  go_wp2_with fail
  refine (g2 _).mono ?_
  rintro e w1 ⟨rfl, hB⟩
  replace HS := Lib.hid (HS.out.on hB)
  clear hB
  have s2 := HS.out.cell 0 rfl 2 rfl
  go_wp2_with fail
  refine (g3 _ (HS.out.fact 0 rfl)).out.mono ?_
  rintro e w2 ⟨rfl, hB⟩
  replace HS := Lib.hid (HS.out.on hB)
  clear hB s2 g1 g2 g3 i1 i2
  have s2 := HS.out.cell 0 rfl 2 rfl
  obtain ⟨p1, hp1⟩ : ∃ p, p = w.heap.size := ⟨_, rfl⟩
  rw [← hp1] at HS s2 ⊢
  clear hp1
  go_wp2_with fail
  go_loopw [32] (fun i wr => ∃ k : Nat, i = .int .i64 (k : Int) ∧ Hid ((ls.drop k).all (Bd.may n) = r) ∧ Hid (Below w2.heap.size w2 wr)) (fun i _ => l - (intOf i).toNat)
  case atStart => exact ⟨0, rfl, Lib.hid (by rw [Hr.out]; rfl), Lib.hid (Below.refl _ _)⟩
  case round =>
    obtain ⟨k, rfl, Hg, HB⟩ := hrel
    have HSr := Lib.hid (HS.out.on HB.out)
    by_cases hlt : k < l
    · have kl : k < ls.length := by rw [← Hl.out]; exact hlt
      have HA : Hid (AlmsAt wr wr.heap.size A ls) := Lib.hid (HSr.out.fact 0 rfl)
      obtain ⟨b0, o0, rfl, hb0, h6⟩ := HA.out k kl
      have Hs := Lib.hid (Bd.all_step (n := n) kl)
      obtain ⟨x, hx⟩ : ∃ x, x = ls[k]'kl := ⟨_, rfl⟩
      rw [← hx] at h6 Hs
      clear hx
      obtain ⟨x0, x1, x2, x3, x4, x5⟩ := x
      have d0 := h6.c0
      have d1 := h6.c1
      have d2 := h6.c2
      have d3 := h6.c3
      have d4 := h6.c4
      have d5 := h6.c5
      simp only at d0 d1 d2 d3 d4 d5
      have i1 : (k : Int) < (l : Int) := by omega
      have i3 : (0 : Int) ≤ (k : Int) := by omega
      have Ik : Hid (wrap64 ((k : Int) + 1) = (k : Int) + 1) := Lib.hid (by have := Hf.out; unfold wrap64; omega)
      have Hk := Lib.hid hlt
      have g := fun W => takes_any m n (some ⟨b0, o0, none⟩) l c x0 x1 x2 x3 x4 x5 W
      obtain ⟨z, hz⟩ : ∃ z, z = Bd.may n ⟨x0, x1, x2, x3, x4, x5⟩ := ⟨_, rfl⟩
      simp only [← hz] at g
      rw [← hz] at Hs
      have HSn := Lib.hid (HSr.out.new #[.int .i64 x0, .int .i64 x1, .int .i64 x2, .int .i64 x3, .int .i64 x4, .int .i64 x5] 28)
      have HBn := Lib.hid (below2 HB.out (below_new wr (.cells #[.int .i64 x0, .int .i64 x1, .int .i64 x2, .int .i64 x3, .int .i64 x4, .int .i64 x5] 28)))
      clear h6 kl hlt hz hb0 HB HSr HA
      cases z
      · have He : Hid (r = false) := Lib.hid (by rw [← Hg.out, Hs.out]; rfl)
        clear Hs Hg
        go_wp2_with (refine wpList_load_st rfl 56 _ rfl HSn.out 1 _ _ rfl rfl _ Try.underlying56 rfl (by rfl) ?_)
        refine (g _).mono ?_
        rintro e w3 ⟨rfl, hB⟩
        have HS3 := Lib.hid (HSn.out.on hB)
        clear hB d0 d1 d2 d3 d4 d5 s2
        go_wp2
        go_ret
        exact ⟨by rw [He.out]; rfl, HS3.out.below⟩
      · have He : Hid ((ls.drop (k + 1)).all (Bd.may n) = r) := Lib.hid (by rw [← Hg.out, Hs.out]; rfl)
        clear Hs Hg
        go_wp2_with (refine wpList_load_st rfl 56 _ rfl HSn.out 1 _ _ rfl rfl _ Try.underlying56 rfl (by rfl) ?_)
        refine (g _).mono ?_
        rintro e w3 ⟨rfl, hB⟩
        have HB3 := Lib.hid (below2 HBn.out hB)
        clear hB d0 d1 d2 d3 d4 d5 s2
        go_wp2
        go_roundw
        case rel => exact ⟨k + 1, by first | rfl | (rw [Ik.out]; rfl), He, HB3⟩
        case measure => have := Hk.out; (try rw [Ik.out]); simp [intOf]; omega
    · have ik : ((k : Int) < (l : Int)) = False := eq_false (by omega)
      have He : Hid (r = true) := Lib.hid (by rw [← Hg.out, List.drop_eq_nil_of_le (by have := Hl.out; omega)]; rfl)
      clear hlt Hg
      go_wp2
      go_ret
      exact ⟨by rw [He.out]; rfl, HSr.out.below⟩
end Go.Proofs.Ythlojadkgpmnmaa
