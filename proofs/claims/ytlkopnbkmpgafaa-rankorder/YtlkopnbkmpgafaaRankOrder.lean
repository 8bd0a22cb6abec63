/-
  Layer 7 (rank): the law RankOrder, over the contracts (printed by tools/gen-rankorder.py).
-/
import Derived.Test.YtlkopnbkmpgafaaRankSorts
namespace Go.Proofs.Ytlkopnbkmpgafaa
open Go.RowKit


set_option maxRecDepth 10000 in
set_option maxHeartbeats 8000000 in
theorem rankOrder_m (HK : Hid RankK) (a0 a1 a2 a3 a4 a5 b0 b1 b2 b3 b4 b5 c0 c1 c2 c3 c4 c5 : Int) (y z : Int) (w : World) (hy : y = -1 ∨ y = 0 ∨ y = 1) (hz : z = -1 ∨ z = 0 ∨ z = 1) (h1 : (((-1) : Int) < 0 → y < 0 → z < 0)) (h2 : (((-1) : Int) ≤ 0 → y ≤ 0 → z ≤ 0))
    (g1 : (∀ W, Calls Try.prog 18 #[.agg #[.int .i64 a0, .int .i64 a1, .int .i64 a2, .int .i64 a3, .int .i64 a4, .int .i64 a5], .agg #[.int .i64 b0, .int .i64 b1, .int .i64 b2, .int .i64 b3, .int .i64 b4, .int .i64 b5]] W fun e w' => e = .returned (.int .i64 (-1)) ∧ Below W.heap.size W w')) (g2 : (∀ W, Calls Try.prog 18 #[.agg #[.int .i64 b0, .int .i64 b1, .int .i64 b2, .int .i64 b3, .int .i64 b4, .int .i64 b5], .agg #[.int .i64 c0, .int .i64 c1, .int .i64 c2, .int .i64 c3, .int .i64 c4, .int .i64 c5]] W fun e w' => e = .returned (.int .i64 y) ∧ Below W.heap.size W w')) (g3 : (∀ W, Calls Try.prog 18 #[.agg #[.int .i64 a0, .int .i64 a1, .int .i64 a2, .int .i64 a3, .int .i64 a4, .int .i64 a5], .agg #[.int .i64 c0, .int .i64 c1, .int .i64 c2, .int .i64 c3, .int .i64 c4, .int .i64 c5]] W fun e w' => e = .returned (.int .i64 z) ∧ Below W.heap.size W w')) (g4 : (∀ W, Calls Try.prog 18 #[.agg #[.int .i64 b0, .int .i64 b1, .int .i64 b2, .int .i64 b3, .int .i64 b4, .int .i64 b5], .agg #[.int .i64 a0, .int .i64 a1, .int .i64 a2, .int .i64 a3, .int .i64 a4, .int .i64 a5]] W fun e w' => e = .returned (.int .i64 1) ∧ Below W.heap.size W w'))
    (hE : ∀ W, (binOp .eql 34 (.agg #[.int .i64 a0, .int .i64 a1, .int .i64 a2, .int .i64 a3, .int .i64 a4, .int .i64 a5]) (.agg #[.int .i64 b0, .int .i64 b1, .int .i64 b2, .int .i64 b3, .int .i64 b4, .int .i64 b5])).run Try.prog W = .ok (.bool false) W) :
    Calls Try.prog 4 #[.agg #[.int .i64 a0, .int .i64 a1, .int .i64 a2, .int .i64 a3, .int .i64 a4, .int .i64 a5], .agg #[.int .i64 b0, .int .i64 b1, .int .i64 b2, .int .i64 b3, .int .i64 b4, .int .i64 b5], .agg #[.int .i64 c0, .int .i64 c1, .int .i64 c2, .int .i64 c3, .int .i64 c4, .int .i64 c5]] w fun e w' => e = .returned (.bool true) ∧ Below w.heap.size w w' := by
  have ka := ((Six.new w a0 a1 a2 a3 a4 a5 34).alloc (.cells #[.int .i64 b0, .int .i64 b1, .int .i64 b2, .int .i64 b3, .int .i64 b4, .int .i64 b5] 34)).alloc (.cells #[.int .i64 c0, .int .i64 c1, .int .i64 c2, .int .i64 c3, .int .i64 c4, .int .i64 c5] 34)
  have kb := (Six.new1 w (.cells #[.int .i64 a0, .int .i64 a1, .int .i64 a2, .int .i64 a3, .int .i64 a4, .int .i64 a5] 34) b0 b1 b2 b3 b4 b5 34).alloc (.cells #[.int .i64 c0, .int .i64 c1, .int .i64 c2, .int .i64 c3, .int .i64 c4, .int .i64 c5] 34)
  have kc : Six (((w.alloc (.cells #[.int .i64 a0, .int .i64 a1, .int .i64 a2, .int .i64 a3, .int .i64 a4, .int .i64 a5] 34)).alloc (.cells #[.int .i64 b0, .int .i64 b1, .int .i64 b2, .int .i64 b3, .int .i64 b4, .int .i64 b5] 34)).alloc (.cells #[.int .i64 c0, .int .i64 c1, .int .i64 c2, .int .i64 c3, .int .i64 c4, .int .i64 c5] 34)) (w.heap.size + 2) ⟨c0, c1, c2, c3, c4, c5⟩ := by
    have h := Six.new ((w.alloc (.cells #[.int .i64 a0, .int .i64 a1, .int .i64 a2, .int .i64 a3, .int .i64 a4, .int .i64 a5] 34)).alloc (.cells #[.int .i64 b0, .int .i64 b1, .int .i64 b2, .int .i64 b3, .int .i64 b4, .int .i64 b5] 34)) c0 c1 c2 c3 c4 c5 34
    have e : ((w.alloc (.cells #[.int .i64 a0, .int .i64 a1, .int .i64 a2, .int .i64 a3, .int .i64 a4, .int .i64 a5] 34)).alloc (.cells #[.int .i64 b0, .int .i64 b1, .int .i64 b2, .int .i64 b3, .int .i64 b4, .int .i64 b5] 34)).heap.size = w.heap.size + 2 := by simp
    rw [e] at h
    exact h
  have hB0 := below_new3 w (.cells #[.int .i64 a0, .int .i64 a1, .int .i64 a2, .int .i64 a3, .int .i64 a4, .int .i64 a5] 34) (.cells #[.int .i64 b0, .int .i64 b1, .int .i64 b2, .int .i64 b3, .int .i64 b4, .int .i64 b5] 34) (.cells #[.int .i64 c0, .int .i64 c1, .int .i64 c2, .int .i64 c3, .int .i64 c4, .int .i64 c5] 34)
  have H1 := Lib.hid h1
  have H2 := Lib.hid h2
  have Hy := Lib.hid hy
  have Hz := Lib.hid hz
  clear h1 h2 hy hz
  go_enter Try.func4, Try.ntmps4
  have aq0 := ka.c0
  have aq1 := ka.c1
  have aq2 := ka.c2
  have aq3 := ka.c3
  have aq4 := ka.c4
  have aq5 := ka.c5
  have bq0 := kb.c0
  have bq1 := kb.c1
  have bq2 := kb.c2
  have bq3 := kb.c3
  have bq4 := kb.c4
  have bq5 := kb.c5
  (try simp only at aq0 aq1 aq2 aq3 aq4 aq5 bq0 bq1 bq2 bq3 bq4 bq5)
  go_wp2_with fail
  refine (g1 _).mono ?_
  rintro e w1 ⟨rfl, hB'⟩
  clear aq0 aq1 aq2 aq3 aq4 aq5 bq0 bq1 bq2 bq3 bq4 bq5
  replace ka := ka.below hB'
  replace kb := kb.below hB'
  replace kc := kc.below hB'
  replace hB0 := below2 hB0 hB'
  clear hB'
  clear g1
  have bq0 := kb.c0
  have bq1 := kb.c1
  have bq2 := kb.c2
  have bq3 := kb.c3
  have bq4 := kb.c4
  have bq5 := kb.c5
  have cq0 := kc.c0
  have cq1 := kc.c1
  have cq2 := kc.c2
  have cq3 := kc.c3
  have cq4 := kc.c4
  have cq5 := kc.c5
  (try simp only at bq0 bq1 bq2 bq3 bq4 bq5 cq0 cq1 cq2 cq3 cq4 cq5)
  go_wp2_with fail
  refine (g2 _).mono ?_
  rintro e w2 ⟨rfl, hB'⟩
  clear bq0 bq1 bq2 bq3 bq4 bq5 cq0 cq1 cq2 cq3 cq4 cq5
  replace ka := ka.below hB'
  replace kb := kb.below hB'
  replace kc := kc.below hB'
  replace hB0 := below2 hB0 hB'
  clear hB'
  clear g2
  have aq0 := ka.c0
  have aq1 := ka.c1
  have aq2 := ka.c2
  have aq3 := ka.c3
  have aq4 := ka.c4
  have aq5 := ka.c5
  have cq0 := kc.c0
  have cq1 := kc.c1
  have cq2 := kc.c2
  have cq3 := kc.c3
  have cq4 := kc.c4
  have cq5 := kc.c5
  (try simp only at aq0 aq1 aq2 aq3 aq4 aq5 cq0 cq1 cq2 cq3 cq4 cq5)
  go_wp2_with fail
  refine (g3 _).mono ?_
  rintro e w3 ⟨rfl, hB'⟩
  clear aq0 aq1 aq2 aq3 aq4 aq5 cq0 cq1 cq2 cq3 cq4 cq5
  replace ka := ka.below hB'
  replace kb := kb.below hB'
  replace kc := kc.below hB'
  replace hB0 := below2 hB0 hB'
  clear hB'
  clear g3
  go_wp2_with fail
  refine (ranked_any HK _).mono ?_
  rintro e w4 ⟨rfl, hB'⟩
  replace ka := ka.below hB'
  replace kb := kb.below hB'
  replace kc := kc.below hB'
  replace hB0 := below2 hB0 hB'
  clear hB'
  have aq0 := ka.c0
  have aq1 := ka.c1
  have aq2 := ka.c2
  have aq3 := ka.c3
  have aq4 := ka.c4
  have aq5 := ka.c5
  have bq0 := kb.c0
  have bq1 := kb.c1
  have bq2 := kb.c2
  have bq3 := kb.c3
  have bq4 := kb.c4
  have bq5 := kb.c5
  (try simp only at aq0 aq1 aq2 aq3 aq4 aq5 bq0 bq1 bq2 bq3 bq4 bq5)
  go_wp2_with fail
  refine (g4 _).mono ?_
  rintro e w5 ⟨rfl, hB'⟩
  clear aq0 aq1 aq2 aq3 aq4 aq5 bq0 bq1 bq2 bq3 bq4 bq5
  have HF := Lib.hid (below2 hB0 hB')
  clear hB' ka kb kc hB0 g4 hE
  rcases Hy.out with rfl | rfl | rfl <;> rcases Hz.out with rfl | rfl | rfl <;> clear Hy Hz
  all_goals first
    | (exfalso; have h1 := H1.out; have h2 := H2.out; revert h1 h2; decide)
    | (clear H1 H2; go_wp2; go_ret; exact ⟨rfl, HF.out⟩)

set_option maxRecDepth 10000 in
set_option maxHeartbeats 8000000 in
theorem rankOrder_o (HK : Hid RankK) (a0 a1 a2 a3 a4 a5 b0 b1 b2 b3 b4 b5 c0 c1 c2 c3 c4 c5 : Int) (y z : Int) (w : World) (hy : y = -1 ∨ y = 0 ∨ y = 1) (hz : z = -1 ∨ z = 0 ∨ z = 1) (h1 : ((0 : Int) < 0 → y < 0 → z < 0)) (h2 : ((0 : Int) ≤ 0 → y ≤ 0 → z ≤ 0))
    (g1 : (∀ W, Calls Try.prog 18 #[.agg #[.int .i64 a0, .int .i64 a1, .int .i64 a2, .int .i64 a3, .int .i64 a4, .int .i64 a5], .agg #[.int .i64 b0, .int .i64 b1, .int .i64 b2, .int .i64 b3, .int .i64 b4, .int .i64 b5]] W fun e w' => e = .returned (.int .i64 0) ∧ Below W.heap.size W w')) (g2 : (∀ W, Calls Try.prog 18 #[.agg #[.int .i64 b0, .int .i64 b1, .int .i64 b2, .int .i64 b3, .int .i64 b4, .int .i64 b5], .agg #[.int .i64 c0, .int .i64 c1, .int .i64 c2, .int .i64 c3, .int .i64 c4, .int .i64 c5]] W fun e w' => e = .returned (.int .i64 y) ∧ Below W.heap.size W w')) (g3 : (∀ W, Calls Try.prog 18 #[.agg #[.int .i64 a0, .int .i64 a1, .int .i64 a2, .int .i64 a3, .int .i64 a4, .int .i64 a5], .agg #[.int .i64 c0, .int .i64 c1, .int .i64 c2, .int .i64 c3, .int .i64 c4, .int .i64 c5]] W fun e w' => e = .returned (.int .i64 z) ∧ Below W.heap.size W w')) (g4 : (∀ W, Calls Try.prog 18 #[.agg #[.int .i64 b0, .int .i64 b1, .int .i64 b2, .int .i64 b3, .int .i64 b4, .int .i64 b5], .agg #[.int .i64 a0, .int .i64 a1, .int .i64 a2, .int .i64 a3, .int .i64 a4, .int .i64 a5]] W fun e w' => e = .returned (.int .i64 0) ∧ Below W.heap.size W w'))
    (hE : ∀ W, (binOp .eql 34 (.agg #[.int .i64 a0, .int .i64 a1, .int .i64 a2, .int .i64 a3, .int .i64 a4, .int .i64 a5]) (.agg #[.int .i64 b0, .int .i64 b1, .int .i64 b2, .int .i64 b3, .int .i64 b4, .int .i64 b5])).run Try.prog W = .ok (.bool true) W) :
    Calls Try.prog 4 #[.agg #[.int .i64 a0, .int .i64 a1, .int .i64 a2, .int .i64 a3, .int .i64 a4, .int .i64 a5], .agg #[.int .i64 b0, .int .i64 b1, .int .i64 b2, .int .i64 b3, .int .i64 b4, .int .i64 b5], .agg #[.int .i64 c0, .int .i64 c1, .int .i64 c2, .int .i64 c3, .int .i64 c4, .int .i64 c5]] w fun e w' => e = .returned (.bool true) ∧ Below w.heap.size w w' := by
  have ka := ((Six.new w a0 a1 a2 a3 a4 a5 34).alloc (.cells #[.int .i64 b0, .int .i64 b1, .int .i64 b2, .int .i64 b3, .int .i64 b4, .int .i64 b5] 34)).alloc (.cells #[.int .i64 c0, .int .i64 c1, .int .i64 c2, .int .i64 c3, .int .i64 c4, .int .i64 c5] 34)
  have kb := (Six.new1 w (.cells #[.int .i64 a0, .int .i64 a1, .int .i64 a2, .int .i64 a3, .int .i64 a4, .int .i64 a5] 34) b0 b1 b2 b3 b4 b5 34).alloc (.cells #[.int .i64 c0, .int .i64 c1, .int .i64 c2, .int .i64 c3, .int .i64 c4, .int .i64 c5] 34)
  have kc : Six (((w.alloc (.cells #[.int .i64 a0, .int .i64 a1, .int .i64 a2, .int .i64 a3, .int .i64 a4, .int .i64 a5] 34)).alloc (.cells #[.int .i64 b0, .int .i64 b1, .int .i64 b2, .int .i64 b3, .int .i64 b4, .int .i64 b5] 34)).alloc (.cells #[.int .i64 c0, .int .i64 c1, .int .i64 c2, .int .i64 c3, .int .i64 c4, .int .i64 c5] 34)) (w.heap.size + 2) ⟨c0, c1, c2, c3, c4, c5⟩ := by
    have h := Six.new ((w.alloc (.cells #[.int .i64 a0, .int .i64 a1, .int .i64 a2, .int .i64 a3, .int .i64 a4, .int .i64 a5] 34)).alloc (.cells #[.int .i64 b0, .int .i64 b1, .int .i64 b2, .int .i64 b3, .int .i64 b4, .int .i64 b5] 34)) c0 c1 c2 c3 c4 c5 34
    have e : ((w.alloc (.cells #[.int .i64 a0, .int .i64 a1, .int .i64 a2, .int .i64 a3, .int .i64 a4, .int .i64 a5] 34)).alloc (.cells #[.int .i64 b0, .int .i64 b1, .int .i64 b2, .int .i64 b3, .int .i64 b4, .int .i64 b5] 34)).heap.size = w.heap.size + 2 := by simp
    rw [e] at h
    exact h
  have hB0 := below_new3 w (.cells #[.int .i64 a0, .int .i64 a1, .int .i64 a2, .int .i64 a3, .int .i64 a4, .int .i64 a5] 34) (.cells #[.int .i64 b0, .int .i64 b1, .int .i64 b2, .int .i64 b3, .int .i64 b4, .int .i64 b5] 34) (.cells #[.int .i64 c0, .int .i64 c1, .int .i64 c2, .int .i64 c3, .int .i64 c4, .int .i64 c5] 34)
  have H1 := Lib.hid h1
  have H2 := Lib.hid h2
  have Hy := Lib.hid hy
  have Hz := Lib.hid hz
  clear h1 h2 hy hz
  go_enter Try.func4, Try.ntmps4
  have aq0 := ka.c0
  have aq1 := ka.c1
  have aq2 := ka.c2
  have aq3 := ka.c3
  have aq4 := ka.c4
  have aq5 := ka.c5
  have bq0 := kb.c0
  have bq1 := kb.c1
  have bq2 := kb.c2
  have bq3 := kb.c3
  have bq4 := kb.c4
  have bq5 := kb.c5
  (try simp only at aq0 aq1 aq2 aq3 aq4 aq5 bq0 bq1 bq2 bq3 bq4 bq5)
  go_wp2_with fail
  refine (g1 _).mono ?_
  rintro e w1 ⟨rfl, hB'⟩
  clear aq0 aq1 aq2 aq3 aq4 aq5 bq0 bq1 bq2 bq3 bq4 bq5
  replace ka := ka.below hB'
  replace kb := kb.below hB'
  replace kc := kc.below hB'
  replace hB0 := below2 hB0 hB'
  clear hB'
  clear g1
  have bq0 := kb.c0
  have bq1 := kb.c1
  have bq2 := kb.c2
  have bq3 := kb.c3
  have bq4 := kb.c4
  have bq5 := kb.c5
  have cq0 := kc.c0
  have cq1 := kc.c1
  have cq2 := kc.c2
  have cq3 := kc.c3
  have cq4 := kc.c4
  have cq5 := kc.c5
  (try simp only at bq0 bq1 bq2 bq3 bq4 bq5 cq0 cq1 cq2 cq3 cq4 cq5)
  go_wp2_with fail
  refine (g2 _).mono ?_
  rintro e w2 ⟨rfl, hB'⟩
  clear bq0 bq1 bq2 bq3 bq4 bq5 cq0 cq1 cq2 cq3 cq4 cq5
  replace ka := ka.below hB'
  replace kb := kb.below hB'
  replace kc := kc.below hB'
  replace hB0 := below2 hB0 hB'
  clear hB'
  clear g2
  have aq0 := ka.c0
  have aq1 := ka.c1
  have aq2 := ka.c2
  have aq3 := ka.c3
  have aq4 := ka.c4
  have aq5 := ka.c5
  have cq0 := kc.c0
  have cq1 := kc.c1
  have cq2 := kc.c2
  have cq3 := kc.c3
  have cq4 := kc.c4
  have cq5 := kc.c5
  (try simp only at aq0 aq1 aq2 aq3 aq4 aq5 cq0 cq1 cq2 cq3 cq4 cq5)
  go_wp2_with fail
  refine (g3 _).mono ?_
  rintro e w3 ⟨rfl, hB'⟩
  clear aq0 aq1 aq2 aq3 aq4 aq5 cq0 cq1 cq2 cq3 cq4 cq5
  replace ka := ka.below hB'
  replace kb := kb.below hB'
  replace kc := kc.below hB'
  replace hB0 := below2 hB0 hB'
  clear hB'
  clear g3
  go_wp2_with fail
  refine (ranked_any HK _).mono ?_
  rintro e w4 ⟨rfl, hB'⟩
  replace ka := ka.below hB'
  replace kb := kb.below hB'
  replace kc := kc.below hB'
  replace hB0 := below2 hB0 hB'
  clear hB'
  have aq0 := ka.c0
  have aq1 := ka.c1
  have aq2 := ka.c2
  have aq3 := ka.c3
  have aq4 := ka.c4
  have aq5 := ka.c5
  have bq0 := kb.c0
  have bq1 := kb.c1
  have bq2 := kb.c2
  have bq3 := kb.c3
  have bq4 := kb.c4
  have bq5 := kb.c5
  (try simp only at aq0 aq1 aq2 aq3 aq4 aq5 bq0 bq1 bq2 bq3 bq4 bq5)
  go_wp2_with fail
  refine (g4 _).mono ?_
  rintro e w5 ⟨rfl, hB'⟩
  clear aq0 aq1 aq2 aq3 aq4 aq5 bq0 bq1 bq2 bq3 bq4 bq5
  have HF := Lib.hid (below2 hB0 hB')
  clear hB' ka kb kc hB0 g4 hE
  rcases Hy.out with rfl | rfl | rfl <;> rcases Hz.out with rfl | rfl | rfl <;> clear Hy Hz
  all_goals first
    | (exfalso; have h1 := H1.out; have h2 := H2.out; revert h1 h2; decide)
    | (clear H1 H2; go_wp2; go_ret; exact ⟨rfl, HF.out⟩)

set_option maxRecDepth 10000 in
set_option maxHeartbeats 8000000 in
theorem rankOrder_p (HK : Hid RankK) (a0 a1 a2 a3 a4 a5 b0 b1 b2 b3 b4 b5 c0 c1 c2 c3 c4 c5 : Int) (y z : Int) (w : World) (hy : y = -1 ∨ y = 0 ∨ y = 1) (hz : z = -1 ∨ z = 0 ∨ z = 1) (h1 : ((1 : Int) < 0 → y < 0 → z < 0)) (h2 : ((1 : Int) ≤ 0 → y ≤ 0 → z ≤ 0))
    (g1 : (∀ W, Calls Try.prog 18 #[.agg #[.int .i64 a0, .int .i64 a1, .int .i64 a2, .int .i64 a3, .int .i64 a4, .int .i64 a5], .agg #[.int .i64 b0, .int .i64 b1, .int .i64 b2, .int .i64 b3, .int .i64 b4, .int .i64 b5]] W fun e w' => e = .returned (.int .i64 1) ∧ Below W.heap.size W w')) (g2 : (∀ W, Calls Try.prog 18 #[.agg #[.int .i64 b0, .int .i64 b1, .int .i64 b2, .int .i64 b3, .int .i64 b4, .int .i64 b5], .agg #[.int .i64 c0, .int .i64 c1, .int .i64 c2, .int .i64 c3, .int .i64 c4, .int .i64 c5]] W fun e w' => e = .returned (.int .i64 y) ∧ Below W.heap.size W w')) (g3 : (∀ W, Calls Try.prog 18 #[.agg #[.int .i64 a0, .int .i64 a1, .int .i64 a2, .int .i64 a3, .int .i64 a4, .int .i64 a5], .agg #[.int .i64 c0, .int .i64 c1, .int .i64 c2, .int .i64 c3, .int .i64 c4, .int .i64 c5]] W fun e w' => e = .returned (.int .i64 z) ∧ Below W.heap.size W w')) (g4 : (∀ W, Calls Try.prog 18 #[.agg #[.int .i64 b0, .int .i64 b1, .int .i64 b2, .int .i64 b3, .int .i64 b4, .int .i64 b5], .agg #[.int .i64 a0, .int .i64 a1, .int .i64 a2, .int .i64 a3, .int .i64 a4, .int .i64 a5]] W fun e w' => e = .returned (.int .i64 (-1)) ∧ Below W.heap.size W w'))
    (hE : ∀ W, (binOp .eql 34 (.agg #[.int .i64 a0, .int .i64 a1, .int .i64 a2, .int .i64 a3, .int .i64 a4, .int .i64 a5]) (.agg #[.int .i64 b0, .int .i64 b1, .int .i64 b2, .int .i64 b3, .int .i64 b4, .int .i64 b5])).run Try.prog W = .ok (.bool false) W) :
    Calls Try.prog 4 #[.agg #[.int .i64 a0, .int .i64 a1, .int .i64 a2, .int .i64 a3, .int .i64 a4, .int .i64 a5], .agg #[.int .i64 b0, .int .i64 b1, .int .i64 b2, .int .i64 b3, .int .i64 b4, .int .i64 b5], .agg #[.int .i64 c0, .int .i64 c1, .int .i64 c2, .int .i64 c3, .int .i64 c4, .int .i64 c5]] w fun e w' => e = .returned (.bool true) ∧ Below w.heap.size w w' := by
  have ka := ((Six.new w a0 a1 a2 a3 a4 a5 34).alloc (.cells #[.int .i64 b0, .int .i64 b1, .int .i64 b2, .int .i64 b3, .int .i64 b4, .int .i64 b5] 34)).alloc (.cells #[.int .i64 c0, .int .i64 c1, .int .i64 c2, .int .i64 c3, .int .i64 c4, .int .i64 c5] 34)
  have kb := (Six.new1 w (.cells #[.int .i64 a0, .int .i64 a1, .int .i64 a2, .int .i64 a3, .int .i64 a4, .int .i64 a5] 34) b0 b1 b2 b3 b4 b5 34).alloc (.cells #[.int .i64 c0, .int .i64 c1, .int .i64 c2, .int .i64 c3, .int .i64 c4, .int .i64 c5] 34)
  have kc : Six (((w.alloc (.cells #[.int .i64 a0, .int .i64 a1, .int .i64 a2, .int .i64 a3, .int .i64 a4, .int .i64 a5] 34)).alloc (.cells #[.int .i64 b0, .int .i64 b1, .int .i64 b2, .int .i64 b3, .int .i64 b4, .int .i64 b5] 34)).alloc (.cells #[.int .i64 c0, .int .i64 c1, .int .i64 c2, .int .i64 c3, .int .i64 c4, .int .i64 c5] 34)) (w.heap.size + 2) ⟨c0, c1, c2, c3, c4, c5⟩ := by
    have h := Six.new ((w.alloc (.cells #[.int .i64 a0, .int .i64 a1, .int .i64 a2, .int .i64 a3, .int .i64 a4, .int .i64 a5] 34)).alloc (.cells #[.int .i64 b0, .int .i64 b1, .int .i64 b2, .int .i64 b3, .int .i64 b4, .int .i64 b5] 34)) c0 c1 c2 c3 c4 c5 34
    have e : ((w.alloc (.cells #[.int .i64 a0, .int .i64 a1, .int .i64 a2, .int .i64 a3, .int .i64 a4, .int .i64 a5] 34)).alloc (.cells #[.int .i64 b0, .int .i64 b1, .int .i64 b2, .int .i64 b3, .int .i64 b4, .int .i64 b5] 34)).heap.size = w.heap.size + 2 := by simp
    rw [e] at h
    exact h
  have hB0 := below_new3 w (.cells #[.int .i64 a0, .int .i64 a1, .int .i64 a2, .int .i64 a3, .int .i64 a4, .int .i64 a5] 34) (.cells #[.int .i64 b0, .int .i64 b1, .int .i64 b2, .int .i64 b3, .int .i64 b4, .int .i64 b5] 34) (.cells #[.int .i64 c0, .int .i64 c1, .int .i64 c2, .int .i64 c3, .int .i64 c4, .int .i64 c5] 34)
  have H1 := Lib.hid h1
  have H2 := Lib.hid h2
  have Hy := Lib.hid hy
  have Hz := Lib.hid hz
  clear h1 h2 hy hz
  go_enter Try.func4, Try.ntmps4
  have aq0 := ka.c0
  have aq1 := ka.c1
  have aq2 := ka.c2
  have aq3 := ka.c3
  have aq4 := ka.c4
  have aq5 := ka.c5
  have bq0 := kb.c0
  have bq1 := kb.c1
  have bq2 := kb.c2
  have bq3 := kb.c3
  have bq4 := kb.c4
  have bq5 := kb.c5
  (try simp only at aq0 aq1 aq2 aq3 aq4 aq5 bq0 bq1 bq2 bq3 bq4 bq5)
  go_wp2_with fail
  refine (g1 _).mono ?_
  rintro e w1 ⟨rfl, hB'⟩
  clear aq0 aq1 aq2 aq3 aq4 aq5 bq0 bq1 bq2 bq3 bq4 bq5
  replace ka := ka.below hB'
  replace kb := kb.below hB'
  replace kc := kc.below hB'
  replace hB0 := below2 hB0 hB'
  clear hB'
  clear g1
  have bq0 := kb.c0
  have bq1 := kb.c1
  have bq2 := kb.c2
  have bq3 := kb.c3
  have bq4 := kb.c4
  have bq5 := kb.c5
  have cq0 := kc.c0
  have cq1 := kc.c1
  have cq2 := kc.c2
  have cq3 := kc.c3
  have cq4 := kc.c4
  have cq5 := kc.c5
  (try simp only at bq0 bq1 bq2 bq3 bq4 bq5 cq0 cq1 cq2 cq3 cq4 cq5)
  go_wp2_with fail
  refine (g2 _).mono ?_
  rintro e w2 ⟨rfl, hB'⟩
  clear bq0 bq1 bq2 bq3 bq4 bq5 cq0 cq1 cq2 cq3 cq4 cq5
  replace ka := ka.below hB'
  replace kb := kb.below hB'
  replace kc := kc.below hB'
  replace hB0 := below2 hB0 hB'
  clear hB'
  clear g2
  have aq0 := ka.c0
  have aq1 := ka.c1
  have aq2 := ka.c2
  have aq3 := ka.c3
  have aq4 := ka.c4
  have aq5 := ka.c5
  have cq0 := kc.c0
  have cq1 := kc.c1
  have cq2 := kc.c2
  have cq3 := kc.c3
  have cq4 := kc.c4
  have cq5 := kc.c5
  (try simp only at aq0 aq1 aq2 aq3 aq4 aq5 cq0 cq1 cq2 cq3 cq4 cq5)
  go_wp2_with fail
  refine (g3 _).mono ?_
  rintro e w3 ⟨rfl, hB'⟩
  clear aq0 aq1 aq2 aq3 aq4 aq5 cq0 cq1 cq2 cq3 cq4 cq5
  replace ka := ka.below hB'
  replace kb := kb.below hB'
  replace kc := kc.below hB'
  replace hB0 := below2 hB0 hB'
  clear hB'
  clear g3
  go_wp2_with fail
  refine (ranked_any HK _).mono ?_
  rintro e w4 ⟨rfl, hB'⟩
  replace ka := ka.below hB'
  replace kb := kb.below hB'
  replace kc := kc.below hB'
  replace hB0 := below2 hB0 hB'
  clear hB'
  have aq0 := ka.c0
  have aq1 := ka.c1
  have aq2 := ka.c2
  have aq3 := ka.c3
  have aq4 := ka.c4
  have aq5 := ka.c5
  have bq0 := kb.c0
  have bq1 := kb.c1
  have bq2 := kb.c2
  have bq3 := kb.c3
  have bq4 := kb.c4
  have bq5 := kb.c5
  (try simp only at aq0 aq1 aq2 aq3 aq4 aq5 bq0 bq1 bq2 bq3 bq4 bq5)
  go_wp2_with fail
  refine (g4 _).mono ?_
  rintro e w5 ⟨rfl, hB'⟩
  clear aq0 aq1 aq2 aq3 aq4 aq5 bq0 bq1 bq2 bq3 bq4 bq5
  have HF := Lib.hid (below2 hB0 hB')
  clear hB' ka kb kc hB0 g4 hE
  rcases Hy.out with rfl | rfl | rfl <;> rcases Hz.out with rfl | rfl | rfl <;> clear Hy Hz
  all_goals first
    | (exfalso; have h1 := H1.out; have h2 := H2.out; revert h1 h2; decide)
    | (clear H1 H2; go_wp2; go_ret; exact ⟨rfl, HF.out⟩)

theorem rankOrder_walk (HK : Hid RankK) (a0 a1 a2 a3 a4 a5 b0 b1 b2 b3 b4 b5 c0 c1 c2 c3 c4 c5 : Int) (w : World) :
    Calls Try.prog 4 #[.agg #[.int .i64 a0, .int .i64 a1, .int .i64 a2, .int .i64 a3, .int .i64 a4, .int .i64 a5], .agg #[.int .i64 b0, .int .i64 b1, .int .i64 b2, .int .i64 b3, .int .i64 b4, .int .i64 b5], .agg #[.int .i64 c0, .int .i64 c1, .int .i64 c2, .int .i64 c3, .int .i64 c4, .int .i64 c5]] w fun e w' => e = .returned (.bool true) ∧ Below w.heap.size w w' := by
  have g1 := fun W => KCompare_any HK a0 a1 a2 a3 a4 a5 b0 b1 b2 b3 b4 b5 W
  have g2 := fun W => KCompare_any HK b0 b1 b2 b3 b4 b5 c0 c1 c2 c3 c4 c5 W
  have g3 := fun W => KCompare_any HK a0 a1 a2 a3 a4 a5 c0 c1 c2 c3 c4 c5 W
  have g4 := fun W => KCompare_any HK b0 b1 b2 b3 b4 b5 a0 a1 a2 a3 a4 a5 W
  have hE := fun W => run_eql_al a0 a1 a2 a3 a4 a5 b0 b1 b2 b3 b4 b5 W
  have hs := Rk.cmp_swap ⟨a0, a1, a2, a3, a4, a5⟩ ⟨b0, b1, b2, b3, b4, b5⟩
  have h0 := Rk.cmp_zero ⟨a0, a1, a2, a3, a4, a5⟩ ⟨b0, b1, b2, b3, b4, b5⟩
  have hx := Rk.cmp_vals ⟨a0, a1, a2, a3, a4, a5⟩ ⟨b0, b1, b2, b3, b4, b5⟩
  have hy := Rk.cmp_vals ⟨b0, b1, b2, b3, b4, b5⟩ ⟨c0, c1, c2, c3, c4, c5⟩
  have hz := Rk.cmp_vals ⟨a0, a1, a2, a3, a4, a5⟩ ⟨c0, c1, c2, c3, c4, c5⟩
  have t1 := fun h k => Rk.cmp_trans_lt (a := ⟨a0, a1, a2, a3, a4, a5⟩) (b := ⟨b0, b1, b2, b3, b4, b5⟩) (c := ⟨c0, c1, c2, c3, c4, c5⟩) h k
  have t2 := fun h k => Rk.cmp_trans (a := ⟨a0, a1, a2, a3, a4, a5⟩) (b := ⟨b0, b1, b2, b3, b4, b5⟩) (c := ⟨c0, c1, c2, c3, c4, c5⟩) h k
  rw [hs] at g4
  rcases hx with hx | hx | hx
  · rw [hx] at g1 g4 t1 t2
    rw [decide_eq_false (fun e => by rw [h0.2 e] at hx; cases hx)] at hE
    exact rankOrder_m HK a0 a1 a2 a3 a4 a5 b0 b1 b2 b3 b4 b5 c0 c1 c2 c3 c4 c5 _ _ w hy hz t1 t2 g1 g2 g3 g4 hE
  · rw [hx] at g1 g4 t1 t2
    rw [decide_eq_true (h0.1 hx)] at hE
    exact rankOrder_o HK a0 a1 a2 a3 a4 a5 b0 b1 b2 b3 b4 b5 c0 c1 c2 c3 c4 c5 _ _ w hy hz t1 t2 g1 g2 g3 g4 hE
  · rw [hx] at g1 g4 t1 t2
    rw [decide_eq_false (fun e => by rw [h0.2 e] at hx; cases hx)] at hE
    exact rankOrder_p HK a0 a1 a2 a3 a4 a5 b0 b1 b2 b3 b4 b5 c0 c1 c2 c3 c4 c5 _ _ w hy hz t1 t2 g1 g2 g3 g4 hE
end Go.Proofs.Ytlkopnbkmpgafaa
