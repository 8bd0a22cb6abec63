/-
  Layer 4 (spot): the walk of the law SpotOrder, case by case.
-/
import Derived.Test.YtndpcnimebedcaaDoorSpotOrderM
import Derived.Deep.RegionHeld3
namespace Go.Proofs.YtndpcnimebedcaaDoor
open Go.RowKit


set_option maxRecDepth 10000 in
set_option maxHeartbeats 4000000 in
theorem order_ff (a0 a1 b0 b1 c0 c1 n m e f : Int) (w : World) (HE : Hid (Errs w)) (lab : Sp.less a0 a1 b0 b1 = false) (lba : Sp.less b0 b1 a0 a1 = false) (x0 : (a0 == b0) = true) (x1 : (a1 == b1) = true)
    (hN1 : ∀ W, Calls Tryd.prog 9 #[.agg #[.int .i64 a0, .int .i64 a1]] W fun x w' => x = .returned (.tuple #[.int .i64 n, .int .i64 e]) ∧ Below W.heap.size W w')
    (hN2 : ∀ W, Calls Tryd.prog 9 #[.agg #[.int .i64 b0, .int .i64 b1]] W fun x w' => x = .returned (.tuple #[.int .i64 m, .int .i64 f]) ∧ Below W.heap.size W w')
    (h3 : ((e == 0) = false) ∨ ((e == 0) = true ∧ (f == 0) = false) ∨ ((e == 0) = true ∧ (f == 0) = true ∧ decide (n < m) = false)) :
    Calls Tryd.prog 5 #[.agg #[.int .i64 a0, .int .i64 a1], .agg #[.int .i64 b0, .int .i64 b1], .agg #[.int .i64 c0, .int .i64 c1]] w fun e w' => e = .returned (.bool true) ∧ Below w.heap.size w w' := by
  go_enter Tryd.func5, Tryd.ntmps5
  go_wp2_with fail
  refine (hN1 _).mono ?_
  rintro x w1 ⟨rfl, hB1⟩
  have ka := (((Two.new w a0 a1 23).alloc (.cells #[.int .i64 b0, .int .i64 b1] 23)).alloc (.cells #[.int .i64 c0, .int .i64 c1] 23)).below hB1
  have kb := ((Two.new1 w (.cells #[.int .i64 a0, .int .i64 a1] 23) b0 b1 23).alloc (.cells #[.int .i64 c0, .int .i64 c1] 23)).below hB1
  have kc := (Two.new2 w (.cells #[.int .i64 a0, .int .i64 a1] 23) (.cells #[.int .i64 b0, .int .i64 b1] 23) c0 c1 23).below hB1
  have hB0 := below2 (below_new3 _ _ _ _) hB1
  clear hN1 hB1
  have kb0 := kb.c0
  have kb1 := kb.c1
  go_wp2_with fail
  refine (hN2 _).mono ?_
  rintro x w2 ⟨rfl, hB1⟩
  replace ka := ka.below hB1
  replace kb := kb.below hB1
  replace kc := kc.below hB1
  replace hB0 := below2 hB0 hB1
  clear hN2 hB1 kb0 kb1
  have ka0 := ka.c0
  have ka1 := ka.c1
  have kb0 := kb.c0
  have kb1 := kb.c1
  rcases h3 with h3 | ⟨h3, h4⟩ | ⟨h3, h4, h5⟩
  rotate_right
  go_wp2_with fail
  refine (Less_v _ _ _ _ _ _ (by assumption)).mono ?_
  rintro x w3 ⟨rfl, hB1⟩
  replace ka := ka.below hB1
  replace kb := kb.below hB1
  replace kc := kc.below hB1
  replace hB0 := below2 hB0 hB1
  clear ka0 ka1 kb0 kb1 hB1
  have ka0 := ka.c0
  have ka1 := ka.c1
  have kb0 := kb.c0
  have kb1 := kb.c1
  all_goals
    go_wp2_with fail
    refine (Less_v _ _ _ _ _ _ (by assumption)).mono ?_
    rintro x w4 ⟨rfl, hB1⟩
    replace ka := ka.below hB1
    replace kb := kb.below hB1
    replace kc := kc.below hB1
    replace hB0 := below2 hB0 hB1
    clear ka0 ka1 kb0 kb1 hB1
    have ka0 := ka.c0
    have ka1 := ka.c1
    have kb0 := kb.c0
    have kb1 := kb.c1
    go_wp2_with fail
    refine (Less_v _ _ _ _ _ _ (by assumption)).mono ?_
    rintro x w5 ⟨rfl, hB1⟩
    replace ka := ka.below hB1
    replace kb := kb.below hB1
    replace kc := kc.below hB1
    replace hB0 := below2 hB0 hB1
    clear ka0 ka1 kb0 kb1 hB1
    have ka0 := ka.c0
    have ka1 := ka.c1
    have kb0 := kb.c0
    have kb1 := kb.c1
    go_wp2_with fail
    go_region_held3 (fun W => W.cell? ⟨w.heap.size, 0, none⟩ = some (.int .i64 a0) ∧ W.cell? ⟨w.heap.size, 1, none⟩ = some (.int .i64 a1) ∧ W.cell? ⟨w.heap.size + 1, 0, none⟩ = some (.int .i64 b0) ∧ W.cell? ⟨w.heap.size + 1, 1, none⟩ = some (.int .i64 b1)) (exact ⟨ka.c0, ka.c1, kb.c0, kb.c1⟩) (first
      | (go_at_call 17; refine (spots_any _ (by first | exact HE.out.below hB0 | exact HE.out.below (below_drew hB0 1))).mono ?_; rintro e w' ⟨rfl, hB'⟩; replace ka : Two w' w.heap.size a0 a1 := (by first | exact ka.below hB' | exact (ka.drew).below hB'); replace kb : Two w' (w.heap.size + 1) b0 b1 := (by first | exact kb.below hB' | exact (kb.drew).below hB'); replace hB0 : Below w.heap.size w w' := (by first | exact below2 hB0 hB' | exact below2 (below_drew hB0 1) hB'); clear hB')
      | (go_at_call 20; refine (Less_v _ _ _ _ _ _ (by assumption)).mono ?_; rintro e w' ⟨rfl, hB'⟩; replace ka : Two w' w.heap.size a0 a1 := (by first | exact ka.below hB' | exact (ka.drew).below hB'); replace kb : Two w' (w.heap.size + 1) b0 b1 := (by first | exact kb.below hB' | exact (kb.drew).below hB'); replace hB0 : Below w.heap.size w w' := (by first | exact below2 hB0 hB' | exact below2 (below_drew hB0 1) hB'); clear hB'))
    all_goals
      go_wp2
      go_ret
      exact ⟨rfl, hB0⟩


set_option maxRecDepth 10000 in
set_option maxHeartbeats 4000000 in
theorem order_ft1 (a0 a1 b0 b1 c0 c1 n m e f : Int) (w : World) (HE : Hid (Errs w)) (lab : Sp.less a0 a1 b0 b1 = false) (lba : Sp.less b0 b1 a0 a1 = true) (x0 : (a0 == b0) = true) (x1 : (a1 == b1) = false)
    (hN1 : ∀ W, Calls Tryd.prog 9 #[.agg #[.int .i64 a0, .int .i64 a1]] W fun x w' => x = .returned (.tuple #[.int .i64 n, .int .i64 e]) ∧ Below W.heap.size W w')
    (hN2 : ∀ W, Calls Tryd.prog 9 #[.agg #[.int .i64 b0, .int .i64 b1]] W fun x w' => x = .returned (.tuple #[.int .i64 m, .int .i64 f]) ∧ Below W.heap.size W w')
    (h3 : ((e == 0) = false) ∨ ((e == 0) = true ∧ (f == 0) = false) ∨ ((e == 0) = true ∧ (f == 0) = true ∧ decide (n < m) = false)) :
    Calls Tryd.prog 5 #[.agg #[.int .i64 a0, .int .i64 a1], .agg #[.int .i64 b0, .int .i64 b1], .agg #[.int .i64 c0, .int .i64 c1]] w fun e w' => e = .returned (.bool true) ∧ Below w.heap.size w w' := by
  go_enter Tryd.func5, Tryd.ntmps5
  go_wp2_with fail
  refine (hN1 _).mono ?_
  rintro x w1 ⟨rfl, hB1⟩
  have ka := (((Two.new w a0 a1 23).alloc (.cells #[.int .i64 b0, .int .i64 b1] 23)).alloc (.cells #[.int .i64 c0, .int .i64 c1] 23)).below hB1
  have kb := ((Two.new1 w (.cells #[.int .i64 a0, .int .i64 a1] 23) b0 b1 23).alloc (.cells #[.int .i64 c0, .int .i64 c1] 23)).below hB1
  have kc := (Two.new2 w (.cells #[.int .i64 a0, .int .i64 a1] 23) (.cells #[.int .i64 b0, .int .i64 b1] 23) c0 c1 23).below hB1
  have hB0 := below2 (below_new3 _ _ _ _) hB1
  clear hN1 hB1
  have kb0 := kb.c0
  have kb1 := kb.c1
  go_wp2_with fail
  refine (hN2 _).mono ?_
  rintro x w2 ⟨rfl, hB1⟩
  replace ka := ka.below hB1
  replace kb := kb.below hB1
  replace kc := kc.below hB1
  replace hB0 := below2 hB0 hB1
  clear hN2 hB1 kb0 kb1
  have ka0 := ka.c0
  have ka1 := ka.c1
  have kb0 := kb.c0
  have kb1 := kb.c1
  rcases h3 with h3 | ⟨h3, h4⟩ | ⟨h3, h4, h5⟩
  rotate_right
  go_wp2_with fail
  refine (Less_v _ _ _ _ _ _ (by assumption)).mono ?_
  rintro x w3 ⟨rfl, hB1⟩
  replace ka := ka.below hB1
  replace kb := kb.below hB1
  replace kc := kc.below hB1
  replace hB0 := below2 hB0 hB1
  clear ka0 ka1 kb0 kb1 hB1
  have ka0 := ka.c0
  have ka1 := ka.c1
  have kb0 := kb.c0
  have kb1 := kb.c1
  all_goals
    go_wp2_with fail
    refine (Less_v _ _ _ _ _ _ (by assumption)).mono ?_
    rintro x w4 ⟨rfl, hB1⟩
    replace ka := ka.below hB1
    replace kb := kb.below hB1
    replace kc := kc.below hB1
    replace hB0 := below2 hB0 hB1
    clear ka0 ka1 kb0 kb1 hB1
    have ka0 := ka.c0
    have ka1 := ka.c1
    have kb0 := kb.c0
    have kb1 := kb.c1
    go_wp2_with fail
    refine (Less_v _ _ _ _ _ _ (by assumption)).mono ?_
    rintro x w5 ⟨rfl, hB1⟩
    replace ka := ka.below hB1
    replace kb := kb.below hB1
    replace kc := kc.below hB1
    replace hB0 := below2 hB0 hB1
    clear ka0 ka1 kb0 kb1 hB1
    have ka0 := ka.c0
    have ka1 := ka.c1
    have kb0 := kb.c0
    have kb1 := kb.c1
    go_wp2_with fail
    go_region_held3 (fun W => W.cell? ⟨w.heap.size, 0, none⟩ = some (.int .i64 a0) ∧ W.cell? ⟨w.heap.size, 1, none⟩ = some (.int .i64 a1) ∧ W.cell? ⟨w.heap.size + 1, 0, none⟩ = some (.int .i64 b0) ∧ W.cell? ⟨w.heap.size + 1, 1, none⟩ = some (.int .i64 b1)) (exact ⟨ka.c0, ka.c1, kb.c0, kb.c1⟩) (first
      | (go_at_call 17; refine (spots_any _ (by first | exact HE.out.below hB0 | exact HE.out.below (below_drew hB0 1))).mono ?_; rintro e w' ⟨rfl, hB'⟩; replace ka : Two w' w.heap.size a0 a1 := (by first | exact ka.below hB' | exact (ka.drew).below hB'); replace kb : Two w' (w.heap.size + 1) b0 b1 := (by first | exact kb.below hB' | exact (kb.drew).below hB'); replace hB0 : Below w.heap.size w w' := (by first | exact below2 hB0 hB' | exact below2 (below_drew hB0 1) hB'); clear hB')
      | (go_at_call 20; refine (Less_v _ _ _ _ _ _ (by assumption)).mono ?_; rintro e w' ⟨rfl, hB'⟩; replace ka : Two w' w.heap.size a0 a1 := (by first | exact ka.below hB' | exact (ka.drew).below hB'); replace kb : Two w' (w.heap.size + 1) b0 b1 := (by first | exact kb.below hB' | exact (kb.drew).below hB'); replace hB0 : Below w.heap.size w w' := (by first | exact below2 hB0 hB' | exact below2 (below_drew hB0 1) hB'); clear hB'))
    all_goals
      go_wp2
      go_ret
      exact ⟨rfl, hB0⟩


set_option maxRecDepth 10000 in
set_option maxHeartbeats 4000000 in
theorem order_ft2 (a0 a1 b0 b1 c0 c1 n m e f : Int) (w : World) (HE : Hid (Errs w)) (lab : Sp.less a0 a1 b0 b1 = false) (lba : Sp.less b0 b1 a0 a1 = true) (x0 : (a0 == b0) = false)
    (hN1 : ∀ W, Calls Tryd.prog 9 #[.agg #[.int .i64 a0, .int .i64 a1]] W fun x w' => x = .returned (.tuple #[.int .i64 n, .int .i64 e]) ∧ Below W.heap.size W w')
    (hN2 : ∀ W, Calls Tryd.prog 9 #[.agg #[.int .i64 b0, .int .i64 b1]] W fun x w' => x = .returned (.tuple #[.int .i64 m, .int .i64 f]) ∧ Below W.heap.size W w')
    (h3 : ((e == 0) = false) ∨ ((e == 0) = true ∧ (f == 0) = false) ∨ ((e == 0) = true ∧ (f == 0) = true ∧ decide (n < m) = false)) :
    Calls Tryd.prog 5 #[.agg #[.int .i64 a0, .int .i64 a1], .agg #[.int .i64 b0, .int .i64 b1], .agg #[.int .i64 c0, .int .i64 c1]] w fun e w' => e = .returned (.bool true) ∧ Below w.heap.size w w' := by
  go_enter Tryd.func5, Tryd.ntmps5
  go_wp2_with fail
  refine (hN1 _).mono ?_
  rintro x w1 ⟨rfl, hB1⟩
  have ka := (((Two.new w a0 a1 23).alloc (.cells #[.int .i64 b0, .int .i64 b1] 23)).alloc (.cells #[.int .i64 c0, .int .i64 c1] 23)).below hB1
  have kb := ((Two.new1 w (.cells #[.int .i64 a0, .int .i64 a1] 23) b0 b1 23).alloc (.cells #[.int .i64 c0, .int .i64 c1] 23)).below hB1
  have kc := (Two.new2 w (.cells #[.int .i64 a0, .int .i64 a1] 23) (.cells #[.int .i64 b0, .int .i64 b1] 23) c0 c1 23).below hB1
  have hB0 := below2 (below_new3 _ _ _ _) hB1
  clear hN1 hB1
  have kb0 := kb.c0
  have kb1 := kb.c1
  go_wp2_with fail
  refine (hN2 _).mono ?_
  rintro x w2 ⟨rfl, hB1⟩
  replace ka := ka.below hB1
  replace kb := kb.below hB1
  replace kc := kc.below hB1
  replace hB0 := below2 hB0 hB1
  clear hN2 hB1 kb0 kb1
  have ka0 := ka.c0
  have ka1 := ka.c1
  have kb0 := kb.c0
  have kb1 := kb.c1
  rcases h3 with h3 | ⟨h3, h4⟩ | ⟨h3, h4, h5⟩
  rotate_right
  go_wp2_with fail
  refine (Less_v _ _ _ _ _ _ (by assumption)).mono ?_
  rintro x w3 ⟨rfl, hB1⟩
  replace ka := ka.below hB1
  replace kb := kb.below hB1
  replace kc := kc.below hB1
  replace hB0 := below2 hB0 hB1
  clear ka0 ka1 kb0 kb1 hB1
  have ka0 := ka.c0
  have ka1 := ka.c1
  have kb0 := kb.c0
  have kb1 := kb.c1
  all_goals
    go_wp2_with fail
    refine (Less_v _ _ _ _ _ _ (by assumption)).mono ?_
    rintro x w4 ⟨rfl, hB1⟩
    replace ka := ka.below hB1
    replace kb := kb.below hB1
    replace kc := kc.below hB1
    replace hB0 := below2 hB0 hB1
    clear ka0 ka1 kb0 kb1 hB1
    have ka0 := ka.c0
    have ka1 := ka.c1
    have kb0 := kb.c0
    have kb1 := kb.c1
    go_wp2_with fail
    refine (Less_v _ _ _ _ _ _ (by assumption)).mono ?_
    rintro x w5 ⟨rfl, hB1⟩
    replace ka := ka.below hB1
    replace kb := kb.below hB1
    replace kc := kc.below hB1
    replace hB0 := below2 hB0 hB1
    clear ka0 ka1 kb0 kb1 hB1
    have ka0 := ka.c0
    have ka1 := ka.c1
    have kb0 := kb.c0
    have kb1 := kb.c1
    go_wp2_with fail
    go_region_held3 (fun W => W.cell? ⟨w.heap.size, 0, none⟩ = some (.int .i64 a0) ∧ W.cell? ⟨w.heap.size, 1, none⟩ = some (.int .i64 a1) ∧ W.cell? ⟨w.heap.size + 1, 0, none⟩ = some (.int .i64 b0) ∧ W.cell? ⟨w.heap.size + 1, 1, none⟩ = some (.int .i64 b1)) (exact ⟨ka.c0, ka.c1, kb.c0, kb.c1⟩) (first
      | (go_at_call 17; refine (spots_any _ (by first | exact HE.out.below hB0 | exact HE.out.below (below_drew hB0 1))).mono ?_; rintro e w' ⟨rfl, hB'⟩; replace ka : Two w' w.heap.size a0 a1 := (by first | exact ka.below hB' | exact (ka.drew).below hB'); replace kb : Two w' (w.heap.size + 1) b0 b1 := (by first | exact kb.below hB' | exact (kb.drew).below hB'); replace hB0 : Below w.heap.size w w' := (by first | exact below2 hB0 hB' | exact below2 (below_drew hB0 1) hB'); clear hB')
      | (go_at_call 20; refine (Less_v _ _ _ _ _ _ (by assumption)).mono ?_; rintro e w' ⟨rfl, hB'⟩; replace ka : Two w' w.heap.size a0 a1 := (by first | exact ka.below hB' | exact (ka.drew).below hB'); replace kb : Two w' (w.heap.size + 1) b0 b1 := (by first | exact kb.below hB' | exact (kb.drew).below hB'); replace hB0 : Below w.heap.size w w' := (by first | exact below2 hB0 hB' | exact below2 (below_drew hB0 1) hB'); clear hB'))
    all_goals
      go_wp2
      go_ret
      exact ⟨rfl, hB0⟩

end Go.Proofs.YtndpcnimebedcaaDoor
