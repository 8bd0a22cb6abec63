/-
  Layer 4 (spot): the walk of the law SpotBack, case by case.
-/
import Derived.Test.YtndpcnimebedcaaDoorSpotSpots
namespace Go.Proofs.YtndpcnimebedcaaDoor
open Go.RowKit

/-- A spot, as it is handed over. -/
def spotV (b c : Int) : Value := .agg #[.int .i64 b, .int .i64 c]
/-- In every world the function, of these arguments, gives this. -/
def Gives (f : FuncId) (args : Array Value) (v : Value) : Prop := ∀ W : World, Calls Tryd.prog f args W fun e w' => e = .returned v ∧ Below W.heap.size W w'
def GivesE (f : FuncId) (args : Array Value) (v : Value) : Prop := ∀ W : World, Errs W → Calls Tryd.prog f args W fun e w' => e = .returned v ∧ Below W.heap.size W w'

set_option maxRecDepth 10000 in
set_option maxHeartbeats 4000000 in
theorem back_yyy (b c a n d0 d1 x0 x1 : Int) (t text : ByteArray) (w : World) (HE : Hid (Errs w)) (hl : decide ((200 : Int) < (text.size : Int)) = false) (hN : Gives 9 #[spotV b c] (.tuple #[.int .i64 a, .int .i64 0]))
    (hA : Gives 11 #[.int .i64 a] (.tuple #[spotV b c, .int .i64 0]))
    (hP : Gives 13 #[spotV b c] (.tuple #[.string t, .int .i64 0]))
    (hQ : GivesE 15 #[.string t] (.tuple #[spotV b c, .int .i64 0]))
    (hI : Gives 18 #[spotV b c] (.bool true))
    (q1 : decide (a < 0) = false) (q2 : decide (791 < a) = false)
    (hA2 : Gives 11 #[.int .i64 n] (.tuple #[spotV d0 d1, .int .i64 0]))
    (hN2 : Gives 9 #[spotV d0 d1] (.tuple #[.int .i64 n, .int .i64 0]))
    (hQ2 : GivesE 15 #[.string text] (.tuple #[spotV x0 x1, .int .i64 0]))
    (hP2 : Gives 13 #[spotV x0 x1] (.tuple #[.string text, .int .i64 0])) (hI2 : Gives 18 #[spotV d0 d1] (.bool true)) (hI3 : Gives 18 #[spotV x0 x1] (.bool true)) :
    Calls Tryd.prog 4 #[.agg #[.int .i64 b, .int .i64 c], .int .i64 n, .string text] w fun e w' => e = .returned (.bool true) ∧ Below w.heap.size w w' := by
  unfold Gives at *
  unfold GivesE at *
  unfold spotV at *
  go_enter Tryd.func4, Tryd.ntmps4
  go_wp2_with fail
  refine (hN _).mono ?_
  rintro x w1 ⟨rfl, hB1⟩
  have ks := (Two.new w b c 23).below hB1
  have hB0 := below2 (below_new _ _) hB1
  clear hN hB1
  go_wp2_with fail
  refine (hA _).mono ?_
  rintro x w2 ⟨rfl, hB1⟩
  replace ks := ks.below hB1
  replace hB0 := below2 hB0 hB1
  clear hB1
  replace ks := ks.alloc (.cells #[.int .i64 b, .int .i64 c] 23)
  replace hB0 := below2 hB0 (below_new w2 (.cells #[.int .i64 b, .int .i64 c] 23))
  have kb := Two.new w2 b c 23
  clear hA
  have ks0 := ks.c0
  have ks1 := ks.c1
  go_wp2_with fail
  refine (hP _).mono ?_
  rintro x w3 ⟨rfl, hB1⟩
  replace ks := ks.below hB1
  replace kb := kb.below hB1
  replace hB0 := below2 hB0 hB1
  clear ks0 ks1 hB1
  clear hP
  have HE3 := Lib.hid (HE.out.below hB0)
  go_wp2_with fail
  refine (hQ _ HE3.out).mono ?_
  rintro x w4 ⟨rfl, hB1⟩
  replace ks := ks.below hB1
  replace kb := kb.below hB1
  replace hB0 := below2 hB0 hB1
  clear hB1
  replace ks := ks.alloc (.cells #[.int .i64 b, .int .i64 c] 23)
  replace kb := kb.alloc (.cells #[.int .i64 b, .int .i64 c] 23)
  replace hB0 := below2 hB0 (below_new w4 (.cells #[.int .i64 b, .int .i64 c] 23))
  have kc := Two.new w4 b c 23
  clear hQ HE3
  have ks0 := ks.c0
  have ks1 := ks.c1
  have kb0 := kb.c0
  have kb1 := kb.c1
  have kc0 := kc.c0
  have kc1 := kc.c1
  go_wp2_with fail
  refine (hI _).mono ?_
  rintro x w5 ⟨rfl, hB1⟩
  replace ks := ks.below hB1
  replace kb := kb.below hB1
  replace kc := kc.below hB1
  replace hB0 := below2 hB0 hB1
  clear ks0 ks1 kb0 kb1 kc0 kc1 hB1
  have ks0 := ks.c0
  have ks1 := ks.c1
  have kb0 := kb.c0
  have kb1 := kb.c1
  have kc0 := kc.c0
  have kc1 := kc.c1
  go_wp2_with fail
  refine (hI _).mono ?_
  rintro x w6 ⟨rfl, hB1⟩
  replace ks := ks.below hB1
  replace kb := kb.below hB1
  replace kc := kc.below hB1
  replace hB0 := below2 hB0 hB1
  clear ks0 ks1 kb0 kb1 kc0 kc1 hB1
  clear hI
  go_wp2_with fail
  refine (hA2 _).mono ?_
  rintro x w7 ⟨rfl, hB1⟩
  replace hB0 := below2 hB0 hB1
  replace hB0 := below2 hB0 (below_new w7 (.cells #[.int .i64 d0, .int .i64 d1] 23))
  have kd := Two.new w7 d0 d1 23
  clear hA2 ks kb kc
  clear hB1
  have kd0 := kd.c0
  have kd1 := kd.c1
  go_wp2_with fail
  refine (hN2 _).mono ?_
  rintro x w8 ⟨rfl, hB1⟩
  replace kd := kd.below hB1
  replace hB0 := below2 hB0 hB1
  clear kd0 kd1 hB1
  clear hN2
  have HE8 := Lib.hid (HE.out.below hB0)
  go_wp2_with fail
  refine (hQ2 _ HE8.out).mono ?_
  rintro x w9 ⟨rfl, hB1⟩
  replace kd := kd.below hB1
  replace hB0 := below2 hB0 hB1
  clear hB1
  replace kd := kd.alloc (.cells #[.int .i64 x0, .int .i64 x1] 23)
  replace hB0 := below2 hB0 (below_new w9 (.cells #[.int .i64 x0, .int .i64 x1] 23))
  have kx := Two.new w9 x0 x1 23
  clear hQ2 HE8
  have kx0 := kx.c0
  have kx1 := kx.c1
  go_wp2_with fail
  refine (hP2 _).mono ?_
  rintro x w10 ⟨rfl, hB1⟩
  replace kd := kd.below hB1
  replace kx := kx.below hB1
  replace hB0 := below2 hB0 hB1
  clear kx0 kx1 hB1
  clear hP2
  have HE10 := Lib.hid (HE.out.below hB0)
  go_wp2_with fail
  refine (spots_any _ HE10.out).mono ?_
  rintro x w11 ⟨rfl, hB1⟩
  replace kd := kd.below hB1
  replace kx := kx.below hB1
  replace hB0 := below2 hB0 hB1
  clear hB1
  have kd0 := kd.c0
  have kd1 := kd.c1
  have kx0 := kx.c0
  have kx1 := kx.c1
  go_wp2_with fail
  refine (hI2 _).mono ?_
  rintro x w12 ⟨rfl, hB1⟩
  replace kd := kd.below hB1
  replace kx := kx.below hB1
  replace hB0 := below2 hB0 hB1
  clear kd0 kd1 kx0 kx1 hB1
  have kd0 := kd.c0
  have kd1 := kd.c1
  have kx0 := kx.c0
  have kx1 := kx.c1
  go_wp2_with fail
  refine (hI3 _).mono ?_
  rintro x w13 ⟨rfl, hB1⟩
  replace kd := kd.below hB1
  replace kx := kx.below hB1
  replace hB0 := below2 hB0 hB1
  clear kd0 kd1 kx0 kx1 hB1
  go_wp2
  go_ret
  exact ⟨rfl, hB0⟩

set_option maxRecDepth 10000 in
set_option maxHeartbeats 4000000 in
theorem back_yyn (b c a n d0 d1 x0 x1 : Int) (t text : ByteArray) (w : World) (HE : Hid (Errs w)) (hl : decide ((200 : Int) < (text.size : Int)) = false) (hN : Gives 9 #[spotV b c] (.tuple #[.int .i64 a, .int .i64 0]))
    (hA : Gives 11 #[.int .i64 a] (.tuple #[spotV b c, .int .i64 0]))
    (hP : Gives 13 #[spotV b c] (.tuple #[.string t, .int .i64 0]))
    (hQ : GivesE 15 #[.string t] (.tuple #[spotV b c, .int .i64 0]))
    (hI : Gives 18 #[spotV b c] (.bool true))
    (q1 : decide (a < 0) = false) (q2 : decide (791 < a) = false)
    (hA2 : Gives 11 #[.int .i64 n] (.tuple #[spotV d0 d1, .int .i64 0]))
    (hN2 : Gives 9 #[spotV d0 d1] (.tuple #[.int .i64 n, .int .i64 0]))
    (hQ2 : GivesE 15 #[.string text] (.tuple #[spotV x0 x1, .int .i64 20]))
    (hP2 : Gives 13 #[spotV x0 x1] (.tuple #[.string ByteArray.empty, .int .i64 1])) (hI2 : Gives 18 #[spotV d0 d1] (.bool true)) :
    Calls Tryd.prog 4 #[.agg #[.int .i64 b, .int .i64 c], .int .i64 n, .string text] w fun e w' => e = .returned (.bool true) ∧ Below w.heap.size w w' := by
  unfold Gives at *
  unfold GivesE at *
  unfold spotV at *
  go_enter Tryd.func4, Tryd.ntmps4
  go_wp2_with fail
  refine (hN _).mono ?_
  rintro x w1 ⟨rfl, hB1⟩
  have ks := (Two.new w b c 23).below hB1
  have hB0 := below2 (below_new _ _) hB1
  clear hN hB1
  go_wp2_with fail
  refine (hA _).mono ?_
  rintro x w2 ⟨rfl, hB1⟩
  replace ks := ks.below hB1
  replace hB0 := below2 hB0 hB1
  clear hB1
  replace ks := ks.alloc (.cells #[.int .i64 b, .int .i64 c] 23)
  replace hB0 := below2 hB0 (below_new w2 (.cells #[.int .i64 b, .int .i64 c] 23))
  have kb := Two.new w2 b c 23
  clear hA
  have ks0 := ks.c0
  have ks1 := ks.c1
  go_wp2_with fail
  refine (hP _).mono ?_
  rintro x w3 ⟨rfl, hB1⟩
  replace ks := ks.below hB1
  replace kb := kb.below hB1
  replace hB0 := below2 hB0 hB1
  clear ks0 ks1 hB1
  clear hP
  have HE3 := Lib.hid (HE.out.below hB0)
  go_wp2_with fail
  refine (hQ _ HE3.out).mono ?_
  rintro x w4 ⟨rfl, hB1⟩
  replace ks := ks.below hB1
  replace kb := kb.below hB1
  replace hB0 := below2 hB0 hB1
  clear hB1
  replace ks := ks.alloc (.cells #[.int .i64 b, .int .i64 c] 23)
  replace kb := kb.alloc (.cells #[.int .i64 b, .int .i64 c] 23)
  replace hB0 := below2 hB0 (below_new w4 (.cells #[.int .i64 b, .int .i64 c] 23))
  have kc := Two.new w4 b c 23
  clear hQ HE3
  have ks0 := ks.c0
  have ks1 := ks.c1
  have kb0 := kb.c0
  have kb1 := kb.c1
  have kc0 := kc.c0
  have kc1 := kc.c1
  go_wp2_with fail
  refine (hI _).mono ?_
  rintro x w5 ⟨rfl, hB1⟩
  replace ks := ks.below hB1
  replace kb := kb.below hB1
  replace kc := kc.below hB1
  replace hB0 := below2 hB0 hB1
  clear ks0 ks1 kb0 kb1 kc0 kc1 hB1
  have ks0 := ks.c0
  have ks1 := ks.c1
  have kb0 := kb.c0
  have kb1 := kb.c1
  have kc0 := kc.c0
  have kc1 := kc.c1
  go_wp2_with fail
  refine (hI _).mono ?_
  rintro x w6 ⟨rfl, hB1⟩
  replace ks := ks.below hB1
  replace kb := kb.below hB1
  replace kc := kc.below hB1
  replace hB0 := below2 hB0 hB1
  clear ks0 ks1 kb0 kb1 kc0 kc1 hB1
  clear hI
  go_wp2_with fail
  refine (hA2 _).mono ?_
  rintro x w7 ⟨rfl, hB1⟩
  replace hB0 := below2 hB0 hB1
  replace hB0 := below2 hB0 (below_new w7 (.cells #[.int .i64 d0, .int .i64 d1] 23))
  have kd := Two.new w7 d0 d1 23
  clear hA2 ks kb kc
  clear hB1
  have kd0 := kd.c0
  have kd1 := kd.c1
  go_wp2_with fail
  refine (hN2 _).mono ?_
  rintro x w8 ⟨rfl, hB1⟩
  replace kd := kd.below hB1
  replace hB0 := below2 hB0 hB1
  clear kd0 kd1 hB1
  clear hN2
  have HE8 := Lib.hid (HE.out.below hB0)
  go_wp2_with fail
  refine (hQ2 _ HE8.out).mono ?_
  rintro x w9 ⟨rfl, hB1⟩
  replace kd := kd.below hB1
  replace hB0 := below2 hB0 hB1
  clear hB1
  replace kd := kd.alloc (.cells #[.int .i64 x0, .int .i64 x1] 23)
  replace hB0 := below2 hB0 (below_new w9 (.cells #[.int .i64 x0, .int .i64 x1] 23))
  have kx := Two.new w9 x0 x1 23
  clear hQ2 HE8
  have kx0 := kx.c0
  have kx1 := kx.c1
  go_wp2_with fail
  refine (hP2 _).mono ?_
  rintro x w10 ⟨rfl, hB1⟩
  replace kd := kd.below hB1
  replace kx := kx.below hB1
  replace hB0 := below2 hB0 hB1
  clear kx0 kx1 hB1
  clear hP2
  have HE10 := Lib.hid (HE.out.below hB0)
  go_wp2_with fail
  refine (spots_any _ HE10.out).mono ?_
  rintro x w11 ⟨rfl, hB1⟩
  replace kd := kd.below hB1
  replace kx := kx.below hB1
  replace hB0 := below2 hB0 hB1
  clear hB1
  have kd0 := kd.c0
  have kd1 := kd.c1
  have kx0 := kx.c0
  have kx1 := kx.c1
  go_wp2_with fail
  refine (hI2 _).mono ?_
  rintro x w12 ⟨rfl, hB1⟩
  replace kd := kd.below hB1
  replace kx := kx.below hB1
  replace hB0 := below2 hB0 hB1
  clear kd0 kd1 kx0 kx1 hB1
  have kd0 := kd.c0
  have kd1 := kd.c1
  have kx0 := kx.c0
  have kx1 := kx.c1
  go_wp2
  go_ret
  exact ⟨rfl, hB0⟩

set_option maxRecDepth 10000 in
set_option maxHeartbeats 4000000 in
theorem back_yny (b c a n d0 d1 x0 x1 : Int) (t text : ByteArray) (w : World) (HE : Hid (Errs w)) (hl : decide ((200 : Int) < (text.size : Int)) = false) (hN : Gives 9 #[spotV b c] (.tuple #[.int .i64 a, .int .i64 0]))
    (hA : Gives 11 #[.int .i64 a] (.tuple #[spotV b c, .int .i64 0]))
    (hP : Gives 13 #[spotV b c] (.tuple #[.string t, .int .i64 0]))
    (hQ : GivesE 15 #[.string t] (.tuple #[spotV b c, .int .i64 0]))
    (hI : Gives 18 #[spotV b c] (.bool true))
    (q1 : decide (a < 0) = false) (q2 : decide (791 < a) = false)
    (hA2 : Gives 11 #[.int .i64 n] (.tuple #[spotV d0 d1, .int .i64 1]))
    (hN2 : Gives 9 #[spotV d0 d1] (.tuple #[.int .i64 0, .int .i64 1]))
    (hQ2 : GivesE 15 #[.string text] (.tuple #[spotV x0 x1, .int .i64 0]))
    (hP2 : Gives 13 #[spotV x0 x1] (.tuple #[.string text, .int .i64 0])) (hI3 : Gives 18 #[spotV x0 x1] (.bool true)) :
    Calls Tryd.prog 4 #[.agg #[.int .i64 b, .int .i64 c], .int .i64 n, .string text] w fun e w' => e = .returned (.bool true) ∧ Below w.heap.size w w' := by
  unfold Gives at *
  unfold GivesE at *
  unfold spotV at *
  go_enter Tryd.func4, Tryd.ntmps4
  go_wp2_with fail
  refine (hN _).mono ?_
  rintro x w1 ⟨rfl, hB1⟩
  have ks := (Two.new w b c 23).below hB1
  have hB0 := below2 (below_new _ _) hB1
  clear hN hB1
  go_wp2_with fail
  refine (hA _).mono ?_
  rintro x w2 ⟨rfl, hB1⟩
  replace ks := ks.below hB1
  replace hB0 := below2 hB0 hB1
  clear hB1
  replace ks := ks.alloc (.cells #[.int .i64 b, .int .i64 c] 23)
  replace hB0 := below2 hB0 (below_new w2 (.cells #[.int .i64 b, .int .i64 c] 23))
  have kb := Two.new w2 b c 23
  clear hA
  have ks0 := ks.c0
  have ks1 := ks.c1
  go_wp2_with fail
  refine (hP _).mono ?_
  rintro x w3 ⟨rfl, hB1⟩
  replace ks := ks.below hB1
  replace kb := kb.below hB1
  replace hB0 := below2 hB0 hB1
  clear ks0 ks1 hB1
  clear hP
  have HE3 := Lib.hid (HE.out.below hB0)
  go_wp2_with fail
  refine (hQ _ HE3.out).mono ?_
  rintro x w4 ⟨rfl, hB1⟩
  replace ks := ks.below hB1
  replace kb := kb.below hB1
  replace hB0 := below2 hB0 hB1
  clear hB1
  replace ks := ks.alloc (.cells #[.int .i64 b, .int .i64 c] 23)
  replace kb := kb.alloc (.cells #[.int .i64 b, .int .i64 c] 23)
  replace hB0 := below2 hB0 (below_new w4 (.cells #[.int .i64 b, .int .i64 c] 23))
  have kc := Two.new w4 b c 23
  clear hQ HE3
  have ks0 := ks.c0
  have ks1 := ks.c1
  have kb0 := kb.c0
  have kb1 := kb.c1
  have kc0 := kc.c0
  have kc1 := kc.c1
  go_wp2_with fail
  refine (hI _).mono ?_
  rintro x w5 ⟨rfl, hB1⟩
  replace ks := ks.below hB1
  replace kb := kb.below hB1
  replace kc := kc.below hB1
  replace hB0 := below2 hB0 hB1
  clear ks0 ks1 kb0 kb1 kc0 kc1 hB1
  have ks0 := ks.c0
  have ks1 := ks.c1
  have kb0 := kb.c0
  have kb1 := kb.c1
  have kc0 := kc.c0
  have kc1 := kc.c1
  go_wp2_with fail
  refine (hI _).mono ?_
  rintro x w6 ⟨rfl, hB1⟩
  replace ks := ks.below hB1
  replace kb := kb.below hB1
  replace kc := kc.below hB1
  replace hB0 := below2 hB0 hB1
  clear ks0 ks1 kb0 kb1 kc0 kc1 hB1
  clear hI
  go_wp2_with fail
  refine (hA2 _).mono ?_
  rintro x w7 ⟨rfl, hB1⟩
  replace hB0 := below2 hB0 hB1
  replace hB0 := below2 hB0 (below_new w7 (.cells #[.int .i64 d0, .int .i64 d1] 23))
  have kd := Two.new w7 d0 d1 23
  clear hA2 ks kb kc
  clear hB1
  have kd0 := kd.c0
  have kd1 := kd.c1
  go_wp2_with fail
  refine (hN2 _).mono ?_
  rintro x w8 ⟨rfl, hB1⟩
  replace kd := kd.below hB1
  replace hB0 := below2 hB0 hB1
  clear kd0 kd1 hB1
  clear hN2
  have HE8 := Lib.hid (HE.out.below hB0)
  go_wp2_with fail
  refine (hQ2 _ HE8.out).mono ?_
  rintro x w9 ⟨rfl, hB1⟩
  replace kd := kd.below hB1
  replace hB0 := below2 hB0 hB1
  clear hB1
  replace kd := kd.alloc (.cells #[.int .i64 x0, .int .i64 x1] 23)
  replace hB0 := below2 hB0 (below_new w9 (.cells #[.int .i64 x0, .int .i64 x1] 23))
  have kx := Two.new w9 x0 x1 23
  clear hQ2 HE8
  have kx0 := kx.c0
  have kx1 := kx.c1
  go_wp2_with fail
  refine (hP2 _).mono ?_
  rintro x w10 ⟨rfl, hB1⟩
  replace kd := kd.below hB1
  replace kx := kx.below hB1
  replace hB0 := below2 hB0 hB1
  clear kx0 kx1 hB1
  clear hP2
  have HE10 := Lib.hid (HE.out.below hB0)
  go_wp2_with fail
  refine (spots_any _ HE10.out).mono ?_
  rintro x w11 ⟨rfl, hB1⟩
  replace kd := kd.below hB1
  replace kx := kx.below hB1
  replace hB0 := below2 hB0 hB1
  clear hB1
  have kd0 := kd.c0
  have kd1 := kd.c1
  have kx0 := kx.c0
  have kx1 := kx.c1
  go_wp2_with fail
  refine (hI3 _).mono ?_
  rintro x w13 ⟨rfl, hB1⟩
  replace kd := kd.below hB1
  replace kx := kx.below hB1
  replace hB0 := below2 hB0 hB1
  clear kd0 kd1 kx0 kx1 hB1
  go_wp2
  go_ret
  exact ⟨rfl, hB0⟩

set_option maxRecDepth 10000 in
set_option maxHeartbeats 4000000 in
theorem back_ynn (b c a n d0 d1 x0 x1 : Int) (t text : ByteArray) (w : World) (HE : Hid (Errs w)) (hl : decide ((200 : Int) < (text.size : Int)) = false) (hN : Gives 9 #[spotV b c] (.tuple #[.int .i64 a, .int .i64 0]))
    (hA : Gives 11 #[.int .i64 a] (.tuple #[spotV b c, .int .i64 0]))
    (hP : Gives 13 #[spotV b c] (.tuple #[.string t, .int .i64 0]))
    (hQ : GivesE 15 #[.string t] (.tuple #[spotV b c, .int .i64 0]))
    (hI : Gives 18 #[spotV b c] (.bool true))
    (q1 : decide (a < 0) = false) (q2 : decide (791 < a) = false)
    (hA2 : Gives 11 #[.int .i64 n] (.tuple #[spotV d0 d1, .int .i64 1]))
    (hN2 : Gives 9 #[spotV d0 d1] (.tuple #[.int .i64 0, .int .i64 1]))
    (hQ2 : GivesE 15 #[.string text] (.tuple #[spotV x0 x1, .int .i64 20]))
    (hP2 : Gives 13 #[spotV x0 x1] (.tuple #[.string ByteArray.empty, .int .i64 1])) :
    Calls Tryd.prog 4 #[.agg #[.int .i64 b, .int .i64 c], .int .i64 n, .string text] w fun e w' => e = .returned (.bool true) ∧ Below w.heap.size w w' := by
  unfold Gives at *
  unfold GivesE at *
  unfold spotV at *
  go_enter Tryd.func4, Tryd.ntmps4
  go_wp2_with fail
  refine (hN _).mono ?_
  rintro x w1 ⟨rfl, hB1⟩
  have ks := (Two.new w b c 23).below hB1
  have hB0 := below2 (below_new _ _) hB1
  clear hN hB1
  go_wp2_with fail
  refine (hA _).mono ?_
  rintro x w2 ⟨rfl, hB1⟩
  replace ks := ks.below hB1
  replace hB0 := below2 hB0 hB1
  clear hB1
  replace ks := ks.alloc (.cells #[.int .i64 b, .int .i64 c] 23)
  replace hB0 := below2 hB0 (below_new w2 (.cells #[.int .i64 b, .int .i64 c] 23))
  have kb := Two.new w2 b c 23
  clear hA
  have ks0 := ks.c0
  have ks1 := ks.c1
  go_wp2_with fail
  refine (hP _).mono ?_
  rintro x w3 ⟨rfl, hB1⟩
  replace ks := ks.below hB1
  replace kb := kb.below hB1
  replace hB0 := below2 hB0 hB1
  clear ks0 ks1 hB1
  clear hP
  have HE3 := Lib.hid (HE.out.below hB0)
  go_wp2_with fail
  refine (hQ _ HE3.out).mono ?_
  rintro x w4 ⟨rfl, hB1⟩
  replace ks := ks.below hB1
  replace kb := kb.below hB1
  replace hB0 := below2 hB0 hB1
  clear hB1
  replace ks := ks.alloc (.cells #[.int .i64 b, .int .i64 c] 23)
  replace kb := kb.alloc (.cells #[.int .i64 b, .int .i64 c] 23)
  replace hB0 := below2 hB0 (below_new w4 (.cells #[.int .i64 b, .int .i64 c] 23))
  have kc := Two.new w4 b c 23
  clear hQ HE3
  have ks0 := ks.c0
  have ks1 := ks.c1
  have kb0 := kb.c0
  have kb1 := kb.c1
  have kc0 := kc.c0
  have kc1 := kc.c1
  go_wp2_with fail
  refine (hI _).mono ?_
  rintro x w5 ⟨rfl, hB1⟩
  replace ks := ks.below hB1
  replace kb := kb.below hB1
  replace kc := kc.below hB1
  replace hB0 := below2 hB0 hB1
  clear ks0 ks1 kb0 kb1 kc0 kc1 hB1
  have ks0 := ks.c0
  have ks1 := ks.c1
  have kb0 := kb.c0
  have kb1 := kb.c1
  have kc0 := kc.c0
  have kc1 := kc.c1
  go_wp2_with fail
  refine (hI _).mono ?_
  rintro x w6 ⟨rfl, hB1⟩
  replace ks := ks.below hB1
  replace kb := kb.below hB1
  replace kc := kc.below hB1
  replace hB0 := below2 hB0 hB1
  clear ks0 ks1 kb0 kb1 kc0 kc1 hB1
  clear hI
  go_wp2_with fail
  refine (hA2 _).mono ?_
  rintro x w7 ⟨rfl, hB1⟩
  replace hB0 := below2 hB0 hB1
  replace hB0 := below2 hB0 (below_new w7 (.cells #[.int .i64 d0, .int .i64 d1] 23))
  have kd := Two.new w7 d0 d1 23
  clear hA2 ks kb kc
  clear hB1
  have kd0 := kd.c0
  have kd1 := kd.c1
  go_wp2_with fail
  refine (hN2 _).mono ?_
  rintro x w8 ⟨rfl, hB1⟩
  replace kd := kd.below hB1
  replace hB0 := below2 hB0 hB1
  clear kd0 kd1 hB1
  clear hN2
  have HE8 := Lib.hid (HE.out.below hB0)
  go_wp2_with fail
  refine (hQ2 _ HE8.out).mono ?_
  rintro x w9 ⟨rfl, hB1⟩
  replace kd := kd.below hB1
  replace hB0 := below2 hB0 hB1
  clear hB1
  replace kd := kd.alloc (.cells #[.int .i64 x0, .int .i64 x1] 23)
  replace hB0 := below2 hB0 (below_new w9 (.cells #[.int .i64 x0, .int .i64 x1] 23))
  have kx := Two.new w9 x0 x1 23
  clear hQ2 HE8
  have kx0 := kx.c0
  have kx1 := kx.c1
  go_wp2_with fail
  refine (hP2 _).mono ?_
  rintro x w10 ⟨rfl, hB1⟩
  replace kd := kd.below hB1
  replace kx := kx.below hB1
  replace hB0 := below2 hB0 hB1
  clear kx0 kx1 hB1
  clear hP2
  have HE10 := Lib.hid (HE.out.below hB0)
  go_wp2_with fail
  refine (spots_any _ HE10.out).mono ?_
  rintro x w11 ⟨rfl, hB1⟩
  replace kd := kd.below hB1
  replace kx := kx.below hB1
  replace hB0 := below2 hB0 hB1
  clear hB1
  have kd0 := kd.c0
  have kd1 := kd.c1
  have kx0 := kx.c0
  have kx1 := kx.c1
  go_wp2
  go_ret
  exact ⟨rfl, hB0⟩

end Go.Proofs.YtndpcnimebedcaaDoor
