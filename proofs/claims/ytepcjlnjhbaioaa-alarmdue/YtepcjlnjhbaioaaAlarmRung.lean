/-
  Layer 6 (alarm): the document's rows hold.
-/
import Derived.Test.YtepcjlnjhbaioaaAlarmC
namespace Go.Proofs.Ytepcjlnjhbaioaa
open Go.RowKit

theorem c_rung : Am.opn 1 0 2 100 = ⟨1, 0, 1, 2, 100, 130⟩ ∧ Am.openE 1 0 2 100 = 0 ∧ Am.pass ⟨1, 0, 1, 2, 100, 130⟩ 129 = ⟨1, 0, 1, 2, 100, 130⟩ ∧ Am.pass ⟨1, 0, 1, 2, 100, 130⟩ 130 = ⟨1, 0, 2, 2, 100, 130⟩ ∧ Am.doA ⟨1, 0, 1, 2, 100, 130⟩ 4 110 5 = ⟨1, 0, 4, 2, 100, 115⟩ ∧ Am.doE ⟨1, 0, 1, 2, 100, 130⟩ 4 110 5 = 0 ∧ Am.pass ⟨1, 0, 4, 2, 100, 115⟩ 144 = ⟨1, 0, 1, 2, 100, 145⟩ ∧ Am.pass ⟨1, 0, 4, 2, 100, 115⟩ 145 = ⟨1, 0, 2, 2, 100, 145⟩ ∧ Am.doA ⟨1, 0, 1, 2, 100, 130⟩ 2 129 0 = Am.zero ∧ Am.doE ⟨1, 0, 1, 2, 100, 130⟩ 2 129 0 = 61 ∧ Am.doA ⟨1, 0, 1, 2, 100, 130⟩ 6 200 0 = Am.zero ∧ Am.doE ⟨1, 0, 1, 2, 100, 130⟩ 6 200 0 = 60 ∧ Am.right ⟨1, 0, 1, 2, 100, 130⟩ = true ∧ Am.wait 3 = 90 := by decide +kernel

set_option maxRecDepth 10000 in
set_option maxHeartbeats 4000000 in
theorem rung_any (w : World) :
    Calls Try.prog 13 #[] w fun e w' => e = .returned (.bool true) ∧ Below w.heap.size w w' := by
  obtain ⟨n1, n2, n3, n4, n5, n6, n7, n8, n9, n10, n11, n12, n13, n14⟩ := c_rung
  have h1 := fun W => AOpen_any 1 0 2 100 W
  rw [n1, n2] at h1
  have h2 := fun W => APass_any 1 0 1 2 100 130 129 W
  rw [n3] at h2
  have h3 := fun W => APass_any 1 0 1 2 100 130 130 W
  rw [n4] at h3
  have h4 := fun W => ADo_any 1 0 1 2 100 130 4 110 5 W
  rw [n5, n6] at h4
  have h5 := fun W => APass_any 1 0 4 2 100 115 144 W
  rw [n7] at h5
  have h6 := fun W => APass_any 1 0 4 2 100 115 145 W
  rw [n8] at h6
  have h7 := fun W => ADo_any 1 0 1 2 100 130 2 129 0 W
  rw [n9, n10] at h7
  have h8 := fun W => ADo_any 1 0 1 2 100 130 6 200 0 W
  rw [n11, n12] at h8
  have h9 := fun W => AIs_any 1 0 1 2 100 130 W
  rw [n13] at h9
  have h10 := fun W => AWait_any 3 W
  rw [n14] at h10
  simp only [sixV, Am.zero] at h1 h2 h3 h4 h5 h6 h7 h8
  clear n1 n2 n3 n4 n5 n6 n7 n8 n9 n10 n11 n12 n13 n14
  go_enter Try.func13, Try.ntmps13
  go_wp2_with fail
  refine (h1 _).mono ?_
  rintro e w1 ⟨rfl, hB1⟩
  have hB0 := hB1
  clear h1 hB1
  have ka := Six.new w1 1 0 1 2 100 130 25
  replace hB0 := below2 hB0 (below_new w1 (.cells #[.int .i64 1, .int .i64 0, .int .i64 1, .int .i64 2, .int .i64 100, .int .i64 130] 25))
  have a0 := ka.c0
  have a1 := ka.c1
  have a2 := ka.c2
  have a3 := ka.c3
  have a4 := ka.c4
  have a5 := ka.c5
  go_wp2_with fail
  refine (h2 _).mono ?_
  rintro e w2 ⟨rfl, hB1⟩
  clear a0 a1 a2 a3 a4 a5
  replace ka := ka.below hB1
  replace hB0 := below2 hB0 hB1
  clear h2 hB1
  replace ka := ka.alloc (.cells #[.int .i64 1, .int .i64 0, .int .i64 1, .int .i64 2, .int .i64 100, .int .i64 130] 25)
  have kb := Six.new w2 1 0 1 2 100 130 25
  replace hB0 := below2 hB0 (below_new w2 (.cells #[.int .i64 1, .int .i64 0, .int .i64 1, .int .i64 2, .int .i64 100, .int .i64 130] 25))
  have a0 := ka.c0
  have a1 := ka.c1
  have a2 := ka.c2
  have a3 := ka.c3
  have a4 := ka.c4
  have a5 := ka.c5
  go_wp2_with fail
  refine (h3 _).mono ?_
  rintro e w3 ⟨rfl, hB1⟩
  clear a0 a1 a2 a3 a4 a5
  replace ka := ka.below hB1
  replace kb := kb.below hB1
  replace hB0 := below2 hB0 hB1
  clear h3 hB1
  replace ka := ka.alloc (.cells #[.int .i64 1, .int .i64 0, .int .i64 2, .int .i64 2, .int .i64 100, .int .i64 130] 25)
  replace kb := kb.alloc (.cells #[.int .i64 1, .int .i64 0, .int .i64 2, .int .i64 2, .int .i64 100, .int .i64 130] 25)
  have kc := Six.new w3 1 0 2 2 100 130 25
  replace hB0 := below2 hB0 (below_new w3 (.cells #[.int .i64 1, .int .i64 0, .int .i64 2, .int .i64 2, .int .i64 100, .int .i64 130] 25))
  have a0 := ka.c0
  have a1 := ka.c1
  have a2 := ka.c2
  have a3 := ka.c3
  have a4 := ka.c4
  have a5 := ka.c5
  go_wp2_with fail
  refine (h4 _).mono ?_
  rintro e w4 ⟨rfl, hB1⟩
  clear a0 a1 a2 a3 a4 a5
  replace ka := ka.below hB1
  replace kb := kb.below hB1
  replace kc := kc.below hB1
  replace hB0 := below2 hB0 hB1
  clear h4 hB1
  replace ka := ka.alloc (.cells #[.int .i64 1, .int .i64 0, .int .i64 4, .int .i64 2, .int .i64 100, .int .i64 115] 25)
  replace kb := kb.alloc (.cells #[.int .i64 1, .int .i64 0, .int .i64 4, .int .i64 2, .int .i64 100, .int .i64 115] 25)
  replace kc := kc.alloc (.cells #[.int .i64 1, .int .i64 0, .int .i64 4, .int .i64 2, .int .i64 100, .int .i64 115] 25)
  have kd := Six.new w4 1 0 4 2 100 115 25
  replace hB0 := below2 hB0 (below_new w4 (.cells #[.int .i64 1, .int .i64 0, .int .i64 4, .int .i64 2, .int .i64 100, .int .i64 115] 25))
  have d0 := kd.c0
  have d1 := kd.c1
  have d2 := kd.c2
  have d3 := kd.c3
  have d4 := kd.c4
  have d5 := kd.c5
  go_wp2_with fail
  refine (h5 _).mono ?_
  rintro e w5 ⟨rfl, hB1⟩
  clear d0 d1 d2 d3 d4 d5
  replace ka := ka.below hB1
  replace kb := kb.below hB1
  replace kc := kc.below hB1
  replace kd := kd.below hB1
  replace hB0 := below2 hB0 hB1
  clear h5 hB1
  replace ka := ka.alloc (.cells #[.int .i64 1, .int .i64 0, .int .i64 1, .int .i64 2, .int .i64 100, .int .i64 145] 25)
  replace kb := kb.alloc (.cells #[.int .i64 1, .int .i64 0, .int .i64 1, .int .i64 2, .int .i64 100, .int .i64 145] 25)
  replace kc := kc.alloc (.cells #[.int .i64 1, .int .i64 0, .int .i64 1, .int .i64 2, .int .i64 100, .int .i64 145] 25)
  replace kd := kd.alloc (.cells #[.int .i64 1, .int .i64 0, .int .i64 1, .int .i64 2, .int .i64 100, .int .i64 145] 25)
  have kx := Six.new w5 1 0 1 2 100 145 25
  replace hB0 := below2 hB0 (below_new w5 (.cells #[.int .i64 1, .int .i64 0, .int .i64 1, .int .i64 2, .int .i64 100, .int .i64 145] 25))
  have d0 := kd.c0
  have d1 := kd.c1
  have d2 := kd.c2
  have d3 := kd.c3
  have d4 := kd.c4
  have d5 := kd.c5
  go_wp2_with fail
  refine (h6 _).mono ?_
  rintro e w6 ⟨rfl, hB1⟩
  clear d0 d1 d2 d3 d4 d5
  replace ka := ka.below hB1
  replace kb := kb.below hB1
  replace kc := kc.below hB1
  replace kd := kd.below hB1
  replace kx := kx.below hB1
  replace hB0 := below2 hB0 hB1
  clear h6 hB1
  replace ka := ka.alloc (.cells #[.int .i64 1, .int .i64 0, .int .i64 2, .int .i64 2, .int .i64 100, .int .i64 145] 25)
  replace kb := kb.alloc (.cells #[.int .i64 1, .int .i64 0, .int .i64 2, .int .i64 2, .int .i64 100, .int .i64 145] 25)
  replace kc := kc.alloc (.cells #[.int .i64 1, .int .i64 0, .int .i64 2, .int .i64 2, .int .i64 100, .int .i64 145] 25)
  replace kd := kd.alloc (.cells #[.int .i64 1, .int .i64 0, .int .i64 2, .int .i64 2, .int .i64 100, .int .i64 145] 25)
  replace kx := kx.alloc (.cells #[.int .i64 1, .int .i64 0, .int .i64 2, .int .i64 2, .int .i64 100, .int .i64 145] 25)
  have ky := Six.new w6 1 0 2 2 100 145 25
  replace hB0 := below2 hB0 (below_new w6 (.cells #[.int .i64 1, .int .i64 0, .int .i64 2, .int .i64 2, .int .i64 100, .int .i64 145] 25))
  have a0 := ka.c0
  have a1 := ka.c1
  have a2 := ka.c2
  have a3 := ka.c3
  have a4 := ka.c4
  have a5 := ka.c5
  go_wp2_with fail
  refine (h7 _).mono ?_
  rintro e w7 ⟨rfl, hB1⟩
  clear a0 a1 a2 a3 a4 a5
  replace ka := ka.below hB1
  replace kb := kb.below hB1
  replace kc := kc.below hB1
  replace kd := kd.below hB1
  replace kx := kx.below hB1
  replace ky := ky.below hB1
  replace hB0 := below2 hB0 hB1
  clear h7 hB1
  replace ka := ka.alloc (.cells #[.int .i64 0, .int .i64 0, .int .i64 0, .int .i64 0, .int .i64 0, .int .i64 0] 25)
  replace kb := kb.alloc (.cells #[.int .i64 0, .int .i64 0, .int .i64 0, .int .i64 0, .int .i64 0, .int .i64 0] 25)
  replace kc := kc.alloc (.cells #[.int .i64 0, .int .i64 0, .int .i64 0, .int .i64 0, .int .i64 0, .int .i64 0] 25)
  replace kd := kd.alloc (.cells #[.int .i64 0, .int .i64 0, .int .i64 0, .int .i64 0, .int .i64 0, .int .i64 0] 25)
  replace kx := kx.alloc (.cells #[.int .i64 0, .int .i64 0, .int .i64 0, .int .i64 0, .int .i64 0, .int .i64 0] 25)
  replace ky := ky.alloc (.cells #[.int .i64 0, .int .i64 0, .int .i64 0, .int .i64 0, .int .i64 0, .int .i64 0] 25)
  replace hB0 := below2 hB0 (below_new w7 (.cells #[.int .i64 0, .int .i64 0, .int .i64 0, .int .i64 0, .int .i64 0, .int .i64 0] 25))
  have a0 := ka.c0
  have a1 := ka.c1
  have a2 := ka.c2
  have a3 := ka.c3
  have a4 := ka.c4
  have a5 := ka.c5
  go_wp2_with fail
  refine (h8 _).mono ?_
  rintro e w8 ⟨rfl, hB1⟩
  clear a0 a1 a2 a3 a4 a5
  replace ka := ka.below hB1
  replace kb := kb.below hB1
  replace kc := kc.below hB1
  replace kd := kd.below hB1
  replace kx := kx.below hB1
  replace ky := ky.below hB1
  replace hB0 := below2 hB0 hB1
  clear h8 hB1
  replace ka := ka.alloc (.cells #[.int .i64 0, .int .i64 0, .int .i64 0, .int .i64 0, .int .i64 0, .int .i64 0] 25)
  replace kb := kb.alloc (.cells #[.int .i64 0, .int .i64 0, .int .i64 0, .int .i64 0, .int .i64 0, .int .i64 0] 25)
  replace kc := kc.alloc (.cells #[.int .i64 0, .int .i64 0, .int .i64 0, .int .i64 0, .int .i64 0, .int .i64 0] 25)
  replace kd := kd.alloc (.cells #[.int .i64 0, .int .i64 0, .int .i64 0, .int .i64 0, .int .i64 0, .int .i64 0] 25)
  replace kx := kx.alloc (.cells #[.int .i64 0, .int .i64 0, .int .i64 0, .int .i64 0, .int .i64 0, .int .i64 0] 25)
  replace ky := ky.alloc (.cells #[.int .i64 0, .int .i64 0, .int .i64 0, .int .i64 0, .int .i64 0, .int .i64 0] 25)
  replace hB0 := below2 hB0 (below_new w8 (.cells #[.int .i64 0, .int .i64 0, .int .i64 0, .int .i64 0, .int .i64 0, .int .i64 0] 25))
  have a0 := ka.c0
  have a1 := ka.c1
  have a2 := ka.c2
  have a3 := ka.c3
  have a4 := ka.c4
  have a5 := ka.c5
  have b0 := kb.c0
  have b1 := kb.c1
  have b2 := kb.c2
  have b3 := kb.c3
  have b4 := kb.c4
  have b5 := kb.c5
  have c0 := kc.c0
  have c1 := kc.c1
  have c2 := kc.c2
  have c3 := kc.c3
  have c4 := kc.c4
  have c5 := kc.c5
  have d0 := kd.c0
  have d1 := kd.c1
  have d2 := kd.c2
  have d3 := kd.c3
  have d4 := kd.c4
  have d5 := kd.c5
  have x0 := kx.c0
  have x1 := kx.c1
  have x2 := kx.c2
  have x3 := kx.c3
  have x4 := kx.c4
  have x5 := kx.c5
  have y0 := ky.c0
  have y1 := ky.c1
  have y2 := ky.c2
  have y3 := ky.c3
  have y4 := ky.c4
  have y5 := ky.c5
  go_wp2_with fail
  refine (h9 _).mono ?_
  rintro e w9 ⟨rfl, hB1⟩
  replace hB0 := below2 hB0 hB1
  clear h9 hB1 a0 a1 a2 a3 a4 a5 b0 b1 b2 b3 b4 b5 c0 c1 c2 c3 c4 c5 d0 d1 d2 d3 d4 d5 x0 x1 x2 x3 x4 x5 y0 y1 y2 y3 y4 y5
  go_wp2_with fail
  refine (h10 _).mono ?_
  rintro e w10 ⟨rfl, hB1⟩
  have HB := Lib.hid (below2 hB0 hB1)
  clear h10 hB1 hB0
  go_wp2
  go_ret
  exact ⟨rfl, HB.out⟩
end Go.Proofs.Ytepcjlnjhbaioaa
