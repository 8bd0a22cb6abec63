/-
  Layer 6 (alarm): the walk of Raise, a theorem a case (printed by tools/gen-alarmraise.py).
-/
import Derived.Test.YtepcjlnjhbaioaaAlarmOp
import Derived.Test.YtepcjlnjhbaioaaAlarmTurn
namespace Go.Proofs.Ytepcjlnjhbaioaa
open Go.RowKit

set_option linter.unusedSimpArgs false in
set_option maxRecDepth 10000 in
set_option maxHeartbeats 4000000 in
theorem raise_e1 (b c ph pr si un prio t : Int) (w : World) (hr : Am.right ⟨b, c, ph, pr, si, un⟩ = false) :
    Calls Try.prog 11 #[.agg #[.int .i64 b, .int .i64 c, .int .i64 ph, .int .i64 pr, .int .i64 si, .int .i64 un], .int .i64 prio, .int .i64 t] w fun e w' => e = .returned (.tuple #[.agg (sixV Am.zero), .int .i64 1]) ∧ Below w.heap.size w w' := by
  have g1 := fun W => AIs_any b c ph pr si un W
  rw [hr] at g1
  clear hr
  go_enter Try.func11, Try.ntmps11
  go_wp2_with fail
  refine (g1 _).mono ?_
  rintro e w1 ⟨rfl, hB⟩
  have ka := ((Six.new w b c ph pr si un 25).alloc (.cells #[.int .i64 0, .int .i64 0, .int .i64 0, .int .i64 0, .int .i64 0, .int .i64 0] 25)).below hB
  have kz := (Six.new1 w (.cells #[.int .i64 b, .int .i64 c, .int .i64 ph, .int .i64 pr, .int .i64 si, .int .i64 un] 25) 0 0 0 0 0 0 25).below hB
  have HB := Lib.hid (below2 (below_new2 w _ _) hB)
  have Ka := Lib.hid ka
  have Kz := Lib.hid kz
  clear g1 hB ka kz
  go_wp2_with (refine wpList_store_six rfl 25 _ _ rfl (w.heap.size + 1) _ Am.zero rfl rfl Kz.out (by rfl) ?_; intro w6 hw6; have K6 := Lib.hid (Kz.out.put6 hw6); have HB6 := Lib.hid (below_put6 HB.out (by omega) hw6); clear hw6)
  (try simp only [Exit.inBlock, Exit.then]); refine bodyPost_ret (ret_alarm (a := Am.zero) rfl rfl K6.out) rfl ?_
  exact ⟨rfl, HB6.out⟩

set_option linter.unusedSimpArgs false in
set_option maxRecDepth 10000 in
set_option maxHeartbeats 4000000 in
theorem raise_e2 (b c ph pr si un prio t : Int) (w : World) (hr : Am.right ⟨b, c, ph, pr, si, un⟩ = true) (hp : Am.isP prio = false) :
    Calls Try.prog 11 #[.agg #[.int .i64 b, .int .i64 c, .int .i64 ph, .int .i64 pr, .int .i64 si, .int .i64 un], .int .i64 prio, .int .i64 t] w fun e w' => e = .returned (.tuple #[.agg (sixV Am.zero), .int .i64 1]) ∧ Below w.heap.size w w' := by
  have g1 := fun W => AIs_any b c ph pr si un W
  rw [hr] at g1
  clear hr
  have g2 := fun W => isPrio_any prio W
  rw [hp] at g2
  clear hp
  go_enter Try.func11, Try.ntmps11
  go_wp2_with fail
  refine (g1 _).mono ?_
  rintro e w1 ⟨rfl, hB⟩
  have ka := ((Six.new w b c ph pr si un 25).alloc (.cells #[.int .i64 0, .int .i64 0, .int .i64 0, .int .i64 0, .int .i64 0, .int .i64 0] 25)).below hB
  have kz := (Six.new1 w (.cells #[.int .i64 b, .int .i64 c, .int .i64 ph, .int .i64 pr, .int .i64 si, .int .i64 un] 25) 0 0 0 0 0 0 25).below hB
  have HB := Lib.hid (below2 (below_new2 w _ _) hB)
  have Ka := Lib.hid ka
  have Kz := Lib.hid kz
  clear g1 hB ka kz
  go_wp2_with fail
  refine (g2 _).mono ?_
  rintro e w2 ⟨rfl, rfl⟩
  clear g2
  go_wp2_with (refine wpList_store_six rfl 25 _ _ rfl (w.heap.size + 1) _ Am.zero rfl rfl Kz.out (by rfl) ?_; intro w6 hw6; have K6 := Lib.hid (Kz.out.put6 hw6); have HB6 := Lib.hid (below_put6 HB.out (by omega) hw6); clear hw6)
  (try simp only [Exit.inBlock, Exit.then]); refine bodyPost_ret (ret_alarm (a := Am.zero) rfl rfl K6.out) rfl ?_
  exact ⟨rfl, HB6.out⟩

set_option linter.unusedSimpArgs false in
set_option maxRecDepth 10000 in
set_option maxHeartbeats 4000000 in
theorem raise_e3 (b c ph pr si un prio t : Int) (w : World) (hr : Am.right ⟨b, c, ph, pr, si, un⟩ = true) (hp : Am.isP prio = true) (ht : Am.isT t = false) :
    Calls Try.prog 11 #[.agg #[.int .i64 b, .int .i64 c, .int .i64 ph, .int .i64 pr, .int .i64 si, .int .i64 un], .int .i64 prio, .int .i64 t] w fun e w' => e = .returned (.tuple #[.agg (sixV Am.zero), .int .i64 1]) ∧ Below w.heap.size w w' := by
  have g1 := fun W => AIs_any b c ph pr si un W
  rw [hr] at g1
  clear hr
  have g2 := fun W => isPrio_any prio W
  rw [hp] at g2
  clear hp
  have g3 := fun W => isTime_any t W
  rw [ht] at g3
  clear ht
  go_enter Try.func11, Try.ntmps11
  go_wp2_with fail
  refine (g1 _).mono ?_
  rintro e w1 ⟨rfl, hB⟩
  have ka := ((Six.new w b c ph pr si un 25).alloc (.cells #[.int .i64 0, .int .i64 0, .int .i64 0, .int .i64 0, .int .i64 0, .int .i64 0] 25)).below hB
  have kz := (Six.new1 w (.cells #[.int .i64 b, .int .i64 c, .int .i64 ph, .int .i64 pr, .int .i64 si, .int .i64 un] 25) 0 0 0 0 0 0 25).below hB
  have HB := Lib.hid (below2 (below_new2 w _ _) hB)
  have Ka := Lib.hid ka
  have Kz := Lib.hid kz
  clear g1 hB ka kz
  go_wp2_with fail
  refine (g2 _).mono ?_
  rintro e w2 ⟨rfl, rfl⟩
  clear g2
  go_wp2_with fail
  refine (g3 _).mono ?_
  rintro e w3 ⟨rfl, rfl⟩
  clear g3
  go_wp2_with (refine wpList_store_six rfl 25 _ _ rfl (w.heap.size + 1) _ Am.zero rfl rfl Kz.out (by rfl) ?_; intro w6 hw6; have K6 := Lib.hid (Kz.out.put6 hw6); have HB6 := Lib.hid (below_put6 HB.out (by omega) hw6); clear hw6)
  (try simp only [Exit.inBlock, Exit.then]); refine bodyPost_ret (ret_alarm (a := Am.zero) rfl rfl K6.out) rfl ?_
  exact ⟨rfl, HB6.out⟩

set_option linter.unusedSimpArgs false in
set_option maxRecDepth 10000 in
set_option maxHeartbeats 4000000 in
theorem raise_e4 (b c ph pr si un prio t : Int) (w : World) (hr : Am.right ⟨b, c, ph, pr, si, un⟩ = true) (hp : Am.isP prio = true) (ht : Am.isT t = true) (s0 : decide (t < si) = true) :
    Calls Try.prog 11 #[.agg #[.int .i64 b, .int .i64 c, .int .i64 ph, .int .i64 pr, .int .i64 si, .int .i64 un], .int .i64 prio, .int .i64 t] w fun e w' => e = .returned (.tuple #[.agg (sixV Am.zero), .int .i64 62]) ∧ Below w.heap.size w w' := by
  have g1 := fun W => AIs_any b c ph pr si un W
  rw [hr] at g1
  clear hr
  have g2 := fun W => isPrio_any prio W
  rw [hp] at g2
  clear hp
  have g3 := fun W => isTime_any t W
  rw [ht] at g3
  clear ht
  go_enter Try.func11, Try.ntmps11
  go_wp2_with fail
  refine (g1 _).mono ?_
  rintro e w1 ⟨rfl, hB⟩
  have ka := ((Six.new w b c ph pr si un 25).alloc (.cells #[.int .i64 0, .int .i64 0, .int .i64 0, .int .i64 0, .int .i64 0, .int .i64 0] 25)).below hB
  have kz := (Six.new1 w (.cells #[.int .i64 b, .int .i64 c, .int .i64 ph, .int .i64 pr, .int .i64 si, .int .i64 un] 25) 0 0 0 0 0 0 25).below hB
  have HB := Lib.hid (below2 (below_new2 w _ _) hB)
  have Ka := Lib.hid ka
  have Kz := Lib.hid kz
  clear g1 hB ka kz
  go_wp2_with fail
  refine (g2 _).mono ?_
  rintro e w2 ⟨rfl, rfl⟩
  clear g2
  go_wp2_with fail
  refine (g3 _).mono ?_
  rintro e w3 ⟨rfl, rfl⟩
  clear g3
  have c4 := Ka.out.c4
  go_wp2_with (refine wpList_store_six rfl 25 _ _ rfl (w.heap.size + 1) _ Am.zero rfl rfl Kz.out (by rfl) ?_; intro w6 hw6; have K6 := Lib.hid (Kz.out.put6 hw6); have HB6 := Lib.hid (below_put6 HB.out (by omega) hw6); clear hw6)
  (try simp only [Exit.inBlock, Exit.then]); refine bodyPost_ret (ret_alarm (a := Am.zero) rfl rfl K6.out) rfl ?_
  exact ⟨rfl, HB6.out⟩

set_option linter.unusedSimpArgs false in
set_option maxRecDepth 10000 in
set_option maxHeartbeats 4000000 in
theorem raise_ka (b c ph pr si un prio t : Int) (w : World) (hr : Am.right ⟨b, c, ph, pr, si, un⟩ = true) (hp : Am.isP prio = true) (ht : Am.isT t = true) (s0 : decide (t < si) = false) (h3 : (ph == 3) = false) (h1 : (ph == 1) = false) (m0 : pr ≤ prio) :
    Calls Try.prog 11 #[.agg #[.int .i64 b, .int .i64 c, .int .i64 ph, .int .i64 pr, .int .i64 si, .int .i64 un], .int .i64 prio, .int .i64 t] w fun e w' => e = .returned (.tuple #[.agg (sixV ⟨b, c, ph, pr, si, un⟩), .int .i64 0]) ∧ Below w.heap.size w w' := by
  have g1 := fun W => AIs_any b c ph pr si un W
  rw [hr] at g1
  clear hr
  have g2 := fun W => isPrio_any prio W
  rw [hp] at g2
  clear hp
  have g3 := fun W => isTime_any t W
  rw [ht] at g3
  clear ht
  go_enter Try.func11, Try.ntmps11
  go_wp2_with fail
  refine (g1 _).mono ?_
  rintro e w1 ⟨rfl, hB⟩
  have ka := ((Six.new w b c ph pr si un 25).alloc (.cells #[.int .i64 0, .int .i64 0, .int .i64 0, .int .i64 0, .int .i64 0, .int .i64 0] 25)).below hB
  have kz := (Six.new1 w (.cells #[.int .i64 b, .int .i64 c, .int .i64 ph, .int .i64 pr, .int .i64 si, .int .i64 un] 25) 0 0 0 0 0 0 25).below hB
  have HB := Lib.hid (below2 (below_new2 w _ _) hB)
  have Ka := Lib.hid ka
  have Kz := Lib.hid kz
  clear g1 hB ka kz
  go_wp2_with fail
  refine (g2 _).mono ?_
  rintro e w2 ⟨rfl, rfl⟩
  clear g2
  go_wp2_with fail
  refine (g3 _).mono ?_
  rintro e w3 ⟨rfl, rfl⟩
  clear g3
  have c2 := Ka.out.c2
  have c3 := Ka.out.c3
  have c4 := Ka.out.c4
  have f3 := Ka.out.f 3
  have HL := Lib.hid (Ka.out.spr pr)
  have HS := Lib.hid (Kz.out.other (g := w.heap.size) (j := 3) (v := .int .i64 pr) (by omega))
  have HBf := Lib.hid (HB.out.setCell (p := ⟨w.heap.size, 3, none⟩) (Nat.le_refl _) (.int .i64 pr))
  clear Ka Kz HB
  go_wp2_with (first
      | (refine wpList_load_six rfl 25 _ rfl w.heap.size _ rfl HL.out _ Try.underlying25 rfl (by rfl) ?_)
      | (refine wpList_store_six rfl 25 _ _ rfl (w.heap.size + 1) _ ⟨b, c, ph, pr, si, un⟩ rfl rfl HS.out (by rfl) ?_; intro w6 hw6; have K6 := Lib.hid (HS.out.put6 hw6); have HB6 := Lib.hid (below_put6 HBf.out (by omega) hw6); clear hw6))
  (try simp only [Exit.inBlock, Exit.then]); refine bodyPost_ret (ret_alarm (a := ⟨b, c, ph, pr, si, un⟩) rfl rfl K6.out) rfl ?_
  exact ⟨rfl, HB6.out⟩

set_option linter.unusedSimpArgs false in
set_option maxRecDepth 10000 in
set_option maxHeartbeats 4000000 in
theorem raise_kb (b c ph pr si un prio t : Int) (w : World) (hr : Am.right ⟨b, c, ph, pr, si, un⟩ = true) (hp : Am.isP prio = true) (ht : Am.isT t = true) (s0 : decide (t < si) = false) (h3 : (ph == 3) = false) (h1 : (ph == 1) = false) (m0 : prio < pr) :
    Calls Try.prog 11 #[.agg #[.int .i64 b, .int .i64 c, .int .i64 ph, .int .i64 pr, .int .i64 si, .int .i64 un], .int .i64 prio, .int .i64 t] w fun e w' => e = .returned (.tuple #[.agg (sixV ⟨b, c, ph, prio, si, un⟩), .int .i64 0]) ∧ Below w.heap.size w w' := by
  have g1 := fun W => AIs_any b c ph pr si un W
  rw [hr] at g1
  clear hr
  have g2 := fun W => isPrio_any prio W
  rw [hp] at g2
  clear hp
  have g3 := fun W => isTime_any t W
  rw [ht] at g3
  clear ht
  go_enter Try.func11, Try.ntmps11
  go_wp2_with fail
  refine (g1 _).mono ?_
  rintro e w1 ⟨rfl, hB⟩
  have ka := ((Six.new w b c ph pr si un 25).alloc (.cells #[.int .i64 0, .int .i64 0, .int .i64 0, .int .i64 0, .int .i64 0, .int .i64 0] 25)).below hB
  have kz := (Six.new1 w (.cells #[.int .i64 b, .int .i64 c, .int .i64 ph, .int .i64 pr, .int .i64 si, .int .i64 un] 25) 0 0 0 0 0 0 25).below hB
  have HB := Lib.hid (below2 (below_new2 w _ _) hB)
  have Ka := Lib.hid ka
  have Kz := Lib.hid kz
  clear g1 hB ka kz
  go_wp2_with fail
  refine (g2 _).mono ?_
  rintro e w2 ⟨rfl, rfl⟩
  clear g2
  go_wp2_with fail
  refine (g3 _).mono ?_
  rintro e w3 ⟨rfl, rfl⟩
  clear g3
  have c2 := Ka.out.c2
  have c3 := Ka.out.c3
  have c4 := Ka.out.c4
  have f3 := Ka.out.f 3
  have HL := Lib.hid (Ka.out.spr prio)
  have HS := Lib.hid (Kz.out.other (g := w.heap.size) (j := 3) (v := .int .i64 prio) (by omega))
  have HBf := Lib.hid (HB.out.setCell (p := ⟨w.heap.size, 3, none⟩) (Nat.le_refl _) (.int .i64 prio))
  clear Ka Kz HB
  go_wp2_with (first
      | (refine wpList_load_six rfl 25 _ rfl w.heap.size _ rfl HL.out _ Try.underlying25 rfl (by rfl) ?_)
      | (refine wpList_store_six rfl 25 _ _ rfl (w.heap.size + 1) _ ⟨b, c, ph, prio, si, un⟩ rfl rfl HS.out (by rfl) ?_; intro w6 hw6; have K6 := Lib.hid (HS.out.put6 hw6); have HB6 := Lib.hid (below_put6 HBf.out (by omega) hw6); clear hw6))
  (try simp only [Exit.inBlock, Exit.then]); refine bodyPost_ret (ret_alarm (a := ⟨b, c, ph, prio, si, un⟩) rfl rfl K6.out) rfl ?_
  exact ⟨rfl, HB6.out⟩

set_option linter.unusedSimpArgs false in
set_option maxRecDepth 10000 in
set_option maxHeartbeats 4000000 in
theorem raise_s (b c pr si un prio t : Int) (w : World) (hr : Am.right ⟨b, c, 1, pr, si, un⟩ = true) (hp : Am.isP prio = true) (ht : Am.isT t = true) (s0 : decide (t < si) = false) (m0 : pr ≤ prio) (m1 : decide (prio < pr) = false) :
    Calls Try.prog 11 #[.agg #[.int .i64 b, .int .i64 c, .int .i64 1, .int .i64 pr, .int .i64 si, .int .i64 un], .int .i64 prio, .int .i64 t] w fun e w' => e = .returned (.tuple #[.agg (sixV ⟨b, c, 1, pr, si, un⟩), .int .i64 0]) ∧ Below w.heap.size w w' := by
  have g1 := fun W => AIs_any b c 1 pr si un W
  rw [hr] at g1
  clear hr
  have g2 := fun W => isPrio_any prio W
  rw [hp] at g2
  clear hp
  have g3 := fun W => isTime_any t W
  rw [ht] at g3
  clear ht
  go_enter Try.func11, Try.ntmps11
  go_wp2_with fail
  refine (g1 _).mono ?_
  rintro e w1 ⟨rfl, hB⟩
  have ka := ((Six.new w b c 1 pr si un 25).alloc (.cells #[.int .i64 0, .int .i64 0, .int .i64 0, .int .i64 0, .int .i64 0, .int .i64 0] 25)).below hB
  have kz := (Six.new1 w (.cells #[.int .i64 b, .int .i64 c, .int .i64 1, .int .i64 pr, .int .i64 si, .int .i64 un] 25) 0 0 0 0 0 0 25).below hB
  have HB := Lib.hid (below2 (below_new2 w _ _) hB)
  have Ka := Lib.hid ka
  have Kz := Lib.hid kz
  clear g1 hB ka kz
  go_wp2_with fail
  refine (g2 _).mono ?_
  rintro e w2 ⟨rfl, rfl⟩
  clear g2
  go_wp2_with fail
  refine (g3 _).mono ?_
  rintro e w3 ⟨rfl, rfl⟩
  clear g3
  have c2 := Ka.out.c2
  have c3 := Ka.out.c3
  have c4 := Ka.out.c4
  have f3 := Ka.out.f 3
  have HL := Lib.hid (Ka.out.spr pr)
  have HS := Lib.hid (Kz.out.other (g := w.heap.size) (j := 3) (v := .int .i64 pr) (by omega))
  have HBf := Lib.hid (HB.out.setCell (p := ⟨w.heap.size, 3, none⟩) (Nat.le_refl _) (.int .i64 pr))
  clear Ka Kz HB
  go_wp2_with (first
      | (refine wpList_load_six rfl 25 _ rfl w.heap.size _ rfl HL.out _ Try.underlying25 rfl (by rfl) ?_)
      | (refine wpList_store_six rfl 25 _ _ rfl (w.heap.size + 1) _ ⟨b, c, 1, pr, si, un⟩ rfl rfl HS.out (by rfl) ?_; intro w6 hw6; have K6 := Lib.hid (HS.out.put6 hw6); have HB6 := Lib.hid (below_put6 HBf.out (by omega) hw6); clear hw6))
  (try simp only [Exit.inBlock, Exit.then]); refine bodyPost_ret (ret_alarm (a := ⟨b, c, 1, pr, si, un⟩) rfl rfl K6.out) rfl ?_
  exact ⟨rfl, HB6.out⟩

set_option linter.unusedSimpArgs false in
set_option maxRecDepth 10000 in
set_option maxHeartbeats 4000000 in
theorem raise_u (b c pr si un prio t : Int) (v : Int) (w : World) (hr : Am.right ⟨b, c, 1, pr, si, un⟩ = true) (hp : Am.isP prio = true) (ht : Am.isT t = true) (s0 : decide (t < si) = false) (m0 : prio < pr) (Iw2 : Hid (IntKind.i64.wrap (t + Am.wait prio) = t + Am.wait prio)) (Hv : Hid (v = min un (t + Am.wait prio))) :
    Calls Try.prog 11 #[.agg #[.int .i64 b, .int .i64 c, .int .i64 1, .int .i64 pr, .int .i64 si, .int .i64 un], .int .i64 prio, .int .i64 t] w fun e w' => e = .returned (.tuple #[.agg (sixV ⟨b, c, 1, prio, si, v⟩), .int .i64 0]) ∧ Below w.heap.size w w' := by
  have g4 := fun W => AWait_any0 prio W
  obtain ⟨x, hx⟩ : ∃ x, x = Am.wait prio := ⟨_, rfl⟩
  rw [← hx] at g4 Iw2 Hv
  clear hx
  have g1 := fun W => AIs_any b c 1 pr si un W
  rw [hr] at g1
  clear hr
  have g2 := fun W => isPrio_any prio W
  rw [hp] at g2
  clear hp
  have g3 := fun W => isTime_any t W
  rw [ht] at g3
  clear ht
  go_enter Try.func11, Try.ntmps11
  go_wp2_with fail
  refine (g1 _).mono ?_
  rintro e w1 ⟨rfl, hB⟩
  have ka := ((Six.new w b c 1 pr si un 25).alloc (.cells #[.int .i64 0, .int .i64 0, .int .i64 0, .int .i64 0, .int .i64 0, .int .i64 0] 25)).below hB
  have kz := (Six.new1 w (.cells #[.int .i64 b, .int .i64 c, .int .i64 1, .int .i64 pr, .int .i64 si, .int .i64 un] 25) 0 0 0 0 0 0 25).below hB
  have HB := Lib.hid (below2 (below_new2 w _ _) hB)
  have Ka := Lib.hid ka
  have Kz := Lib.hid kz
  clear g1 hB ka kz
  go_wp2_with fail
  refine (g2 _).mono ?_
  rintro e w2 ⟨rfl, rfl⟩
  clear g2
  go_wp2_with fail
  refine (g3 _).mono ?_
  rintro e w3 ⟨rfl, rfl⟩
  clear g3
  have c2 := Ka.out.c2
  have c3 := Ka.out.c3
  have c4 := Ka.out.c4
  go_wp2_with fail
  clear c2 c3 c4
  obtain ⟨w4, hw4⟩ : ∃ V, V = w3.drew := ⟨_, rfl⟩
  have k4 : Six w4 w.heap.size ⟨b, c, 1, pr, si, un⟩ := by rw [hw4]; exact ⟨Ka.out.blk⟩
  have K4 : Hid (Six w4 (w.heap.size + 1) ⟨0, 0, 0, 0, 0, 0⟩) := Lib.hid (by rw [hw4]; exact ⟨Kz.out.blk⟩)
  have HB4 : Hid (Below w.heap.size w w4) := Lib.hid (by rw [hw4]; have h := HB.out; exact ⟨h.os, h.tape, h.output, h.size, h.block⟩)
  refine wp_region_still_tail 7 (by kernel_rfl) (by kernel_rfl) ?_
  change wpStill _ _ w3.drew (fun a' => wpList _ _ _ _ a' w3.drew) _ _
  rw [← hw4]
  clear hw4 Ka Kz HB
  have c5 := k4.c5
  have f5 := k4.f 5
  simp only [List.take_succ_cons, List.take_zero, List.drop_succ_cons, List.drop_zero]
  still_step
  still_step
  still_step
  still_step
  still_call (g4 _)
  still_step
  rw [Iw2.out]
  still_step
  refine wpStill_nil ?_
  have mn : (if un < t + x then un else t + x) = v := by have := Hv.out; split <;> omega
  have mn2 : (if t + x < un then t + x else un) = v := by have := Hv.out; split <;> omega
  simp only [mn, mn2]
  clear mn mn2 Hv Iw2 g4
  have q3 := (k4.sun v).c3
  have p3 := (k4.sun v).f 3
  have HL := Lib.hid ((k4.sun v).spr prio)
  have HS := Lib.hid ((K4.out.other (g := w.heap.size) (j := 5) (v := .int .i64 v) (by omega)).other (g := w.heap.size) (j := 3) (v := .int .i64 prio) (by omega))
  have HBf := Lib.hid ((HB4.out.setCell (p := ⟨w.heap.size, 5, none⟩) (Nat.le_refl _) (.int .i64 v)).setCell (p := ⟨w.heap.size, 3, none⟩) (Nat.le_refl _) (.int .i64 prio))
  clear k4 K4 HB4
  go_wp2_with (first
      | (refine wpList_load_six rfl 25 _ rfl w.heap.size _ rfl HL.out _ Try.underlying25 rfl (by rfl) ?_)
      | (refine wpList_store_six rfl 25 _ _ rfl (w.heap.size + 1) _ ⟨b, c, 1, prio, si, v⟩ rfl rfl HS.out (by rfl) ?_; intro w6 hw6; have K6 := Lib.hid (HS.out.put6 hw6); have HB6 := Lib.hid (below_put6 HBf.out (by omega) hw6); clear hw6))
  (try simp only [Exit.inBlock, Exit.then]); refine bodyPost_ret (ret_alarm (a := ⟨b, c, 1, prio, si, v⟩) rfl rfl K6.out) rfl ?_
  exact ⟨rfl, HB6.out⟩

set_option linter.unusedSimpArgs false in
set_option maxRecDepth 10000 in
set_option maxHeartbeats 4000000 in
theorem raise_ta (b c pr si un prio t : Int) (w : World) (hr : Am.right ⟨b, c, 3, pr, si, un⟩ = true) (hp : Am.isP prio = true) (ht : Am.isT t = true) (s0 : decide (t < si) = false) (m0 : pr ≤ prio) :
    Calls Try.prog 11 #[.agg #[.int .i64 b, .int .i64 c, .int .i64 3, .int .i64 pr, .int .i64 si, .int .i64 un], .int .i64 prio, .int .i64 t] w fun e w' => e = .returned (.tuple #[.agg (sixV (Am.opn b c pr t)), .int .i64 (Am.openE b c pr t)]) ∧ Below w.heap.size w w' := by
  have g5 := fun W => AOpen_any b c pr t W
  obtain ⟨X, hX⟩ : ∃ X, X = Am.opn b c pr t := ⟨_, rfl⟩
  obtain ⟨Y, hY⟩ : ∃ Y, Y = Am.openE b c pr t := ⟨_, rfl⟩
  rw [← hX, ← hY] at g5 ⊢
  clear hX hY
  have g1 := fun W => AIs_any b c 3 pr si un W
  rw [hr] at g1
  clear hr
  have g2 := fun W => isPrio_any prio W
  rw [hp] at g2
  clear hp
  have g3 := fun W => isTime_any t W
  rw [ht] at g3
  clear ht
  go_enter Try.func11, Try.ntmps11
  go_wp2_with fail
  refine (g1 _).mono ?_
  rintro e w1 ⟨rfl, hB⟩
  have ka := ((Six.new w b c 3 pr si un 25).alloc (.cells #[.int .i64 0, .int .i64 0, .int .i64 0, .int .i64 0, .int .i64 0, .int .i64 0] 25)).below hB
  have kz := (Six.new1 w (.cells #[.int .i64 b, .int .i64 c, .int .i64 3, .int .i64 pr, .int .i64 si, .int .i64 un] 25) 0 0 0 0 0 0 25).below hB
  have HB := Lib.hid (below2 (below_new2 w _ _) hB)
  have Ka := Lib.hid ka
  have Kz := Lib.hid kz
  clear g1 hB ka kz
  go_wp2_with fail
  refine (g2 _).mono ?_
  rintro e w2 ⟨rfl, rfl⟩
  clear g2
  go_wp2_with fail
  refine (g3 _).mono ?_
  rintro e w3 ⟨rfl, rfl⟩
  clear g3
  have c0 := Ka.out.c0
  have c1 := Ka.out.c1
  have c2 := Ka.out.c2
  have c3 := Ka.out.c3
  have c4 := Ka.out.c4
  go_wp2_with fail
  refine (g5 _).mono ?_
  rintro e w4 ⟨rfl, hB⟩
  clear c0 c1 c2 c3 c4 g5 Ka
  replace Kz := Lib.hid (Kz.out.below hB)
  replace HB := Lib.hid (below2 HB.out hB)
  clear hB
  go_wp2_with (refine wpList_store_six rfl 25 _ _ rfl (w.heap.size + 1) _ X rfl rfl Kz.out (by rfl) ?_; intro w6 hw6; have K6 := Lib.hid (Kz.out.put6 hw6); have HB6 := Lib.hid (below_put6 HB.out (by omega) hw6); clear hw6)
  (try simp only [Exit.inBlock, Exit.then]); refine bodyPost_ret (ret_alarm (a := X) rfl rfl K6.out) rfl ?_
  exact ⟨rfl, HB6.out⟩

set_option linter.unusedSimpArgs false in
set_option maxRecDepth 10000 in
set_option maxHeartbeats 4000000 in
theorem raise_tb (b c pr si un prio t : Int) (w : World) (hr : Am.right ⟨b, c, 3, pr, si, un⟩ = true) (hp : Am.isP prio = true) (ht : Am.isT t = true) (s0 : decide (t < si) = false) (m0 : prio < pr) :
    Calls Try.prog 11 #[.agg #[.int .i64 b, .int .i64 c, .int .i64 3, .int .i64 pr, .int .i64 si, .int .i64 un], .int .i64 prio, .int .i64 t] w fun e w' => e = .returned (.tuple #[.agg (sixV (Am.opn b c prio t)), .int .i64 (Am.openE b c prio t)]) ∧ Below w.heap.size w w' := by
  have g5 := fun W => AOpen_any b c prio t W
  obtain ⟨X, hX⟩ : ∃ X, X = Am.opn b c prio t := ⟨_, rfl⟩
  obtain ⟨Y, hY⟩ : ∃ Y, Y = Am.openE b c prio t := ⟨_, rfl⟩
  rw [← hX, ← hY] at g5 ⊢
  clear hX hY
  have g1 := fun W => AIs_any b c 3 pr si un W
  rw [hr] at g1
  clear hr
  have g2 := fun W => isPrio_any prio W
  rw [hp] at g2
  clear hp
  have g3 := fun W => isTime_any t W
  rw [ht] at g3
  clear ht
  go_enter Try.func11, Try.ntmps11
  go_wp2_with fail
  refine (g1 _).mono ?_
  rintro e w1 ⟨rfl, hB⟩
  have ka := ((Six.new w b c 3 pr si un 25).alloc (.cells #[.int .i64 0, .int .i64 0, .int .i64 0, .int .i64 0, .int .i64 0, .int .i64 0] 25)).below hB
  have kz := (Six.new1 w (.cells #[.int .i64 b, .int .i64 c, .int .i64 3, .int .i64 pr, .int .i64 si, .int .i64 un] 25) 0 0 0 0 0 0 25).below hB
  have HB := Lib.hid (below2 (below_new2 w _ _) hB)
  have Ka := Lib.hid ka
  have Kz := Lib.hid kz
  clear g1 hB ka kz
  go_wp2_with fail
  refine (g2 _).mono ?_
  rintro e w2 ⟨rfl, rfl⟩
  clear g2
  go_wp2_with fail
  refine (g3 _).mono ?_
  rintro e w3 ⟨rfl, rfl⟩
  clear g3
  have c0 := Ka.out.c0
  have c1 := Ka.out.c1
  have c2 := Ka.out.c2
  have c3 := Ka.out.c3
  have c4 := Ka.out.c4
  go_wp2_with fail
  refine (g5 _).mono ?_
  rintro e w4 ⟨rfl, hB⟩
  clear c0 c1 c2 c3 c4 g5 Ka
  replace Kz := Lib.hid (Kz.out.below hB)
  replace HB := Lib.hid (below2 HB.out hB)
  clear hB
  go_wp2_with (refine wpList_store_six rfl 25 _ _ rfl (w.heap.size + 1) _ X rfl rfl Kz.out (by rfl) ?_; intro w6 hw6; have K6 := Lib.hid (Kz.out.put6 hw6); have HB6 := Lib.hid (below_put6 HB.out (by omega) hw6); clear hw6)
  (try simp only [Exit.inBlock, Exit.then]); refine bodyPost_ret (ret_alarm (a := X) rfl rfl K6.out) rfl ?_
  exact ⟨rfl, HB6.out⟩

theorem ARaise_any (b c ph pr si un prio t : Int) (w : World) :
    Calls Try.prog 11 #[.agg #[.int .i64 b, .int .i64 c, .int .i64 ph, .int .i64 pr, .int .i64 si, .int .i64 un], .int .i64 prio, .int .i64 t] w fun e w' => e = .returned (.tuple #[.agg (sixV (Am.raise ⟨b, c, ph, pr, si, un⟩ prio t)), .int .i64 (Am.raiseE ⟨b, c, ph, pr, si, un⟩ prio t)]) ∧ Below w.heap.size w w' := by
  by_cases h0 : Am.raiseE ⟨b, c, ph, pr, si, un⟩ prio t = 0
  · obtain ⟨hr, hp, ht, hs⟩ := Am.raiseE_iff.1 h0
    have hr' := Am.right_iff.1 hr
    simp only at hr' hs
    have hT := Am.isT_iff.2 ht
    have hw := Am.wait_pos hp.1 hp.2
    have hP : Am.isP prio = true := by unfold Am.isP; exact decide_eq_true (by omega)
    have s0 : decide (t < si) = false := decide_eq_false (by omega)
    have e1 : Am.raise ⟨b, c, ph, pr, si, un⟩ prio t = Am.raiseOk ⟨b, c, ph, pr, si, un⟩ prio t := by unfold Am.raise; rw [if_pos h0]
    rw [h0, e1]
    unfold Am.raiseOk
    simp only
    rcases (by omega : pr ≤ prio ∨ prio < pr) with hm | hm
    · have em : min pr prio = pr := by omega
      rw [em]
      by_cases h3 : ph = 3
      · subst h3
        rw [if_pos rfl]
        have h := raise_ta b c pr si un prio t w hr hP hT s0 hm
        have ho : Am.openE b c pr t = 0 := Am.openE_iff.2 ⟨hr'.1, ⟨by omega, by omega⟩, ht⟩
        unfold Am.opn at h
        rw [ho, if_pos rfl] at h
        exact h
      · rw [if_neg h3, if_neg (fun h => h.2 rfl)]
        by_cases h1 : ph = 1
        · subst h1
          exact raise_s b c pr si un prio t w hr hP hT s0 hm (decide_eq_false (by omega))
        · exact raise_ka b c ph pr si un prio t w hr hP hT s0 (by rw [beq_eq_false_iff_ne]; exact h3) (by rw [beq_eq_false_iff_ne]; exact h1) hm
    · have em : min pr prio = prio := by omega
      rw [em]
      by_cases h3 : ph = 3
      · subst h3
        rw [if_pos rfl]
        have h := raise_tb b c pr si un prio t w hr hP hT s0 hm
        have ho : Am.openE b c prio t = 0 := Am.openE_iff.2 ⟨hr'.1, hp, ht⟩
        unfold Am.opn at h
        rw [ho, if_pos rfl] at h
        exact h
      · rw [if_neg h3]
        by_cases h1 : ph = 1
        · subst h1
          rw [if_pos ⟨rfl, by omega⟩]
          rw [show max si (min un (t + Am.wait prio)) = min un (t + Am.wait prio) by omega]
          exact raise_u b c pr si un prio t _ w hr hP hT s0 hm (Lib.hid (by rw [IntKind.wrap_i64]; omega)) (Lib.hid rfl)
        · rw [if_neg (fun h => h1 h.1)]
          exact raise_kb b c ph pr si un prio t w hr hP hT s0 (by rw [beq_eq_false_iff_ne]; exact h3) (by rw [beq_eq_false_iff_ne]; exact h1) hm
  · have e1 : Am.raise ⟨b, c, ph, pr, si, un⟩ prio t = Am.zero := by unfold Am.raise; rw [if_neg h0]
    rw [e1]
    clear e1
    have hw := Am.wait_bounds prio
    unfold Am.raiseE at h0 ⊢
    cases hr : Am.right ⟨b, c, ph, pr, si, un⟩
    · exact raise_e1 b c ph pr si un prio t w hr
    · rw [hr] at h0
      by_cases hx : Am.wait prio = 0
      · simp only [Bool.not_true, decide_eq_true hx, Bool.false_or, Bool.true_or, if_true]
        exact raise_e2 b c ph pr si un prio t w hr (by unfold Am.isP; exact decide_eq_false (by omega))
      · have hP : Am.isP prio = true := by unfold Am.isP; exact decide_eq_true (by omega)
        rw [decide_eq_false hx] at h0 ⊢
        cases ht : Am.isT t
        · exact raise_e3 b c ph pr si un prio t w hr hP ht
        · rw [ht] at h0
          simp only [Bool.not_true, Bool.or_false, Bool.false_eq_true, if_false] at h0 ⊢
          by_cases hs : t < si
          · rw [if_pos hs]
            exact raise_e4 b c ph pr si un prio t w hr hP ht (decide_eq_true hs)
          · exact absurd (by rw [if_neg hs]) h0
end Go.Proofs.Ytepcjlnjhbaioaa
