/-
  Layer 6 (alarm): the walk of Do, a theorem a case (printed by tools/gen-alarmdo.py).
-/
import Derived.Test.YtepcjlnjhbaioaaAlarmMap
namespace Go.Proofs.Ytepcjlnjhbaioaa
open Go.RowKit

theorem zeroF (w : World) : (zeroValue 42).run Try.prog w = .ok .nilFunc w := by kernel_rfl
theorem deeds_at (w : World) :
    Calls Try.prog 27 #[] w fun e w' => ∃ r, e = .returned (.map (some r)) ∧ w'.heap[r]? = some (.map deedsE 4) ∧ Below w.heap.size w w' :=
  (deeds_any w).mono fun _ _ h => ⟨_, h⟩

set_option maxRecDepth 10000 in
set_option maxHeartbeats 4000000 in
theorem do_n (b c ph pr si un d t l : Int) (w : World) (hv : deedV d Value.nilFunc = Value.nilFunc) (hd : deedOk d = false) :
    Calls Try.prog 18 #[.agg #[.int .i64 b, .int .i64 c, .int .i64 ph, .int .i64 pr, .int .i64 si, .int .i64 un], .int .i64 d, .int .i64 t, .int .i64 l] w fun e w' => e = .returned (.tuple #[.agg (sixV (Am.zero)), .int .i64 (1)]) ∧ Below w.heap.size w w' := by
  go_enter Try.func18, Try.ntmps18
  go_wp2_with fail
  refine (deeds_at _).mono ?_
  rintro e w1 ⟨r, rfl, hm, hB⟩
  have ka := ((Six.new w b c ph pr si un 25).alloc (.cells #[.int .i64 0, .int .i64 0, .int .i64 0, .int .i64 0, .int .i64 0, .int .i64 0] 25)).below hB
  have kz := (Six.new1 w (.cells #[.int .i64 b, .int .i64 c, .int .i64 ph, .int .i64 pr, .int .i64 si, .int .i64 un] 25) 0 0 0 0 0 0 25).below hB
  have HB := Lib.hid (below2 (below_new2 w _ _) hB)
  have hl := run_lookup_deed (P := Try.prog) (w := w1) 44 3 _ _ _ d _ Try.underlying44 Try.underlying3 (zeroF w1) hm
  rw [hv, hd] at hl
  clear hv hd
  have Ka := Lib.hid ka
  have Kz := Lib.hid kz
  clear hm hB ka kz Ka
  go_wp2_with (refine wpList_store_six rfl 25 _ _ rfl (w.heap.size + 1) _ Am.zero rfl rfl Kz.out (by rfl) ?_; intro w6 hw6; have K6 := Lib.hid (Kz.out.put6 hw6); have HB6 := Lib.hid (below_put6 HB.out (by omega) hw6); clear hw6)
  (try simp only [Exit.inBlock, Exit.then]); refine bodyPost_ret (ret_alarm (a := Am.zero) rfl rfl K6.out) rfl ?_
  exact ⟨rfl, HB6.out⟩

set_option maxRecDepth 10000 in
set_option maxHeartbeats 4000000 in
theorem do_r2 (b c ph pr si un t l : Int) (w : World) (hr : Am.right ⟨b, c, ph, pr, si, un⟩ = false) :
    Calls Try.prog 18 #[.agg #[.int .i64 b, .int .i64 c, .int .i64 ph, .int .i64 pr, .int .i64 si, .int .i64 un], .int .i64 2, .int .i64 t, .int .i64 l] w fun e w' => e = .returned (.tuple #[.agg (sixV (Am.zero)), .int .i64 (1)]) ∧ Below w.heap.size w w' := by
  have g1 := fun W => AIs_any b c ph pr si un W
  rw [hr] at g1
  clear hr
  go_enter Try.func18, Try.ntmps18
  go_wp2_with fail
  refine (deeds_at _).mono ?_
  rintro e w1 ⟨r, rfl, hm, hB⟩
  have ka := ((Six.new w b c ph pr si un 25).alloc (.cells #[.int .i64 0, .int .i64 0, .int .i64 0, .int .i64 0, .int .i64 0, .int .i64 0] 25)).below hB
  have kz := (Six.new1 w (.cells #[.int .i64 b, .int .i64 c, .int .i64 ph, .int .i64 pr, .int .i64 si, .int .i64 un] 25) 0 0 0 0 0 0 25).below hB
  have HB := Lib.hid (below2 (below_new2 w _ _) hB)
  have hl := run_lookup_deed (P := Try.prog) (w := w1) 44 3 _ _ _ 2 _ Try.underlying44 Try.underlying3 (zeroF w1) hm
  rw [show deedV 2 Value.nilFunc = .func (.methodOf 49 "watchman/alarm.escalate") #[] #[] from rfl, show deedOk 2 = true from rfl] at hl
  have Ka := Lib.hid ka
  have Kz := Lib.hid kz
  have c0 := ka.c0
  have c1 := ka.c1
  have c2 := ka.c2
  have c3 := ka.c3
  have c4 := ka.c4
  have c5 := ka.c5
  clear hm hB ka kz
  go_wp2_with fail
  refine (g1 _).mono ?_
  rintro e w2 ⟨rfl, hB⟩
  clear c0 c1 c2 c3 c4 c5 hl g1
  replace Ka := Lib.hid (Ka.out.below hB)
  replace Kz := Lib.hid (Kz.out.below hB)
  replace HB := Lib.hid (below2 HB.out hB)
  clear hB
  go_wp2_with (refine wpList_store_six rfl 25 _ _ rfl (w.heap.size + 1) _ Am.zero rfl rfl Kz.out (by rfl) ?_; intro w6 hw6; have K6 := Lib.hid (Kz.out.put6 hw6); have HB6 := Lib.hid (below_put6 HB.out (by omega) hw6); clear hw6)
  (try simp only [Exit.inBlock, Exit.then]); refine bodyPost_ret (ret_alarm (a := Am.zero) rfl rfl K6.out) rfl ?_
  exact ⟨rfl, HB6.out⟩

set_option maxRecDepth 10000 in
set_option maxHeartbeats 4000000 in
theorem do_t2 (b c ph pr si un t l : Int) (w : World) (hr : Am.right ⟨b, c, ph, pr, si, un⟩ = true) (ht : Am.isT t = false) :
    Calls Try.prog 18 #[.agg #[.int .i64 b, .int .i64 c, .int .i64 ph, .int .i64 pr, .int .i64 si, .int .i64 un], .int .i64 2, .int .i64 t, .int .i64 l] w fun e w' => e = .returned (.tuple #[.agg (sixV (Am.zero)), .int .i64 (1)]) ∧ Below w.heap.size w w' := by
  have g1 := fun W => AIs_any b c ph pr si un W
  rw [hr] at g1
  clear hr
  have g2 := fun W => isTime_any t W
  rw [ht] at g2
  clear ht
  go_enter Try.func18, Try.ntmps18
  go_wp2_with fail
  refine (deeds_at _).mono ?_
  rintro e w1 ⟨r, rfl, hm, hB⟩
  have ka := ((Six.new w b c ph pr si un 25).alloc (.cells #[.int .i64 0, .int .i64 0, .int .i64 0, .int .i64 0, .int .i64 0, .int .i64 0] 25)).below hB
  have kz := (Six.new1 w (.cells #[.int .i64 b, .int .i64 c, .int .i64 ph, .int .i64 pr, .int .i64 si, .int .i64 un] 25) 0 0 0 0 0 0 25).below hB
  have HB := Lib.hid (below2 (below_new2 w _ _) hB)
  have hl := run_lookup_deed (P := Try.prog) (w := w1) 44 3 _ _ _ 2 _ Try.underlying44 Try.underlying3 (zeroF w1) hm
  rw [show deedV 2 Value.nilFunc = .func (.methodOf 49 "watchman/alarm.escalate") #[] #[] from rfl, show deedOk 2 = true from rfl] at hl
  have Ka := Lib.hid ka
  have Kz := Lib.hid kz
  have c0 := ka.c0
  have c1 := ka.c1
  have c2 := ka.c2
  have c3 := ka.c3
  have c4 := ka.c4
  have c5 := ka.c5
  clear hm hB ka kz
  go_wp2_with fail
  refine (g1 _).mono ?_
  rintro e w2 ⟨rfl, hB⟩
  clear c0 c1 c2 c3 c4 c5 hl g1
  replace Ka := Lib.hid (Ka.out.below hB)
  replace Kz := Lib.hid (Kz.out.below hB)
  replace HB := Lib.hid (below2 HB.out hB)
  clear hB
  go_wp2_with fail
  refine (g2 _).mono ?_
  rintro e w3 ⟨rfl, rfl⟩
  clear g2
  go_wp2_with (refine wpList_store_six rfl 25 _ _ rfl (w.heap.size + 1) _ Am.zero rfl rfl Kz.out (by rfl) ?_; intro w6 hw6; have K6 := Lib.hid (Kz.out.put6 hw6); have HB6 := Lib.hid (below_put6 HB.out (by omega) hw6); clear hw6)
  (try simp only [Exit.inBlock, Exit.then]); refine bodyPost_ret (ret_alarm (a := Am.zero) rfl rfl K6.out) rfl ?_
  exact ⟨rfl, HB6.out⟩

set_option maxRecDepth 10000 in
set_option maxHeartbeats 4000000 in
theorem do_p2 (b c ph pr si un t l : Int) (w : World) (hr : Am.right ⟨b, c, ph, pr, si, un⟩ = true) (ht : Am.isT t = true) (s0 : decide (t < si) = true) :
    Calls Try.prog 18 #[.agg #[.int .i64 b, .int .i64 c, .int .i64 ph, .int .i64 pr, .int .i64 si, .int .i64 un], .int .i64 2, .int .i64 t, .int .i64 l] w fun e w' => e = .returned (.tuple #[.agg (sixV (Am.zero)), .int .i64 (62)]) ∧ Below w.heap.size w w' := by
  have g1 := fun W => AIs_any b c ph pr si un W
  rw [hr] at g1
  clear hr
  have g2 := fun W => isTime_any t W
  rw [ht] at g2
  clear ht
  go_enter Try.func18, Try.ntmps18
  go_wp2_with fail
  refine (deeds_at _).mono ?_
  rintro e w1 ⟨r, rfl, hm, hB⟩
  have ka := ((Six.new w b c ph pr si un 25).alloc (.cells #[.int .i64 0, .int .i64 0, .int .i64 0, .int .i64 0, .int .i64 0, .int .i64 0] 25)).below hB
  have kz := (Six.new1 w (.cells #[.int .i64 b, .int .i64 c, .int .i64 ph, .int .i64 pr, .int .i64 si, .int .i64 un] 25) 0 0 0 0 0 0 25).below hB
  have HB := Lib.hid (below2 (below_new2 w _ _) hB)
  have hl := run_lookup_deed (P := Try.prog) (w := w1) 44 3 _ _ _ 2 _ Try.underlying44 Try.underlying3 (zeroF w1) hm
  rw [show deedV 2 Value.nilFunc = .func (.methodOf 49 "watchman/alarm.escalate") #[] #[] from rfl, show deedOk 2 = true from rfl] at hl
  have Ka := Lib.hid ka
  have Kz := Lib.hid kz
  have c0 := ka.c0
  have c1 := ka.c1
  have c2 := ka.c2
  have c3 := ka.c3
  have c4 := ka.c4
  have c5 := ka.c5
  clear hm hB ka kz
  go_wp2_with fail
  refine (g1 _).mono ?_
  rintro e w2 ⟨rfl, hB⟩
  clear c0 c1 c2 c3 c4 c5 hl g1
  replace Ka := Lib.hid (Ka.out.below hB)
  replace Kz := Lib.hid (Kz.out.below hB)
  replace HB := Lib.hid (below2 HB.out hB)
  clear hB
  go_wp2_with fail
  refine (g2 _).mono ?_
  rintro e w3 ⟨rfl, rfl⟩
  clear g2
  have c4 := Ka.out.c4
  go_wp2_with (refine wpList_store_six rfl 25 _ _ rfl (w.heap.size + 1) _ Am.zero rfl rfl Kz.out (by rfl) ?_; intro w6 hw6; have K6 := Lib.hid (Kz.out.put6 hw6); have HB6 := Lib.hid (below_put6 HB.out (by omega) hw6); clear hw6)
  (try simp only [Exit.inBlock, Exit.then]); refine bodyPost_ret (ret_alarm (a := Am.zero) rfl rfl K6.out) rfl ?_
  exact ⟨rfl, HB6.out⟩

set_option maxRecDepth 10000 in
set_option maxHeartbeats 4000000 in
theorem do_k2 (b c ph pr si un t l : Int) (w : World) (hr : Am.right ⟨b, c, ph, pr, si, un⟩ = true) (ht : Am.isT t = true) (s0 : decide (t < si) = false) :
    Calls Try.prog 18 #[.agg #[.int .i64 b, .int .i64 c, .int .i64 ph, .int .i64 pr, .int .i64 si, .int .i64 un], .int .i64 2, .int .i64 t, .int .i64 l] w fun e w' => e = .returned (.tuple #[.agg (sixV (Am.inA ⟨b, c, ph, pr, si, un⟩ 2 t t)), .int .i64 (Am.inE ⟨b, c, ph, pr, si, un⟩ 2 t)]) ∧ Below w.heap.size w w' := by
  have g1 := fun W => AIs_any b c ph pr si un W
  rw [hr] at g1
  clear hr
  have g2 := fun W => isTime_any t W
  rw [ht] at g2
  clear ht
  have g3 := fun W => escalate_any b c ph pr si un t l W
  have hmd : ∀ w : World, (method 178 49 (.agg #[.int .i64 b, .int .i64 c, .int .i64 ph, .int .i64 pr, .int .i64 si, .int .i64 un]) "watchman/alarm.escalate").run Try.prog w = .ok (31, .agg #[.int .i64 b, .int .i64 c, .int .i64 ph, .int .i64 pr, .int .i64 si, .int .i64 un]) w := fun _ => by kernel_rfl
  obtain ⟨X, hX⟩ : ∃ X, X = Am.inA ⟨b, c, ph, pr, si, un⟩ 2 t t := ⟨_, rfl⟩
  obtain ⟨Y, hY⟩ : ∃ Y, Y = Am.inE ⟨b, c, ph, pr, si, un⟩ 2 t := ⟨_, rfl⟩
  rw [← hX, ← hY] at g3 ⊢
  clear hX hY
  go_enter Try.func18, Try.ntmps18
  go_wp2_with fail
  refine (deeds_at _).mono ?_
  rintro e w1 ⟨r, rfl, hm, hB⟩
  have ka := ((Six.new w b c ph pr si un 25).alloc (.cells #[.int .i64 0, .int .i64 0, .int .i64 0, .int .i64 0, .int .i64 0, .int .i64 0] 25)).below hB
  have kz := (Six.new1 w (.cells #[.int .i64 b, .int .i64 c, .int .i64 ph, .int .i64 pr, .int .i64 si, .int .i64 un] 25) 0 0 0 0 0 0 25).below hB
  have HB := Lib.hid (below2 (below_new2 w _ _) hB)
  have hl := run_lookup_deed (P := Try.prog) (w := w1) 44 3 _ _ _ 2 _ Try.underlying44 Try.underlying3 (zeroF w1) hm
  rw [show deedV 2 Value.nilFunc = .func (.methodOf 49 "watchman/alarm.escalate") #[] #[] from rfl, show deedOk 2 = true from rfl] at hl
  have Ka := Lib.hid ka
  have Kz := Lib.hid kz
  have c0 := ka.c0
  have c1 := ka.c1
  have c2 := ka.c2
  have c3 := ka.c3
  have c4 := ka.c4
  have c5 := ka.c5
  clear hm hB ka kz
  go_wp2_with fail
  refine (g1 _).mono ?_
  rintro e w2 ⟨rfl, hB⟩
  clear c0 c1 c2 c3 c4 c5 hl g1
  replace Ka := Lib.hid (Ka.out.below hB)
  replace Kz := Lib.hid (Kz.out.below hB)
  replace HB := Lib.hid (below2 HB.out hB)
  clear hB
  go_wp2_with fail
  refine (g2 _).mono ?_
  rintro e w3 ⟨rfl, rfl⟩
  clear g2
  have c4 := Ka.out.c4
  have c0 := Ka.out.c0
  have c1 := Ka.out.c1
  have c2 := Ka.out.c2
  have c3 := Ka.out.c3
  have c5 := Ka.out.c5
  go_wp2_with fail
  refine (g3 _).mono ?_
  rintro e w5 ⟨rfl, hB⟩
  clear c0 c1 c2 c3 c4 c5 g3 Ka s0
  replace Kz := Lib.hid (Kz.out.below hB)
  replace HB := Lib.hid (below2 HB.out hB)
  clear hB
  go_wp2_with (refine wpList_store_six rfl 25 _ _ rfl (w.heap.size + 1) _ X rfl rfl Kz.out (by rfl) ?_; intro w6 hw6; have K6 := Lib.hid (Kz.out.put6 hw6); have HB6 := Lib.hid (below_put6 HB.out (by omega) hw6); clear hw6)
  (try simp only [Exit.inBlock, Exit.then]); refine bodyPost_ret (ret_alarm (a := X) rfl rfl K6.out) rfl ?_
  exact ⟨rfl, HB6.out⟩

set_option maxRecDepth 10000 in
set_option maxHeartbeats 4000000 in
theorem do_r3 (b c ph pr si un t l : Int) (w : World) (hr : Am.right ⟨b, c, ph, pr, si, un⟩ = false) :
    Calls Try.prog 18 #[.agg #[.int .i64 b, .int .i64 c, .int .i64 ph, .int .i64 pr, .int .i64 si, .int .i64 un], .int .i64 3, .int .i64 t, .int .i64 l] w fun e w' => e = .returned (.tuple #[.agg (sixV (Am.zero)), .int .i64 (1)]) ∧ Below w.heap.size w w' := by
  have g1 := fun W => AIs_any b c ph pr si un W
  rw [hr] at g1
  clear hr
  go_enter Try.func18, Try.ntmps18
  go_wp2_with fail
  refine (deeds_at _).mono ?_
  rintro e w1 ⟨r, rfl, hm, hB⟩
  have ka := ((Six.new w b c ph pr si un 25).alloc (.cells #[.int .i64 0, .int .i64 0, .int .i64 0, .int .i64 0, .int .i64 0, .int .i64 0] 25)).below hB
  have kz := (Six.new1 w (.cells #[.int .i64 b, .int .i64 c, .int .i64 ph, .int .i64 pr, .int .i64 si, .int .i64 un] 25) 0 0 0 0 0 0 25).below hB
  have HB := Lib.hid (below2 (below_new2 w _ _) hB)
  have hl := run_lookup_deed (P := Try.prog) (w := w1) 44 3 _ _ _ 3 _ Try.underlying44 Try.underlying3 (zeroF w1) hm
  rw [show deedV 3 Value.nilFunc = .func (.func 34) #[] #[] from rfl, show deedOk 3 = true from rfl] at hl
  have Ka := Lib.hid ka
  have Kz := Lib.hid kz
  have c0 := ka.c0
  have c1 := ka.c1
  have c2 := ka.c2
  have c3 := ka.c3
  have c4 := ka.c4
  have c5 := ka.c5
  clear hm hB ka kz
  go_wp2_with fail
  refine (g1 _).mono ?_
  rintro e w2 ⟨rfl, hB⟩
  clear c0 c1 c2 c3 c4 c5 hl g1
  replace Ka := Lib.hid (Ka.out.below hB)
  replace Kz := Lib.hid (Kz.out.below hB)
  replace HB := Lib.hid (below2 HB.out hB)
  clear hB
  go_wp2_with (refine wpList_store_six rfl 25 _ _ rfl (w.heap.size + 1) _ Am.zero rfl rfl Kz.out (by rfl) ?_; intro w6 hw6; have K6 := Lib.hid (Kz.out.put6 hw6); have HB6 := Lib.hid (below_put6 HB.out (by omega) hw6); clear hw6)
  (try simp only [Exit.inBlock, Exit.then]); refine bodyPost_ret (ret_alarm (a := Am.zero) rfl rfl K6.out) rfl ?_
  exact ⟨rfl, HB6.out⟩

set_option maxRecDepth 10000 in
set_option maxHeartbeats 4000000 in
theorem do_t3 (b c ph pr si un t l : Int) (w : World) (hr : Am.right ⟨b, c, ph, pr, si, un⟩ = true) (ht : Am.isT t = false) :
    Calls Try.prog 18 #[.agg #[.int .i64 b, .int .i64 c, .int .i64 ph, .int .i64 pr, .int .i64 si, .int .i64 un], .int .i64 3, .int .i64 t, .int .i64 l] w fun e w' => e = .returned (.tuple #[.agg (sixV (Am.zero)), .int .i64 (1)]) ∧ Below w.heap.size w w' := by
  have g1 := fun W => AIs_any b c ph pr si un W
  rw [hr] at g1
  clear hr
  have g2 := fun W => isTime_any t W
  rw [ht] at g2
  clear ht
  go_enter Try.func18, Try.ntmps18
  go_wp2_with fail
  refine (deeds_at _).mono ?_
  rintro e w1 ⟨r, rfl, hm, hB⟩
  have ka := ((Six.new w b c ph pr si un 25).alloc (.cells #[.int .i64 0, .int .i64 0, .int .i64 0, .int .i64 0, .int .i64 0, .int .i64 0] 25)).below hB
  have kz := (Six.new1 w (.cells #[.int .i64 b, .int .i64 c, .int .i64 ph, .int .i64 pr, .int .i64 si, .int .i64 un] 25) 0 0 0 0 0 0 25).below hB
  have HB := Lib.hid (below2 (below_new2 w _ _) hB)
  have hl := run_lookup_deed (P := Try.prog) (w := w1) 44 3 _ _ _ 3 _ Try.underlying44 Try.underlying3 (zeroF w1) hm
  rw [show deedV 3 Value.nilFunc = .func (.func 34) #[] #[] from rfl, show deedOk 3 = true from rfl] at hl
  have Ka := Lib.hid ka
  have Kz := Lib.hid kz
  have c0 := ka.c0
  have c1 := ka.c1
  have c2 := ka.c2
  have c3 := ka.c3
  have c4 := ka.c4
  have c5 := ka.c5
  clear hm hB ka kz
  go_wp2_with fail
  refine (g1 _).mono ?_
  rintro e w2 ⟨rfl, hB⟩
  clear c0 c1 c2 c3 c4 c5 hl g1
  replace Ka := Lib.hid (Ka.out.below hB)
  replace Kz := Lib.hid (Kz.out.below hB)
  replace HB := Lib.hid (below2 HB.out hB)
  clear hB
  go_wp2_with fail
  refine (g2 _).mono ?_
  rintro e w3 ⟨rfl, rfl⟩
  clear g2
  go_wp2_with (refine wpList_store_six rfl 25 _ _ rfl (w.heap.size + 1) _ Am.zero rfl rfl Kz.out (by rfl) ?_; intro w6 hw6; have K6 := Lib.hid (Kz.out.put6 hw6); have HB6 := Lib.hid (below_put6 HB.out (by omega) hw6); clear hw6)
  (try simp only [Exit.inBlock, Exit.then]); refine bodyPost_ret (ret_alarm (a := Am.zero) rfl rfl K6.out) rfl ?_
  exact ⟨rfl, HB6.out⟩

set_option maxRecDepth 10000 in
set_option maxHeartbeats 4000000 in
theorem do_p3 (b c ph pr si un t l : Int) (w : World) (hr : Am.right ⟨b, c, ph, pr, si, un⟩ = true) (ht : Am.isT t = true) (s0 : decide (t < si) = true) :
    Calls Try.prog 18 #[.agg #[.int .i64 b, .int .i64 c, .int .i64 ph, .int .i64 pr, .int .i64 si, .int .i64 un], .int .i64 3, .int .i64 t, .int .i64 l] w fun e w' => e = .returned (.tuple #[.agg (sixV (Am.zero)), .int .i64 (62)]) ∧ Below w.heap.size w w' := by
  have g1 := fun W => AIs_any b c ph pr si un W
  rw [hr] at g1
  clear hr
  have g2 := fun W => isTime_any t W
  rw [ht] at g2
  clear ht
  go_enter Try.func18, Try.ntmps18
  go_wp2_with fail
  refine (deeds_at _).mono ?_
  rintro e w1 ⟨r, rfl, hm, hB⟩
  have ka := ((Six.new w b c ph pr si un 25).alloc (.cells #[.int .i64 0, .int .i64 0, .int .i64 0, .int .i64 0, .int .i64 0, .int .i64 0] 25)).below hB
  have kz := (Six.new1 w (.cells #[.int .i64 b, .int .i64 c, .int .i64 ph, .int .i64 pr, .int .i64 si, .int .i64 un] 25) 0 0 0 0 0 0 25).below hB
  have HB := Lib.hid (below2 (below_new2 w _ _) hB)
  have hl := run_lookup_deed (P := Try.prog) (w := w1) 44 3 _ _ _ 3 _ Try.underlying44 Try.underlying3 (zeroF w1) hm
  rw [show deedV 3 Value.nilFunc = .func (.func 34) #[] #[] from rfl, show deedOk 3 = true from rfl] at hl
  have Ka := Lib.hid ka
  have Kz := Lib.hid kz
  have c0 := ka.c0
  have c1 := ka.c1
  have c2 := ka.c2
  have c3 := ka.c3
  have c4 := ka.c4
  have c5 := ka.c5
  clear hm hB ka kz
  go_wp2_with fail
  refine (g1 _).mono ?_
  rintro e w2 ⟨rfl, hB⟩
  clear c0 c1 c2 c3 c4 c5 hl g1
  replace Ka := Lib.hid (Ka.out.below hB)
  replace Kz := Lib.hid (Kz.out.below hB)
  replace HB := Lib.hid (below2 HB.out hB)
  clear hB
  go_wp2_with fail
  refine (g2 _).mono ?_
  rintro e w3 ⟨rfl, rfl⟩
  clear g2
  have c4 := Ka.out.c4
  go_wp2_with (refine wpList_store_six rfl 25 _ _ rfl (w.heap.size + 1) _ Am.zero rfl rfl Kz.out (by rfl) ?_; intro w6 hw6; have K6 := Lib.hid (Kz.out.put6 hw6); have HB6 := Lib.hid (below_put6 HB.out (by omega) hw6); clear hw6)
  (try simp only [Exit.inBlock, Exit.then]); refine bodyPost_ret (ret_alarm (a := Am.zero) rfl rfl K6.out) rfl ?_
  exact ⟨rfl, HB6.out⟩

set_option maxRecDepth 10000 in
set_option maxHeartbeats 4000000 in
theorem do_k3 (b c ph pr si un t l : Int) (w : World) (hr : Am.right ⟨b, c, ph, pr, si, un⟩ = true) (ht : Am.isT t = true) (s0 : decide (t < si) = false) :
    Calls Try.prog 18 #[.agg #[.int .i64 b, .int .i64 c, .int .i64 ph, .int .i64 pr, .int .i64 si, .int .i64 un], .int .i64 3, .int .i64 t, .int .i64 l] w fun e w' => e = .returned (.tuple #[.agg (sixV (Am.tnA ⟨b, c, ph, pr, si, un⟩ 3 t)), .int .i64 (Am.tnE ⟨b, c, ph, pr, si, un⟩ 3)]) ∧ Below w.heap.size w w' := by
  have g1 := fun W => AIs_any b c ph pr si un W
  rw [hr] at g1
  clear hr
  have g2 := fun W => isTime_any t W
  rw [ht] at g2
  clear ht
  have g3 := fun W => ack_any b c ph pr si un t l W
  obtain ⟨X, hX⟩ : ∃ X, X = Am.tnA ⟨b, c, ph, pr, si, un⟩ 3 t := ⟨_, rfl⟩
  obtain ⟨Y, hY⟩ : ∃ Y, Y = Am.tnE ⟨b, c, ph, pr, si, un⟩ 3 := ⟨_, rfl⟩
  rw [← hX, ← hY] at g3 ⊢
  clear hX hY
  go_enter Try.func18, Try.ntmps18
  go_wp2_with fail
  refine (deeds_at _).mono ?_
  rintro e w1 ⟨r, rfl, hm, hB⟩
  have ka := ((Six.new w b c ph pr si un 25).alloc (.cells #[.int .i64 0, .int .i64 0, .int .i64 0, .int .i64 0, .int .i64 0, .int .i64 0] 25)).below hB
  have kz := (Six.new1 w (.cells #[.int .i64 b, .int .i64 c, .int .i64 ph, .int .i64 pr, .int .i64 si, .int .i64 un] 25) 0 0 0 0 0 0 25).below hB
  have HB := Lib.hid (below2 (below_new2 w _ _) hB)
  have hl := run_lookup_deed (P := Try.prog) (w := w1) 44 3 _ _ _ 3 _ Try.underlying44 Try.underlying3 (zeroF w1) hm
  rw [show deedV 3 Value.nilFunc = .func (.func 34) #[] #[] from rfl, show deedOk 3 = true from rfl] at hl
  have Ka := Lib.hid ka
  have Kz := Lib.hid kz
  have c0 := ka.c0
  have c1 := ka.c1
  have c2 := ka.c2
  have c3 := ka.c3
  have c4 := ka.c4
  have c5 := ka.c5
  clear hm hB ka kz
  go_wp2_with fail
  refine (g1 _).mono ?_
  rintro e w2 ⟨rfl, hB⟩
  clear c0 c1 c2 c3 c4 c5 hl g1
  replace Ka := Lib.hid (Ka.out.below hB)
  replace Kz := Lib.hid (Kz.out.below hB)
  replace HB := Lib.hid (below2 HB.out hB)
  clear hB
  go_wp2_with fail
  refine (g2 _).mono ?_
  rintro e w3 ⟨rfl, rfl⟩
  clear g2
  have c4 := Ka.out.c4
  have c0 := Ka.out.c0
  have c1 := Ka.out.c1
  have c2 := Ka.out.c2
  have c3 := Ka.out.c3
  have c5 := Ka.out.c5
  go_wp2_with fail
  refine (g3 _).mono ?_
  rintro e w5 ⟨rfl, hB⟩
  clear c0 c1 c2 c3 c4 c5 g3 Ka s0
  replace Kz := Lib.hid (Kz.out.below hB)
  replace HB := Lib.hid (below2 HB.out hB)
  clear hB
  go_wp2_with (refine wpList_store_six rfl 25 _ _ rfl (w.heap.size + 1) _ X rfl rfl Kz.out (by rfl) ?_; intro w6 hw6; have K6 := Lib.hid (Kz.out.put6 hw6); have HB6 := Lib.hid (below_put6 HB.out (by omega) hw6); clear hw6)
  (try simp only [Exit.inBlock, Exit.then]); refine bodyPost_ret (ret_alarm (a := X) rfl rfl K6.out) rfl ?_
  exact ⟨rfl, HB6.out⟩

set_option maxRecDepth 10000 in
set_option maxHeartbeats 4000000 in
theorem do_r4 (b c ph pr si un t l : Int) (w : World) (hr : Am.right ⟨b, c, ph, pr, si, un⟩ = false) :
    Calls Try.prog 18 #[.agg #[.int .i64 b, .int .i64 c, .int .i64 ph, .int .i64 pr, .int .i64 si, .int .i64 un], .int .i64 4, .int .i64 t, .int .i64 l] w fun e w' => e = .returned (.tuple #[.agg (sixV (Am.zero)), .int .i64 (1)]) ∧ Below w.heap.size w w' := by
  have g1 := fun W => AIs_any b c ph pr si un W
  rw [hr] at g1
  clear hr
  go_enter Try.func18, Try.ntmps18
  go_wp2_with fail
  refine (deeds_at _).mono ?_
  rintro e w1 ⟨r, rfl, hm, hB⟩
  have ka := ((Six.new w b c ph pr si un 25).alloc (.cells #[.int .i64 0, .int .i64 0, .int .i64 0, .int .i64 0, .int .i64 0, .int .i64 0] 25)).below hB
  have kz := (Six.new1 w (.cells #[.int .i64 b, .int .i64 c, .int .i64 ph, .int .i64 pr, .int .i64 si, .int .i64 un] 25) 0 0 0 0 0 0 25).below hB
  have HB := Lib.hid (below2 (below_new2 w _ _) hB)
  have hl := run_lookup_deed (P := Try.prog) (w := w1) 44 3 _ _ _ 4 _ Try.underlying44 Try.underlying3 (zeroF w1) hm
  rw [show deedV 4 Value.nilFunc = .func (.func 35) #[] #[] from rfl, show deedOk 4 = true from rfl] at hl
  have Ka := Lib.hid ka
  have Kz := Lib.hid kz
  have c0 := ka.c0
  have c1 := ka.c1
  have c2 := ka.c2
  have c3 := ka.c3
  have c4 := ka.c4
  have c5 := ka.c5
  clear hm hB ka kz
  go_wp2_with fail
  refine (g1 _).mono ?_
  rintro e w2 ⟨rfl, hB⟩
  clear c0 c1 c2 c3 c4 c5 hl g1
  replace Ka := Lib.hid (Ka.out.below hB)
  replace Kz := Lib.hid (Kz.out.below hB)
  replace HB := Lib.hid (below2 HB.out hB)
  clear hB
  go_wp2_with (refine wpList_store_six rfl 25 _ _ rfl (w.heap.size + 1) _ Am.zero rfl rfl Kz.out (by rfl) ?_; intro w6 hw6; have K6 := Lib.hid (Kz.out.put6 hw6); have HB6 := Lib.hid (below_put6 HB.out (by omega) hw6); clear hw6)
  (try simp only [Exit.inBlock, Exit.then]); refine bodyPost_ret (ret_alarm (a := Am.zero) rfl rfl K6.out) rfl ?_
  exact ⟨rfl, HB6.out⟩

set_option maxRecDepth 10000 in
set_option maxHeartbeats 4000000 in
theorem do_t4 (b c ph pr si un t l : Int) (w : World) (hr : Am.right ⟨b, c, ph, pr, si, un⟩ = true) (ht : Am.isT t = false) :
    Calls Try.prog 18 #[.agg #[.int .i64 b, .int .i64 c, .int .i64 ph, .int .i64 pr, .int .i64 si, .int .i64 un], .int .i64 4, .int .i64 t, .int .i64 l] w fun e w' => e = .returned (.tuple #[.agg (sixV (Am.zero)), .int .i64 (1)]) ∧ Below w.heap.size w w' := by
  have g1 := fun W => AIs_any b c ph pr si un W
  rw [hr] at g1
  clear hr
  have g2 := fun W => isTime_any t W
  rw [ht] at g2
  clear ht
  go_enter Try.func18, Try.ntmps18
  go_wp2_with fail
  refine (deeds_at _).mono ?_
  rintro e w1 ⟨r, rfl, hm, hB⟩
  have ka := ((Six.new w b c ph pr si un 25).alloc (.cells #[.int .i64 0, .int .i64 0, .int .i64 0, .int .i64 0, .int .i64 0, .int .i64 0] 25)).below hB
  have kz := (Six.new1 w (.cells #[.int .i64 b, .int .i64 c, .int .i64 ph, .int .i64 pr, .int .i64 si, .int .i64 un] 25) 0 0 0 0 0 0 25).below hB
  have HB := Lib.hid (below2 (below_new2 w _ _) hB)
  have hl := run_lookup_deed (P := Try.prog) (w := w1) 44 3 _ _ _ 4 _ Try.underlying44 Try.underlying3 (zeroF w1) hm
  rw [show deedV 4 Value.nilFunc = .func (.func 35) #[] #[] from rfl, show deedOk 4 = true from rfl] at hl
  have Ka := Lib.hid ka
  have Kz := Lib.hid kz
  have c0 := ka.c0
  have c1 := ka.c1
  have c2 := ka.c2
  have c3 := ka.c3
  have c4 := ka.c4
  have c5 := ka.c5
  clear hm hB ka kz
  go_wp2_with fail
  refine (g1 _).mono ?_
  rintro e w2 ⟨rfl, hB⟩
  clear c0 c1 c2 c3 c4 c5 hl g1
  replace Ka := Lib.hid (Ka.out.below hB)
  replace Kz := Lib.hid (Kz.out.below hB)
  replace HB := Lib.hid (below2 HB.out hB)
  clear hB
  go_wp2_with fail
  refine (g2 _).mono ?_
  rintro e w3 ⟨rfl, rfl⟩
  clear g2
  go_wp2_with (refine wpList_store_six rfl 25 _ _ rfl (w.heap.size + 1) _ Am.zero rfl rfl Kz.out (by rfl) ?_; intro w6 hw6; have K6 := Lib.hid (Kz.out.put6 hw6); have HB6 := Lib.hid (below_put6 HB.out (by omega) hw6); clear hw6)
  (try simp only [Exit.inBlock, Exit.then]); refine bodyPost_ret (ret_alarm (a := Am.zero) rfl rfl K6.out) rfl ?_
  exact ⟨rfl, HB6.out⟩

set_option maxRecDepth 10000 in
set_option maxHeartbeats 4000000 in
theorem do_l4 (b c ph pr si un t l : Int) (w : World) (hr : Am.right ⟨b, c, ph, pr, si, un⟩ = true) (ht : Am.isT t = true) (hl4 : Am.isL l = false) :
    Calls Try.prog 18 #[.agg #[.int .i64 b, .int .i64 c, .int .i64 ph, .int .i64 pr, .int .i64 si, .int .i64 un], .int .i64 4, .int .i64 t, .int .i64 l] w fun e w' => e = .returned (.tuple #[.agg (sixV (Am.zero)), .int .i64 (1)]) ∧ Below w.heap.size w w' := by
  have g1 := fun W => AIs_any b c ph pr si un W
  rw [hr] at g1
  clear hr
  have g2 := fun W => isTime_any t W
  rw [ht] at g2
  clear ht
  have g4 := fun W => isLong_any l W
  rw [hl4] at g4
  clear hl4
  go_enter Try.func18, Try.ntmps18
  go_wp2_with fail
  refine (deeds_at _).mono ?_
  rintro e w1 ⟨r, rfl, hm, hB⟩
  have ka := ((Six.new w b c ph pr si un 25).alloc (.cells #[.int .i64 0, .int .i64 0, .int .i64 0, .int .i64 0, .int .i64 0, .int .i64 0] 25)).below hB
  have kz := (Six.new1 w (.cells #[.int .i64 b, .int .i64 c, .int .i64 ph, .int .i64 pr, .int .i64 si, .int .i64 un] 25) 0 0 0 0 0 0 25).below hB
  have HB := Lib.hid (below2 (below_new2 w _ _) hB)
  have hl := run_lookup_deed (P := Try.prog) (w := w1) 44 3 _ _ _ 4 _ Try.underlying44 Try.underlying3 (zeroF w1) hm
  rw [show deedV 4 Value.nilFunc = .func (.func 35) #[] #[] from rfl, show deedOk 4 = true from rfl] at hl
  have Ka := Lib.hid ka
  have Kz := Lib.hid kz
  have c0 := ka.c0
  have c1 := ka.c1
  have c2 := ka.c2
  have c3 := ka.c3
  have c4 := ka.c4
  have c5 := ka.c5
  clear hm hB ka kz
  go_wp2_with fail
  refine (g1 _).mono ?_
  rintro e w2 ⟨rfl, hB⟩
  clear c0 c1 c2 c3 c4 c5 hl g1
  replace Ka := Lib.hid (Ka.out.below hB)
  replace Kz := Lib.hid (Kz.out.below hB)
  replace HB := Lib.hid (below2 HB.out hB)
  clear hB
  go_wp2_with fail
  refine (g2 _).mono ?_
  rintro e w3 ⟨rfl, rfl⟩
  clear g2
  go_wp2_with fail
  refine (g4 _).mono ?_
  rintro e w4 ⟨rfl, rfl⟩
  clear g4
  go_wp2_with (refine wpList_store_six rfl 25 _ _ rfl (w.heap.size + 1) _ Am.zero rfl rfl Kz.out (by rfl) ?_; intro w6 hw6; have K6 := Lib.hid (Kz.out.put6 hw6); have HB6 := Lib.hid (below_put6 HB.out (by omega) hw6); clear hw6)
  (try simp only [Exit.inBlock, Exit.then]); refine bodyPost_ret (ret_alarm (a := Am.zero) rfl rfl K6.out) rfl ?_
  exact ⟨rfl, HB6.out⟩

set_option maxRecDepth 10000 in
set_option maxHeartbeats 4000000 in
theorem do_p4 (b c ph pr si un t l : Int) (w : World) (hr : Am.right ⟨b, c, ph, pr, si, un⟩ = true) (ht : Am.isT t = true) (hl4 : Am.isL l = true) (s0 : decide (t < si) = true) :
    Calls Try.prog 18 #[.agg #[.int .i64 b, .int .i64 c, .int .i64 ph, .int .i64 pr, .int .i64 si, .int .i64 un], .int .i64 4, .int .i64 t, .int .i64 l] w fun e w' => e = .returned (.tuple #[.agg (sixV (Am.zero)), .int .i64 (62)]) ∧ Below w.heap.size w w' := by
  have g1 := fun W => AIs_any b c ph pr si un W
  rw [hr] at g1
  clear hr
  have g2 := fun W => isTime_any t W
  rw [ht] at g2
  clear ht
  have g4 := fun W => isLong_any l W
  rw [hl4] at g4
  clear hl4
  go_enter Try.func18, Try.ntmps18
  go_wp2_with fail
  refine (deeds_at _).mono ?_
  rintro e w1 ⟨r, rfl, hm, hB⟩
  have ka := ((Six.new w b c ph pr si un 25).alloc (.cells #[.int .i64 0, .int .i64 0, .int .i64 0, .int .i64 0, .int .i64 0, .int .i64 0] 25)).below hB
  have kz := (Six.new1 w (.cells #[.int .i64 b, .int .i64 c, .int .i64 ph, .int .i64 pr, .int .i64 si, .int .i64 un] 25) 0 0 0 0 0 0 25).below hB
  have HB := Lib.hid (below2 (below_new2 w _ _) hB)
  have hl := run_lookup_deed (P := Try.prog) (w := w1) 44 3 _ _ _ 4 _ Try.underlying44 Try.underlying3 (zeroF w1) hm
  rw [show deedV 4 Value.nilFunc = .func (.func 35) #[] #[] from rfl, show deedOk 4 = true from rfl] at hl
  have Ka := Lib.hid ka
  have Kz := Lib.hid kz
  have c0 := ka.c0
  have c1 := ka.c1
  have c2 := ka.c2
  have c3 := ka.c3
  have c4 := ka.c4
  have c5 := ka.c5
  clear hm hB ka kz
  go_wp2_with fail
  refine (g1 _).mono ?_
  rintro e w2 ⟨rfl, hB⟩
  clear c0 c1 c2 c3 c4 c5 hl g1
  replace Ka := Lib.hid (Ka.out.below hB)
  replace Kz := Lib.hid (Kz.out.below hB)
  replace HB := Lib.hid (below2 HB.out hB)
  clear hB
  go_wp2_with fail
  refine (g2 _).mono ?_
  rintro e w3 ⟨rfl, rfl⟩
  clear g2
  go_wp2_with fail
  refine (g4 _).mono ?_
  rintro e w4 ⟨rfl, rfl⟩
  clear g4
  have c4 := Ka.out.c4
  go_wp2_with (refine wpList_store_six rfl 25 _ _ rfl (w.heap.size + 1) _ Am.zero rfl rfl Kz.out (by rfl) ?_; intro w6 hw6; have K6 := Lib.hid (Kz.out.put6 hw6); have HB6 := Lib.hid (below_put6 HB.out (by omega) hw6); clear hw6)
  (try simp only [Exit.inBlock, Exit.then]); refine bodyPost_ret (ret_alarm (a := Am.zero) rfl rfl K6.out) rfl ?_
  exact ⟨rfl, HB6.out⟩

set_option maxRecDepth 10000 in
set_option maxHeartbeats 4000000 in
theorem do_k4 (b c ph pr si un t l : Int) (w : World) (hr : Am.right ⟨b, c, ph, pr, si, un⟩ = true) (ht : Am.isT t = true) (hl4 : Am.isL l = true) (s0 : decide (t < si) = false) (iw : wrap64 (t + l) = t + l) :
    Calls Try.prog 18 #[.agg #[.int .i64 b, .int .i64 c, .int .i64 ph, .int .i64 pr, .int .i64 si, .int .i64 un], .int .i64 4, .int .i64 t, .int .i64 l] w fun e w' => e = .returned (.tuple #[.agg (sixV (Am.tnA ⟨b, c, ph, pr, si, un⟩ 4 (t + l))), .int .i64 (Am.tnE ⟨b, c, ph, pr, si, un⟩ 4)]) ∧ Below w.heap.size w w' := by
  have g1 := fun W => AIs_any b c ph pr si un W
  rw [hr] at g1
  clear hr
  have g2 := fun W => isTime_any t W
  rw [ht] at g2
  clear ht
  have g4 := fun W => isLong_any l W
  rw [hl4] at g4
  clear hl4
  have g3 := fun W => silence_any b c ph pr si un t l W iw
  obtain ⟨X, hX⟩ : ∃ X, X = Am.tnA ⟨b, c, ph, pr, si, un⟩ 4 (t + l) := ⟨_, rfl⟩
  obtain ⟨Y, hY⟩ : ∃ Y, Y = Am.tnE ⟨b, c, ph, pr, si, un⟩ 4 := ⟨_, rfl⟩
  rw [← hX, ← hY] at g3 ⊢
  clear hX hY
  clear iw
  go_enter Try.func18, Try.ntmps18
  go_wp2_with fail
  refine (deeds_at _).mono ?_
  rintro e w1 ⟨r, rfl, hm, hB⟩
  have ka := ((Six.new w b c ph pr si un 25).alloc (.cells #[.int .i64 0, .int .i64 0, .int .i64 0, .int .i64 0, .int .i64 0, .int .i64 0] 25)).below hB
  have kz := (Six.new1 w (.cells #[.int .i64 b, .int .i64 c, .int .i64 ph, .int .i64 pr, .int .i64 si, .int .i64 un] 25) 0 0 0 0 0 0 25).below hB
  have HB := Lib.hid (below2 (below_new2 w _ _) hB)
  have hl := run_lookup_deed (P := Try.prog) (w := w1) 44 3 _ _ _ 4 _ Try.underlying44 Try.underlying3 (zeroF w1) hm
  rw [show deedV 4 Value.nilFunc = .func (.func 35) #[] #[] from rfl, show deedOk 4 = true from rfl] at hl
  have Ka := Lib.hid ka
  have Kz := Lib.hid kz
  have c0 := ka.c0
  have c1 := ka.c1
  have c2 := ka.c2
  have c3 := ka.c3
  have c4 := ka.c4
  have c5 := ka.c5
  clear hm hB ka kz
  go_wp2_with fail
  refine (g1 _).mono ?_
  rintro e w2 ⟨rfl, hB⟩
  clear c0 c1 c2 c3 c4 c5 hl g1
  replace Ka := Lib.hid (Ka.out.below hB)
  replace Kz := Lib.hid (Kz.out.below hB)
  replace HB := Lib.hid (below2 HB.out hB)
  clear hB
  go_wp2_with fail
  refine (g2 _).mono ?_
  rintro e w3 ⟨rfl, rfl⟩
  clear g2
  go_wp2_with fail
  refine (g4 _).mono ?_
  rintro e w4 ⟨rfl, rfl⟩
  clear g4
  have c4 := Ka.out.c4
  have c0 := Ka.out.c0
  have c1 := Ka.out.c1
  have c2 := Ka.out.c2
  have c3 := Ka.out.c3
  have c5 := Ka.out.c5
  go_wp2_with fail
  refine (g3 _).mono ?_
  rintro e w5 ⟨rfl, hB⟩
  clear c0 c1 c2 c3 c4 c5 g3 Ka s0
  replace Kz := Lib.hid (Kz.out.below hB)
  replace HB := Lib.hid (below2 HB.out hB)
  clear hB
  go_wp2_with (refine wpList_store_six rfl 25 _ _ rfl (w.heap.size + 1) _ X rfl rfl Kz.out (by rfl) ?_; intro w6 hw6; have K6 := Lib.hid (Kz.out.put6 hw6); have HB6 := Lib.hid (below_put6 HB.out (by omega) hw6); clear hw6)
  (try simp only [Exit.inBlock, Exit.then]); refine bodyPost_ret (ret_alarm (a := X) rfl rfl K6.out) rfl ?_
  exact ⟨rfl, HB6.out⟩

set_option maxRecDepth 10000 in
set_option maxHeartbeats 4000000 in
theorem do_r6 (b c ph pr si un t l : Int) (w : World) (hr : Am.right ⟨b, c, ph, pr, si, un⟩ = false) :
    Calls Try.prog 18 #[.agg #[.int .i64 b, .int .i64 c, .int .i64 ph, .int .i64 pr, .int .i64 si, .int .i64 un], .int .i64 6, .int .i64 t, .int .i64 l] w fun e w' => e = .returned (.tuple #[.agg (sixV (Am.zero)), .int .i64 (1)]) ∧ Below w.heap.size w w' := by
  have g1 := fun W => AIs_any b c ph pr si un W
  rw [hr] at g1
  clear hr
  go_enter Try.func18, Try.ntmps18
  go_wp2_with fail
  refine (deeds_at _).mono ?_
  rintro e w1 ⟨r, rfl, hm, hB⟩
  have ka := ((Six.new w b c ph pr si un 25).alloc (.cells #[.int .i64 0, .int .i64 0, .int .i64 0, .int .i64 0, .int .i64 0, .int .i64 0] 25)).below hB
  have kz := (Six.new1 w (.cells #[.int .i64 b, .int .i64 c, .int .i64 ph, .int .i64 pr, .int .i64 si, .int .i64 un] 25) 0 0 0 0 0 0 25).below hB
  have HB := Lib.hid (below2 (below_new2 w _ _) hB)
  have hl := run_lookup_deed (P := Try.prog) (w := w1) 44 3 _ _ _ 6 _ Try.underlying44 Try.underlying3 (zeroF w1) hm
  rw [show deedV 6 Value.nilFunc = .func (.methodOf 49 "watchman/alarm.wake") #[] #[] from rfl, show deedOk 6 = true from rfl] at hl
  have Ka := Lib.hid ka
  have Kz := Lib.hid kz
  have c0 := ka.c0
  have c1 := ka.c1
  have c2 := ka.c2
  have c3 := ka.c3
  have c4 := ka.c4
  have c5 := ka.c5
  clear hm hB ka kz
  go_wp2_with fail
  refine (g1 _).mono ?_
  rintro e w2 ⟨rfl, hB⟩
  clear c0 c1 c2 c3 c4 c5 hl g1
  replace Ka := Lib.hid (Ka.out.below hB)
  replace Kz := Lib.hid (Kz.out.below hB)
  replace HB := Lib.hid (below2 HB.out hB)
  clear hB
  go_wp2_with (refine wpList_store_six rfl 25 _ _ rfl (w.heap.size + 1) _ Am.zero rfl rfl Kz.out (by rfl) ?_; intro w6 hw6; have K6 := Lib.hid (Kz.out.put6 hw6); have HB6 := Lib.hid (below_put6 HB.out (by omega) hw6); clear hw6)
  (try simp only [Exit.inBlock, Exit.then]); refine bodyPost_ret (ret_alarm (a := Am.zero) rfl rfl K6.out) rfl ?_
  exact ⟨rfl, HB6.out⟩

set_option maxRecDepth 10000 in
set_option maxHeartbeats 4000000 in
theorem do_t6 (b c ph pr si un t l : Int) (w : World) (hr : Am.right ⟨b, c, ph, pr, si, un⟩ = true) (ht : Am.isT t = false) :
    Calls Try.prog 18 #[.agg #[.int .i64 b, .int .i64 c, .int .i64 ph, .int .i64 pr, .int .i64 si, .int .i64 un], .int .i64 6, .int .i64 t, .int .i64 l] w fun e w' => e = .returned (.tuple #[.agg (sixV (Am.zero)), .int .i64 (1)]) ∧ Below w.heap.size w w' := by
  have g1 := fun W => AIs_any b c ph pr si un W
  rw [hr] at g1
  clear hr
  have g2 := fun W => isTime_any t W
  rw [ht] at g2
  clear ht
  go_enter Try.func18, Try.ntmps18
  go_wp2_with fail
  refine (deeds_at _).mono ?_
  rintro e w1 ⟨r, rfl, hm, hB⟩
  have ka := ((Six.new w b c ph pr si un 25).alloc (.cells #[.int .i64 0, .int .i64 0, .int .i64 0, .int .i64 0, .int .i64 0, .int .i64 0] 25)).below hB
  have kz := (Six.new1 w (.cells #[.int .i64 b, .int .i64 c, .int .i64 ph, .int .i64 pr, .int .i64 si, .int .i64 un] 25) 0 0 0 0 0 0 25).below hB
  have HB := Lib.hid (below2 (below_new2 w _ _) hB)
  have hl := run_lookup_deed (P := Try.prog) (w := w1) 44 3 _ _ _ 6 _ Try.underlying44 Try.underlying3 (zeroF w1) hm
  rw [show deedV 6 Value.nilFunc = .func (.methodOf 49 "watchman/alarm.wake") #[] #[] from rfl, show deedOk 6 = true from rfl] at hl
  have Ka := Lib.hid ka
  have Kz := Lib.hid kz
  have c0 := ka.c0
  have c1 := ka.c1
  have c2 := ka.c2
  have c3 := ka.c3
  have c4 := ka.c4
  have c5 := ka.c5
  clear hm hB ka kz
  go_wp2_with fail
  refine (g1 _).mono ?_
  rintro e w2 ⟨rfl, hB⟩
  clear c0 c1 c2 c3 c4 c5 hl g1
  replace Ka := Lib.hid (Ka.out.below hB)
  replace Kz := Lib.hid (Kz.out.below hB)
  replace HB := Lib.hid (below2 HB.out hB)
  clear hB
  go_wp2_with fail
  refine (g2 _).mono ?_
  rintro e w3 ⟨rfl, rfl⟩
  clear g2
  go_wp2_with (refine wpList_store_six rfl 25 _ _ rfl (w.heap.size + 1) _ Am.zero rfl rfl Kz.out (by rfl) ?_; intro w6 hw6; have K6 := Lib.hid (Kz.out.put6 hw6); have HB6 := Lib.hid (below_put6 HB.out (by omega) hw6); clear hw6)
  (try simp only [Exit.inBlock, Exit.then]); refine bodyPost_ret (ret_alarm (a := Am.zero) rfl rfl K6.out) rfl ?_
  exact ⟨rfl, HB6.out⟩

set_option maxRecDepth 10000 in
set_option maxHeartbeats 4000000 in
theorem do_p6 (b c ph pr si un t l : Int) (w : World) (hr : Am.right ⟨b, c, ph, pr, si, un⟩ = true) (ht : Am.isT t = true) (s0 : decide (t < si) = true) :
    Calls Try.prog 18 #[.agg #[.int .i64 b, .int .i64 c, .int .i64 ph, .int .i64 pr, .int .i64 si, .int .i64 un], .int .i64 6, .int .i64 t, .int .i64 l] w fun e w' => e = .returned (.tuple #[.agg (sixV (Am.zero)), .int .i64 (62)]) ∧ Below w.heap.size w w' := by
  have g1 := fun W => AIs_any b c ph pr si un W
  rw [hr] at g1
  clear hr
  have g2 := fun W => isTime_any t W
  rw [ht] at g2
  clear ht
  go_enter Try.func18, Try.ntmps18
  go_wp2_with fail
  refine (deeds_at _).mono ?_
  rintro e w1 ⟨r, rfl, hm, hB⟩
  have ka := ((Six.new w b c ph pr si un 25).alloc (.cells #[.int .i64 0, .int .i64 0, .int .i64 0, .int .i64 0, .int .i64 0, .int .i64 0] 25)).below hB
  have kz := (Six.new1 w (.cells #[.int .i64 b, .int .i64 c, .int .i64 ph, .int .i64 pr, .int .i64 si, .int .i64 un] 25) 0 0 0 0 0 0 25).below hB
  have HB := Lib.hid (below2 (below_new2 w _ _) hB)
  have hl := run_lookup_deed (P := Try.prog) (w := w1) 44 3 _ _ _ 6 _ Try.underlying44 Try.underlying3 (zeroF w1) hm
  rw [show deedV 6 Value.nilFunc = .func (.methodOf 49 "watchman/alarm.wake") #[] #[] from rfl, show deedOk 6 = true from rfl] at hl
  have Ka := Lib.hid ka
  have Kz := Lib.hid kz
  have c0 := ka.c0
  have c1 := ka.c1
  have c2 := ka.c2
  have c3 := ka.c3
  have c4 := ka.c4
  have c5 := ka.c5
  clear hm hB ka kz
  go_wp2_with fail
  refine (g1 _).mono ?_
  rintro e w2 ⟨rfl, hB⟩
  clear c0 c1 c2 c3 c4 c5 hl g1
  replace Ka := Lib.hid (Ka.out.below hB)
  replace Kz := Lib.hid (Kz.out.below hB)
  replace HB := Lib.hid (below2 HB.out hB)
  clear hB
  go_wp2_with fail
  refine (g2 _).mono ?_
  rintro e w3 ⟨rfl, rfl⟩
  clear g2
  have c4 := Ka.out.c4
  go_wp2_with (refine wpList_store_six rfl 25 _ _ rfl (w.heap.size + 1) _ Am.zero rfl rfl Kz.out (by rfl) ?_; intro w6 hw6; have K6 := Lib.hid (Kz.out.put6 hw6); have HB6 := Lib.hid (below_put6 HB.out (by omega) hw6); clear hw6)
  (try simp only [Exit.inBlock, Exit.then]); refine bodyPost_ret (ret_alarm (a := Am.zero) rfl rfl K6.out) rfl ?_
  exact ⟨rfl, HB6.out⟩

set_option maxRecDepth 10000 in
set_option maxHeartbeats 4000000 in
theorem do_k6 (b c ph pr si un t l : Int) (w : World) (hr : Am.right ⟨b, c, ph, pr, si, un⟩ = true) (ht : Am.isT t = true) (s0 : decide (t < si) = false) (Iw : Hid (IntKind.i64.wrap (t + Am.wait pr) = t + Am.wait pr)) :
    Calls Try.prog 18 #[.agg #[.int .i64 b, .int .i64 c, .int .i64 ph, .int .i64 pr, .int .i64 si, .int .i64 un], .int .i64 6, .int .i64 t, .int .i64 l] w fun e w' => e = .returned (.tuple #[.agg (sixV (Am.inA ⟨b, c, ph, pr, si, un⟩ 6 t (t + Am.wait pr))), .int .i64 (Am.inE ⟨b, c, ph, pr, si, un⟩ 6 t)]) ∧ Below w.heap.size w w' := by
  have g1 := fun W => AIs_any b c ph pr si un W
  rw [hr] at g1
  clear hr
  have g2 := fun W => isTime_any t W
  rw [ht] at g2
  clear ht
  have g3 := fun W => wake_any b c ph pr si un t l W Iw
  have hmd : ∀ w : World, (method 178 49 (.agg #[.int .i64 b, .int .i64 c, .int .i64 ph, .int .i64 pr, .int .i64 si, .int .i64 un]) "watchman/alarm.wake").run Try.prog w = .ok (32, .agg #[.int .i64 b, .int .i64 c, .int .i64 ph, .int .i64 pr, .int .i64 si, .int .i64 un]) w := fun _ => by kernel_rfl
  obtain ⟨X, hX⟩ : ∃ X, X = Am.inA ⟨b, c, ph, pr, si, un⟩ 6 t (t + Am.wait pr) := ⟨_, rfl⟩
  obtain ⟨Y, hY⟩ : ∃ Y, Y = Am.inE ⟨b, c, ph, pr, si, un⟩ 6 t := ⟨_, rfl⟩
  rw [← hX, ← hY] at g3 ⊢
  clear hX hY
  clear Iw
  go_enter Try.func18, Try.ntmps18
  go_wp2_with fail
  refine (deeds_at _).mono ?_
  rintro e w1 ⟨r, rfl, hm, hB⟩
  have ka := ((Six.new w b c ph pr si un 25).alloc (.cells #[.int .i64 0, .int .i64 0, .int .i64 0, .int .i64 0, .int .i64 0, .int .i64 0] 25)).below hB
  have kz := (Six.new1 w (.cells #[.int .i64 b, .int .i64 c, .int .i64 ph, .int .i64 pr, .int .i64 si, .int .i64 un] 25) 0 0 0 0 0 0 25).below hB
  have HB := Lib.hid (below2 (below_new2 w _ _) hB)
  have hl := run_lookup_deed (P := Try.prog) (w := w1) 44 3 _ _ _ 6 _ Try.underlying44 Try.underlying3 (zeroF w1) hm
  rw [show deedV 6 Value.nilFunc = .func (.methodOf 49 "watchman/alarm.wake") #[] #[] from rfl, show deedOk 6 = true from rfl] at hl
  have Ka := Lib.hid ka
  have Kz := Lib.hid kz
  have c0 := ka.c0
  have c1 := ka.c1
  have c2 := ka.c2
  have c3 := ka.c3
  have c4 := ka.c4
  have c5 := ka.c5
  clear hm hB ka kz
  go_wp2_with fail
  refine (g1 _).mono ?_
  rintro e w2 ⟨rfl, hB⟩
  clear c0 c1 c2 c3 c4 c5 hl g1
  replace Ka := Lib.hid (Ka.out.below hB)
  replace Kz := Lib.hid (Kz.out.below hB)
  replace HB := Lib.hid (below2 HB.out hB)
  clear hB
  go_wp2_with fail
  refine (g2 _).mono ?_
  rintro e w3 ⟨rfl, rfl⟩
  clear g2
  have c4 := Ka.out.c4
  have c0 := Ka.out.c0
  have c1 := Ka.out.c1
  have c2 := Ka.out.c2
  have c3 := Ka.out.c3
  have c5 := Ka.out.c5
  go_wp2_with fail
  refine (g3 _).mono ?_
  rintro e w5 ⟨rfl, hB⟩
  clear c0 c1 c2 c3 c4 c5 g3 Ka s0
  replace Kz := Lib.hid (Kz.out.below hB)
  replace HB := Lib.hid (below2 HB.out hB)
  clear hB
  go_wp2_with (refine wpList_store_six rfl 25 _ _ rfl (w.heap.size + 1) _ X rfl rfl Kz.out (by rfl) ?_; intro w6 hw6; have K6 := Lib.hid (Kz.out.put6 hw6); have HB6 := Lib.hid (below_put6 HB.out (by omega) hw6); clear hw6)
  (try simp only [Exit.inBlock, Exit.then]); refine bodyPost_ret (ret_alarm (a := X) rfl rfl K6.out) rfl ?_
  exact ⟨rfl, HB6.out⟩

theorem ADo_any (b c ph pr si un deed t long : Int) (w : World) :
    Calls Try.prog 18 #[.agg #[.int .i64 b, .int .i64 c, .int .i64 ph, .int .i64 pr, .int .i64 si, .int .i64 un], .int .i64 deed, .int .i64 t, .int .i64 long] w fun e w' => e = .returned (.tuple #[.agg (sixV (Am.doA ⟨b, c, ph, pr, si, un⟩ deed t long)), .int .i64 (Am.doE ⟨b, c, ph, pr, si, un⟩ deed t long)]) ∧ Below w.heap.size w w' := by
  by_cases hd : deed = 2 ∨ deed = 3 ∨ deed = 4 ∨ deed = 6
  · unfold Am.doA Am.doE
    simp only
    cases hr : Am.right ⟨b, c, ph, pr, si, un⟩
    · simp only [Bool.not_false, Bool.true_or, if_true]
      rw [if_neg (by decide)]
      rcases hd with rfl | rfl | rfl | rfl
      · exact do_r2 b c ph pr si un t long w hr
      · exact do_r3 b c ph pr si un t long w hr
      · exact do_r4 b c ph pr si un t long w hr
      · exact do_r6 b c ph pr si un t long w hr
    · cases ht : Am.isT t
      · simp only [Bool.not_true, Bool.not_false, Bool.false_or, Bool.true_or, if_true]
        rw [if_neg (by decide)]
        rcases hd with rfl | rfl | rfl | rfl
        · exact do_t2 b c ph pr si un t long w hr ht
        · exact do_t3 b c ph pr si un t long w hr ht
        · exact do_t4 b c ph pr si un t long w hr ht
        · exact do_t6 b c ph pr si un t long w hr ht
      · cases hc : Am.canDo deed long
        · simp only [Bool.not_true, Bool.not_false, Bool.false_or, if_true]
          rw [if_neg (by decide)]
          have hn : ¬ ((deed = 2 ∨ deed = 3 ∨ deed = 4 ∨ deed = 6) ∧ (deed = 4 → 1 ≤ long ∧ long ≤ 1000)) := fun h => by rw [Am.canDo_iff.2 h] at hc; cases hc
          have h4 : deed = 4 := by omega
          subst h4
          refine do_l4 b c ph pr si un t long w hr ht ?_
          unfold Am.isL
          rw [Bool.and_eq_false_iff, decide_eq_false_iff_not, decide_eq_false_iff_not]
          omega
        · obtain ⟨_, hl⟩ := Am.canDo_iff.1 hc
          have hr' := Am.right_iff.1 hr
          simp only at hr'
          have hT := Am.isT_iff.1 ht
          have hw := Am.wait_bounds pr
          simp only [Bool.not_true, Bool.or_false, Bool.false_eq_true, if_false]
          by_cases hs : t < si
          · rw [if_pos hs, if_neg (by decide)]
            have s0 := decide_eq_true hs
            rcases hd with rfl | rfl | rfl | rfl
            · exact do_p2 b c ph pr si un t long w hr ht s0
            · exact do_p3 b c ph pr si un t long w hr ht s0
            · exact do_p4 b c ph pr si un t long w hr ht (by unfold Am.isL; have := hl rfl; simp only [Bool.and_eq_true, decide_eq_true_eq]; omega) s0
            · exact do_p6 b c ph pr si un t long w hr ht s0
          · rw [if_neg hs]
            have s0 : decide (t < si) = false := decide_eq_false hs
            rcases hd with rfl | rfl | rfl | rfl
            · have h := do_k2 b c ph pr si un t long w hr ht s0
              unfold Am.inA Am.inE at h
              simp only at h
              cases ho : Lf.ok ph 2
              · rw [ho] at h; simpa using h
              · rw [ho] at h
                by_cases hu : t < un
                · simpa [hu] using h
                · simpa [hu, Am.turn, Am.turnU] using h
            · have h := do_k3 b c ph pr si un t long w hr ht s0
              unfold Am.tnA Am.tnE at h
              simp only at h
              cases ho : Lf.ok ph 3
              · rw [ho] at h; simpa using h
              · rw [ho] at h; simpa [Am.turn, Am.turnU] using h
            · have h := do_k4 b c ph pr si un t long w hr ht (by unfold Am.isL; have := hl rfl; simp only [Bool.and_eq_true, decide_eq_true_eq]; omega) s0 (by have := hl rfl; unfold wrap64; omega)
              unfold Am.tnA Am.tnE at h
              simp only at h
              cases ho : Lf.ok ph 4
              · rw [ho] at h; simpa using h
              · rw [ho] at h; simpa [Am.turn, Am.turnU] using h
            · have h := do_k6 b c ph pr si un t long w hr ht s0 (Lib.hid (by rw [IntKind.wrap_i64]; omega))
              unfold Am.inA Am.inE at h
              simp only at h
              cases ho : Lf.ok ph 6
              · rw [ho] at h; simpa using h
              · rw [ho] at h
                by_cases hu : t < un
                · simpa [hu] using h
                · simpa [hu, Am.turn, Am.turnU] using h
  · have hc : Am.canDo deed long = false := by
      cases hc : Am.canDo deed long
      · rfl
      · exact absurd (Am.canDo_iff.1 hc).1 hd
    unfold Am.doA Am.doE
    simp only [hc, Bool.not_false, Bool.or_true, if_true]
    rw [if_neg (by decide)]
    refine do_n b c ph pr si un deed t long w ?_ ?_
    · unfold deedV; rw [if_neg (by omega), if_neg (by omega), if_neg (by omega), if_neg (by omega)]
    · unfold deedOk; simp only [Bool.or_eq_false_iff, beq_eq_false_iff_ne]; omega
end Go.Proofs.Ytepcjlnjhbaioaa
