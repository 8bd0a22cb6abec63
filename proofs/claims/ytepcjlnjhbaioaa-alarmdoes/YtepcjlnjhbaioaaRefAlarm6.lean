/-
  Layer 6 (alarm): the walk of the reference's Do.
-/
import Derived.Test.YtepcjlnjhbaioaaRefAlarm5
namespace Go.Proofs.Ytepcjlnjhbaioaa
open Go.RowKit

set_option maxRecDepth 10000 in
set_option maxHeartbeats 4000000 in
theorem RDo_e1 (b c ph pr si un deed t long : Int) (w : World) (hr : Am.right ⟨b, c, ph, pr, si, un⟩ = false) :
    Calls Try.prog 19 #[.agg #[.int .i64 b, .int .i64 c, .int .i64 ph, .int .i64 pr, .int .i64 si, .int .i64 un], .int .i64 deed, .int .i64 t, .int .i64 long] w fun e w' => e = .returned (.tuple #[.agg (sixV Am.zero), .int .i64 1]) ∧ Below w.heap.size w w' := by
  have g1 := fun W => RAIs_any b c ph pr si un W
  rw [hr] at g1
  go_enter Try.func19, Try.ntmps19
  go_wp2_with fail
  refine (g1 _).mono ?_
  rintro e w1 ⟨rfl, hB⟩
  have ka := ((Six.new w b c ph pr si un 25).alloc (.cells #[.int .i64 0, .int .i64 0, .int .i64 0, .int .i64 0, .int .i64 0, .int .i64 0] 25)).below hB
  have kz := (Six.new1 w (.cells #[.int .i64 b, .int .i64 c, .int .i64 ph, .int .i64 pr, .int .i64 si, .int .i64 un] 25) 0 0 0 0 0 0 25).below hB
  have HB := Lib.hid (below2 (below_new2 w _ _) hB)
  obtain ⟨tn, hn⟩ := ka.blk
  obtain ⟨tz, hz⟩ := kz.blk
  have Hn := Lib.hid hn
  have Hz := Lib.hid hz
  have c2 := ka.c2
  have c4 := ka.c4
  have c5 := ka.c5
  clear g1 hB hn hz ka kz
  go_wp2_with (refine wpList_store_row rfl 25 _ _ rfl (w.heap.size + 1) (sixV Am.zero) rfl rfl tz _ Hz.out (by kernel_rfl) rfl (six_one _) ?_)
  (try simp only [Exit.inBlock, Exit.then]); refine bodyPost_ret (ret_alarm (a := Am.zero) rfl rfl ⟨tz, setRow_heap _ _ _ _ _ _ Hz.out⟩) rfl ?_
  exact ⟨rfl, below_setRow HB.out (by omega) _⟩

set_option maxRecDepth 10000 in
set_option maxHeartbeats 4000000 in
theorem RDo_e2 (b c ph pr si un deed t long : Int) (w : World) (hr : Am.right ⟨b, c, ph, pr, si, un⟩ = true) (ht : Am.isT t = false) :
    Calls Try.prog 19 #[.agg #[.int .i64 b, .int .i64 c, .int .i64 ph, .int .i64 pr, .int .i64 si, .int .i64 un], .int .i64 deed, .int .i64 t, .int .i64 long] w fun e w' => e = .returned (.tuple #[.agg (sixV Am.zero), .int .i64 1]) ∧ Below w.heap.size w w' := by
  have g1 := fun W => RAIs_any b c ph pr si un W
  rw [hr] at g1
  go_enter Try.func19, Try.ntmps19
  go_wp2_with fail
  refine (g1 _).mono ?_
  rintro e w1 ⟨rfl, hB⟩
  have ka := ((Six.new w b c ph pr si un 25).alloc (.cells #[.int .i64 0, .int .i64 0, .int .i64 0, .int .i64 0, .int .i64 0, .int .i64 0] 25)).below hB
  have kz := (Six.new1 w (.cells #[.int .i64 b, .int .i64 c, .int .i64 ph, .int .i64 pr, .int .i64 si, .int .i64 un] 25) 0 0 0 0 0 0 25).below hB
  have HB := Lib.hid (below2 (below_new2 w _ _) hB)
  obtain ⟨tn, hn⟩ := ka.blk
  obtain ⟨tz, hz⟩ := kz.blk
  have Hn := Lib.hid hn
  have Hz := Lib.hid hz
  have c2 := ka.c2
  have c4 := ka.c4
  have c5 := ka.c5
  clear g1 hB hn hz ka kz
  have g3 := fun W => RTime_any t W
  rw [ht] at g3
  go_wp2_with fail
  refine (g3 _).mono ?_
  rintro e w2 ⟨rfl, rfl⟩
  clear g3
  go_wp2_with (refine wpList_store_row rfl 25 _ _ rfl (w.heap.size + 1) (sixV Am.zero) rfl rfl tz _ Hz.out (by kernel_rfl) rfl (six_one _) ?_)
  (try simp only [Exit.inBlock, Exit.then]); refine bodyPost_ret (ret_alarm (a := Am.zero) rfl rfl ⟨tz, setRow_heap _ _ _ _ _ _ Hz.out⟩) rfl ?_
  exact ⟨rfl, below_setRow HB.out (by omega) _⟩

set_option maxRecDepth 10000 in
set_option maxHeartbeats 4000000 in
theorem RDo_e3 (b c ph pr si un deed t long : Int) (w : World) (hr : Am.right ⟨b, c, ph, pr, si, un⟩ = true) (ht : Am.isT t = true) (n2 : (deed != 2) = true) (n3 : (deed != 3) = true) (n4 : (deed != 4) = true) (n6 : (deed != 6) = true) :
    Calls Try.prog 19 #[.agg #[.int .i64 b, .int .i64 c, .int .i64 ph, .int .i64 pr, .int .i64 si, .int .i64 un], .int .i64 deed, .int .i64 t, .int .i64 long] w fun e w' => e = .returned (.tuple #[.agg (sixV Am.zero), .int .i64 1]) ∧ Below w.heap.size w w' := by
  have g1 := fun W => RAIs_any b c ph pr si un W
  rw [hr] at g1
  go_enter Try.func19, Try.ntmps19
  go_wp2_with fail
  refine (g1 _).mono ?_
  rintro e w1 ⟨rfl, hB⟩
  have ka := ((Six.new w b c ph pr si un 25).alloc (.cells #[.int .i64 0, .int .i64 0, .int .i64 0, .int .i64 0, .int .i64 0, .int .i64 0] 25)).below hB
  have kz := (Six.new1 w (.cells #[.int .i64 b, .int .i64 c, .int .i64 ph, .int .i64 pr, .int .i64 si, .int .i64 un] 25) 0 0 0 0 0 0 25).below hB
  have HB := Lib.hid (below2 (below_new2 w _ _) hB)
  obtain ⟨tn, hn⟩ := ka.blk
  obtain ⟨tz, hz⟩ := kz.blk
  have Hn := Lib.hid hn
  have Hz := Lib.hid hz
  have c2 := ka.c2
  have c4 := ka.c4
  have c5 := ka.c5
  clear g1 hB hn hz ka kz
  have g3 := fun W => RTime_any t W
  rw [ht] at g3
  go_wp2_with fail
  refine (g3 _).mono ?_
  rintro e w2 ⟨rfl, rfl⟩
  clear g3
  go_wp2_with (refine wpList_store_row rfl 25 _ _ rfl (w.heap.size + 1) (sixV Am.zero) rfl rfl tz _ Hz.out (by kernel_rfl) rfl (six_one _) ?_)
  (try simp only [Exit.inBlock, Exit.then]); refine bodyPost_ret (ret_alarm (a := Am.zero) rfl rfl ⟨tz, setRow_heap _ _ _ _ _ _ Hz.out⟩) rfl ?_
  exact ⟨rfl, below_setRow HB.out (by omega) _⟩

set_option maxRecDepth 10000 in
set_option maxHeartbeats 4000000 in
theorem RDo_e4 (b c ph pr si un t long : Int) (w : World) (hr : Am.right ⟨b, c, ph, pr, si, un⟩ = true) (ht : Am.isT t = true) (l1 : long < 1) :
    Calls Try.prog 19 #[.agg #[.int .i64 b, .int .i64 c, .int .i64 ph, .int .i64 pr, .int .i64 si, .int .i64 un], .int .i64 4, .int .i64 t, .int .i64 long] w fun e w' => e = .returned (.tuple #[.agg (sixV Am.zero), .int .i64 1]) ∧ Below w.heap.size w w' := by
  have g1 := fun W => RAIs_any b c ph pr si un W
  rw [hr] at g1
  go_enter Try.func19, Try.ntmps19
  go_wp2_with fail
  refine (g1 _).mono ?_
  rintro e w1 ⟨rfl, hB⟩
  have ka := ((Six.new w b c ph pr si un 25).alloc (.cells #[.int .i64 0, .int .i64 0, .int .i64 0, .int .i64 0, .int .i64 0, .int .i64 0] 25)).below hB
  have kz := (Six.new1 w (.cells #[.int .i64 b, .int .i64 c, .int .i64 ph, .int .i64 pr, .int .i64 si, .int .i64 un] 25) 0 0 0 0 0 0 25).below hB
  have HB := Lib.hid (below2 (below_new2 w _ _) hB)
  obtain ⟨tn, hn⟩ := ka.blk
  obtain ⟨tz, hz⟩ := kz.blk
  have Hn := Lib.hid hn
  have Hz := Lib.hid hz
  have c2 := ka.c2
  have c4 := ka.c4
  have c5 := ka.c5
  clear g1 hB hn hz ka kz
  have g3 := fun W => RTime_any t W
  rw [ht] at g3
  go_wp2_with fail
  refine (g3 _).mono ?_
  rintro e w2 ⟨rfl, rfl⟩
  clear g3
  go_wp2_with (refine wpList_store_row rfl 25 _ _ rfl (w.heap.size + 1) (sixV Am.zero) rfl rfl tz _ Hz.out (by kernel_rfl) rfl (six_one _) ?_)
  (try simp only [Exit.inBlock, Exit.then]); refine bodyPost_ret (ret_alarm (a := Am.zero) rfl rfl ⟨tz, setRow_heap _ _ _ _ _ _ Hz.out⟩) rfl ?_
  exact ⟨rfl, below_setRow HB.out (by omega) _⟩

set_option maxRecDepth 10000 in
set_option maxHeartbeats 4000000 in
theorem RDo_e5 (b c ph pr si un t long : Int) (w : World) (hr : Am.right ⟨b, c, ph, pr, si, un⟩ = true) (ht : Am.isT t = true) (l1 : 1 ≤ long) (l2 : 1000 < long) :
    Calls Try.prog 19 #[.agg #[.int .i64 b, .int .i64 c, .int .i64 ph, .int .i64 pr, .int .i64 si, .int .i64 un], .int .i64 4, .int .i64 t, .int .i64 long] w fun e w' => e = .returned (.tuple #[.agg (sixV Am.zero), .int .i64 1]) ∧ Below w.heap.size w w' := by
  have g1 := fun W => RAIs_any b c ph pr si un W
  rw [hr] at g1
  go_enter Try.func19, Try.ntmps19
  go_wp2_with fail
  refine (g1 _).mono ?_
  rintro e w1 ⟨rfl, hB⟩
  have ka := ((Six.new w b c ph pr si un 25).alloc (.cells #[.int .i64 0, .int .i64 0, .int .i64 0, .int .i64 0, .int .i64 0, .int .i64 0] 25)).below hB
  have kz := (Six.new1 w (.cells #[.int .i64 b, .int .i64 c, .int .i64 ph, .int .i64 pr, .int .i64 si, .int .i64 un] 25) 0 0 0 0 0 0 25).below hB
  have HB := Lib.hid (below2 (below_new2 w _ _) hB)
  obtain ⟨tn, hn⟩ := ka.blk
  obtain ⟨tz, hz⟩ := kz.blk
  have Hn := Lib.hid hn
  have Hz := Lib.hid hz
  have c2 := ka.c2
  have c4 := ka.c4
  have c5 := ka.c5
  clear g1 hB hn hz ka kz
  have g3 := fun W => RTime_any t W
  rw [ht] at g3
  go_wp2_with fail
  refine (g3 _).mono ?_
  rintro e w2 ⟨rfl, rfl⟩
  clear g3
  go_wp2_with (refine wpList_store_row rfl 25 _ _ rfl (w.heap.size + 1) (sixV Am.zero) rfl rfl tz _ Hz.out (by kernel_rfl) rfl (six_one _) ?_)
  (try simp only [Exit.inBlock, Exit.then]); refine bodyPost_ret (ret_alarm (a := Am.zero) rfl rfl ⟨tz, setRow_heap _ _ _ _ _ _ Hz.out⟩) rfl ?_
  exact ⟨rfl, below_setRow HB.out (by omega) _⟩

set_option maxRecDepth 10000 in
set_option maxHeartbeats 4000000 in
theorem RDo_p2 (b c ph pr si un t long : Int) (w : World) (hr : Am.right ⟨b, c, ph, pr, si, un⟩ = true) (ht : Am.isT t = true) (hs : t < si) :
    Calls Try.prog 19 #[.agg #[.int .i64 b, .int .i64 c, .int .i64 ph, .int .i64 pr, .int .i64 si, .int .i64 un], .int .i64 2, .int .i64 t, .int .i64 long] w fun e w' => e = .returned (.tuple #[.agg (sixV Am.zero), .int .i64 62]) ∧ Below w.heap.size w w' := by
  have g1 := fun W => RAIs_any b c ph pr si un W
  rw [hr] at g1
  go_enter Try.func19, Try.ntmps19
  go_wp2_with fail
  refine (g1 _).mono ?_
  rintro e w1 ⟨rfl, hB⟩
  have ka := ((Six.new w b c ph pr si un 25).alloc (.cells #[.int .i64 0, .int .i64 0, .int .i64 0, .int .i64 0, .int .i64 0, .int .i64 0] 25)).below hB
  have kz := (Six.new1 w (.cells #[.int .i64 b, .int .i64 c, .int .i64 ph, .int .i64 pr, .int .i64 si, .int .i64 un] 25) 0 0 0 0 0 0 25).below hB
  have HB := Lib.hid (below2 (below_new2 w _ _) hB)
  obtain ⟨tn, hn⟩ := ka.blk
  obtain ⟨tz, hz⟩ := kz.blk
  have Hn := Lib.hid hn
  have Hz := Lib.hid hz
  have c2 := ka.c2
  have c4 := ka.c4
  have c5 := ka.c5
  clear g1 hB hn hz ka kz
  have g3 := fun W => RTime_any t W
  rw [ht] at g3
  go_wp2_with fail
  refine (g3 _).mono ?_
  rintro e w2 ⟨rfl, rfl⟩
  clear g3
  go_wp2_with (refine wpList_store_row rfl 25 _ _ rfl (w.heap.size + 1) (sixV Am.zero) rfl rfl tz _ Hz.out (by kernel_rfl) rfl (six_one _) ?_)
  (try simp only [Exit.inBlock, Exit.then]); refine bodyPost_ret (ret_alarm (a := Am.zero) rfl rfl ⟨tz, setRow_heap _ _ _ _ _ _ Hz.out⟩) rfl ?_
  exact ⟨rfl, below_setRow HB.out (by omega) _⟩

set_option maxRecDepth 10000 in
set_option maxHeartbeats 4000000 in
theorem RDo_f2 (b c ph pr si un t long : Int) (w : World) (hr : Am.right ⟨b, c, ph, pr, si, un⟩ = true) (ht : Am.isT t = true) (s0 : decide (t < si) = false) (ho : Lf.ok ph 2 = false) :
    Calls Try.prog 19 #[.agg #[.int .i64 b, .int .i64 c, .int .i64 ph, .int .i64 pr, .int .i64 si, .int .i64 un], .int .i64 2, .int .i64 t, .int .i64 long] w fun e w' => e = .returned (.tuple #[.agg (sixV Am.zero), .int .i64 60]) ∧ Below w.heap.size w w' := by
  have g1 := fun W => RAIs_any b c ph pr si un W
  rw [hr] at g1
  go_enter Try.func19, Try.ntmps19
  go_wp2_with fail
  refine (g1 _).mono ?_
  rintro e w1 ⟨rfl, hB⟩
  have ka := ((Six.new w b c ph pr si un 25).alloc (.cells #[.int .i64 0, .int .i64 0, .int .i64 0, .int .i64 0, .int .i64 0, .int .i64 0] 25)).below hB
  have kz := (Six.new1 w (.cells #[.int .i64 b, .int .i64 c, .int .i64 ph, .int .i64 pr, .int .i64 si, .int .i64 un] 25) 0 0 0 0 0 0 25).below hB
  have HB := Lib.hid (below2 (below_new2 w _ _) hB)
  obtain ⟨tn, hn⟩ := ka.blk
  obtain ⟨tz, hz⟩ := kz.blk
  have Hn := Lib.hid hn
  have Hz := Lib.hid hz
  have c2 := ka.c2
  have c4 := ka.c4
  have c5 := ka.c5
  clear g1 hB hn hz ka kz
  have g3 := fun W => RTime_any t W
  rw [ht] at g3
  go_wp2_with fail
  refine (g3 _).mono ?_
  rintro e w2 ⟨rfl, rfl⟩
  clear g3
  have g4 := fun W => RNext_any ph 2 W
  rw [ho] at g4
  go_wp2_with fail
  refine (g4 _).mono ?_
  rintro e w3 ⟨rfl, rfl⟩
  clear g4
  go_wp2_with (refine wpList_store_row rfl 25 _ _ rfl (w.heap.size + 1) (sixV Am.zero) rfl rfl tz _ Hz.out (by kernel_rfl) rfl (six_one _) ?_)
  (try simp only [Exit.inBlock, Exit.then]); refine bodyPost_ret (ret_alarm (a := Am.zero) rfl rfl ⟨tz, setRow_heap _ _ _ _ _ _ Hz.out⟩) rfl ?_
  exact ⟨rfl, below_setRow HB.out (by omega) _⟩

set_option maxRecDepth 10000 in
set_option maxHeartbeats 4000000 in
theorem RDo_y2 (b c ph pr si un t long : Int) (w : World) (hr : Am.right ⟨b, c, ph, pr, si, un⟩ = true) (ht : Am.isT t = true) (s0 : decide (t < si) = false) (ho : Lf.ok ph 2 = true) (hu : t < un) :
    Calls Try.prog 19 #[.agg #[.int .i64 b, .int .i64 c, .int .i64 ph, .int .i64 pr, .int .i64 si, .int .i64 un], .int .i64 2, .int .i64 t, .int .i64 long] w fun e w' => e = .returned (.tuple #[.agg (sixV Am.zero), .int .i64 61]) ∧ Below w.heap.size w w' := by
  have g1 := fun W => RAIs_any b c ph pr si un W
  rw [hr] at g1
  go_enter Try.func19, Try.ntmps19
  go_wp2_with fail
  refine (g1 _).mono ?_
  rintro e w1 ⟨rfl, hB⟩
  have ka := ((Six.new w b c ph pr si un 25).alloc (.cells #[.int .i64 0, .int .i64 0, .int .i64 0, .int .i64 0, .int .i64 0, .int .i64 0] 25)).below hB
  have kz := (Six.new1 w (.cells #[.int .i64 b, .int .i64 c, .int .i64 ph, .int .i64 pr, .int .i64 si, .int .i64 un] 25) 0 0 0 0 0 0 25).below hB
  have HB := Lib.hid (below2 (below_new2 w _ _) hB)
  obtain ⟨tn, hn⟩ := ka.blk
  obtain ⟨tz, hz⟩ := kz.blk
  have Hn := Lib.hid hn
  have Hz := Lib.hid hz
  have c2 := ka.c2
  have c4 := ka.c4
  have c5 := ka.c5
  clear g1 hB hn hz ka kz
  have g3 := fun W => RTime_any t W
  rw [ht] at g3
  go_wp2_with fail
  refine (g3 _).mono ?_
  rintro e w2 ⟨rfl, rfl⟩
  clear g3
  have g4 := fun W => RNext_any ph 2 W
  rw [ho] at g4
  go_wp2_with fail
  refine (g4 _).mono ?_
  rintro e w3 ⟨rfl, rfl⟩
  clear g4
  go_wp2_with (refine wpList_store_row rfl 25 _ _ rfl (w.heap.size + 1) (sixV Am.zero) rfl rfl tz _ Hz.out (by kernel_rfl) rfl (six_one _) ?_)
  (try simp only [Exit.inBlock, Exit.then]); refine bodyPost_ret (ret_alarm (a := Am.zero) rfl rfl ⟨tz, setRow_heap _ _ _ _ _ _ Hz.out⟩) rfl ?_
  exact ⟨rfl, below_setRow HB.out (by omega) _⟩

set_option maxRecDepth 10000 in
set_option maxHeartbeats 4000000 in
theorem RDo_k2 (b c ph pr si un t long : Int) (w : World) (hr : Am.right ⟨b, c, ph, pr, si, un⟩ = true) (ht : Am.isT t = true) (s0 : decide (t < si) = false) (u0 : decide (t < un) = false) (ho : Lf.ok ph 2 = true) (h6 : wrap64 (t + Am.wait pr) = t + Am.wait pr) :
    Calls Try.prog 19 #[.agg #[.int .i64 b, .int .i64 c, .int .i64 ph, .int .i64 pr, .int .i64 si, .int .i64 un], .int .i64 2, .int .i64 t, .int .i64 long] w fun e w' => e = .returned (.tuple #[.agg (sixV (Am.turn ⟨b, c, ph, pr, si, un⟩ 2 t long)), .int .i64 0]) ∧ Below w.heap.size w w' := by
  have g5 := fun W => Rturn_any b c ph pr si un 2 t long W (fun h => absurd h (by decide)) h6
  obtain ⟨a', ha⟩ : ∃ a', a' = Am.turn ⟨b, c, ph, pr, si, un⟩ 2 t long := ⟨_, rfl⟩
  rw [← ha] at g5 ⊢
  clear ha h6
  have g1 := fun W => RAIs_any b c ph pr si un W
  rw [hr] at g1
  go_enter Try.func19, Try.ntmps19
  go_wp2_with fail
  refine (g1 _).mono ?_
  rintro e w1 ⟨rfl, hB⟩
  have ka := ((Six.new w b c ph pr si un 25).alloc (.cells #[.int .i64 0, .int .i64 0, .int .i64 0, .int .i64 0, .int .i64 0, .int .i64 0] 25)).below hB
  have kz := (Six.new1 w (.cells #[.int .i64 b, .int .i64 c, .int .i64 ph, .int .i64 pr, .int .i64 si, .int .i64 un] 25) 0 0 0 0 0 0 25).below hB
  have HB := Lib.hid (below2 (below_new2 w _ _) hB)
  obtain ⟨tn, hn⟩ := ka.blk
  obtain ⟨tz, hz⟩ := kz.blk
  have Hn := Lib.hid hn
  have Hz := Lib.hid hz
  have c2 := ka.c2
  have c4 := ka.c4
  have c5 := ka.c5
  clear g1 hB hn hz ka kz
  have g3 := fun W => RTime_any t W
  rw [ht] at g3
  go_wp2_with fail
  refine (g3 _).mono ?_
  rintro e w2 ⟨rfl, rfl⟩
  clear g3
  have g4 := fun W => RNext_any ph 2 W
  rw [ho] at g4
  go_wp2_with fail
  refine (g4 _).mono ?_
  rintro e w3 ⟨rfl, rfl⟩
  clear g4
  go_wp2_with (refine wpList_load_row rfl 25 _ rfl w.heap.size rfl tn (sixV ⟨b, c, ph, pr, si, un⟩) (0, 0) _ Hn.out Try.underlying25 rfl (by rfl) ?_)
  refine (g5 _).mono ?_
  rintro e w5 ⟨rfl, hB5⟩
  have HB5 := Lib.hid (below2 HB.out hB5)
  have Hz5 : Hid (w5.heap[w.heap.size + 1]? = some (.cells (sixV ⟨0, 0, 0, 0, 0, 0⟩) tz (0, 0))) := Lib.hid ((hB5.block _ (Array.getElem?_eq_some_iff.1 Hz.out).1).trans Hz.out)
  clear g5 hB5 Hz HB Hn c2 c4 c5
  go_wp2_with (refine wpList_store_row rfl 25 _ _ rfl (w.heap.size + 1) (sixV a') rfl rfl tz _ Hz5.out (by rfl) rfl (six_one _) ?_)
  (try simp only [Exit.inBlock, Exit.then]); refine bodyPost_ret (ret_alarm (a := a') rfl rfl ⟨tz, setRow_heap _ _ _ _ _ _ Hz5.out⟩) rfl ?_
  exact ⟨rfl, below_setRow HB5.out (by omega) _⟩

set_option maxRecDepth 10000 in
set_option maxHeartbeats 4000000 in
theorem RDo_p3 (b c ph pr si un t long : Int) (w : World) (hr : Am.right ⟨b, c, ph, pr, si, un⟩ = true) (ht : Am.isT t = true) (hs : t < si) :
    Calls Try.prog 19 #[.agg #[.int .i64 b, .int .i64 c, .int .i64 ph, .int .i64 pr, .int .i64 si, .int .i64 un], .int .i64 3, .int .i64 t, .int .i64 long] w fun e w' => e = .returned (.tuple #[.agg (sixV Am.zero), .int .i64 62]) ∧ Below w.heap.size w w' := by
  have g1 := fun W => RAIs_any b c ph pr si un W
  rw [hr] at g1
  go_enter Try.func19, Try.ntmps19
  go_wp2_with fail
  refine (g1 _).mono ?_
  rintro e w1 ⟨rfl, hB⟩
  have ka := ((Six.new w b c ph pr si un 25).alloc (.cells #[.int .i64 0, .int .i64 0, .int .i64 0, .int .i64 0, .int .i64 0, .int .i64 0] 25)).below hB
  have kz := (Six.new1 w (.cells #[.int .i64 b, .int .i64 c, .int .i64 ph, .int .i64 pr, .int .i64 si, .int .i64 un] 25) 0 0 0 0 0 0 25).below hB
  have HB := Lib.hid (below2 (below_new2 w _ _) hB)
  obtain ⟨tn, hn⟩ := ka.blk
  obtain ⟨tz, hz⟩ := kz.blk
  have Hn := Lib.hid hn
  have Hz := Lib.hid hz
  have c2 := ka.c2
  have c4 := ka.c4
  have c5 := ka.c5
  clear g1 hB hn hz ka kz
  have g3 := fun W => RTime_any t W
  rw [ht] at g3
  go_wp2_with fail
  refine (g3 _).mono ?_
  rintro e w2 ⟨rfl, rfl⟩
  clear g3
  go_wp2_with (refine wpList_store_row rfl 25 _ _ rfl (w.heap.size + 1) (sixV Am.zero) rfl rfl tz _ Hz.out (by kernel_rfl) rfl (six_one _) ?_)
  (try simp only [Exit.inBlock, Exit.then]); refine bodyPost_ret (ret_alarm (a := Am.zero) rfl rfl ⟨tz, setRow_heap _ _ _ _ _ _ Hz.out⟩) rfl ?_
  exact ⟨rfl, below_setRow HB.out (by omega) _⟩

set_option maxRecDepth 10000 in
set_option maxHeartbeats 4000000 in
theorem RDo_f3 (b c ph pr si un t long : Int) (w : World) (hr : Am.right ⟨b, c, ph, pr, si, un⟩ = true) (ht : Am.isT t = true) (s0 : decide (t < si) = false) (ho : Lf.ok ph 3 = false) :
    Calls Try.prog 19 #[.agg #[.int .i64 b, .int .i64 c, .int .i64 ph, .int .i64 pr, .int .i64 si, .int .i64 un], .int .i64 3, .int .i64 t, .int .i64 long] w fun e w' => e = .returned (.tuple #[.agg (sixV Am.zero), .int .i64 60]) ∧ Below w.heap.size w w' := by
  have g1 := fun W => RAIs_any b c ph pr si un W
  rw [hr] at g1
  go_enter Try.func19, Try.ntmps19
  go_wp2_with fail
  refine (g1 _).mono ?_
  rintro e w1 ⟨rfl, hB⟩
  have ka := ((Six.new w b c ph pr si un 25).alloc (.cells #[.int .i64 0, .int .i64 0, .int .i64 0, .int .i64 0, .int .i64 0, .int .i64 0] 25)).below hB
  have kz := (Six.new1 w (.cells #[.int .i64 b, .int .i64 c, .int .i64 ph, .int .i64 pr, .int .i64 si, .int .i64 un] 25) 0 0 0 0 0 0 25).below hB
  have HB := Lib.hid (below2 (below_new2 w _ _) hB)
  obtain ⟨tn, hn⟩ := ka.blk
  obtain ⟨tz, hz⟩ := kz.blk
  have Hn := Lib.hid hn
  have Hz := Lib.hid hz
  have c2 := ka.c2
  have c4 := ka.c4
  have c5 := ka.c5
  clear g1 hB hn hz ka kz
  have g3 := fun W => RTime_any t W
  rw [ht] at g3
  go_wp2_with fail
  refine (g3 _).mono ?_
  rintro e w2 ⟨rfl, rfl⟩
  clear g3
  have g4 := fun W => RNext_any ph 3 W
  rw [ho] at g4
  go_wp2_with fail
  refine (g4 _).mono ?_
  rintro e w3 ⟨rfl, rfl⟩
  clear g4
  go_wp2_with (refine wpList_store_row rfl 25 _ _ rfl (w.heap.size + 1) (sixV Am.zero) rfl rfl tz _ Hz.out (by kernel_rfl) rfl (six_one _) ?_)
  (try simp only [Exit.inBlock, Exit.then]); refine bodyPost_ret (ret_alarm (a := Am.zero) rfl rfl ⟨tz, setRow_heap _ _ _ _ _ _ Hz.out⟩) rfl ?_
  exact ⟨rfl, below_setRow HB.out (by omega) _⟩

set_option maxRecDepth 10000 in
set_option maxHeartbeats 4000000 in
theorem RDo_k3 (b c ph pr si un t long : Int) (w : World) (hr : Am.right ⟨b, c, ph, pr, si, un⟩ = true) (ht : Am.isT t = true) (s0 : decide (t < si) = false) (ho : Lf.ok ph 3 = true) (h6 : wrap64 (t + Am.wait pr) = t + Am.wait pr) :
    Calls Try.prog 19 #[.agg #[.int .i64 b, .int .i64 c, .int .i64 ph, .int .i64 pr, .int .i64 si, .int .i64 un], .int .i64 3, .int .i64 t, .int .i64 long] w fun e w' => e = .returned (.tuple #[.agg (sixV (Am.turn ⟨b, c, ph, pr, si, un⟩ 3 t long)), .int .i64 0]) ∧ Below w.heap.size w w' := by
  have g5 := fun W => Rturn_any b c ph pr si un 3 t long W (fun h => absurd h (by decide)) h6
  obtain ⟨a', ha⟩ : ∃ a', a' = Am.turn ⟨b, c, ph, pr, si, un⟩ 3 t long := ⟨_, rfl⟩
  rw [← ha] at g5 ⊢
  clear ha h6
  have g1 := fun W => RAIs_any b c ph pr si un W
  rw [hr] at g1
  go_enter Try.func19, Try.ntmps19
  go_wp2_with fail
  refine (g1 _).mono ?_
  rintro e w1 ⟨rfl, hB⟩
  have ka := ((Six.new w b c ph pr si un 25).alloc (.cells #[.int .i64 0, .int .i64 0, .int .i64 0, .int .i64 0, .int .i64 0, .int .i64 0] 25)).below hB
  have kz := (Six.new1 w (.cells #[.int .i64 b, .int .i64 c, .int .i64 ph, .int .i64 pr, .int .i64 si, .int .i64 un] 25) 0 0 0 0 0 0 25).below hB
  have HB := Lib.hid (below2 (below_new2 w _ _) hB)
  obtain ⟨tn, hn⟩ := ka.blk
  obtain ⟨tz, hz⟩ := kz.blk
  have Hn := Lib.hid hn
  have Hz := Lib.hid hz
  have c2 := ka.c2
  have c4 := ka.c4
  have c5 := ka.c5
  clear g1 hB hn hz ka kz
  have g3 := fun W => RTime_any t W
  rw [ht] at g3
  go_wp2_with fail
  refine (g3 _).mono ?_
  rintro e w2 ⟨rfl, rfl⟩
  clear g3
  have g4 := fun W => RNext_any ph 3 W
  rw [ho] at g4
  go_wp2_with fail
  refine (g4 _).mono ?_
  rintro e w3 ⟨rfl, rfl⟩
  clear g4
  go_wp2_with (refine wpList_load_row rfl 25 _ rfl w.heap.size rfl tn (sixV ⟨b, c, ph, pr, si, un⟩) (0, 0) _ Hn.out Try.underlying25 rfl (by rfl) ?_)
  refine (g5 _).mono ?_
  rintro e w5 ⟨rfl, hB5⟩
  have HB5 := Lib.hid (below2 HB.out hB5)
  have Hz5 : Hid (w5.heap[w.heap.size + 1]? = some (.cells (sixV ⟨0, 0, 0, 0, 0, 0⟩) tz (0, 0))) := Lib.hid ((hB5.block _ (Array.getElem?_eq_some_iff.1 Hz.out).1).trans Hz.out)
  clear g5 hB5 Hz HB Hn c2 c4 c5
  go_wp2_with (refine wpList_store_row rfl 25 _ _ rfl (w.heap.size + 1) (sixV a') rfl rfl tz _ Hz5.out (by rfl) rfl (six_one _) ?_)
  (try simp only [Exit.inBlock, Exit.then]); refine bodyPost_ret (ret_alarm (a := a') rfl rfl ⟨tz, setRow_heap _ _ _ _ _ _ Hz5.out⟩) rfl ?_
  exact ⟨rfl, below_setRow HB5.out (by omega) _⟩

set_option maxRecDepth 10000 in
set_option maxHeartbeats 4000000 in
theorem RDo_p4 (b c ph pr si un t long : Int) (w : World) (hr : Am.right ⟨b, c, ph, pr, si, un⟩ = true) (ht : Am.isT t = true) (l1 : 1 ≤ long) (l2 : long ≤ 1000) (hs : t < si) :
    Calls Try.prog 19 #[.agg #[.int .i64 b, .int .i64 c, .int .i64 ph, .int .i64 pr, .int .i64 si, .int .i64 un], .int .i64 4, .int .i64 t, .int .i64 long] w fun e w' => e = .returned (.tuple #[.agg (sixV Am.zero), .int .i64 62]) ∧ Below w.heap.size w w' := by
  have g1 := fun W => RAIs_any b c ph pr si un W
  rw [hr] at g1
  go_enter Try.func19, Try.ntmps19
  go_wp2_with fail
  refine (g1 _).mono ?_
  rintro e w1 ⟨rfl, hB⟩
  have ka := ((Six.new w b c ph pr si un 25).alloc (.cells #[.int .i64 0, .int .i64 0, .int .i64 0, .int .i64 0, .int .i64 0, .int .i64 0] 25)).below hB
  have kz := (Six.new1 w (.cells #[.int .i64 b, .int .i64 c, .int .i64 ph, .int .i64 pr, .int .i64 si, .int .i64 un] 25) 0 0 0 0 0 0 25).below hB
  have HB := Lib.hid (below2 (below_new2 w _ _) hB)
  obtain ⟨tn, hn⟩ := ka.blk
  obtain ⟨tz, hz⟩ := kz.blk
  have Hn := Lib.hid hn
  have Hz := Lib.hid hz
  have c2 := ka.c2
  have c4 := ka.c4
  have c5 := ka.c5
  clear g1 hB hn hz ka kz
  have g3 := fun W => RTime_any t W
  rw [ht] at g3
  go_wp2_with fail
  refine (g3 _).mono ?_
  rintro e w2 ⟨rfl, rfl⟩
  clear g3
  go_wp2_with (refine wpList_store_row rfl 25 _ _ rfl (w.heap.size + 1) (sixV Am.zero) rfl rfl tz _ Hz.out (by kernel_rfl) rfl (six_one _) ?_)
  (try simp only [Exit.inBlock, Exit.then]); refine bodyPost_ret (ret_alarm (a := Am.zero) rfl rfl ⟨tz, setRow_heap _ _ _ _ _ _ Hz.out⟩) rfl ?_
  exact ⟨rfl, below_setRow HB.out (by omega) _⟩

set_option maxRecDepth 10000 in
set_option maxHeartbeats 4000000 in
theorem RDo_f4 (b c ph pr si un t long : Int) (w : World) (hr : Am.right ⟨b, c, ph, pr, si, un⟩ = true) (ht : Am.isT t = true) (l1 : 1 ≤ long) (l2 : long ≤ 1000) (s0 : decide (t < si) = false) (ho : Lf.ok ph 4 = false) :
    Calls Try.prog 19 #[.agg #[.int .i64 b, .int .i64 c, .int .i64 ph, .int .i64 pr, .int .i64 si, .int .i64 un], .int .i64 4, .int .i64 t, .int .i64 long] w fun e w' => e = .returned (.tuple #[.agg (sixV Am.zero), .int .i64 60]) ∧ Below w.heap.size w w' := by
  have g1 := fun W => RAIs_any b c ph pr si un W
  rw [hr] at g1
  go_enter Try.func19, Try.ntmps19
  go_wp2_with fail
  refine (g1 _).mono ?_
  rintro e w1 ⟨rfl, hB⟩
  have ka := ((Six.new w b c ph pr si un 25).alloc (.cells #[.int .i64 0, .int .i64 0, .int .i64 0, .int .i64 0, .int .i64 0, .int .i64 0] 25)).below hB
  have kz := (Six.new1 w (.cells #[.int .i64 b, .int .i64 c, .int .i64 ph, .int .i64 pr, .int .i64 si, .int .i64 un] 25) 0 0 0 0 0 0 25).below hB
  have HB := Lib.hid (below2 (below_new2 w _ _) hB)
  obtain ⟨tn, hn⟩ := ka.blk
  obtain ⟨tz, hz⟩ := kz.blk
  have Hn := Lib.hid hn
  have Hz := Lib.hid hz
  have c2 := ka.c2
  have c4 := ka.c4
  have c5 := ka.c5
  clear g1 hB hn hz ka kz
  have g3 := fun W => RTime_any t W
  rw [ht] at g3
  go_wp2_with fail
  refine (g3 _).mono ?_
  rintro e w2 ⟨rfl, rfl⟩
  clear g3
  have g4 := fun W => RNext_any ph 4 W
  rw [ho] at g4
  go_wp2_with fail
  refine (g4 _).mono ?_
  rintro e w3 ⟨rfl, rfl⟩
  clear g4
  go_wp2_with (refine wpList_store_row rfl 25 _ _ rfl (w.heap.size + 1) (sixV Am.zero) rfl rfl tz _ Hz.out (by kernel_rfl) rfl (six_one _) ?_)
  (try simp only [Exit.inBlock, Exit.then]); refine bodyPost_ret (ret_alarm (a := Am.zero) rfl rfl ⟨tz, setRow_heap _ _ _ _ _ _ Hz.out⟩) rfl ?_
  exact ⟨rfl, below_setRow HB.out (by omega) _⟩

set_option maxRecDepth 10000 in
set_option maxHeartbeats 4000000 in
theorem RDo_k4 (b c ph pr si un t long : Int) (w : World) (hr : Am.right ⟨b, c, ph, pr, si, un⟩ = true) (ht : Am.isT t = true) (l1 : 1 ≤ long) (l2 : long ≤ 1000) (s0 : decide (t < si) = false) (ho : Lf.ok ph 4 = true) (h4 : wrap64 (t + long) = t + long) (h6 : wrap64 (t + Am.wait pr) = t + Am.wait pr) :
    Calls Try.prog 19 #[.agg #[.int .i64 b, .int .i64 c, .int .i64 ph, .int .i64 pr, .int .i64 si, .int .i64 un], .int .i64 4, .int .i64 t, .int .i64 long] w fun e w' => e = .returned (.tuple #[.agg (sixV (Am.turn ⟨b, c, ph, pr, si, un⟩ 4 t long)), .int .i64 0]) ∧ Below w.heap.size w w' := by
  have g5 := fun W => Rturn_any b c ph pr si un 4 t long W (fun _ => h4) h6
  obtain ⟨a', ha⟩ : ∃ a', a' = Am.turn ⟨b, c, ph, pr, si, un⟩ 4 t long := ⟨_, rfl⟩
  rw [← ha] at g5 ⊢
  clear ha h6 h4
  have g1 := fun W => RAIs_any b c ph pr si un W
  rw [hr] at g1
  go_enter Try.func19, Try.ntmps19
  go_wp2_with fail
  refine (g1 _).mono ?_
  rintro e w1 ⟨rfl, hB⟩
  have ka := ((Six.new w b c ph pr si un 25).alloc (.cells #[.int .i64 0, .int .i64 0, .int .i64 0, .int .i64 0, .int .i64 0, .int .i64 0] 25)).below hB
  have kz := (Six.new1 w (.cells #[.int .i64 b, .int .i64 c, .int .i64 ph, .int .i64 pr, .int .i64 si, .int .i64 un] 25) 0 0 0 0 0 0 25).below hB
  have HB := Lib.hid (below2 (below_new2 w _ _) hB)
  obtain ⟨tn, hn⟩ := ka.blk
  obtain ⟨tz, hz⟩ := kz.blk
  have Hn := Lib.hid hn
  have Hz := Lib.hid hz
  have c2 := ka.c2
  have c4 := ka.c4
  have c5 := ka.c5
  clear g1 hB hn hz ka kz
  have g3 := fun W => RTime_any t W
  rw [ht] at g3
  go_wp2_with fail
  refine (g3 _).mono ?_
  rintro e w2 ⟨rfl, rfl⟩
  clear g3
  have g4 := fun W => RNext_any ph 4 W
  rw [ho] at g4
  go_wp2_with fail
  refine (g4 _).mono ?_
  rintro e w3 ⟨rfl, rfl⟩
  clear g4
  go_wp2_with (refine wpList_load_row rfl 25 _ rfl w.heap.size rfl tn (sixV ⟨b, c, ph, pr, si, un⟩) (0, 0) _ Hn.out Try.underlying25 rfl (by rfl) ?_)
  refine (g5 _).mono ?_
  rintro e w5 ⟨rfl, hB5⟩
  have HB5 := Lib.hid (below2 HB.out hB5)
  have Hz5 : Hid (w5.heap[w.heap.size + 1]? = some (.cells (sixV ⟨0, 0, 0, 0, 0, 0⟩) tz (0, 0))) := Lib.hid ((hB5.block _ (Array.getElem?_eq_some_iff.1 Hz.out).1).trans Hz.out)
  clear g5 hB5 Hz HB Hn c2 c4 c5
  go_wp2_with (refine wpList_store_row rfl 25 _ _ rfl (w.heap.size + 1) (sixV a') rfl rfl tz _ Hz5.out (by rfl) rfl (six_one _) ?_)
  (try simp only [Exit.inBlock, Exit.then]); refine bodyPost_ret (ret_alarm (a := a') rfl rfl ⟨tz, setRow_heap _ _ _ _ _ _ Hz5.out⟩) rfl ?_
  exact ⟨rfl, below_setRow HB5.out (by omega) _⟩

set_option maxRecDepth 10000 in
set_option maxHeartbeats 4000000 in
theorem RDo_p6 (b c ph pr si un t long : Int) (w : World) (hr : Am.right ⟨b, c, ph, pr, si, un⟩ = true) (ht : Am.isT t = true) (hs : t < si) :
    Calls Try.prog 19 #[.agg #[.int .i64 b, .int .i64 c, .int .i64 ph, .int .i64 pr, .int .i64 si, .int .i64 un], .int .i64 6, .int .i64 t, .int .i64 long] w fun e w' => e = .returned (.tuple #[.agg (sixV Am.zero), .int .i64 62]) ∧ Below w.heap.size w w' := by
  have g1 := fun W => RAIs_any b c ph pr si un W
  rw [hr] at g1
  go_enter Try.func19, Try.ntmps19
  go_wp2_with fail
  refine (g1 _).mono ?_
  rintro e w1 ⟨rfl, hB⟩
  have ka := ((Six.new w b c ph pr si un 25).alloc (.cells #[.int .i64 0, .int .i64 0, .int .i64 0, .int .i64 0, .int .i64 0, .int .i64 0] 25)).below hB
  have kz := (Six.new1 w (.cells #[.int .i64 b, .int .i64 c, .int .i64 ph, .int .i64 pr, .int .i64 si, .int .i64 un] 25) 0 0 0 0 0 0 25).below hB
  have HB := Lib.hid (below2 (below_new2 w _ _) hB)
  obtain ⟨tn, hn⟩ := ka.blk
  obtain ⟨tz, hz⟩ := kz.blk
  have Hn := Lib.hid hn
  have Hz := Lib.hid hz
  have c2 := ka.c2
  have c4 := ka.c4
  have c5 := ka.c5
  clear g1 hB hn hz ka kz
  have g3 := fun W => RTime_any t W
  rw [ht] at g3
  go_wp2_with fail
  refine (g3 _).mono ?_
  rintro e w2 ⟨rfl, rfl⟩
  clear g3
  go_wp2_with (refine wpList_store_row rfl 25 _ _ rfl (w.heap.size + 1) (sixV Am.zero) rfl rfl tz _ Hz.out (by kernel_rfl) rfl (six_one _) ?_)
  (try simp only [Exit.inBlock, Exit.then]); refine bodyPost_ret (ret_alarm (a := Am.zero) rfl rfl ⟨tz, setRow_heap _ _ _ _ _ _ Hz.out⟩) rfl ?_
  exact ⟨rfl, below_setRow HB.out (by omega) _⟩

set_option maxRecDepth 10000 in
set_option maxHeartbeats 4000000 in
theorem RDo_f6 (b c ph pr si un t long : Int) (w : World) (hr : Am.right ⟨b, c, ph, pr, si, un⟩ = true) (ht : Am.isT t = true) (s0 : decide (t < si) = false) (ho : Lf.ok ph 6 = false) :
    Calls Try.prog 19 #[.agg #[.int .i64 b, .int .i64 c, .int .i64 ph, .int .i64 pr, .int .i64 si, .int .i64 un], .int .i64 6, .int .i64 t, .int .i64 long] w fun e w' => e = .returned (.tuple #[.agg (sixV Am.zero), .int .i64 60]) ∧ Below w.heap.size w w' := by
  have g1 := fun W => RAIs_any b c ph pr si un W
  rw [hr] at g1
  go_enter Try.func19, Try.ntmps19
  go_wp2_with fail
  refine (g1 _).mono ?_
  rintro e w1 ⟨rfl, hB⟩
  have ka := ((Six.new w b c ph pr si un 25).alloc (.cells #[.int .i64 0, .int .i64 0, .int .i64 0, .int .i64 0, .int .i64 0, .int .i64 0] 25)).below hB
  have kz := (Six.new1 w (.cells #[.int .i64 b, .int .i64 c, .int .i64 ph, .int .i64 pr, .int .i64 si, .int .i64 un] 25) 0 0 0 0 0 0 25).below hB
  have HB := Lib.hid (below2 (below_new2 w _ _) hB)
  obtain ⟨tn, hn⟩ := ka.blk
  obtain ⟨tz, hz⟩ := kz.blk
  have Hn := Lib.hid hn
  have Hz := Lib.hid hz
  have c2 := ka.c2
  have c4 := ka.c4
  have c5 := ka.c5
  clear g1 hB hn hz ka kz
  have g3 := fun W => RTime_any t W
  rw [ht] at g3
  go_wp2_with fail
  refine (g3 _).mono ?_
  rintro e w2 ⟨rfl, rfl⟩
  clear g3
  have g4 := fun W => RNext_any ph 6 W
  rw [ho] at g4
  go_wp2_with fail
  refine (g4 _).mono ?_
  rintro e w3 ⟨rfl, rfl⟩
  clear g4
  go_wp2_with (refine wpList_store_row rfl 25 _ _ rfl (w.heap.size + 1) (sixV Am.zero) rfl rfl tz _ Hz.out (by kernel_rfl) rfl (six_one _) ?_)
  (try simp only [Exit.inBlock, Exit.then]); refine bodyPost_ret (ret_alarm (a := Am.zero) rfl rfl ⟨tz, setRow_heap _ _ _ _ _ _ Hz.out⟩) rfl ?_
  exact ⟨rfl, below_setRow HB.out (by omega) _⟩

set_option maxRecDepth 10000 in
set_option maxHeartbeats 4000000 in
theorem RDo_y6 (b c ph pr si un t long : Int) (w : World) (hr : Am.right ⟨b, c, ph, pr, si, un⟩ = true) (ht : Am.isT t = true) (s0 : decide (t < si) = false) (ho : Lf.ok ph 6 = true) (hu : t < un) :
    Calls Try.prog 19 #[.agg #[.int .i64 b, .int .i64 c, .int .i64 ph, .int .i64 pr, .int .i64 si, .int .i64 un], .int .i64 6, .int .i64 t, .int .i64 long] w fun e w' => e = .returned (.tuple #[.agg (sixV Am.zero), .int .i64 61]) ∧ Below w.heap.size w w' := by
  have g1 := fun W => RAIs_any b c ph pr si un W
  rw [hr] at g1
  go_enter Try.func19, Try.ntmps19
  go_wp2_with fail
  refine (g1 _).mono ?_
  rintro e w1 ⟨rfl, hB⟩
  have ka := ((Six.new w b c ph pr si un 25).alloc (.cells #[.int .i64 0, .int .i64 0, .int .i64 0, .int .i64 0, .int .i64 0, .int .i64 0] 25)).below hB
  have kz := (Six.new1 w (.cells #[.int .i64 b, .int .i64 c, .int .i64 ph, .int .i64 pr, .int .i64 si, .int .i64 un] 25) 0 0 0 0 0 0 25).below hB
  have HB := Lib.hid (below2 (below_new2 w _ _) hB)
  obtain ⟨tn, hn⟩ := ka.blk
  obtain ⟨tz, hz⟩ := kz.blk
  have Hn := Lib.hid hn
  have Hz := Lib.hid hz
  have c2 := ka.c2
  have c4 := ka.c4
  have c5 := ka.c5
  clear g1 hB hn hz ka kz
  have g3 := fun W => RTime_any t W
  rw [ht] at g3
  go_wp2_with fail
  refine (g3 _).mono ?_
  rintro e w2 ⟨rfl, rfl⟩
  clear g3
  have g4 := fun W => RNext_any ph 6 W
  rw [ho] at g4
  go_wp2_with fail
  refine (g4 _).mono ?_
  rintro e w3 ⟨rfl, rfl⟩
  clear g4
  go_wp2_with (refine wpList_store_row rfl 25 _ _ rfl (w.heap.size + 1) (sixV Am.zero) rfl rfl tz _ Hz.out (by kernel_rfl) rfl (six_one _) ?_)
  (try simp only [Exit.inBlock, Exit.then]); refine bodyPost_ret (ret_alarm (a := Am.zero) rfl rfl ⟨tz, setRow_heap _ _ _ _ _ _ Hz.out⟩) rfl ?_
  exact ⟨rfl, below_setRow HB.out (by omega) _⟩

set_option maxRecDepth 10000 in
set_option maxHeartbeats 4000000 in
theorem RDo_k6 (b c ph pr si un t long : Int) (w : World) (hr : Am.right ⟨b, c, ph, pr, si, un⟩ = true) (ht : Am.isT t = true) (s0 : decide (t < si) = false) (u0 : decide (t < un) = false) (ho : Lf.ok ph 6 = true) (h6 : wrap64 (t + Am.wait pr) = t + Am.wait pr) :
    Calls Try.prog 19 #[.agg #[.int .i64 b, .int .i64 c, .int .i64 ph, .int .i64 pr, .int .i64 si, .int .i64 un], .int .i64 6, .int .i64 t, .int .i64 long] w fun e w' => e = .returned (.tuple #[.agg (sixV (Am.turn ⟨b, c, ph, pr, si, un⟩ 6 t long)), .int .i64 0]) ∧ Below w.heap.size w w' := by
  have g5 := fun W => Rturn_any b c ph pr si un 6 t long W (fun h => absurd h (by decide)) h6
  obtain ⟨a', ha⟩ : ∃ a', a' = Am.turn ⟨b, c, ph, pr, si, un⟩ 6 t long := ⟨_, rfl⟩
  rw [← ha] at g5 ⊢
  clear ha h6
  have g1 := fun W => RAIs_any b c ph pr si un W
  rw [hr] at g1
  go_enter Try.func19, Try.ntmps19
  go_wp2_with fail
  refine (g1 _).mono ?_
  rintro e w1 ⟨rfl, hB⟩
  have ka := ((Six.new w b c ph pr si un 25).alloc (.cells #[.int .i64 0, .int .i64 0, .int .i64 0, .int .i64 0, .int .i64 0, .int .i64 0] 25)).below hB
  have kz := (Six.new1 w (.cells #[.int .i64 b, .int .i64 c, .int .i64 ph, .int .i64 pr, .int .i64 si, .int .i64 un] 25) 0 0 0 0 0 0 25).below hB
  have HB := Lib.hid (below2 (below_new2 w _ _) hB)
  obtain ⟨tn, hn⟩ := ka.blk
  obtain ⟨tz, hz⟩ := kz.blk
  have Hn := Lib.hid hn
  have Hz := Lib.hid hz
  have c2 := ka.c2
  have c4 := ka.c4
  have c5 := ka.c5
  clear g1 hB hn hz ka kz
  have g3 := fun W => RTime_any t W
  rw [ht] at g3
  go_wp2_with fail
  refine (g3 _).mono ?_
  rintro e w2 ⟨rfl, rfl⟩
  clear g3
  have g4 := fun W => RNext_any ph 6 W
  rw [ho] at g4
  go_wp2_with fail
  refine (g4 _).mono ?_
  rintro e w3 ⟨rfl, rfl⟩
  clear g4
  go_wp2_with (refine wpList_load_row rfl 25 _ rfl w.heap.size rfl tn (sixV ⟨b, c, ph, pr, si, un⟩) (0, 0) _ Hn.out Try.underlying25 rfl (by rfl) ?_)
  refine (g5 _).mono ?_
  rintro e w5 ⟨rfl, hB5⟩
  have HB5 := Lib.hid (below2 HB.out hB5)
  have Hz5 : Hid (w5.heap[w.heap.size + 1]? = some (.cells (sixV ⟨0, 0, 0, 0, 0, 0⟩) tz (0, 0))) := Lib.hid ((hB5.block _ (Array.getElem?_eq_some_iff.1 Hz.out).1).trans Hz.out)
  clear g5 hB5 Hz HB Hn c2 c4 c5
  go_wp2_with (refine wpList_store_row rfl 25 _ _ rfl (w.heap.size + 1) (sixV a') rfl rfl tz _ Hz5.out (by rfl) rfl (six_one _) ?_)
  (try simp only [Exit.inBlock, Exit.then]); refine bodyPost_ret (ret_alarm (a := a') rfl rfl ⟨tz, setRow_heap _ _ _ _ _ _ Hz5.out⟩) rfl ?_
  exact ⟨rfl, below_setRow HB5.out (by omega) _⟩

end Go.Proofs.Ytepcjlnjhbaioaa
