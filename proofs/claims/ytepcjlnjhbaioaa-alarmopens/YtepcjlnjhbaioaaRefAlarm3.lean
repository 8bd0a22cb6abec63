/-
  Layer 6 (alarm): the walk of the reference's Raise.
-/
import Derived.Test.YtepcjlnjhbaioaaRefAlarm2
namespace Go.Proofs.Ytepcjlnjhbaioaa
open Go.RowKit

set_option maxRecDepth 10000 in
set_option maxHeartbeats 4000000 in
theorem RRaise_e1 (b c ph pr si un prio t : Int) (w : World) (hr : Am.right ⟨b, c, ph, pr, si, un⟩ = false) :
    Calls Try.prog 12 #[.agg #[.int .i64 b, .int .i64 c, .int .i64 ph, .int .i64 pr, .int .i64 si, .int .i64 un], .int .i64 prio, .int .i64 t] w fun e w' => e = .returned (.tuple #[.agg (sixV Am.zero), .int .i64 1]) ∧ Below w.heap.size w w' := by
  have g1 := fun W => RAIs_any b c ph pr si un W
  have g2 := fun W => RWait_any prio W
  have g3 := fun W => RTime_any t W
  rw [hr] at g1
  go_enter Try.func12, Try.ntmps12
  go_wp2_with fail
  refine (g1 _).mono ?_
  rintro e w1 ⟨rfl, hB⟩
  have ka := ((Six.new w b c ph pr si un 25).alloc (.cells #[.int .i64 0, .int .i64 0, .int .i64 0, .int .i64 0, .int .i64 0, .int .i64 0] 25)).below hB
  have kz := (Six.new1 w (.cells #[.int .i64 b, .int .i64 c, .int .i64 ph, .int .i64 pr, .int .i64 si, .int .i64 un] 25) 0 0 0 0 0 0 25).below hB
  have HB := Lib.hid (below2 (below_new2 w _ _) hB)
  obtain ⟨tn, hn⟩ := ka.blk
  obtain ⟨tz, hz⟩ := kz.blk
  have Hn := Lib.hid hn
  have Hz := Lib.hid hz
  have c2 := ka.c2
  have c3 := ka.c3
  have c4 := ka.c4
  have c5 := ka.c5
  have f2 := ka.f 2
  have f3 := ka.f 3
  have f4 := ka.f 4
  have f5 := ka.f 5
  clear g1 hB hn hz ka kz
  go_wp2_with (refine wpList_store_row rfl 25 _ _ rfl (w.heap.size + 1) (sixV Am.zero) rfl rfl tz _ Hz.out (by kernel_rfl) rfl (six_one _) ?_)
  (try simp only [Exit.inBlock, Exit.then]); refine bodyPost_ret (ret_alarm (a := Am.zero) rfl rfl ⟨tz, setRow_heap _ _ _ _ _ _ Hz.out⟩) rfl ?_
  exact ⟨rfl, below_setRow HB.out (by omega) _⟩

set_option maxRecDepth 10000 in
set_option maxHeartbeats 4000000 in
theorem RRaise_e2 (b c ph pr si un prio t : Int) (w : World) (hr : Am.right ⟨b, c, ph, pr, si, un⟩ = true) (hw : Am.wait prio = 0) :
    Calls Try.prog 12 #[.agg #[.int .i64 b, .int .i64 c, .int .i64 ph, .int .i64 pr, .int .i64 si, .int .i64 un], .int .i64 prio, .int .i64 t] w fun e w' => e = .returned (.tuple #[.agg (sixV Am.zero), .int .i64 1]) ∧ Below w.heap.size w w' := by
  have g1 := fun W => RAIs_any b c ph pr si un W
  have g2 := fun W => RWait_any prio W
  have g3 := fun W => RTime_any t W
  rw [hr] at g1
  rw [hw] at g2
  go_enter Try.func12, Try.ntmps12
  go_wp2_with fail
  refine (g1 _).mono ?_
  rintro e w1 ⟨rfl, hB⟩
  have ka := ((Six.new w b c ph pr si un 25).alloc (.cells #[.int .i64 0, .int .i64 0, .int .i64 0, .int .i64 0, .int .i64 0, .int .i64 0] 25)).below hB
  have kz := (Six.new1 w (.cells #[.int .i64 b, .int .i64 c, .int .i64 ph, .int .i64 pr, .int .i64 si, .int .i64 un] 25) 0 0 0 0 0 0 25).below hB
  have HB := Lib.hid (below2 (below_new2 w _ _) hB)
  obtain ⟨tn, hn⟩ := ka.blk
  obtain ⟨tz, hz⟩ := kz.blk
  have Hn := Lib.hid hn
  have Hz := Lib.hid hz
  have c2 := ka.c2
  have c3 := ka.c3
  have c4 := ka.c4
  have c5 := ka.c5
  have f2 := ka.f 2
  have f3 := ka.f 3
  have f4 := ka.f 4
  have f5 := ka.f 5
  clear g1 hB hn hz ka kz
  go_wp2_with fail
  refine (g2 _).mono ?_
  rintro e w2 ⟨rfl, rfl⟩
  go_wp2_with (refine wpList_store_row rfl 25 _ _ rfl (w.heap.size + 1) (sixV Am.zero) rfl rfl tz _ Hz.out (by kernel_rfl) rfl (six_one _) ?_)
  (try simp only [Exit.inBlock, Exit.then]); refine bodyPost_ret (ret_alarm (a := Am.zero) rfl rfl ⟨tz, setRow_heap _ _ _ _ _ _ Hz.out⟩) rfl ?_
  exact ⟨rfl, below_setRow HB.out (by omega) _⟩

set_option maxRecDepth 10000 in
set_option maxHeartbeats 4000000 in
theorem RRaise_e3 (b c ph pr si un prio t : Int) (w : World) (hr : Am.right ⟨b, c, ph, pr, si, un⟩ = true) (x0 : (Am.wait prio == 0) = false) (ht : Am.isT t = false) :
    Calls Try.prog 12 #[.agg #[.int .i64 b, .int .i64 c, .int .i64 ph, .int .i64 pr, .int .i64 si, .int .i64 un], .int .i64 prio, .int .i64 t] w fun e w' => e = .returned (.tuple #[.agg (sixV Am.zero), .int .i64 1]) ∧ Below w.heap.size w w' := by
  have g1 := fun W => RAIs_any b c ph pr si un W
  have g2 := fun W => RWait_any prio W
  have g3 := fun W => RTime_any t W
  rw [hr] at g1
  rw [ht] at g3
  go_enter Try.func12, Try.ntmps12
  go_wp2_with fail
  refine (g1 _).mono ?_
  rintro e w1 ⟨rfl, hB⟩
  have ka := ((Six.new w b c ph pr si un 25).alloc (.cells #[.int .i64 0, .int .i64 0, .int .i64 0, .int .i64 0, .int .i64 0, .int .i64 0] 25)).below hB
  have kz := (Six.new1 w (.cells #[.int .i64 b, .int .i64 c, .int .i64 ph, .int .i64 pr, .int .i64 si, .int .i64 un] 25) 0 0 0 0 0 0 25).below hB
  have HB := Lib.hid (below2 (below_new2 w _ _) hB)
  obtain ⟨tn, hn⟩ := ka.blk
  obtain ⟨tz, hz⟩ := kz.blk
  have Hn := Lib.hid hn
  have Hz := Lib.hid hz
  have c2 := ka.c2
  have c3 := ka.c3
  have c4 := ka.c4
  have c5 := ka.c5
  have f2 := ka.f 2
  have f3 := ka.f 3
  have f4 := ka.f 4
  have f5 := ka.f 5
  clear g1 hB hn hz ka kz
  go_wp2_with fail
  refine (g2 _).mono ?_
  rintro e w2 ⟨rfl, rfl⟩
  go_wp2_with fail
  refine (g3 _).mono ?_
  rintro e w3 ⟨rfl, rfl⟩
  go_wp2_with (refine wpList_store_row rfl 25 _ _ rfl (w.heap.size + 1) (sixV Am.zero) rfl rfl tz _ Hz.out (by kernel_rfl) rfl (six_one _) ?_)
  (try simp only [Exit.inBlock, Exit.then]); refine bodyPost_ret (ret_alarm (a := Am.zero) rfl rfl ⟨tz, setRow_heap _ _ _ _ _ _ Hz.out⟩) rfl ?_
  exact ⟨rfl, below_setRow HB.out (by omega) _⟩

set_option maxRecDepth 10000 in
set_option maxHeartbeats 4000000 in
theorem RRaise_e4 (b c ph pr si un prio t : Int) (w : World) (hr : Am.right ⟨b, c, ph, pr, si, un⟩ = true) (x0 : (Am.wait prio == 0) = false) (ht : Am.isT t = true) (hs : t < si) :
    Calls Try.prog 12 #[.agg #[.int .i64 b, .int .i64 c, .int .i64 ph, .int .i64 pr, .int .i64 si, .int .i64 un], .int .i64 prio, .int .i64 t] w fun e w' => e = .returned (.tuple #[.agg (sixV Am.zero), .int .i64 62]) ∧ Below w.heap.size w w' := by
  have g1 := fun W => RAIs_any b c ph pr si un W
  have g2 := fun W => RWait_any prio W
  have g3 := fun W => RTime_any t W
  rw [hr] at g1
  rw [ht] at g3
  go_enter Try.func12, Try.ntmps12
  go_wp2_with fail
  refine (g1 _).mono ?_
  rintro e w1 ⟨rfl, hB⟩
  have ka := ((Six.new w b c ph pr si un 25).alloc (.cells #[.int .i64 0, .int .i64 0, .int .i64 0, .int .i64 0, .int .i64 0, .int .i64 0] 25)).below hB
  have kz := (Six.new1 w (.cells #[.int .i64 b, .int .i64 c, .int .i64 ph, .int .i64 pr, .int .i64 si, .int .i64 un] 25) 0 0 0 0 0 0 25).below hB
  have HB := Lib.hid (below2 (below_new2 w _ _) hB)
  obtain ⟨tn, hn⟩ := ka.blk
  obtain ⟨tz, hz⟩ := kz.blk
  have Hn := Lib.hid hn
  have Hz := Lib.hid hz
  have c2 := ka.c2
  have c3 := ka.c3
  have c4 := ka.c4
  have c5 := ka.c5
  have f2 := ka.f 2
  have f3 := ka.f 3
  have f4 := ka.f 4
  have f5 := ka.f 5
  clear g1 hB hn hz ka kz
  go_wp2_with fail
  refine (g2 _).mono ?_
  rintro e w2 ⟨rfl, rfl⟩
  go_wp2_with fail
  refine (g3 _).mono ?_
  rintro e w3 ⟨rfl, rfl⟩
  go_wp2_with (refine wpList_store_row rfl 25 _ _ rfl (w.heap.size + 1) (sixV Am.zero) rfl rfl tz _ Hz.out (by kernel_rfl) rfl (six_one _) ?_)
  (try simp only [Exit.inBlock, Exit.then]); refine bodyPost_ret (ret_alarm (a := Am.zero) rfl rfl ⟨tz, setRow_heap _ _ _ _ _ _ Hz.out⟩) rfl ?_
  exact ⟨rfl, below_setRow HB.out (by omega) _⟩

set_option maxRecDepth 10000 in
set_option maxHeartbeats 4000000 in
theorem RRaise_ka (b c ph pr si un prio t : Int) (w : World) (hr : Am.right ⟨b, c, ph, pr, si, un⟩ = true) (x0 : (Am.wait prio == 0) = false) (ht : Am.isT t = true) (s0 : decide (t < si) = false) (m0 : pr ≤ prio) (h3 : (ph == 3) = false) (h1 : (ph == 1) = false) :
    Calls Try.prog 12 #[.agg #[.int .i64 b, .int .i64 c, .int .i64 ph, .int .i64 pr, .int .i64 si, .int .i64 un], .int .i64 prio, .int .i64 t] w fun e w' => e = .returned (.tuple #[.agg (sixV ⟨b, c, ph, pr, si, un⟩), .int .i64 0]) ∧ Below w.heap.size w w' := by
  have g1 := fun W => RAIs_any b c ph pr si un W
  have g2 := fun W => RWait_any prio W
  have g3 := fun W => RTime_any t W
  rw [hr] at g1
  rw [ht] at g3
  go_enter Try.func12, Try.ntmps12
  go_wp2_with fail
  refine (g1 _).mono ?_
  rintro e w1 ⟨rfl, hB⟩
  have ka := ((Six.new w b c ph pr si un 25).alloc (.cells #[.int .i64 0, .int .i64 0, .int .i64 0, .int .i64 0, .int .i64 0, .int .i64 0] 25)).below hB
  have kz := (Six.new1 w (.cells #[.int .i64 b, .int .i64 c, .int .i64 ph, .int .i64 pr, .int .i64 si, .int .i64 un] 25) 0 0 0 0 0 0 25).below hB
  have HB := Lib.hid (below2 (below_new2 w _ _) hB)
  obtain ⟨tn, hn⟩ := ka.blk
  obtain ⟨tz, hz⟩ := kz.blk
  have Hn := Lib.hid hn
  have Hz := Lib.hid hz
  have c2 := ka.c2
  have c3 := ka.c3
  have c4 := ka.c4
  have c5 := ka.c5
  have f2 := ka.f 2
  have f3 := ka.f 3
  have f4 := ka.f 4
  have f5 := ka.f 5
  clear g1 hB hn hz ka kz
  go_wp2_with fail
  refine (g2 _).mono ?_
  rintro e w2 ⟨rfl, rfl⟩
  go_wp2_with fail
  refine (g3 _).mono ?_
  rintro e w3 ⟨rfl, rfl⟩
  have HL : Hid ((w3.setCell ⟨w.heap.size, 3, none⟩ (.int .i64 pr)).heap[w.heap.size]? = some (.cells (sixV ⟨b, c, ph, pr, si, un⟩) tn (0, 0))) := Lib.hid (heap_setCell_same _ _ 3 _ _ _ (Hn.out))
  have HS : Hid ((w3.setCell ⟨w.heap.size, 3, none⟩ (.int .i64 pr)).heap[w.heap.size + 1]? = some (.cells (sixV ⟨0, 0, 0, 0, 0, 0⟩) tz (0, 0))) := Lib.hid ((heap_setCell_other _ _ _ _ (by show w.heap.size + 1 ≠ w.heap.size; omega)).trans (Hz.out))
  have HBf : Hid (Below w.heap.size w (w3.setCell ⟨w.heap.size, 3, none⟩ (.int .i64 pr))) := Lib.hid ((HB.out.setCell (Nat.le_refl _) _))
  clear g3
  go_wp2_with (first
    | (refine wpList_load_row rfl 25 _ rfl w.heap.size rfl tn (sixV ⟨b, c, ph, pr, si, un⟩) (0, 0) _ HL.out Try.underlying25 rfl (by rfl) ?_)
    | (refine wpList_store_row rfl 25 _ _ rfl (w.heap.size + 1) (sixV ⟨b, c, ph, pr, si, un⟩) rfl rfl tz _ HS.out (by rfl) rfl (six_one _) ?_))
  (try simp only [Exit.inBlock, Exit.then]); refine bodyPost_ret (ret_alarm (a := ⟨b, c, ph, pr, si, un⟩) rfl rfl ⟨tz, setRow_heap _ _ _ _ _ _ HS.out⟩) rfl ?_
  exact ⟨rfl, below_setRow HBf.out (by omega) _⟩

set_option maxRecDepth 10000 in
set_option maxHeartbeats 4000000 in
theorem RRaise_kb (b c ph pr si un prio t : Int) (w : World) (hr : Am.right ⟨b, c, ph, pr, si, un⟩ = true) (x0 : (Am.wait prio == 0) = false) (ht : Am.isT t = true) (s0 : decide (t < si) = false) (m0 : prio < pr) (h3 : (ph == 3) = false) (h1 : (ph == 1) = false) :
    Calls Try.prog 12 #[.agg #[.int .i64 b, .int .i64 c, .int .i64 ph, .int .i64 pr, .int .i64 si, .int .i64 un], .int .i64 prio, .int .i64 t] w fun e w' => e = .returned (.tuple #[.agg (sixV ⟨b, c, ph, prio, si, un⟩), .int .i64 0]) ∧ Below w.heap.size w w' := by
  have g1 := fun W => RAIs_any b c ph pr si un W
  have g2 := fun W => RWait_any prio W
  have g3 := fun W => RTime_any t W
  rw [hr] at g1
  rw [ht] at g3
  go_enter Try.func12, Try.ntmps12
  go_wp2_with fail
  refine (g1 _).mono ?_
  rintro e w1 ⟨rfl, hB⟩
  have ka := ((Six.new w b c ph pr si un 25).alloc (.cells #[.int .i64 0, .int .i64 0, .int .i64 0, .int .i64 0, .int .i64 0, .int .i64 0] 25)).below hB
  have kz := (Six.new1 w (.cells #[.int .i64 b, .int .i64 c, .int .i64 ph, .int .i64 pr, .int .i64 si, .int .i64 un] 25) 0 0 0 0 0 0 25).below hB
  have HB := Lib.hid (below2 (below_new2 w _ _) hB)
  obtain ⟨tn, hn⟩ := ka.blk
  obtain ⟨tz, hz⟩ := kz.blk
  have Hn := Lib.hid hn
  have Hz := Lib.hid hz
  have c2 := ka.c2
  have c3 := ka.c3
  have c4 := ka.c4
  have c5 := ka.c5
  have f2 := ka.f 2
  have f3 := ka.f 3
  have f4 := ka.f 4
  have f5 := ka.f 5
  clear g1 hB hn hz ka kz
  go_wp2_with fail
  refine (g2 _).mono ?_
  rintro e w2 ⟨rfl, rfl⟩
  go_wp2_with fail
  refine (g3 _).mono ?_
  rintro e w3 ⟨rfl, rfl⟩
  have HL : Hid ((w3.setCell ⟨w.heap.size, 3, none⟩ (.int .i64 prio)).heap[w.heap.size]? = some (.cells (sixV ⟨b, c, ph, prio, si, un⟩) tn (0, 0))) := Lib.hid (heap_setCell_same _ _ 3 _ _ _ (Hn.out))
  have HS : Hid ((w3.setCell ⟨w.heap.size, 3, none⟩ (.int .i64 prio)).heap[w.heap.size + 1]? = some (.cells (sixV ⟨0, 0, 0, 0, 0, 0⟩) tz (0, 0))) := Lib.hid ((heap_setCell_other _ _ _ _ (by show w.heap.size + 1 ≠ w.heap.size; omega)).trans (Hz.out))
  have HBf : Hid (Below w.heap.size w (w3.setCell ⟨w.heap.size, 3, none⟩ (.int .i64 prio))) := Lib.hid ((HB.out.setCell (Nat.le_refl _) _))
  clear g3
  go_wp2_with (first
    | (refine wpList_load_row rfl 25 _ rfl w.heap.size rfl tn (sixV ⟨b, c, ph, prio, si, un⟩) (0, 0) _ HL.out Try.underlying25 rfl (by rfl) ?_)
    | (refine wpList_store_row rfl 25 _ _ rfl (w.heap.size + 1) (sixV ⟨b, c, ph, prio, si, un⟩) rfl rfl tz _ HS.out (by rfl) rfl (six_one _) ?_))
  (try simp only [Exit.inBlock, Exit.then]); refine bodyPost_ret (ret_alarm (a := ⟨b, c, ph, prio, si, un⟩) rfl rfl ⟨tz, setRow_heap _ _ _ _ _ _ HS.out⟩) rfl ?_
  exact ⟨rfl, below_setRow HBf.out (by omega) _⟩

set_option maxRecDepth 10000 in
set_option maxHeartbeats 4000000 in
theorem RRaise_s (b c pr si un prio t : Int) (w : World) (hr : Am.right ⟨b, c, 1, pr, si, un⟩ = true) (x0 : (Am.wait prio == 0) = false) (ht : Am.isT t = true) (s0 : decide (t < si) = false) (m0 : pr ≤ prio) :
    Calls Try.prog 12 #[.agg #[.int .i64 b, .int .i64 c, .int .i64 1, .int .i64 pr, .int .i64 si, .int .i64 un], .int .i64 prio, .int .i64 t] w fun e w' => e = .returned (.tuple #[.agg (sixV ⟨b, c, 1, pr, si, un⟩), .int .i64 0]) ∧ Below w.heap.size w w' := by
  have g1 := fun W => RAIs_any b c 1 pr si un W
  have g2 := fun W => RWait_any prio W
  have g3 := fun W => RTime_any t W
  rw [hr] at g1
  rw [ht] at g3
  go_enter Try.func12, Try.ntmps12
  go_wp2_with fail
  refine (g1 _).mono ?_
  rintro e w1 ⟨rfl, hB⟩
  have ka := ((Six.new w b c 1 pr si un 25).alloc (.cells #[.int .i64 0, .int .i64 0, .int .i64 0, .int .i64 0, .int .i64 0, .int .i64 0] 25)).below hB
  have kz := (Six.new1 w (.cells #[.int .i64 b, .int .i64 c, .int .i64 1, .int .i64 pr, .int .i64 si, .int .i64 un] 25) 0 0 0 0 0 0 25).below hB
  have HB := Lib.hid (below2 (below_new2 w _ _) hB)
  obtain ⟨tn, hn⟩ := ka.blk
  obtain ⟨tz, hz⟩ := kz.blk
  have Hn := Lib.hid hn
  have Hz := Lib.hid hz
  have c2 := ka.c2
  have c3 := ka.c3
  have c4 := ka.c4
  have c5 := ka.c5
  have f2 := ka.f 2
  have f3 := ka.f 3
  have f4 := ka.f 4
  have f5 := ka.f 5
  clear g1 hB hn hz ka kz
  go_wp2_with fail
  refine (g2 _).mono ?_
  rintro e w2 ⟨rfl, rfl⟩
  go_wp2_with fail
  refine (g3 _).mono ?_
  rintro e w3 ⟨rfl, rfl⟩
  have HL : Hid ((w3.setCell ⟨w.heap.size, 3, none⟩ (.int .i64 pr)).heap[w.heap.size]? = some (.cells (sixV ⟨b, c, 1, pr, si, un⟩) tn (0, 0))) := Lib.hid (heap_setCell_same _ _ 3 _ _ _ (Hn.out))
  have HS : Hid ((w3.setCell ⟨w.heap.size, 3, none⟩ (.int .i64 pr)).heap[w.heap.size + 1]? = some (.cells (sixV ⟨0, 0, 0, 0, 0, 0⟩) tz (0, 0))) := Lib.hid ((heap_setCell_other _ _ _ _ (by show w.heap.size + 1 ≠ w.heap.size; omega)).trans (Hz.out))
  have HBf : Hid (Below w.heap.size w (w3.setCell ⟨w.heap.size, 3, none⟩ (.int .i64 pr))) := Lib.hid ((HB.out.setCell (Nat.le_refl _) _))
  clear g3
  go_wp2_with (first
    | (refine wpList_load_row rfl 25 _ rfl w.heap.size rfl tn (sixV ⟨b, c, 1, pr, si, un⟩) (0, 0) _ HL.out Try.underlying25 rfl (by rfl) ?_)
    | (refine wpList_store_row rfl 25 _ _ rfl (w.heap.size + 1) (sixV ⟨b, c, 1, pr, si, un⟩) rfl rfl tz _ HS.out (by rfl) rfl (six_one _) ?_))
  (try simp only [Exit.inBlock, Exit.then]); refine bodyPost_ret (ret_alarm (a := ⟨b, c, 1, pr, si, un⟩) rfl rfl ⟨tz, setRow_heap _ _ _ _ _ _ HS.out⟩) rfl ?_
  exact ⟨rfl, below_setRow HBf.out (by omega) _⟩

end Go.Proofs.Ytepcjlnjhbaioaa
