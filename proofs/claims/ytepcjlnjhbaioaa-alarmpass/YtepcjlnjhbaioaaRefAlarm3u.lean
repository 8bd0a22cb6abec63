/-
  Layer 6 (alarm): the walk of the reference's Raise.
-/
import Derived.Test.YtepcjlnjhbaioaaRefAlarm2
namespace Go.Proofs.Ytepcjlnjhbaioaa
open Go.RowKit

set_option linter.unusedSimpArgs false in
set_option maxRecDepth 10000 in
set_option maxHeartbeats 4000000 in
theorem RRaise_u (b c pr si un prio t : Int) (w : World) (hr : Am.right ⟨b, c, 1, pr, si, un⟩ = true) (x0 : (Am.wait prio == 0) = false) (ht : Am.isT t = true) (s0 : decide (t < si) = false) (m0 : prio < pr) (Iw2 : Hid (IntKind.i64.wrap (t + Am.wait prio) = t + Am.wait prio)) (u0 : un ≤ t + Am.wait prio) (u1 : si ≤ un) :
    Calls Try.prog 12 #[.agg #[.int .i64 b, .int .i64 c, .int .i64 1, .int .i64 pr, .int .i64 si, .int .i64 un], .int .i64 prio, .int .i64 t] w fun e w' => e = .returned (.tuple #[.agg (sixV ⟨b, c, 1, prio, si, un⟩), .int .i64 0]) ∧ Below w.heap.size w w' := by
  have g1 := fun W => RAIs_any b c 1 pr si un W
  have g2 := fun W => RWait_any prio W
  have g3 := fun W => RTime_any t W
  have m1 : (prio != pr) = true := by rw [bne_iff_ne]; omega
  have m2 : (prio == pr) = false := by rw [beq_eq_false_iff_ne]; omega
  rw [hr] at g1
  rw [ht] at g3
  go_enter Try.func12, Try.ntmps12
  go_wp2_with fail
  refine (g1 _).mono ?_
  rintro e w1 ⟨rfl, hB⟩
  have ka := ((Six.new w b c 1 pr si un 25).alloc (.cells #[.int .i64 0, .int .i64 0, .int .i64 0, .int .i64 0, .int .i64 0, .int .i64 0] 25)).below hB
  have kz := (Six.new1 w (.cells #[.int .i64 b, .int .i64 c, .int .i64 1, .int .i64 pr, .int .i64 si, .int .i64 un] 25) 0 0 0 0 0 0 25).below hB
  have HB := Lib.hid (below2 (below_new2 w _ _) hB)
  obtain ⟨tn, hn⟩ := ka.blk
  obtain ⟨tz, hz⟩ := kz.blk
  have Hn := Lib.hid hn
  have Hz := Lib.hid hz
  have c2 := ka.c2
  have c3 := ka.c3
  have c4 := ka.c4
  have c5 := ka.c5
  have f2 := ka.f 2
  have f3 := ka.f 3
  have f4 := ka.f 4
  have f5 := ka.f 5
  clear g1 hB hn hz ka kz
  go_wp2_with fail
  refine (g2 _).mono ?_
  rintro e w2 ⟨rfl, rfl⟩
  go_wp2_with fail
  refine (g3 _).mono ?_
  rintro e w3 ⟨rfl, rfl⟩
  obtain ⟨W, hW⟩ : ∃ W, W = (w3.setCell ⟨w.heap.size, 3, none⟩ (.int .i64 prio)) := ⟨_, rfl⟩
  have k0 : Six W w.heap.size ⟨b, c, 1, prio, si, un⟩ := ⟨tn, by rw [hW]; exact heap_setCell_same _ _ 3 _ _ _ Hn.out⟩
  have Hz2 : Hid (W.heap[w.heap.size + 1]? = some (.cells (sixV ⟨0, 0, 0, 0, 0, 0⟩) tz (0, 0))) := Lib.hid (by rw [hW]; exact (heap_setCell_other _ _ _ _ (by show w.heap.size + 1 ≠ w.heap.size; omega)).trans Hz.out)
  have HB2 : Hid (Below w.heap.size w W) := Lib.hid (by rw [hW]; exact HB.out.setCell (Nat.le_refl _) _)
  have q2 : (w3.setCell ⟨w.heap.size, 3, none⟩ (.int .i64 prio)).cell? ⟨w.heap.size, 2, none⟩ = some (.int .i64 1) := by rw [← hW]; exact k0.c2
  have q3 : (w3.setCell ⟨w.heap.size, 3, none⟩ (.int .i64 prio)).cell? ⟨w.heap.size, 3, none⟩ = some (.int .i64 prio) := by rw [← hW]; exact k0.c3
  have HW := Lib.hid hW
  clear g3 hW
  go_wp2_with fail
  rw [← HW.out]
  clear q2 q3 HW c2 c3 c4 c5 f2 f3 f4 f5 Hn Hz HB
  obtain ⟨w4, hw4⟩ : ∃ V, V = W.drew := ⟨_, rfl⟩
  have k4 : Six w4 w.heap.size ⟨b, c, 1, prio, si, un⟩ := by rw [hw4]; exact ⟨k0.blk⟩
  have Hz4 : Hid (w4.heap[w.heap.size + 1]? = some (.cells (sixV ⟨0, 0, 0, 0, 0, 0⟩) tz (0, 0))) := Lib.hid (by rw [hw4]; exact Hz2.out)
  have HB4 : Hid (Below w.heap.size w w4) := Lib.hid (by rw [hw4]; have h := HB2.out; exact ⟨h.os, h.tape, h.output, h.size, h.block⟩)
  refine wp_region_still_tail 12 (by kernel_rfl) (by kernel_rfl) ?_
  change wpStill _ _ W.drew (fun a' => wpList _ _ _ _ a' W.drew) _ _
  rw [← hw4]
  clear hw4 k0 Hz2 HB2
  have c3 := k4.c3
  have c4 := k4.c4
  have c5 := k4.c5
  have f5 := k4.f 5
  obtain ⟨tn, hn⟩ := k4.blk
  have Hn := Lib.hid hn
  clear k4 hn
  simp only [List.take_succ_cons, List.take_zero, List.drop_succ_cons, List.drop_zero]
  still_step
  still_step
  still_step
  still_step
  still_step
  still_step
  still_step
  still_call (g2 _)
  still_step
  rw [Iw2.out]
  still_step
  still_step
  still_step
  refine wpStill_nil ?_
  have mx : (if si < un then un else si) = un := by split <;> omega
  have mn : (if un < t + Am.wait prio then un else t + Am.wait prio) = un := by split <;> omega
  have mn2 : (if t + Am.wait prio < un then t + Am.wait prio else un) = un := by split <;> omega
  simp only [mn, mn2, mx]
  clear mx mn mn2
  have HL : Hid ((w4.setCell ⟨w.heap.size, 5, none⟩ (.int .i64 un)).heap[w.heap.size]? = some (.cells (sixV ⟨b, c, 1, prio, si, un⟩) tn (0, 0))) := Lib.hid (heap_setCell_same _ _ 5 _ _ _ Hn.out)
  have HS : Hid ((w4.setCell ⟨w.heap.size, 5, none⟩ (.int .i64 un)).heap[w.heap.size + 1]? = some (.cells (sixV ⟨0, 0, 0, 0, 0, 0⟩) tz (0, 0))) := Lib.hid ((heap_setCell_other _ _ _ _ (by show w.heap.size + 1 ≠ w.heap.size; omega)).trans Hz4.out)
  have HBf : Hid (Below w.heap.size w (w4.setCell ⟨w.heap.size, 5, none⟩ (.int .i64 un))) := Lib.hid (HB4.out.setCell (Nat.le_refl _) _)
  go_wp2_with (first
    | (refine wpList_load_row rfl 25 _ rfl w.heap.size rfl tn (sixV ⟨b, c, 1, prio, si, un⟩) (0, 0) _ HL.out Try.underlying25 rfl (by rfl) ?_)
    | (refine wpList_store_row rfl 25 _ _ rfl (w.heap.size + 1) (sixV ⟨b, c, 1, prio, si, un⟩) rfl rfl tz _ HS.out (by rfl) rfl (six_one _) ?_))
  (try simp only [Exit.inBlock, Exit.then]); refine bodyPost_ret (ret_alarm (a := ⟨b, c, 1, prio, si, un⟩) rfl rfl ⟨tz, setRow_heap _ _ _ _ _ _ HS.out⟩) rfl ?_
  exact ⟨rfl, below_setRow HBf.out (by omega) _⟩

set_option linter.unusedSimpArgs false in
set_option maxRecDepth 10000 in
set_option maxHeartbeats 4000000 in
theorem RRaise_v (b c pr si un prio t : Int) (w : World) (hr : Am.right ⟨b, c, 1, pr, si, un⟩ = true) (x0 : (Am.wait prio == 0) = false) (ht : Am.isT t = true) (s0 : decide (t < si) = false) (m0 : prio < pr) (Iw2 : Hid (IntKind.i64.wrap (t + Am.wait prio) = t + Am.wait prio)) (u0 : t + Am.wait prio < un) (u1 : si ≤ t + Am.wait prio) :
    Calls Try.prog 12 #[.agg #[.int .i64 b, .int .i64 c, .int .i64 1, .int .i64 pr, .int .i64 si, .int .i64 un], .int .i64 prio, .int .i64 t] w fun e w' => e = .returned (.tuple #[.agg (sixV ⟨b, c, 1, prio, si, (t + Am.wait prio)⟩), .int .i64 0]) ∧ Below w.heap.size w w' := by
  have g1 := fun W => RAIs_any b c 1 pr si un W
  have g2 := fun W => RWait_any prio W
  have g3 := fun W => RTime_any t W
  have m1 : (prio != pr) = true := by rw [bne_iff_ne]; omega
  have m2 : (prio == pr) = false := by rw [beq_eq_false_iff_ne]; omega
  rw [hr] at g1
  rw [ht] at g3
  go_enter Try.func12, Try.ntmps12
  go_wp2_with fail
  refine (g1 _).mono ?_
  rintro e w1 ⟨rfl, hB⟩
  have ka := ((Six.new w b c 1 pr si un 25).alloc (.cells #[.int .i64 0, .int .i64 0, .int .i64 0, .int .i64 0, .int .i64 0, .int .i64 0] 25)).below hB
  have kz := (Six.new1 w (.cells #[.int .i64 b, .int .i64 c, .int .i64 1, .int .i64 pr, .int .i64 si, .int .i64 un] 25) 0 0 0 0 0 0 25).below hB
  have HB := Lib.hid (below2 (below_new2 w _ _) hB)
  obtain ⟨tn, hn⟩ := ka.blk
  obtain ⟨tz, hz⟩ := kz.blk
  have Hn := Lib.hid hn
  have Hz := Lib.hid hz
  have c2 := ka.c2
  have c3 := ka.c3
  have c4 := ka.c4
  have c5 := ka.c5
  have f2 := ka.f 2
  have f3 := ka.f 3
  have f4 := ka.f 4
  have f5 := ka.f 5
  clear g1 hB hn hz ka kz
  go_wp2_with fail
  refine (g2 _).mono ?_
  rintro e w2 ⟨rfl, rfl⟩
  go_wp2_with fail
  refine (g3 _).mono ?_
  rintro e w3 ⟨rfl, rfl⟩
  obtain ⟨W, hW⟩ : ∃ W, W = (w3.setCell ⟨w.heap.size, 3, none⟩ (.int .i64 prio)) := ⟨_, rfl⟩
  have k0 : Six W w.heap.size ⟨b, c, 1, prio, si, un⟩ := ⟨tn, by rw [hW]; exact heap_setCell_same _ _ 3 _ _ _ Hn.out⟩
  have Hz2 : Hid (W.heap[w.heap.size + 1]? = some (.cells (sixV ⟨0, 0, 0, 0, 0, 0⟩) tz (0, 0))) := Lib.hid (by rw [hW]; exact (heap_setCell_other _ _ _ _ (by show w.heap.size + 1 ≠ w.heap.size; omega)).trans Hz.out)
  have HB2 : Hid (Below w.heap.size w W) := Lib.hid (by rw [hW]; exact HB.out.setCell (Nat.le_refl _) _)
  have q2 : (w3.setCell ⟨w.heap.size, 3, none⟩ (.int .i64 prio)).cell? ⟨w.heap.size, 2, none⟩ = some (.int .i64 1) := by rw [← hW]; exact k0.c2
  have q3 : (w3.setCell ⟨w.heap.size, 3, none⟩ (.int .i64 prio)).cell? ⟨w.heap.size, 3, none⟩ = some (.int .i64 prio) := by rw [← hW]; exact k0.c3
  have HW := Lib.hid hW
  clear g3 hW
  go_wp2_with fail
  rw [← HW.out]
  clear q2 q3 HW c2 c3 c4 c5 f2 f3 f4 f5 Hn Hz HB
  obtain ⟨w4, hw4⟩ : ∃ V, V = W.drew := ⟨_, rfl⟩
  have k4 : Six w4 w.heap.size ⟨b, c, 1, prio, si, un⟩ := by rw [hw4]; exact ⟨k0.blk⟩
  have Hz4 : Hid (w4.heap[w.heap.size + 1]? = some (.cells (sixV ⟨0, 0, 0, 0, 0, 0⟩) tz (0, 0))) := Lib.hid (by rw [hw4]; exact Hz2.out)
  have HB4 : Hid (Below w.heap.size w w4) := Lib.hid (by rw [hw4]; have h := HB2.out; exact ⟨h.os, h.tape, h.output, h.size, h.block⟩)
  refine wp_region_still_tail 12 (by kernel_rfl) (by kernel_rfl) ?_
  change wpStill _ _ W.drew (fun a' => wpList _ _ _ _ a' W.drew) _ _
  rw [← hw4]
  clear hw4 k0 Hz2 HB2
  have c3 := k4.c3
  have c4 := k4.c4
  have c5 := k4.c5
  have f5 := k4.f 5
  obtain ⟨tn, hn⟩ := k4.blk
  have Hn := Lib.hid hn
  clear k4 hn
  simp only [List.take_succ_cons, List.take_zero, List.drop_succ_cons, List.drop_zero]
  still_step
  still_step
  still_step
  still_step
  still_step
  still_step
  still_step
  still_call (g2 _)
  still_step
  rw [Iw2.out]
  still_step
  still_step
  still_step
  refine wpStill_nil ?_
  rw [show (if si < t + Am.wait prio then t + Am.wait prio else si) = t + Am.wait prio by split <;> omega]
  have HL : Hid ((w4.setCell ⟨w.heap.size, 5, none⟩ (.int .i64 (t + Am.wait prio))).heap[w.heap.size]? = some (.cells (sixV ⟨b, c, 1, prio, si, (t + Am.wait prio)⟩) tn (0, 0))) := Lib.hid (heap_setCell_same _ _ 5 _ _ _ Hn.out)
  have HS : Hid ((w4.setCell ⟨w.heap.size, 5, none⟩ (.int .i64 (t + Am.wait prio))).heap[w.heap.size + 1]? = some (.cells (sixV ⟨0, 0, 0, 0, 0, 0⟩) tz (0, 0))) := Lib.hid ((heap_setCell_other _ _ _ _ (by show w.heap.size + 1 ≠ w.heap.size; omega)).trans Hz4.out)
  have HBf : Hid (Below w.heap.size w (w4.setCell ⟨w.heap.size, 5, none⟩ (.int .i64 (t + Am.wait prio)))) := Lib.hid (HB4.out.setCell (Nat.le_refl _) _)
  go_wp2_with (first
    | (refine wpList_load_row rfl 25 _ rfl w.heap.size rfl tn (sixV ⟨b, c, 1, prio, si, (t + Am.wait prio)⟩) (0, 0) _ HL.out Try.underlying25 rfl (by rfl) ?_)
    | (refine wpList_store_row rfl 25 _ _ rfl (w.heap.size + 1) (sixV ⟨b, c, 1, prio, si, (t + Am.wait prio)⟩) rfl rfl tz _ HS.out (by rfl) rfl (six_one _) ?_))
  (try simp only [Exit.inBlock, Exit.then]); refine bodyPost_ret (ret_alarm (a := ⟨b, c, 1, prio, si, (t + Am.wait prio)⟩) rfl rfl ⟨tz, setRow_heap _ _ _ _ _ _ HS.out⟩) rfl ?_
  exact ⟨rfl, below_setRow HBf.out (by omega) _⟩

end Go.Proofs.Ytepcjlnjhbaioaa
