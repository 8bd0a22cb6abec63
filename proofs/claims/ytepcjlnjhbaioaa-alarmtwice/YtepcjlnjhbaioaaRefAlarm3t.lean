/-
  Layer 6 (alarm): the walk of the reference's Raise.
-/
import Derived.Test.YtepcjlnjhbaioaaRefAlarm2
namespace Go.Proofs.Ytepcjlnjhbaioaa
open Go.RowKit

set_option maxRecDepth 10000 in
set_option maxHeartbeats 4000000 in
theorem RRaise_ta (b c pr si un prio t : Int) (w : World) (hr : Am.right ⟨b, c, 3, pr, si, un⟩ = true) (x0 : (Am.wait prio == 0) = false) (ht : Am.isT t = true) (s0 : decide (t < si) = false) (m0 : pr ≤ prio) (x : Int) (hx : Am.wait pr = x) (iw : wrap64 (t + x) = t + x) :
    Calls Try.prog 12 #[.agg #[.int .i64 b, .int .i64 c, .int .i64 3, .int .i64 pr, .int .i64 si, .int .i64 un], .int .i64 prio, .int .i64 t] w fun e w' => e = .returned (.tuple #[.agg (sixV ⟨b, c, 1, pr, t, t + x⟩), .int .i64 0]) ∧ Below w.heap.size w w' := by
  have g1 := fun W => RAIs_any b c 3 pr si un W
  have g2 := fun W => RWait_any prio W
  have g3 := fun W => RTime_any t W
  have Hx := Lib.hid hx
  clear hx
  rw [hr] at g1
  rw [ht] at g3
  go_enter Try.func12, Try.ntmps12
  go_wp2_with fail
  refine (g1 _).mono ?_
  rintro e w1 ⟨rfl, hB⟩
  have ka := ((Six.new w b c 3 pr si un 25).alloc (.cells #[.int .i64 0, .int .i64 0, .int .i64 0, .int .i64 0, .int .i64 0, .int .i64 0] 25)).below hB
  have kz := (Six.new1 w (.cells #[.int .i64 b, .int .i64 c, .int .i64 3, .int .i64 pr, .int .i64 si, .int .i64 un] 25) 0 0 0 0 0 0 25).below hB
  have HB := Lib.hid (below2 (below_new2 w _ _) hB)
  obtain ⟨tn, hn⟩ := ka.blk
  obtain ⟨tz, hz⟩ := kz.blk
  have Hn := Lib.hid hn
  have Hz := Lib.hid hz
  have c2 := ka.c2
  have c3 := ka.c3
  have c4 := ka.c4
  have c5 := ka.c5
  have f2 := ka.f 2
  have f3 := ka.f 3
  have f4 := ka.f 4
  have f5 := ka.f 5
  clear g1 hB hn hz ka kz
  go_wp2_with fail
  refine (g2 _).mono ?_
  rintro e w2 ⟨rfl, rfl⟩
  go_wp2_with fail
  refine (g3 _).mono ?_
  rintro e w3 ⟨rfl, rfl⟩
  have HL3 : Hid ((((w3.setCell ⟨w.heap.size, 3, none⟩ (.int .i64 pr)).setCell ⟨w.heap.size, 2, none⟩ (.int .i64 1)).setCell ⟨w.heap.size, 4, none⟩ (.int .i64 t)).heap[w.heap.size]? = some (.cells (sixV ⟨b, c, 1, pr, t, un⟩) tn (0, 0))) := Lib.hid (heap_setCell_same _ _ 4 _ _ _ (heap_setCell_same _ _ 2 _ _ _ (heap_setCell_same _ _ 3 _ _ _ (Hn.out))))
  have q3 := (Six.mk ⟨tn, HL3.out⟩ : Six _ _ _).c3
  have HZ3 : Hid ((((w3.setCell ⟨w.heap.size, 3, none⟩ (.int .i64 pr)).setCell ⟨w.heap.size, 2, none⟩ (.int .i64 1)).setCell ⟨w.heap.size, 4, none⟩ (.int .i64 t)).heap[w.heap.size + 1]? = some (.cells (sixV ⟨0, 0, 0, 0, 0, 0⟩) tz (0, 0))) := Lib.hid ((heap_setCell_other _ _ _ _ (by show w.heap.size + 1 ≠ w.heap.size; omega)).trans ((heap_setCell_other _ _ _ _ (by show w.heap.size + 1 ≠ w.heap.size; omega)).trans ((heap_setCell_other _ _ _ _ (by show w.heap.size + 1 ≠ w.heap.size; omega)).trans Hz.out)))
  have HB3 : Hid (Below w.heap.size w (((w3.setCell ⟨w.heap.size, 3, none⟩ (.int .i64 pr)).setCell ⟨w.heap.size, 2, none⟩ (.int .i64 1)).setCell ⟨w.heap.size, 4, none⟩ (.int .i64 t))) := Lib.hid (((HB.out.setCell (Nat.le_refl _) _).setCell (Nat.le_refl _) _).setCell (Nat.le_refl _) _)
  have g4 := fun W => RWait_any pr W
  rw [Hx.out] at g4
  clear g3
  go_wp2_with fail
  refine (g4 _).mono ?_
  rintro e w4 ⟨rfl, hw4⟩
  have k4 : Six w4 w.heap.size ⟨b, c, 1, pr, t, un⟩ := by rw [hw4]; exact ⟨tn, HL3.out⟩
  have Hz4 : Hid (w4.heap[w.heap.size + 1]? = some (.cells (sixV ⟨0, 0, 0, 0, 0, 0⟩) tz (0, 0))) := Lib.hid (by rw [hw4]; exact HZ3.out)
  have HB4 : Hid (Below w.heap.size w w4) := Lib.hid (by rw [hw4]; exact HB3.out)
  clear g4 hw4 HL3 HZ3 HB3 q3 c2 c3 c4 c5 f2 f3 f4 f5 Hn Hz HB
  have c5 := k4.c5
  have f5 := k4.f 5
  obtain ⟨tm, hm⟩ := k4.blk
  have HL : Hid ((w4.setCell ⟨w.heap.size, 5, none⟩ (.int .i64 (t + x))).heap[w.heap.size]? = some (.cells (sixV ⟨b, c, 1, pr, t, t + x⟩) tm (0, 0))) := Lib.hid (heap_setCell_same _ _ 5 _ _ _ hm)
  have HS : Hid ((w4.setCell ⟨w.heap.size, 5, none⟩ (.int .i64 (t + x))).heap[w.heap.size + 1]? = some (.cells (sixV ⟨0, 0, 0, 0, 0, 0⟩) tz (0, 0))) := Lib.hid ((heap_setCell_other _ _ _ _ (by show w.heap.size + 1 ≠ w.heap.size; omega)).trans Hz4.out)
  have HBf : Hid (Below w.heap.size w (w4.setCell ⟨w.heap.size, 5, none⟩ (.int .i64 (t + x)))) := Lib.hid (HB4.out.setCell (Nat.le_refl _) _)
  clear k4 hm
  go_wp2_with (first
    | (refine wpList_load_row rfl 25 _ rfl w.heap.size rfl tm (sixV ⟨b, c, 1, pr, t, t + x⟩) (0, 0) _ HL.out Try.underlying25 rfl (by rfl) ?_)
    | (refine wpList_store_row rfl 25 _ _ rfl (w.heap.size + 1) (sixV ⟨b, c, 1, pr, t, t + x⟩) rfl rfl tz _ HS.out (by rfl) rfl (six_one _) ?_))
  (try simp only [Exit.inBlock, Exit.then]); refine bodyPost_ret (ret_alarm (a := ⟨b, c, 1, pr, t, t + x⟩) rfl rfl ⟨tz, setRow_heap _ _ _ _ _ _ HS.out⟩) rfl ?_
  exact ⟨rfl, below_setRow HBf.out (by omega) _⟩

set_option maxRecDepth 10000 in
set_option maxHeartbeats 4000000 in
theorem RRaise_tb (b c pr si un prio t : Int) (w : World) (hr : Am.right ⟨b, c, 3, pr, si, un⟩ = true) (x0 : (Am.wait prio == 0) = false) (ht : Am.isT t = true) (s0 : decide (t < si) = false) (m0 : prio < pr) (x : Int) (hx : Am.wait prio = x) (iw : wrap64 (t + x) = t + x) :
    Calls Try.prog 12 #[.agg #[.int .i64 b, .int .i64 c, .int .i64 3, .int .i64 pr, .int .i64 si, .int .i64 un], .int .i64 prio, .int .i64 t] w fun e w' => e = .returned (.tuple #[.agg (sixV ⟨b, c, 1, prio, t, t + x⟩), .int .i64 0]) ∧ Below w.heap.size w w' := by
  have g1 := fun W => RAIs_any b c 3 pr si un W
  have g2 := fun W => RWait_any prio W
  have g3 := fun W => RTime_any t W
  rw [hx] at g2 x0
  have Hx := Lib.hid hx
  clear hx
  rw [hr] at g1
  rw [ht] at g3
  go_enter Try.func12, Try.ntmps12
  go_wp2_with fail
  refine (g1 _).mono ?_
  rintro e w1 ⟨rfl, hB⟩
  have ka := ((Six.new w b c 3 pr si un 25).alloc (.cells #[.int .i64 0, .int .i64 0, .int .i64 0, .int .i64 0, .int .i64 0, .int .i64 0] 25)).below hB
  have kz := (Six.new1 w (.cells #[.int .i64 b, .int .i64 c, .int .i64 3, .int .i64 pr, .int .i64 si, .int .i64 un] 25) 0 0 0 0 0 0 25).below hB
  have HB := Lib.hid (below2 (below_new2 w _ _) hB)
  obtain ⟨tn, hn⟩ := ka.blk
  obtain ⟨tz, hz⟩ := kz.blk
  have Hn := Lib.hid hn
  have Hz := Lib.hid hz
  have c2 := ka.c2
  have c3 := ka.c3
  have c4 := ka.c4
  have c5 := ka.c5
  have f2 := ka.f 2
  have f3 := ka.f 3
  have f4 := ka.f 4
  have f5 := ka.f 5
  clear g1 hB hn hz ka kz
  go_wp2_with fail
  refine (g2 _).mono ?_
  rintro e w2 ⟨rfl, rfl⟩
  go_wp2_with fail
  refine (g3 _).mono ?_
  rintro e w3 ⟨rfl, rfl⟩
  have HL3 : Hid ((((w3.setCell ⟨w.heap.size, 3, none⟩ (.int .i64 prio)).setCell ⟨w.heap.size, 2, none⟩ (.int .i64 1)).setCell ⟨w.heap.size, 4, none⟩ (.int .i64 t)).heap[w.heap.size]? = some (.cells (sixV ⟨b, c, 1, prio, t, un⟩) tn (0, 0))) := Lib.hid (heap_setCell_same _ _ 4 _ _ _ (heap_setCell_same _ _ 2 _ _ _ (heap_setCell_same _ _ 3 _ _ _ (Hn.out))))
  have q3 := (Six.mk ⟨tn, HL3.out⟩ : Six _ _ _).c3
  have HZ3 : Hid ((((w3.setCell ⟨w.heap.size, 3, none⟩ (.int .i64 prio)).setCell ⟨w.heap.size, 2, none⟩ (.int .i64 1)).setCell ⟨w.heap.size, 4, none⟩ (.int .i64 t)).heap[w.heap.size + 1]? = some (.cells (sixV ⟨0, 0, 0, 0, 0, 0⟩) tz (0, 0))) := Lib.hid ((heap_setCell_other _ _ _ _ (by show w.heap.size + 1 ≠ w.heap.size; omega)).trans ((heap_setCell_other _ _ _ _ (by show w.heap.size + 1 ≠ w.heap.size; omega)).trans ((heap_setCell_other _ _ _ _ (by show w.heap.size + 1 ≠ w.heap.size; omega)).trans Hz.out)))
  have HB3 : Hid (Below w.heap.size w (((w3.setCell ⟨w.heap.size, 3, none⟩ (.int .i64 prio)).setCell ⟨w.heap.size, 2, none⟩ (.int .i64 1)).setCell ⟨w.heap.size, 4, none⟩ (.int .i64 t))) := Lib.hid (((HB.out.setCell (Nat.le_refl _) _).setCell (Nat.le_refl _) _).setCell (Nat.le_refl _) _)
  have g4 := fun W => RWait_any prio W
  rw [Hx.out] at g4
  clear g3
  go_wp2_with fail
  refine (g4 _).mono ?_
  rintro e w4 ⟨rfl, hw4⟩
  have k4 : Six w4 w.heap.size ⟨b, c, 1, prio, t, un⟩ := by rw [hw4]; exact ⟨tn, HL3.out⟩
  have Hz4 : Hid (w4.heap[w.heap.size + 1]? = some (.cells (sixV ⟨0, 0, 0, 0, 0, 0⟩) tz (0, 0))) := Lib.hid (by rw [hw4]; exact HZ3.out)
  have HB4 : Hid (Below w.heap.size w w4) := Lib.hid (by rw [hw4]; exact HB3.out)
  clear g4 hw4 HL3 HZ3 HB3 q3 c2 c3 c4 c5 f2 f3 f4 f5 Hn Hz HB
  have c5 := k4.c5
  have f5 := k4.f 5
  obtain ⟨tm, hm⟩ := k4.blk
  have HL : Hid ((w4.setCell ⟨w.heap.size, 5, none⟩ (.int .i64 (t + x))).heap[w.heap.size]? = some (.cells (sixV ⟨b, c, 1, prio, t, t + x⟩) tm (0, 0))) := Lib.hid (heap_setCell_same _ _ 5 _ _ _ hm)
  have HS : Hid ((w4.setCell ⟨w.heap.size, 5, none⟩ (.int .i64 (t + x))).heap[w.heap.size + 1]? = some (.cells (sixV ⟨0, 0, 0, 0, 0, 0⟩) tz (0, 0))) := Lib.hid ((heap_setCell_other _ _ _ _ (by show w.heap.size + 1 ≠ w.heap.size; omega)).trans Hz4.out)
  have HBf : Hid (Below w.heap.size w (w4.setCell ⟨w.heap.size, 5, none⟩ (.int .i64 (t + x)))) := Lib.hid (HB4.out.setCell (Nat.le_refl _) _)
  clear k4 hm
  go_wp2_with (first
    | (refine wpList_load_row rfl 25 _ rfl w.heap.size rfl tm (sixV ⟨b, c, 1, prio, t, t + x⟩) (0, 0) _ HL.out Try.underlying25 rfl (by rfl) ?_)
    | (refine wpList_store_row rfl 25 _ _ rfl (w.heap.size + 1) (sixV ⟨b, c, 1, prio, t, t + x⟩) rfl rfl tz _ HS.out (by rfl) rfl (six_one _) ?_))
  (try simp only [Exit.inBlock, Exit.then]); refine bodyPost_ret (ret_alarm (a := ⟨b, c, 1, prio, t, t + x⟩) rfl rfl ⟨tz, setRow_heap _ _ _ _ _ _ HS.out⟩) rfl ?_
  exact ⟨rfl, below_setRow HBf.out (by omega) _⟩

end Go.Proofs.Ytepcjlnjhbaioaa
