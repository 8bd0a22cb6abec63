/-
  Layer 6 (alarm): the walk of the reference's turn.
-/
import Derived.Test.YtplpadblhjdpcaaGreatXRefAlarm
import Derived.Test.YtplpadblhjdpcaaGreatXJb
namespace Go.Proofs.YtplpadblhjdpcaaGreat
set_option maxRecDepth 10000
open Go.RowKit

set_option maxRecDepth 10000 in
set_option maxHeartbeats 4000000 in
theorem Rturn_n (b c ph pr si un deed t long y : Int) (w : World) (hy : Lf.nx ph deed = y) (d4 : (deed == 4) = false) (d6 : (deed == 6) = false) :
    Calls Tryz.prog 51 #[.agg #[.int .i64 b, .int .i64 c, .int .i64 ph, .int .i64 pr, .int .i64 si, .int .i64 un], .int .i64 deed, .int .i64 t, .int .i64 long] w fun e w' => e = .returned (.agg (sixV ⟨b, c, y, pr, si, t⟩)) ∧ Below w.heap.size w w' := by
  have g1 := fun W => RNext_any ph deed W
  rw [hy] at g1
  obtain ⟨ok, ho⟩ : ∃ ok, ok = Lf.ok ph deed := ⟨_, rfl⟩
  rw [← ho] at g1
  clear ho hy
  go_enter Tryz.func51, Tryz.ntmps51
  go_wp2_with fail
  refine (g1 _).mono ?_
  rintro e w1 ⟨rfl, hw1⟩
  have ka : Six w1 w.heap.size ⟨b, c, ph, pr, si, un⟩ := by rw [hw1]; exact (Six.new w b c ph pr si un 38).alloc _
  have kz : Six w1 (w.heap.size + 1) ⟨0, 0, 0, 0, 0, 0⟩ := by rw [hw1]; exact Six.new1 w _ 0 0 0 0 0 0 _
  have HB : Hid (Below w.heap.size w w1) := Lib.hid (by rw [hw1]; exact below_new2 w _ _)
  obtain ⟨tn, hn⟩ := ka.blk
  obtain ⟨tz, hz⟩ := kz.blk
  have Hn := Lib.hid hn
  have Hz := Lib.hid hz
  have c2 := ka.c2
  have c3 := ka.c3
  have c5 := ka.c5
  have f2 := ka.f 2
  have f5 := ka.f 5
  clear g1 hn hz ka kz hw1
  have HL : Hid (((w1.setCell ⟨w.heap.size, 2, none⟩ (.int .i64 y)).setCell ⟨w.heap.size, 5, none⟩ (.int .i64 t)).heap[w.heap.size]? = some (.cells (sixV ⟨b, c, y, pr, si, t⟩) tn (0, 0))) := Lib.hid (heap_setCell_same _ _ 5 _ _ _ (heap_setCell_same _ _ 2 _ _ _ (Hn.out)))
  have HS : Hid (((w1.setCell ⟨w.heap.size, 2, none⟩ (.int .i64 y)).setCell ⟨w.heap.size, 5, none⟩ (.int .i64 t)).heap[w.heap.size + 1]? = some (.cells (sixV ⟨0, 0, 0, 0, 0, 0⟩) tz (0, 0))) := Lib.hid ((heap_setCell_other _ _ _ _ (by show w.heap.size + 1 ≠ w.heap.size; omega)).trans ((heap_setCell_other _ _ _ _ (by show w.heap.size + 1 ≠ w.heap.size; omega)).trans (Hz.out)))
  have HBf : Hid (Below w.heap.size w ((w1.setCell ⟨w.heap.size, 2, none⟩ (.int .i64 y)).setCell ⟨w.heap.size, 5, none⟩ (.int .i64 t))) := Lib.hid (((HB.out.setCell (Nat.le_refl _) _).setCell (Nat.le_refl _) _))
  go_wp2_with (first
    | (refine wpList_load_row rfl 38 _ rfl w.heap.size rfl tn (sixV ⟨b, c, y, pr, si, t⟩) (0, 0) _ HL.out Tryz.underlying38 rfl (by rfl) ?_)
    | (refine wpList_store_row rfl 38 _ _ rfl (w.heap.size + 1) (sixV ⟨b, c, y, pr, si, t⟩) rfl rfl tz _ HS.out (by rfl) rfl (six_one _) ?_))
  (try simp only [Exit.inBlock, Exit.then]); refine bodyPost_ret (ret_alarm1 (a := ⟨b, c, y, pr, si, t⟩) rfl rfl ⟨tz, setRow_heap _ _ _ _ _ _ HS.out⟩) rfl ?_
  exact ⟨rfl, below_setRow HBf.out (by omega) _⟩

set_option maxRecDepth 10000 in
set_option maxHeartbeats 4000000 in
theorem Rturn_4 (b c ph pr si un t long y : Int) (w : World) (hy : Lf.nx ph 4 = y) (iw : wrap64 (t + long) = t + long) :
    Calls Tryz.prog 51 #[.agg #[.int .i64 b, .int .i64 c, .int .i64 ph, .int .i64 pr, .int .i64 si, .int .i64 un], .int .i64 4, .int .i64 t, .int .i64 long] w fun e w' => e = .returned (.agg (sixV ⟨b, c, y, pr, si, t + long⟩)) ∧ Below w.heap.size w w' := by
  have g1 := fun W => RNext_any ph 4 W
  rw [hy] at g1
  obtain ⟨ok, ho⟩ : ∃ ok, ok = Lf.ok ph 4 := ⟨_, rfl⟩
  rw [← ho] at g1
  clear ho hy
  go_enter Tryz.func51, Tryz.ntmps51
  go_wp2_with fail
  refine (g1 _).mono ?_
  rintro e w1 ⟨rfl, hw1⟩
  have ka : Six w1 w.heap.size ⟨b, c, ph, pr, si, un⟩ := by rw [hw1]; exact (Six.new w b c ph pr si un 38).alloc _
  have kz : Six w1 (w.heap.size + 1) ⟨0, 0, 0, 0, 0, 0⟩ := by rw [hw1]; exact Six.new1 w _ 0 0 0 0 0 0 _
  have HB : Hid (Below w.heap.size w w1) := Lib.hid (by rw [hw1]; exact below_new2 w _ _)
  obtain ⟨tn, hn⟩ := ka.blk
  obtain ⟨tz, hz⟩ := kz.blk
  have Hn := Lib.hid hn
  have Hz := Lib.hid hz
  have c2 := ka.c2
  have c3 := ka.c3
  have c5 := ka.c5
  have f2 := ka.f 2
  have f5 := ka.f 5
  clear g1 hn hz ka kz hw1
  have HL : Hid ((((w1.setCell ⟨w.heap.size, 2, none⟩ (.int .i64 y)).setCell ⟨w.heap.size, 5, none⟩ (.int .i64 t)).setCell ⟨w.heap.size, 5, none⟩ (.int .i64 (t + long))).heap[w.heap.size]? = some (.cells (sixV ⟨b, c, y, pr, si, t + long⟩) tn (0, 0))) := Lib.hid (heap_setCell_same _ _ 5 _ _ _ (heap_setCell_same _ _ 5 _ _ _ (heap_setCell_same _ _ 2 _ _ _ (Hn.out))))
  have HS : Hid ((((w1.setCell ⟨w.heap.size, 2, none⟩ (.int .i64 y)).setCell ⟨w.heap.size, 5, none⟩ (.int .i64 t)).setCell ⟨w.heap.size, 5, none⟩ (.int .i64 (t + long))).heap[w.heap.size + 1]? = some (.cells (sixV ⟨0, 0, 0, 0, 0, 0⟩) tz (0, 0))) := Lib.hid ((heap_setCell_other _ _ _ _ (by show w.heap.size + 1 ≠ w.heap.size; omega)).trans ((heap_setCell_other _ _ _ _ (by show w.heap.size + 1 ≠ w.heap.size; omega)).trans ((heap_setCell_other _ _ _ _ (by show w.heap.size + 1 ≠ w.heap.size; omega)).trans (Hz.out))))
  have HBf : Hid (Below w.heap.size w (((w1.setCell ⟨w.heap.size, 2, none⟩ (.int .i64 y)).setCell ⟨w.heap.size, 5, none⟩ (.int .i64 t)).setCell ⟨w.heap.size, 5, none⟩ (.int .i64 (t + long)))) := Lib.hid ((((HB.out.setCell (Nat.le_refl _) _).setCell (Nat.le_refl _) _).setCell (Nat.le_refl _) _))
  go_wp2_with (first
    | (refine wpList_load_row rfl 38 _ rfl w.heap.size rfl tn (sixV ⟨b, c, y, pr, si, t + long⟩) (0, 0) _ HL.out Tryz.underlying38 rfl (by rfl) ?_)
    | (refine wpList_store_row rfl 38 _ _ rfl (w.heap.size + 1) (sixV ⟨b, c, y, pr, si, t + long⟩) rfl rfl tz _ HS.out (by rfl) rfl (six_one _) ?_))
  (try simp only [Exit.inBlock, Exit.then]); refine bodyPost_ret (ret_alarm1 (a := ⟨b, c, y, pr, si, t + long⟩) rfl rfl ⟨tz, setRow_heap _ _ _ _ _ _ HS.out⟩) rfl ?_
  exact ⟨rfl, below_setRow HBf.out (by omega) _⟩

set_option maxRecDepth 10000 in
set_option maxHeartbeats 4000000 in
theorem Rturn_6 (b c ph pr si un t long y x : Int) (w : World) (hy : Lf.nx ph 6 = y) (hx : Am.wait pr = x) (iw : wrap64 (t + x) = t + x) :
    Calls Tryz.prog 51 #[.agg #[.int .i64 b, .int .i64 c, .int .i64 ph, .int .i64 pr, .int .i64 si, .int .i64 un], .int .i64 6, .int .i64 t, .int .i64 long] w fun e w' => e = .returned (.agg (sixV ⟨b, c, y, pr, si, t + x⟩)) ∧ Below w.heap.size w w' := by
  have g4 := fun W => RWait_any pr W
  rw [hx] at g4
  clear hx
  have g1 := fun W => RNext_any ph 6 W
  rw [hy] at g1
  obtain ⟨ok, ho⟩ : ∃ ok, ok = Lf.ok ph 6 := ⟨_, rfl⟩
  rw [← ho] at g1
  clear ho hy
  go_enter Tryz.func51, Tryz.ntmps51
  go_wp2_with fail
  refine (g1 _).mono ?_
  rintro e w1 ⟨rfl, hw1⟩
  have ka : Six w1 w.heap.size ⟨b, c, ph, pr, si, un⟩ := by rw [hw1]; exact (Six.new w b c ph pr si un 38).alloc _
  have kz : Six w1 (w.heap.size + 1) ⟨0, 0, 0, 0, 0, 0⟩ := by rw [hw1]; exact Six.new1 w _ 0 0 0 0 0 0 _
  have HB : Hid (Below w.heap.size w w1) := Lib.hid (by rw [hw1]; exact below_new2 w _ _)
  obtain ⟨tn, hn⟩ := ka.blk
  obtain ⟨tz, hz⟩ := kz.blk
  have Hn := Lib.hid hn
  have Hz := Lib.hid hz
  have c2 := ka.c2
  have c3 := ka.c3
  have c5 := ka.c5
  have f2 := ka.f 2
  have f5 := ka.f 5
  clear g1 hn hz ka kz hw1
  have HL2 : Hid (((w1.setCell ⟨w.heap.size, 2, none⟩ (.int .i64 y)).setCell ⟨w.heap.size, 5, none⟩ (.int .i64 t)).heap[w.heap.size]? = some (.cells (sixV ⟨b, c, y, pr, si, t⟩) tn (0, 0))) := Lib.hid (heap_setCell_same _ _ 5 _ _ _ (heap_setCell_same _ _ 2 _ _ _ (Hn.out)))
  have q3 := (Six.mk ⟨tn, HL2.out⟩ : Six _ _ _).c3
  have HZ2 : Hid (((w1.setCell ⟨w.heap.size, 2, none⟩ (.int .i64 y)).setCell ⟨w.heap.size, 5, none⟩ (.int .i64 t)).heap[w.heap.size + 1]? = some (.cells (sixV ⟨0, 0, 0, 0, 0, 0⟩) tz (0, 0))) := Lib.hid ((heap_setCell_other _ _ _ _ (by show w.heap.size + 1 ≠ w.heap.size; omega)).trans ((heap_setCell_other _ _ _ _ (by show w.heap.size + 1 ≠ w.heap.size; omega)).trans (Hz.out)))
  have HB2 : Hid (Below w.heap.size w ((w1.setCell ⟨w.heap.size, 2, none⟩ (.int .i64 y)).setCell ⟨w.heap.size, 5, none⟩ (.int .i64 t))) := Lib.hid (((HB.out.setCell (Nat.le_refl _) _).setCell (Nat.le_refl _) _))
  go_wp2_with fail
  refine (g4 _).mono ?_
  rintro e w4 ⟨rfl, hw4⟩
  have k4 : Six w4 w.heap.size ⟨b, c, y, pr, si, t⟩ := by rw [hw4]; exact ⟨tn, HL2.out⟩
  have Hz4 : Hid (w4.heap[w.heap.size + 1]? = some (.cells (sixV ⟨0, 0, 0, 0, 0, 0⟩) tz (0, 0))) := Lib.hid (by rw [hw4]; exact HZ2.out)
  have HB4 : Hid (Below w.heap.size w w4) := Lib.hid (by rw [hw4]; exact HB2.out)
  clear g4 hw4 HL2 HZ2 HB2 q3 c2 c3 c5 f2 f5 Hn Hz HB
  have c5 := k4.c5
  have f5 := k4.f 5
  obtain ⟨tm, hm⟩ := k4.blk
  have HL : Hid ((w4.setCell ⟨w.heap.size, 5, none⟩ (.int .i64 (t + x))).heap[w.heap.size]? = some (.cells (sixV ⟨b, c, y, pr, si, t + x⟩) tm (0, 0))) := Lib.hid (heap_setCell_same _ _ 5 _ _ _ (hm))
  have HS : Hid ((w4.setCell ⟨w.heap.size, 5, none⟩ (.int .i64 (t + x))).heap[w.heap.size + 1]? = some (.cells (sixV ⟨0, 0, 0, 0, 0, 0⟩) tz (0, 0))) := Lib.hid ((heap_setCell_other _ _ _ _ (by show w.heap.size + 1 ≠ w.heap.size; omega)).trans (Hz4.out))
  have HBf : Hid (Below w.heap.size w (w4.setCell ⟨w.heap.size, 5, none⟩ (.int .i64 (t + x)))) := Lib.hid ((HB4.out.setCell (Nat.le_refl _) _))
  clear k4 hm
  go_wp2_with (first
    | (refine wpList_load_row rfl 38 _ rfl w.heap.size rfl tm (sixV ⟨b, c, y, pr, si, t + x⟩) (0, 0) _ HL.out Tryz.underlying38 rfl (by rfl) ?_)
    | (refine wpList_store_row rfl 38 _ _ rfl (w.heap.size + 1) (sixV ⟨b, c, y, pr, si, t + x⟩) rfl rfl tz _ HS.out (by rfl) rfl (six_one _) ?_))
  (try simp only [Exit.inBlock, Exit.then]); refine bodyPost_ret (ret_alarm1 (a := ⟨b, c, y, pr, si, t + x⟩) rfl rfl ⟨tz, setRow_heap _ _ _ _ _ _ HS.out⟩) rfl ?_
  exact ⟨rfl, below_setRow HBf.out (by omega) _⟩

theorem Rturn_any (b c ph pr si un deed t long : Int) (w : World) (h4 : deed = 4 → wrap64 (t + long) = t + long) (h6 : wrap64 (t + Am.wait pr) = t + Am.wait pr) :
    Calls Tryz.prog 51 #[.agg #[.int .i64 b, .int .i64 c, .int .i64 ph, .int .i64 pr, .int .i64 si, .int .i64 un], .int .i64 deed, .int .i64 t, .int .i64 long] w fun e w' => e = .returned (.agg (sixV (Am.turn ⟨b, c, ph, pr, si, un⟩ deed t long))) ∧ Below w.heap.size w w' := by
  unfold Am.turn Am.turnU
  by_cases d6 : deed = 6
  · subst d6
    exact Rturn_6 b c ph pr si un t long _ _ w rfl rfl h6
  · by_cases d4 : deed = 4
    · subst d4
      exact Rturn_4 b c ph pr si un t long _ w rfl (h4 rfl)
    · simp only [d6, d4, if_false]
      exact Rturn_n b c ph pr si un deed t long _ w rfl (by rw [beq_eq_false_iff_ne]; exact d4) (by rw [beq_eq_false_iff_ne]; exact d6)
end Go.Proofs.YtplpadblhjdpcaaGreat
