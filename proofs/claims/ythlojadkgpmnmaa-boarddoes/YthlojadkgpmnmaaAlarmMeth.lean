/-
  Layer 6 (alarm): the walks of inTime, escalate, ack, silence.
-/
import Derived.Test.YthlojadkgpmnmaaAlarmTurn
namespace Go.Proofs.Ythlojadkgpmnmaa
open Go.RowKit

theorem tturn_any (b c ph pr si un deed u : Int) (w : World) :
    Calls Try.prog 68 #[.agg #[.int .i64 b, .int .i64 c, .int .i64 ph, .int .i64 pr, .int .i64 si, .int .i64 un], .int .i64 deed, .int .i64 u] w fun e w' => e = .returned (.tuple #[.agg (sixV (Am.tnA ⟨b, c, ph, pr, si, un⟩ deed u)), .int .i64 (Am.tnE ⟨b, c, ph, pr, si, un⟩ deed)]) ∧ Below w.heap.size w w' := by
  unfold Am.tnA Am.tnE
  simp only
  cases ho : Lf.ok ph deed
  · exact tturn_f b c ph pr si un deed u w ho
  · exact tturn_t b c ph pr si un deed u _ w ho rfl

set_option maxRecDepth 10000 in
set_option maxHeartbeats 4000000 in
theorem inTime_f (b c ph pr si un deed t u : Int) (X : Alm) (E : Int) (hE : (E == 0) = false) (w : World)
    (g1 : ∀ W, Calls Try.prog 68 #[.agg #[.int .i64 b, .int .i64 c, .int .i64 ph, .int .i64 pr, .int .i64 si, .int .i64 un], .int .i64 deed, .int .i64 u] W fun e w' => e = .returned (.tuple #[.agg (sixV X), .int .i64 E]) ∧ Below W.heap.size W w') :
    Calls Try.prog 60 #[.agg #[.int .i64 b, .int .i64 c, .int .i64 ph, .int .i64 pr, .int .i64 si, .int .i64 un], .int .i64 deed, .int .i64 t, .int .i64 u] w fun e w' => e = .returned (.tuple #[.agg (sixV X), .int .i64 E]) ∧ Below w.heap.size w w' := by
  go_enter Try.func60, Try.ntmps60
  have H0 := Lib.hid ((Six.new w b c ph pr si un 70).alloc (.cells #[.int .i64 0, .int .i64 0, .int .i64 0, .int .i64 0, .int .i64 0, .int .i64 0] 28))
  go_wp2_with (refine wpList_load_six rfl 70 _ rfl w.heap.size _ rfl H0.out _ Try.underlying70 rfl (by rfl) ?_)
  refine (g1 _).mono ?_
  rintro e w1 ⟨rfl, hB⟩
  clear H0
  have ka := ((Six.new w b c ph pr si un 70).alloc (.cells #[.int .i64 0, .int .i64 0, .int .i64 0, .int .i64 0, .int .i64 0, .int .i64 0] 28)).below hB
  have kz := (Six.new1 w (.cells #[.int .i64 b, .int .i64 c, .int .i64 ph, .int .i64 pr, .int .i64 si, .int .i64 un] 70) 0 0 0 0 0 0 28).below hB
  have HB := Lib.hid (below2 (below_new2 w _ _) hB)
  have Ka := Lib.hid ka
  have Kz := Lib.hid kz
  have c5 := ka.c5
  have Hle : Hid (w.heap.size + 1 < w1.heap.size) := Lib.hid kz.lt
  clear g1 hB ka kz
  go_wp2_with (first
    | (refine wpList_load_six rfl 28 _ rfl w1.heap.size _ rfl K2.out _ Try.underlying28 rfl (by rfl) ?_)
    | (refine wpList_store_six rfl 28 _ _ rfl (w.heap.size + 1) _ X rfl rfl Z2.out (by rfl) ?_; intro w3 hw3; have K3 := Lib.hid (Z2.out.put6 hw3); have HB3 := Lib.hid (below_put6 HB2.out (by omega) hw3); clear hw3)
    | (refine wpList_store_six rfl 28 _ _ rfl w1.heap.size _ X rfl rfl (Six.new w1 0 0 0 0 0 0 _) (by rfl) ?_
       intro w2 hw2
       have K2 := Lib.hid ((Six.new w1 0 0 0 0 0 0 28).put6 hw2)
       have A2 := (Ka.out.alloc (.cells #[.int .i64 0, .int .i64 0, .int .i64 0, .int .i64 0, .int .i64 0, .int .i64 0] 28)).put6O (by have := Hle.out; omega) hw2
       have Z2 := Lib.hid ((Kz.out.alloc (.cells #[.int .i64 0, .int .i64 0, .int .i64 0, .int .i64 0, .int .i64 0, .int .i64 0] 28)).put6O (by have := Hle.out; omega) hw2)
       have HB2 := Lib.hid (below_put6 (HB.out.alloc (by have := Hle.out; omega) _) (by have := Hle.out; omega) hw2)
       have d5 := A2.c5
       clear hw2 A2 c5))
  (try simp only [Exit.inBlock, Exit.then]); refine bodyPost_ret (ret_alarm (a := X) rfl rfl K3.out) rfl ?_
  exact ⟨rfl, HB3.out⟩

set_option maxRecDepth 10000 in
set_option maxHeartbeats 4000000 in
theorem inTime_y (b c ph pr si un deed t u : Int) (X : Alm) (hu : decide (t < un) = true) (w : World)
    (g1 : ∀ W, Calls Try.prog 68 #[.agg #[.int .i64 b, .int .i64 c, .int .i64 ph, .int .i64 pr, .int .i64 si, .int .i64 un], .int .i64 deed, .int .i64 u] W fun e w' => e = .returned (.tuple #[.agg (sixV X), .int .i64 0]) ∧ Below W.heap.size W w') :
    Calls Try.prog 60 #[.agg #[.int .i64 b, .int .i64 c, .int .i64 ph, .int .i64 pr, .int .i64 si, .int .i64 un], .int .i64 deed, .int .i64 t, .int .i64 u] w fun e w' => e = .returned (.tuple #[.agg (sixV Am.zero), .int .i64 61]) ∧ Below w.heap.size w w' := by
  go_enter Try.func60, Try.ntmps60
  have H0 := Lib.hid ((Six.new w b c ph pr si un 70).alloc (.cells #[.int .i64 0, .int .i64 0, .int .i64 0, .int .i64 0, .int .i64 0, .int .i64 0] 28))
  go_wp2_with (refine wpList_load_six rfl 70 _ rfl w.heap.size _ rfl H0.out _ Try.underlying70 rfl (by rfl) ?_)
  refine (g1 _).mono ?_
  rintro e w1 ⟨rfl, hB⟩
  clear H0
  have ka := ((Six.new w b c ph pr si un 70).alloc (.cells #[.int .i64 0, .int .i64 0, .int .i64 0, .int .i64 0, .int .i64 0, .int .i64 0] 28)).below hB
  have kz := (Six.new1 w (.cells #[.int .i64 b, .int .i64 c, .int .i64 ph, .int .i64 pr, .int .i64 si, .int .i64 un] 70) 0 0 0 0 0 0 28).below hB
  have HB := Lib.hid (below2 (below_new2 w _ _) hB)
  have Ka := Lib.hid ka
  have Kz := Lib.hid kz
  have c5 := ka.c5
  have Hle : Hid (w.heap.size + 1 < w1.heap.size) := Lib.hid kz.lt
  clear g1 hB ka kz
  go_wp2_with (first
    | (refine wpList_load_six rfl 28 _ rfl w1.heap.size _ rfl K2.out _ Try.underlying28 rfl (by rfl) ?_)
    | (refine wpList_store_six rfl 28 _ _ rfl (w.heap.size + 1) _ Am.zero rfl rfl Z2.out (by rfl) ?_; intro w3 hw3; have K3 := Lib.hid (Z2.out.put6 hw3); have HB3 := Lib.hid (below_put6 HB2.out (by omega) hw3); clear hw3)
    | (refine wpList_store_six rfl 28 _ _ rfl w1.heap.size _ X rfl rfl (Six.new w1 0 0 0 0 0 0 _) (by rfl) ?_
       intro w2 hw2
       have K2 := Lib.hid ((Six.new w1 0 0 0 0 0 0 28).put6 hw2)
       have A2 := (Ka.out.alloc (.cells #[.int .i64 0, .int .i64 0, .int .i64 0, .int .i64 0, .int .i64 0, .int .i64 0] 28)).put6O (by have := Hle.out; omega) hw2
       have Z2 := Lib.hid ((Kz.out.alloc (.cells #[.int .i64 0, .int .i64 0, .int .i64 0, .int .i64 0, .int .i64 0, .int .i64 0] 28)).put6O (by have := Hle.out; omega) hw2)
       have HB2 := Lib.hid (below_put6 (HB.out.alloc (by have := Hle.out; omega) _) (by have := Hle.out; omega) hw2)
       have d5 := A2.c5
       clear hw2 A2 c5))
  (try simp only [Exit.inBlock, Exit.then]); refine bodyPost_ret (ret_alarm (a := Am.zero) rfl rfl K3.out) rfl ?_
  exact ⟨rfl, HB3.out⟩

set_option maxRecDepth 10000 in
set_option maxHeartbeats 4000000 in
theorem inTime_k (b c ph pr si un deed t u : Int) (X : Alm) (hu : decide (t < un) = false) (w : World)
    (g1 : ∀ W, Calls Try.prog 68 #[.agg #[.int .i64 b, .int .i64 c, .int .i64 ph, .int .i64 pr, .int .i64 si, .int .i64 un], .int .i64 deed, .int .i64 u] W fun e w' => e = .returned (.tuple #[.agg (sixV X), .int .i64 0]) ∧ Below W.heap.size W w') :
    Calls Try.prog 60 #[.agg #[.int .i64 b, .int .i64 c, .int .i64 ph, .int .i64 pr, .int .i64 si, .int .i64 un], .int .i64 deed, .int .i64 t, .int .i64 u] w fun e w' => e = .returned (.tuple #[.agg (sixV X), .int .i64 0]) ∧ Below w.heap.size w w' := by
  go_enter Try.func60, Try.ntmps60
  have H0 := Lib.hid ((Six.new w b c ph pr si un 70).alloc (.cells #[.int .i64 0, .int .i64 0, .int .i64 0, .int .i64 0, .int .i64 0, .int .i64 0] 28))
  go_wp2_with (refine wpList_load_six rfl 70 _ rfl w.heap.size _ rfl H0.out _ Try.underlying70 rfl (by rfl) ?_)
  refine (g1 _).mono ?_
  rintro e w1 ⟨rfl, hB⟩
  clear H0
  have ka := ((Six.new w b c ph pr si un 70).alloc (.cells #[.int .i64 0, .int .i64 0, .int .i64 0, .int .i64 0, .int .i64 0, .int .i64 0] 28)).below hB
  have kz := (Six.new1 w (.cells #[.int .i64 b, .int .i64 c, .int .i64 ph, .int .i64 pr, .int .i64 si, .int .i64 un] 70) 0 0 0 0 0 0 28).below hB
  have HB := Lib.hid (below2 (below_new2 w _ _) hB)
  have Ka := Lib.hid ka
  have Kz := Lib.hid kz
  have c5 := ka.c5
  have Hle : Hid (w.heap.size + 1 < w1.heap.size) := Lib.hid kz.lt
  clear g1 hB ka kz
  go_wp2_with (first
    | (refine wpList_load_six rfl 28 _ rfl w1.heap.size _ rfl K2.out _ Try.underlying28 rfl (by rfl) ?_)
    | (refine wpList_store_six rfl 28 _ _ rfl (w.heap.size + 1) _ X rfl rfl Z2.out (by rfl) ?_; intro w3 hw3; have K3 := Lib.hid (Z2.out.put6 hw3); have HB3 := Lib.hid (below_put6 HB2.out (by omega) hw3); clear hw3)
    | (refine wpList_store_six rfl 28 _ _ rfl w1.heap.size _ X rfl rfl (Six.new w1 0 0 0 0 0 0 _) (by rfl) ?_
       intro w2 hw2
       have K2 := Lib.hid ((Six.new w1 0 0 0 0 0 0 28).put6 hw2)
       have A2 := (Ka.out.alloc (.cells #[.int .i64 0, .int .i64 0, .int .i64 0, .int .i64 0, .int .i64 0, .int .i64 0] 28)).put6O (by have := Hle.out; omega) hw2
       have Z2 := Lib.hid ((Kz.out.alloc (.cells #[.int .i64 0, .int .i64 0, .int .i64 0, .int .i64 0, .int .i64 0, .int .i64 0] 28)).put6O (by have := Hle.out; omega) hw2)
       have HB2 := Lib.hid (below_put6 (HB.out.alloc (by have := Hle.out; omega) _) (by have := Hle.out; omega) hw2)
       have d5 := A2.c5
       clear hw2 A2 c5))
  (try simp only [Exit.inBlock, Exit.then]); refine bodyPost_ret (ret_alarm (a := X) rfl rfl K3.out) rfl ?_
  exact ⟨rfl, HB3.out⟩

theorem inTime_any (b c ph pr si un deed t u : Int) (w : World) :
    Calls Try.prog 60 #[.agg #[.int .i64 b, .int .i64 c, .int .i64 ph, .int .i64 pr, .int .i64 si, .int .i64 un], .int .i64 deed, .int .i64 t, .int .i64 u] w fun e w' => e = .returned (.tuple #[.agg (sixV (Am.inA ⟨b, c, ph, pr, si, un⟩ deed t u)), .int .i64 (Am.inE ⟨b, c, ph, pr, si, un⟩ deed t)]) ∧ Below w.heap.size w w' := by
  unfold Am.inA Am.inE
  simp only
  cases ho : Lf.ok ph deed
  · exact inTime_f b c ph pr si un deed t u Am.zero 60 (by decide) w (fun W => tturn_f b c ph pr si un deed u W ho)
  · rw [if_pos rfl, if_pos rfl]
    by_cases hu : t < un
    · rw [if_pos hu, if_pos hu]
      exact inTime_y b c ph pr si un deed t u _ (decide_eq_true hu) w (fun W => tturn_t b c ph pr si un deed u _ W ho rfl)
    · rw [if_neg hu, if_neg hu]
      exact inTime_k b c ph pr si un deed t u _ (decide_eq_false hu) w (fun W => tturn_t b c ph pr si un deed u _ W ho rfl)

set_option maxRecDepth 10000 in
set_option maxHeartbeats 4000000 in
theorem escalate_any (b c ph pr si un t l : Int) (w : World) :
    Calls Try.prog 47 #[.agg #[.int .i64 b, .int .i64 c, .int .i64 ph, .int .i64 pr, .int .i64 si, .int .i64 un], .int .i64 t, .int .i64 l] w fun e w' => e = .returned (.tuple #[.agg (sixV (Am.inA ⟨b, c, ph, pr, si, un⟩ 2 t t)), .int .i64 (Am.inE ⟨b, c, ph, pr, si, un⟩ 2 t)]) ∧ Below w.heap.size w w' := by
  have g1 := fun W => inTime_any b c ph pr si un 2 t t W
  obtain ⟨X, hX⟩ : ∃ X, X = Am.inA ⟨b, c, ph, pr, si, un⟩ 2 t t := ⟨_, rfl⟩
  obtain ⟨Y, hY⟩ : ∃ Y, Y = Am.inE ⟨b, c, ph, pr, si, un⟩ 2 t := ⟨_, rfl⟩
  rw [← hX, ← hY] at g1 ⊢
  clear hX hY
  go_enter Try.func47, Try.ntmps47
  have H0 := Lib.hid ((Six.new w b c ph pr si un 70).alloc (.cells #[.int .i64 0, .int .i64 0, .int .i64 0, .int .i64 0, .int .i64 0, .int .i64 0] 28))
  go_wp2_with (refine wpList_load_six rfl 70 _ rfl w.heap.size _ rfl H0.out _ Try.underlying70 rfl (by rfl) ?_)
  refine (g1 _).mono ?_
  rintro e w1 ⟨rfl, hB⟩
  have kz := (Six.new1 w (.cells #[.int .i64 b, .int .i64 c, .int .i64 ph, .int .i64 pr, .int .i64 si, .int .i64 un] 70) 0 0 0 0 0 0 28).below hB
  have HB := Lib.hid (below2 (below_new2 w _ _) hB)
  have Kz := Lib.hid kz
  clear g1 hB kz H0
  go_wp2_with (refine wpList_store_six rfl 28 _ _ rfl (w.heap.size + 1) _ X rfl rfl Kz.out (by rfl) ?_; intro w3 hw3; have K3 := Lib.hid (Kz.out.put6 hw3); have HB3 := Lib.hid (below_put6 HB.out (by omega) hw3); clear hw3)
  (try simp only [Exit.inBlock, Exit.then]); refine bodyPost_ret (ret_alarm (a := X) rfl rfl K3.out) rfl ?_
  exact ⟨rfl, HB3.out⟩

end Go.Proofs.Ythlojadkgpmnmaa
