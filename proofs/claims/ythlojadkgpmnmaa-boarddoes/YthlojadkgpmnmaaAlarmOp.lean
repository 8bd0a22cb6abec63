/-
  Layer 6 (alarm): the walk of Open.
-/
import Derived.Test.YthlojadkgpmnmaaAlarmIs
import Derived.Test.YthlojadkgpmnmaaAlarmRet
namespace Go.Proofs.Ythlojadkgpmnmaa
open Go.RowKit

set_option maxHeartbeats 2000000 in
theorem AOpen_any (b c prio t : Int) (w : World) :
    Calls Try.prog 45 #[.agg #[.int .i64 b, .int .i64 c], .int .i64 prio, .int .i64 t] w fun e w' => e = .returned (.tuple #[.agg (sixV (Am.opn b c prio t)), .int .i64 (Am.openE b c prio t)]) ∧ Below w.heap.size w w' := by
  have h1 := fun W => Is_any b c W
  have h2 := fun W => AWait_any0 prio W
  have hp := fun W => isPrio_any prio W
  have hpe : Am.isP prio = decide (0 < Am.wait prio) := rfl
  rw [hpe] at hp
  clear hpe
  have h3 := fun W => isTime_any t W
  have e0 : Am.openE b c prio t = if !Sp.may b c || decide (Am.wait prio = 0) || !Am.isT t then 1 else 0 := rfl
  have e1 : Am.opn b c prio t = if Am.openE b c prio t = 0 then ⟨b, c, 1, prio, t, t + Am.wait prio⟩ else Am.zero := rfl
  have hT := Am.isT_iff (n := t)
  have hw0 := Am.wait_bounds prio
  rw [e1, e0]
  clear e0 e1
  obtain ⟨m, hm⟩ : ∃ m, m = Sp.may b c := ⟨_, rfl⟩
  obtain ⟨x, hx⟩ : ∃ x, x = Am.wait prio := ⟨_, rfl⟩
  obtain ⟨q, hq⟩ : ∃ q, q = Am.isT t := ⟨_, rfl⟩
  rw [← hm] at h1 ⊢
  rw [← hx] at h2 hp hw0 ⊢
  rw [← hq] at h3 hT ⊢
  clear hm hx hq
  have z6 := fun (W : World) => Six.new1 W (.cells #[.int .i64 b, .int .i64 c] 26) 0 0 0 0 0 0 28
  have hB2 := fun (W : World) => below_new2 W (.cells #[.int .i64 b, .int .i64 c] 26) (.cells #[.int .i64 0, .int .i64 0, .int .i64 0, .int .i64 0, .int .i64 0, .int .i64 0] 28)
  cases m
  · simp only [Bool.not_false, Bool.true_or, if_true]
    rw [if_neg (by decide)]
    clear hT hw0
    go_enter Try.func45, Try.ntmps45
    go_wp2_with fail
    refine (h1 _).mono ?_
    rintro e w1 ⟨rfl, hB⟩
    have kz := (z6 w).below hB
    have ks0 := ((Two.new w b c 26).alloc (.cells #[.int .i64 0, .int .i64 0, .int .i64 0, .int .i64 0, .int .i64 0, .int .i64 0] 28)).below hB
    have k0 := ks0.c0
    have k1 := ks0.c1
    obtain ⟨tz, hz⟩ := kz.blk
    have Hz := Lib.hid hz
    have HB := Lib.hid (below2 (hB2 w) hB)
    clear kz ks0 hz h1 hB z6 hB2
    go_wp2_with (refine wpList_store_row rfl 28 _ _ rfl (w.heap.size + 1) (sixV Am.zero) rfl rfl tz _ Hz.out (by kernel_rfl) rfl (six_one _) ?_)
    (try simp only [Exit.inBlock, Exit.then]); refine bodyPost_ret (ret_alarm (a := Am.zero) rfl rfl ⟨tz, setRow_heap _ _ _ _ _ _ Hz.out⟩) rfl ?_
    exact ⟨rfl, below_setRow HB.out (by omega) _⟩
  · by_cases hx0 : x = 0
    · subst hx0
      rw [show decide ((0 : Int) < 0) = false from rfl] at hp
      simp only [Bool.not_true, decide_true, Bool.false_or, Bool.true_or, if_true]
      rw [if_neg (by decide)]
      clear hT hw0
      go_enter Try.func45, Try.ntmps45
      go_wp2_with fail
      refine (h1 _).mono ?_
      rintro e w1 ⟨rfl, hB⟩
      have kz := (z6 w).below hB
      have ks0 := ((Two.new w b c 26).alloc (.cells #[.int .i64 0, .int .i64 0, .int .i64 0, .int .i64 0, .int .i64 0, .int .i64 0] 28)).below hB
      have k0 := ks0.c0
      have k1 := ks0.c1
      obtain ⟨tz, hz⟩ := kz.blk
      have Hz := Lib.hid hz
      have HB := Lib.hid (below2 (hB2 w) hB)
      clear kz ks0 hz h1 hB z6 hB2
      go_wp2_with fail
      refine (hp _).mono ?_
      rintro e w2 ⟨rfl, rfl⟩
      go_wp2_with (refine wpList_store_row rfl 28 _ _ rfl (w.heap.size + 1) (sixV Am.zero) rfl rfl tz _ Hz.out (by kernel_rfl) rfl (six_one _) ?_)
      (try simp only [Exit.inBlock, Exit.then]); refine bodyPost_ret (ret_alarm (a := Am.zero) rfl rfl ⟨tz, setRow_heap _ _ _ _ _ _ Hz.out⟩) rfl ?_
      exact ⟨rfl, below_setRow HB.out (by omega) _⟩
    · have hxb : (x == 0) = false := by rw [beq_eq_false_iff_ne]; exact hx0
      rw [decide_eq_false hx0]
      rw [decide_eq_true (by omega : 0 < x)] at hp
      cases q
      · simp only [Bool.not_true, Bool.not_false, Bool.false_or, if_true]
        rw [if_neg (by decide)]
        clear hT hw0 hx0
        go_enter Try.func45, Try.ntmps45
        go_wp2_with fail
        refine (h1 _).mono ?_
        rintro e w1 ⟨rfl, hB⟩
        have kz := (z6 w).below hB
        have ks0 := ((Two.new w b c 26).alloc (.cells #[.int .i64 0, .int .i64 0, .int .i64 0, .int .i64 0, .int .i64 0, .int .i64 0] 28)).below hB
        have k0 := ks0.c0
        have k1 := ks0.c1
        obtain ⟨tz, hz⟩ := kz.blk
        have Hz := Lib.hid hz
        have HB := Lib.hid (below2 (hB2 w) hB)
        clear kz ks0 hz h1 hB z6 hB2
        go_wp2_with fail
        refine (hp _).mono ?_
        rintro e w2 ⟨rfl, rfl⟩
        go_wp2_with fail
        refine (h3 _).mono ?_
        rintro e w3 ⟨rfl, rfl⟩
        go_wp2_with (refine wpList_store_row rfl 28 _ _ rfl (w.heap.size + 1) (sixV Am.zero) rfl rfl tz _ Hz.out (by kernel_rfl) rfl (six_one _) ?_)
        (try simp only [Exit.inBlock, Exit.then]); refine bodyPost_ret (ret_alarm (a := Am.zero) rfl rfl ⟨tz, setRow_heap _ _ _ _ _ _ Hz.out⟩) rfl ?_
        exact ⟨rfl, below_setRow HB.out (by omega) _⟩
      · have htb := hT.1 rfl
        have iw : wrap64 (t + x) = t + x := by unfold wrap64; omega
        have Iw2 : Hid (IntKind.i64.wrap (t + x) = t + x) := Lib.hid (by rw [IntKind.wrap_i64]; omega)
        simp only [Bool.not_true, Bool.or_false, Bool.false_eq_true, if_false, if_true]
        clear hT hw0 hx0 htb
        go_enter Try.func45, Try.ntmps45
        go_wp2_with fail
        refine (h1 _).mono ?_
        rintro e w1 ⟨rfl, hB⟩
        have kz := (z6 w).below hB
        have ks0 := ((Two.new w b c 26).alloc (.cells #[.int .i64 0, .int .i64 0, .int .i64 0, .int .i64 0, .int .i64 0, .int .i64 0] 28)).below hB
        have k0 := ks0.c0
        have k1 := ks0.c1
        obtain ⟨tz, hz⟩ := kz.blk
        have Hz := Lib.hid hz
        have HB := Lib.hid (below2 (hB2 w) hB)
        clear kz ks0 hz h1 hB z6 hB2
        go_wp2_with fail
        refine (hp _).mono ?_
        rintro e w2 ⟨rfl, rfl⟩
        go_wp2_with fail
        refine (h3 _).mono ?_
        rintro e w3 ⟨rfl, rfl⟩
        clear h3
        obtain ⟨w4, hw4⟩ : ∃ W, W = w3.drew := ⟨_, rfl⟩
        have q0 : w4.cell? ⟨w.heap.size, 0, none⟩ = some (.int .i64 b) := by rw [hw4]; exact k0
        have q1 : w4.cell? ⟨w.heap.size, 1, none⟩ = some (.int .i64 c) := by rw [hw4]; exact k1
        have Hz4 : Hid (w4.heap[w.heap.size + 1]? = some (.cells (sixV ⟨0, 0, 0, 0, 0, 0⟩) tz (0, 0))) := Lib.hid (by rw [hw4]; exact Hz.out)
        have HB4 : Hid (Below w.heap.size w w4) := Lib.hid (by rw [hw4]; have h := HB.out; exact ⟨h.os, h.tape, h.output, h.size, h.block⟩)
        go_wp2_with fail
        refine wp_region_still_tail 8 (by kernel_rfl) (by kernel_rfl) ?_
        change wpStill _ _ w3.drew (fun a' => wpList _ _ _ _ a' w3.drew) _ _
        rw [← hw4]
        clear hw4 k0 k1 Hz HB
        simp only [List.take_succ_cons, List.take_zero, List.drop_succ_cons, List.drop_zero]
        still_step
        still_step
        still_step
        still_step
        still_step
        still_call (h2 _)
        still_step
        still_step
        refine wpStill_nil ?_
        rw [Iw2.out]
        go_wp2_with (refine wpList_store_row rfl 28 _ _ rfl (w.heap.size + 1) (sixV ⟨b, c, 1, prio, t, t + x⟩) rfl rfl tz _ Hz4.out (by rfl) rfl (six_one _) ?_)
        (try simp only [Exit.inBlock, Exit.then]); refine bodyPost_ret (ret_alarm (a := ⟨b, c, 1, prio, t, t + x⟩) rfl rfl ⟨tz, setRow_heap _ _ _ _ _ _ Hz4.out⟩) rfl ?_
        exact ⟨rfl, below_setRow HB4.out (by omega) _⟩
end Go.Proofs.Ythlojadkgpmnmaa
