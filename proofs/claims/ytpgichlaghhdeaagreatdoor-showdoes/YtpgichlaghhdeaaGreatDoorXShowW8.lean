/-
  Layer 11 (show): Count.
-/
import Derived.Test.YtpgichlaghhdeaaGreatDoorXShowW1
import Derived.Test.YtpgichlaghhdeaaGreatDoorXRefShow7
import Derived.Test.YtpgichlaghhdeaaGreatDoorXJb
namespace Go.Proofs.YtpgichlaghhdeaaGreatDoor
set_option maxRecDepth 10000
open Go.RowKit

/-- A whole block of one's own is written. -/
theorem wpList_setblk {P : Program} {ops : Array Oper} {rest : List Oper} {o : Oper} {a : Act} {w : World} {Q : Exit → Act → World → Prop} (hgd : o.guard = none) (ty : TypeId) (x y : Operand) (ho : o.op = .store ty x y)
    {w0 : World} {L : List (Nat × Array Value)} {M : List Fact} (hS : St w0 w L M) (i k : Nat) (old cs : Array Value) (hi : L[i]? = some (k, old)) (hk : w0.heap.size ≤ k)
    (hx : a.eval x = .pointer (some ⟨k, 0, none⟩)) (hy : a.eval y = .agg cs) (hz : (P.info? ty).map (·.size) = some cs.size) (hsz : old.size = cs.size) (h1 : cs.all (·.oneCell') = true)
    (h : ∀ w', St w0 w' [(k, cs)] [] → wpList P ops Q rest (a.put o.dst undef) w') : wpList P ops Q (o :: rest) a w := by
  obtain ⟨t, ht⟩ := hS.live (k, old) (List.mem_of_getElem? hi)
  refine wpList_store_row hgd ty x y ho k cs hx hy t old ht hz hsz h1 ?_
  refine h _ ⟨fun y hy => ?_, (fun _ h => nomatch h), below_setRow hS.below hk cs⟩
  obtain rfl : y = (k, cs) := by simpa using hy
  exact ⟨t, setRow_heap _ _ _ _ _ _ ht⟩

/-- The counts of five phases, as cells. -/
def cntW (ls : List Alm) : Array Value := #[.int .i64 (Sh.cnt 0 ls : Int), .int .i64 (Sh.cnt 1 ls : Int), .int .i64 (Sh.cnt 2 ls : Int), .int .i64 (Sh.cnt 3 ls : Int), .int .i64 (Sh.cnt 4 ls : Int)]
theorem cntW_one (ls : List Alm) : (cntW ls).all (·.oneCell') = true := by unfold cntW; simp [Value.oneCell']
theorem cntW_same {ls : List Alm} {a : Alm} (h : ¬ (0 ≤ a.ph ∧ a.ph < 5)) : cntW (ls ++ [a]) = cntW ls := by
  unfold cntW
  rw [Sh.cnt_snoc, Sh.cnt_snoc, Sh.cnt_snoc, Sh.cnt_snoc, Sh.cnt_snoc, if_neg (by omega), if_neg (by omega), if_neg (by omega), if_neg (by omega), if_neg (by omega)]
  rfl
theorem cntW_set {ls : List Alm} {a : Alm} (j : Nat) (h : a.ph = (j : Int)) (hj : j < 5) : (cntW ls).setIfInBounds j (.int .i64 ((Sh.cnt (j : Int) ls : Int) + 1)) = cntW (ls ++ [a]) := by
  have hc : j = 0 ∨ j = 1 ∨ j = 2 ∨ j = 3 ∨ j = 4 := by omega
  unfold cntW
  rcases hc with rfl | rfl | rfl | rfl | rfl <;> simp [Sh.cnt_snoc, h]

set_option maxHeartbeats 4000000 in
theorem Count_any (m n : Int) (A : Option Addr) (l c : Nat) (ls : List Alm) (w : World) (h1 : Told w A l c ls) :
    Calls Tryz.prog 17 #[.agg #[.int .i64 m, .int .i64 n, .slice A l c]] w fun e w' => e = .returned (.agg (cntW ls)) ∧ Below w.heap.size w w' := by
  have S0 := Lib.hid (((St.start w).more (rowF A ls) h1.2.1).box2 #[.int .i64 m, .int .i64 n, .slice A l c] #[.int .i64 0, .int .i64 0, .int .i64 0, .int .i64 0, .int .i64 0] 28 41)
  obtain ⟨w1, hw1⟩ : ∃ W, W = (w.alloc (.cells #[.int .i64 m, .int .i64 n, .slice A l c] 28)).alloc (.cells #[.int .i64 0, .int .i64 0, .int .i64 0, .int .i64 0, .int .i64 0] 41) := ⟨_, rfl⟩
  rw [← hw1] at S0
  have Hsz : Hid (w1.heap.size = w.heap.size + 1 + 1) := Lib.hid (by rw [hw1]; simp)
  have Hw1 := Lib.hid hw1
  have Hl := Lib.hid h1.1
  have Hl1 := Lib.hid h1.2.2.2
  clear h1 hw1
  go_enter Tryz.func17, Tryz.ntmps17
  go_wp2_with fail
  go_loopw [9] (fun i wr => ∃ k : Nat, k ≤ l ∧ i = .int .i64 (k : Int) ∧ Hid (St w wr [(w.heap.size + 1 + 1, cntW (ls.take k)), (w.heap.size + 1, #[.int .i64 0, .int .i64 0, .int .i64 0, .int .i64 0, .int .i64 0]), (w.heap.size, #[.int .i64 m, .int .i64 n, .slice A l c])] [rowF A ls]) ∧ Hid (Below w1.heap.size w1 wr)) (fun i _ => l - (intOf i).toNat)
  case atStart =>
    refine ⟨0, Nat.zero_le _, rfl, Lib.hid ?_, Lib.hid ?_⟩
    · have k := S0.out.new #[.int .i64 0, .int .i64 0, .int .i64 0, .int .i64 0, .int .i64 0] 41
      rw [Hsz.out] at k
      rw [← Hw1.out]
      exact k
    · rw [← Hw1.out]
      exact below_new _ _
  case round =>
    obtain ⟨k, hk, rfl, HS, HB⟩ := hrel
    by_cases hlt : k < l
    · have kl : k < ls.length := by rw [← Hl.out]; exact hlt
      obtain ⟨b7, o7, hA7, hb7, h6⟩ := (show AlmsAt wr wr.heap.size A ls from HS.out.fact 0 rfl) k kl
      subst hA7
      obtain ⟨x, hx⟩ : ∃ x, x = ls[k] := ⟨_, rfl⟩
      have Htk : Hid (ls.take (k + 1) = ls.take k ++ [x]) := Lib.hid (by rw [List.take_succ_eq_append_getElem kl, hx])
      have Hcl : Hid (∀ j : Int, Sh.cnt j (ls.take k) ≤ 1000) := Lib.hid (fun j => by
        have h2 := Sh.cnt_le j (ls.take k)
        rw [List.length_take] at h2
        have := Hl1.out
        omega)
      rw [← hx] at h6
      obtain ⟨x0, x1, x2, x3, x4, x5⟩ := x
      have f0 := h6.c0
      have f1 := h6.c1
      have f2 := h6.c2
      have f3 := h6.c3
      have f4 := h6.c4
      have f5 := h6.c5
      simp only at f0 f1 f2 f3 f4 f5
      have i1 : (k : Int) < (l : Int) := by omega
      have i3 : (0 : Int) ≤ (k : Int) := by omega
      have Ik : Hid (wrap64 ((k : Int) + 1) = (k : Int) + 1) := Lib.hid (by have := Hl1.out; unfold wrap64; omega)
      have Hk := Lib.hid hlt
      have HSo := Lib.hid (HS.out.on (below_new wr (.cells #[.int .i64 x0, .int .i64 x1, .int .i64 x2, .int .i64 x3, .int .i64 x4, .int .i64 x5] 25)))
      have HBo := Lib.hid (below2 HB.out (below_new wr (.cells #[.int .i64 x0, .int .i64 x1, .int .i64 x2, .int .i64 x3, .int .i64 x4, .int .i64 x5] 25)))
      have HSn := Lib.hid (HS.out.new #[.int .i64 x0, .int .i64 x1, .int .i64 x2, .int .i64 x3, .int .i64 x4, .int .i64 x5] 25)
      obtain ⟨lk, hlk⟩ : ∃ lk, lk = ls.take k := ⟨_, rfl⟩
      rw [← hlk] at Htk HSo HSn Hcl
      clear hx kl hk hlt h6 hb7 hlk
      have hc : x2 = 0 ∨ x2 = 1 ∨ x2 = 2 ∨ x2 = 3 ∨ x2 = 4 ∨ x2 < 0 ∨ (0 ≤ x2 ∧ 5 ≤ x2) := by omega
      rcases hc with rfl | rfl | rfl | rfl | rfl | hneg | ⟨hpos, hbig⟩
      · have s2 := HSn.out.cell 0 rfl 2 rfl
        have s9 : (wr.alloc (.cells #[.int .i64 x0, .int .i64 x1, .int .i64 0, .int .i64 x3, .int .i64 x4, .int .i64 x5] 25)).cell? ⟨w.heap.size + 1 + 1, 0, none⟩ = some (.int .i64 (Sh.cnt 0 lk : Int)) := HSn.out.cell 1 rfl 0 rfl
        have z9 : (wr.alloc (.cells #[.int .i64 x0, .int .i64 x1, .int .i64 0, .int .i64 x3, .int .i64 x4, .int .i64 x5] 25)).frozen? ⟨w.heap.size + 1 + 1, 0, none⟩ = false := HSn.out.free 1 rfl 0
        have Hset := Lib.hid (cntW_set (ls := lk) (a := ⟨x0, x1, 0, x3, x4, x5⟩) 0 rfl (by decide))
        obtain ⟨v, hv⟩ : ∃ v : Nat, v = Sh.cnt 0 lk := ⟨_, rfl⟩
        have hv1 : v ≤ 1000 := by rw [hv]; exact Hcl.out 0
        have Iv : wrap64 ((v : Int) + 1) = (v : Int) + 1 := by unfold wrap64; omega
        have HSt : Hid ((cntW lk).setIfInBounds 0 (.int .i64 ((v : Int) + 1)) = cntW (lk ++ [⟨x0, x1, 0, x3, x4, x5⟩])) := Lib.hid (by rw [hv]; exact Hset.out)
        rw [← hv] at s9
        clear hv Hset hv1 Hcl
        go_wp2
        go_roundw
        case rel => exact ⟨k + 1, Hk.out, by first | rfl | (rw [Ik.out]; rfl), Lib.hid (by rw [Htk.out, ← HSt.out]; exact St.cellSet S0.out HSo.out HBo.out (Nat.le_of_eq Hsz.out) 0 _), Lib.hid (below_setCell HBo.out (Nat.le_of_eq Hsz.out) 0 _)⟩
        case measure => have := Hk.out; (try rw [Ik.out]); simp [intOf]; omega
      · have s2 := HSn.out.cell 0 rfl 2 rfl
        have s9 : (wr.alloc (.cells #[.int .i64 x0, .int .i64 x1, .int .i64 1, .int .i64 x3, .int .i64 x4, .int .i64 x5] 25)).cell? ⟨w.heap.size + 1 + 1, 1, none⟩ = some (.int .i64 (Sh.cnt 1 lk : Int)) := HSn.out.cell 1 rfl 1 rfl
        have z9 : (wr.alloc (.cells #[.int .i64 x0, .int .i64 x1, .int .i64 1, .int .i64 x3, .int .i64 x4, .int .i64 x5] 25)).frozen? ⟨w.heap.size + 1 + 1, 1, none⟩ = false := HSn.out.free 1 rfl 1
        have Hset := Lib.hid (cntW_set (ls := lk) (a := ⟨x0, x1, 1, x3, x4, x5⟩) 1 rfl (by decide))
        obtain ⟨v, hv⟩ : ∃ v : Nat, v = Sh.cnt 1 lk := ⟨_, rfl⟩
        have hv1 : v ≤ 1000 := by rw [hv]; exact Hcl.out 1
        have Iv : wrap64 ((v : Int) + 1) = (v : Int) + 1 := by unfold wrap64; omega
        have HSt : Hid ((cntW lk).setIfInBounds 1 (.int .i64 ((v : Int) + 1)) = cntW (lk ++ [⟨x0, x1, 1, x3, x4, x5⟩])) := Lib.hid (by rw [hv]; exact Hset.out)
        rw [← hv] at s9
        clear hv Hset hv1 Hcl
        go_wp2
        go_roundw
        case rel => exact ⟨k + 1, Hk.out, by first | rfl | (rw [Ik.out]; rfl), Lib.hid (by rw [Htk.out, ← HSt.out]; exact St.cellSet S0.out HSo.out HBo.out (Nat.le_of_eq Hsz.out) 1 _), Lib.hid (below_setCell HBo.out (Nat.le_of_eq Hsz.out) 1 _)⟩
        case measure => have := Hk.out; (try rw [Ik.out]); simp [intOf]; omega
      · have s2 := HSn.out.cell 0 rfl 2 rfl
        have s9 : (wr.alloc (.cells #[.int .i64 x0, .int .i64 x1, .int .i64 2, .int .i64 x3, .int .i64 x4, .int .i64 x5] 25)).cell? ⟨w.heap.size + 1 + 1, 2, none⟩ = some (.int .i64 (Sh.cnt 2 lk : Int)) := HSn.out.cell 1 rfl 2 rfl
        have z9 : (wr.alloc (.cells #[.int .i64 x0, .int .i64 x1, .int .i64 2, .int .i64 x3, .int .i64 x4, .int .i64 x5] 25)).frozen? ⟨w.heap.size + 1 + 1, 2, none⟩ = false := HSn.out.free 1 rfl 2
        have Hset := Lib.hid (cntW_set (ls := lk) (a := ⟨x0, x1, 2, x3, x4, x5⟩) 2 rfl (by decide))
        obtain ⟨v, hv⟩ : ∃ v : Nat, v = Sh.cnt 2 lk := ⟨_, rfl⟩
        have hv1 : v ≤ 1000 := by rw [hv]; exact Hcl.out 2
        have Iv : wrap64 ((v : Int) + 1) = (v : Int) + 1 := by unfold wrap64; omega
        have HSt : Hid ((cntW lk).setIfInBounds 2 (.int .i64 ((v : Int) + 1)) = cntW (lk ++ [⟨x0, x1, 2, x3, x4, x5⟩])) := Lib.hid (by rw [hv]; exact Hset.out)
        rw [← hv] at s9
        clear hv Hset hv1 Hcl
        go_wp2
        go_roundw
        case rel => exact ⟨k + 1, Hk.out, by first | rfl | (rw [Ik.out]; rfl), Lib.hid (by rw [Htk.out, ← HSt.out]; exact St.cellSet S0.out HSo.out HBo.out (Nat.le_of_eq Hsz.out) 2 _), Lib.hid (below_setCell HBo.out (Nat.le_of_eq Hsz.out) 2 _)⟩
        case measure => have := Hk.out; (try rw [Ik.out]); simp [intOf]; omega
      · have s2 := HSn.out.cell 0 rfl 2 rfl
        have s9 : (wr.alloc (.cells #[.int .i64 x0, .int .i64 x1, .int .i64 3, .int .i64 x3, .int .i64 x4, .int .i64 x5] 25)).cell? ⟨w.heap.size + 1 + 1, 3, none⟩ = some (.int .i64 (Sh.cnt 3 lk : Int)) := HSn.out.cell 1 rfl 3 rfl
        have z9 : (wr.alloc (.cells #[.int .i64 x0, .int .i64 x1, .int .i64 3, .int .i64 x3, .int .i64 x4, .int .i64 x5] 25)).frozen? ⟨w.heap.size + 1 + 1, 3, none⟩ = false := HSn.out.free 1 rfl 3
        have Hset := Lib.hid (cntW_set (ls := lk) (a := ⟨x0, x1, 3, x3, x4, x5⟩) 3 rfl (by decide))
        obtain ⟨v, hv⟩ : ∃ v : Nat, v = Sh.cnt 3 lk := ⟨_, rfl⟩
        have hv1 : v ≤ 1000 := by rw [hv]; exact Hcl.out 3
        have Iv : wrap64 ((v : Int) + 1) = (v : Int) + 1 := by unfold wrap64; omega
        have HSt : Hid ((cntW lk).setIfInBounds 3 (.int .i64 ((v : Int) + 1)) = cntW (lk ++ [⟨x0, x1, 3, x3, x4, x5⟩])) := Lib.hid (by rw [hv]; exact Hset.out)
        rw [← hv] at s9
        clear hv Hset hv1 Hcl
        go_wp2
        go_roundw
        case rel => exact ⟨k + 1, Hk.out, by first | rfl | (rw [Ik.out]; rfl), Lib.hid (by rw [Htk.out, ← HSt.out]; exact St.cellSet S0.out HSo.out HBo.out (Nat.le_of_eq Hsz.out) 3 _), Lib.hid (below_setCell HBo.out (Nat.le_of_eq Hsz.out) 3 _)⟩
        case measure => have := Hk.out; (try rw [Ik.out]); simp [intOf]; omega
      · have s2 := HSn.out.cell 0 rfl 2 rfl
        have s9 : (wr.alloc (.cells #[.int .i64 x0, .int .i64 x1, .int .i64 4, .int .i64 x3, .int .i64 x4, .int .i64 x5] 25)).cell? ⟨w.heap.size + 1 + 1, 4, none⟩ = some (.int .i64 (Sh.cnt 4 lk : Int)) := HSn.out.cell 1 rfl 4 rfl
        have z9 : (wr.alloc (.cells #[.int .i64 x0, .int .i64 x1, .int .i64 4, .int .i64 x3, .int .i64 x4, .int .i64 x5] 25)).frozen? ⟨w.heap.size + 1 + 1, 4, none⟩ = false := HSn.out.free 1 rfl 4
        have Hset := Lib.hid (cntW_set (ls := lk) (a := ⟨x0, x1, 4, x3, x4, x5⟩) 4 rfl (by decide))
        obtain ⟨v, hv⟩ : ∃ v : Nat, v = Sh.cnt 4 lk := ⟨_, rfl⟩
        have hv1 : v ≤ 1000 := by rw [hv]; exact Hcl.out 4
        have Iv : wrap64 ((v : Int) + 1) = (v : Int) + 1 := by unfold wrap64; omega
        have HSt : Hid ((cntW lk).setIfInBounds 4 (.int .i64 ((v : Int) + 1)) = cntW (lk ++ [⟨x0, x1, 4, x3, x4, x5⟩])) := Lib.hid (by rw [hv]; exact Hset.out)
        rw [← hv] at s9
        clear hv Hset hv1 Hcl
        go_wp2
        go_roundw
        case rel => exact ⟨k + 1, Hk.out, by first | rfl | (rw [Ik.out]; rfl), Lib.hid (by rw [Htk.out, ← HSt.out]; exact St.cellSet S0.out HSo.out HBo.out (Nat.le_of_eq Hsz.out) 4 _), Lib.hid (below_setCell HBo.out (Nat.le_of_eq Hsz.out) 4 _)⟩
        case measure => have := Hk.out; (try rw [Ik.out]); simp [intOf]; omega
      · have s2 := HSn.out.cell 0 rfl 2 rfl
        have Hsame := Lib.hid (cntW_same (ls := lk) (a := ⟨x0, x1, x2, x3, x4, x5⟩) (by simp only; omega))
        have b1 : (0 ≤ x2) = False := eq_false (by omega)
        clear hneg Hcl
        go_wp2
        go_roundw
        case rel => exact ⟨k + 1, Hk.out, by first | rfl | (rw [Ik.out]; rfl), Lib.hid (by rw [Htk.out, Hsame.out]; exact HSo.out), HBo⟩
        case measure => have := Hk.out; (try rw [Ik.out]); simp [intOf]; omega
      · have s2 := HSn.out.cell 0 rfl 2 rfl
        have Hsame := Lib.hid (cntW_same (ls := lk) (a := ⟨x0, x1, x2, x3, x4, x5⟩) (by simp only; omega))
        have b1 : (0 ≤ x2) = True := eq_true hpos
        have b2 : (x2 < 5) = False := eq_false (by omega)
        clear hpos hbig Hcl
        go_wp2
        go_roundw
        case rel => exact ⟨k + 1, Hk.out, by first | rfl | (rw [Ik.out]; rfl), Lib.hid (by rw [Htk.out, Hsame.out]; exact HSo.out), HBo⟩
        case measure => have := Hk.out; (try rw [Ik.out]); simp [intOf]; omega
    · have ik : ((k : Int) < (l : Int)) = False := eq_false (by omega)
      have Ht : Hid (ls.take k = ls) := Lib.hid (List.take_of_length_le (by rw [← Hl.out]; omega))
      rw [Ht.out] at HS
      clear hk hlt
      go_wp2_with (first
        | (refine wpList_load_st rfl 41 _ rfl HS.out 0 _ _ rfl rfl _ Tryz.underlying41 rfl (by rfl) ?_)
        | (refine wpList_setblk rfl 41 _ _ rfl HS.out 1 _ _ (cntW ls) rfl (Nat.le_succ _) rfl rfl (by rfl) rfl (cntW_one ls) ?_
           intro w9 hS9
           have HS9 := Lib.hid hS9
           clear hS9))
      obtain ⟨t9, hb9⟩ := HS9.out.live _ (List.mem_cons_self ..)
      (try simp only [Exit.inBlock, Exit.then])
      refine bodyPost_ret (results_cell_row rfl _ w9 (w.heap.size + 1) t9 (cntW ls) (0, 0) _ rfl hb9 Tryz.underlying41 rfl (by rfl)) rfl ?_
      exact ⟨rfl, HS9.out.below⟩
end Go.Proofs.YtpgichlaghhdeaaGreatDoor
