/-
  Layer 12 (file): the references' Crash.
-/
import Derived.Test.YteepemibmjpnfaaXRefFile2
namespace Go.Proofs.Yteepemibmjpnfaa
set_option maxRecDepth 10000
open Go.RowKit

set_option maxHeartbeats 400000 in
theorem FRCrash_no (m : Int) (k l : ByteArray) (n : Int) (hs : k.size ≤ 9000 ∧ l.size ≤ 9000) (w : World) (h : Fi.is ⟨m, k, l⟩ = false) :
    Calls Try.prog 35 #[.agg #[.int .i64 m, .string k, .string l], .int .i64 n] w fun e w' => e = .returned (.tuple #[Fi.no.v, .int .i64 1]) ∧ Below w.heap.size w w' := by
  have p1 := fun W => FRIs_any m k l hs W
  rw [h] at p1
  clear h hs
  go_enter Try.func35, Try.ntmps35
  go_wp2_with fail
  refine (p1 _).mono ?_
  rintro e w1 ⟨rfl, hB⟩
  have hF1 := (FilAt.new1 w (.cells #[.int .i64 m, .string k, .string l] 23) 0 ⟨#[]⟩ ⟨#[]⟩ 23).below hB
  have Hb := Lib.hid (below2 (below_new2 w _ _) hB)
  have a0 := hF1.f0
  have a1 := hF1.f1
  have a2 := hF1.f2
  have b0 := hF1.c0
  have b1 := hF1.c1
  have b2 := hF1.c2
  have HF := Lib.hid hF1
  clear p1 hB hF1
  go_wp2_with fail
  (try simp only [Exit.inBlock, Exit.then]); refine bodyPost_ret (ret_file rfl rfl (((HF.out.set0 0).set1 _).set2 _)) rfl ?_
  exact ⟨rfl, below_set3 Hb.out (by omega) _ _ _⟩

set_option maxHeartbeats 400000 in
theorem FRCrash_yes (m : Int) (k l : ByteArray) (n : Int) (hs : k.size ≤ 9000 ∧ l.size ≤ 9000) (w : World) (h : Fi.is ⟨m, k, l⟩ = true) (q : Nat) (hq : q = Fi.many ⟨m, k, l⟩ n) :
    Calls Try.prog 35 #[.agg #[.int .i64 m, .string k, .string l], .int .i64 n] w fun e w' => e = .returned (.tuple #[(⟨m, k ++ l.extract 0 q, ⟨#[]⟩⟩ : Fil).v, .int .i64 0]) ∧ Below w.heap.size w w' := by
  have p1 := fun W => FRIs_any m k l hs W
  rw [h] at p1
  obtain ⟨hk, hl⟩ := hs
  have Hm : Hid ((if (l.size : Int) < (if n < 0 then 0 else n) then (l.size : Int) else (if n < 0 then 0 else n)).toNat = q) := Lib.hid (by rw [hq]; unfold Fi.many; simp only; split <;> split at * <;> omega)
  have hql : q ≤ l.size := by rw [hq]; unfold Fi.many; simp only; omega
  have hcat : ¬ 9223372036854775807 < k.size + (l.extract 0 q).size := by rw [ByteArray.size_extract]; omega
  clear h hq
  go_enter Try.func35, Try.ntmps35
  go_wp2_with fail
  refine (p1 _).mono ?_
  rintro e w1 ⟨rfl, hB⟩
  have hF1 := (FilAt.new1 w (.cells #[.int .i64 m, .string k, .string l] 23) 0 ⟨#[]⟩ ⟨#[]⟩ 23).below hB
  have hF0 := ((FilAt.new w m k l 23).alloc (.cells #[.int .i64 0, .string ⟨#[]⟩, .string ⟨#[]⟩] 23)).below hB
  have Hb := Lib.hid (below2 (below_new2 w _ _) hB)
  have d0 := hF0.c0
  have d1 := hF0.c1
  have d2 := hF0.c2
  have a0 := hF1.f0
  have a1 := hF1.f1
  have a2 := hF1.f2
  have b0 := hF1.c0
  have b1 := hF1.c1
  have b2 := hF1.c2
  have HF := Lib.hid hF1
  clear p1 hB hF1 hF0
  go_wp2_with fail
  go_region
  rw [Hm.out]
  clear d0 d1 d2 a0 a1 a2 b0 b1 b2
  clear hcat hql hk hl
  go_wp2_with fail
  all_goals (try simp only [Exit.inBlock, Exit.then])
  all_goals refine bodyPost_ret (ret_file rfl rfl ((((HF.out.set0 m).set1 _).set2 _).drew)) rfl ?_
  all_goals exact ⟨rfl, below_drew12 (below_set3 Hb.out (by omega) _ _ _)⟩

theorem FRCrash_any (m : Int) (k l : ByteArray) (n : Int) (hs : k.size ≤ 9000 ∧ l.size ≤ 9000) (w : World) :
    Calls Try.prog 35 #[.agg #[.int .i64 m, .string k, .string l], .int .i64 n] w fun e w' => e = .returned (.tuple #[(Fi.crash ⟨m, k, l⟩ n).v, .int .i64 (Fi.badE ⟨m, k, l⟩)]) ∧ Below w.heap.size w w' := by
  cases h : Fi.is ⟨m, k, l⟩
  · have e1 : Fi.crash ⟨m, k, l⟩ n = Fi.no := by unfold Fi.crash; rw [h]; rfl
    have e2 : Fi.badE ⟨m, k, l⟩ = 1 := by unfold Fi.badE; rw [h]; rfl
    rw [e1, e2]; exact FRCrash_no m k l n hs w h
  · have e1 : Fi.crash ⟨m, k, l⟩ n = ⟨m, k ++ l.extract 0 (Fi.many ⟨m, k, l⟩ n), ⟨#[]⟩⟩ := by unfold Fi.crash; rw [h]; rfl
    have e2 : Fi.badE ⟨m, k, l⟩ = 0 := by unfold Fi.badE; rw [h]; rfl
    rw [e1, e2]; exact FRCrash_yes m k l n hs w h _ rfl

end Go.Proofs.Yteepemibmjpnfaa
