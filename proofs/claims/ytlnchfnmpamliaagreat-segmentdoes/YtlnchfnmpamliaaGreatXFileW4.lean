/-
  Layer 12 (file): the landed code: Cut (printed by tools/gen-filew4.py).
-/
import Derived.Test.YtlnchfnmpamliaaGreatXFileW3
namespace Go.Proofs.YtlnchfnmpamliaaGreat
set_option maxRecDepth 10000
open Go.RowKit

set_option maxHeartbeats 1000000 in
theorem fcut_bad (m : Int) (k l : ByteArray) (n : Int) (hs : k.size ≤ 9000 ∧ l.size ≤ 9000) (w : World) (h : Fi.is ⟨m, k, l⟩ = false) :
    Calls Tryz.prog 58 #[.agg #[.int .i64 m, .string k, .string l], .int .i64 n] w fun e w' => e = .returned (.tuple #[Fi.no.v, .int .i64 1]) ∧ Below w.heap.size w w' := by
  have p1 := fun W => fis_any m k l hs W
  have p2 := fun W => fof_any m k l W
  have p3 := fun W => fsize_any m k l hs W
  have hfd := fun W => run_field_cont m k l W
  rw [h] at p1
  clear h hs
  go_enter Tryz.func58, Tryz.ntmps58
  go_wp2_with fail
  refine (p1 _).mono ?_
  rintro e w1 ⟨rfl, hB⟩
  have hF1 := (FilAt.new1 w (.cells #[.int .i64 m, .string k, .string l] 47) 0 ⟨#[]⟩ ⟨#[]⟩ 47).below hB
  have hF0 := ((FilAt.new w m k l 47).alloc (.cells #[.int .i64 0, .string ⟨#[]⟩, .string ⟨#[]⟩] 47)).below hB
  have HF := Lib.hid hF1
  have HG := Lib.hid hF0
  have Hb := Lib.hid (below2 (below_new2 w _ _) hB)
  clear hB hF1 hF0 p1
  clear p2 p3 hfd
  have a0 := HF.out.f0
  have a1 := HF.out.f1
  have a2 := HF.out.f2
  have b0 := HF.out.c0
  have b1 := HF.out.c1
  have b2 := HF.out.c2
  go_wp2_with fail
  (try simp only [Exit.inBlock, Exit.then]); refine bodyPost_ret (ret_file rfl rfl (((HF.out.set0 0).set1 _).set2 _)) rfl ?_
  exact ⟨rfl, below_set3 Hb.out (by omega) _ _ _⟩

set_option maxHeartbeats 1000000 in
theorem fcut_low (m : Int) (k l : ByteArray) (n : Int) (hs : k.size ≤ 9000 ∧ l.size ≤ 9000) (w : World) (h : Fi.is ⟨m, k, l⟩ = true) (h0 : (n < 0) = True) :
    Calls Tryz.prog 58 #[.agg #[.int .i64 m, .string k, .string l], .int .i64 n] w fun e w' => e = .returned (.tuple #[Fi.no.v, .int .i64 1]) ∧ Below w.heap.size w w' := by
  have p1 := fun W => fis_any m k l hs W
  have p2 := fun W => fof_any m k l W
  have p3 := fun W => fsize_any m k l hs W
  have hfd := fun W => run_field_cont m k l W
  rw [h] at p1
  clear h hs
  go_enter Tryz.func58, Tryz.ntmps58
  go_wp2_with fail
  refine (p1 _).mono ?_
  rintro e w1 ⟨rfl, hB⟩
  have hF1 := (FilAt.new1 w (.cells #[.int .i64 m, .string k, .string l] 47) 0 ⟨#[]⟩ ⟨#[]⟩ 47).below hB
  have hF0 := ((FilAt.new w m k l 47).alloc (.cells #[.int .i64 0, .string ⟨#[]⟩, .string ⟨#[]⟩] 47)).below hB
  have HF := Lib.hid hF1
  have HG := Lib.hid hF0
  have Hb := Lib.hid (below2 (below_new2 w _ _) hB)
  clear hB hF1 hF0 p1
  clear p2 p3 hfd
  have a0 := HF.out.f0
  have a1 := HF.out.f1
  have a2 := HF.out.f2
  have b0 := HF.out.c0
  have b1 := HF.out.c1
  have b2 := HF.out.c2
  go_wp2_with fail
  (try simp only [Exit.inBlock, Exit.then]); refine bodyPost_ret (ret_file rfl rfl (((HF.out.set0 0).set1 _).set2 _)) rfl ?_
  exact ⟨rfl, below_set3 Hb.out (by omega) _ _ _⟩

set_option maxHeartbeats 1000000 in
theorem fcut_high (m : Int) (k l : ByteArray) (n : Int) (hs : k.size ≤ 9000 ∧ l.size ≤ 9000) (w : World) (h : Fi.is ⟨m, k, l⟩ = true) (h0 : (n < 0) = False) (hg : ((k.size : Int) + l.size < n) = True) :
    Calls Tryz.prog 58 #[.agg #[.int .i64 m, .string k, .string l], .int .i64 n] w fun e w' => e = .returned (.tuple #[Fi.no.v, .int .i64 1]) ∧ Below w.heap.size w w' := by
  have p1 := fun W => fis_any m k l hs W
  have p2 := fun W => fof_any m k l W
  have p3 := fun W => fsize_any m k l hs W
  have hfd := fun W => run_field_cont m k l W
  rw [h] at p1
  clear h hs
  go_enter Tryz.func58, Tryz.ntmps58
  go_wp2_with fail
  refine (p1 _).mono ?_
  rintro e w1 ⟨rfl, hB⟩
  have hF1 := (FilAt.new1 w (.cells #[.int .i64 m, .string k, .string l] 47) 0 ⟨#[]⟩ ⟨#[]⟩ 47).below hB
  have hF0 := ((FilAt.new w m k l 47).alloc (.cells #[.int .i64 0, .string ⟨#[]⟩, .string ⟨#[]⟩] 47)).below hB
  have HF := Lib.hid hF1
  have HG := Lib.hid hF0
  have Hb := Lib.hid (below2 (below_new2 w _ _) hB)
  clear hB hF1 hF0 p1
  have d0 := HG.out.c0
  have d1 := HG.out.c1
  have d2 := HG.out.c2
  go_wp2_with fail
  refine (p2 _).mono ?_
  rintro e w2 ⟨rfl, hB⟩
  replace HF := Lib.hid (HF.out.below hB)
  replace HG := Lib.hid (HG.out.below hB)
  replace Hb := Lib.hid (below2 Hb.out hB)
  clear hB
  clear d0 d1 d2
  go_wp2_with fail
  refine (p3 _).mono ?_
  rintro e w3 ⟨rfl, hB⟩
  replace HF := Lib.hid (HF.out.below hB)
  replace HG := Lib.hid (HG.out.below hB)
  replace Hb := Lib.hid (below2 Hb.out hB)
  clear hB
  clear p2 p3 hfd
  have a0 := HF.out.f0
  have a1 := HF.out.f1
  have a2 := HF.out.f2
  have b0 := HF.out.c0
  have b1 := HF.out.c1
  have b2 := HF.out.c2
  go_wp2_with fail
  (try simp only [Exit.inBlock, Exit.then]); refine bodyPost_ret (ret_file rfl rfl (((HF.out.set0 0).set1 _).set2 _)) rfl ?_
  exact ⟨rfl, below_set3 Hb.out (by omega) _ _ _⟩

set_option maxHeartbeats 1000000 in
theorem fcut_yes (m : Int) (k l : ByteArray) (n : Int) (hs : k.size ≤ 9000 ∧ l.size ≤ 9000) (w : World) (h : Fi.is ⟨m, k, l⟩ = true) (h0 : (n < 0) = False) (hg : ((k.size : Int) + l.size < n) = False) :
    Calls Tryz.prog 58 #[.agg #[.int .i64 m, .string k, .string l], .int .i64 n] w fun e w' => e = .returned (.tuple #[(⟨m, (Fi.read ⟨m, k, l⟩).extract 0 n.toNat, ⟨#[]⟩⟩ : Fil).v, .int .i64 0]) ∧ Below w.heap.size w w' := by
  have p1 := fun W => fis_any m k l hs W
  have p2 := fun W => fof_any m k l W
  have p3 := fun W => fsize_any m k l hs W
  have p4 := fun W => fkeep_any m k l n hs (by simpa using h0) _ rfl (by rw [Fi.read_size]; simp only; have := of_eq_false hg; omega) W
  obtain ⟨x, hx⟩ : ∃ x, x = (Fi.read ⟨m, k, l⟩).extract 0 n.toNat := ⟨_, rfl⟩
  rw [← hx] at p4 ⊢
  have hfd := fun W => run_field_cont m k l W
  rw [h] at p1
  clear h hs hx
  go_enter Tryz.func58, Tryz.ntmps58
  go_wp2_with fail
  refine (p1 _).mono ?_
  rintro e w1 ⟨rfl, hB⟩
  have hF1 := (FilAt.new1 w (.cells #[.int .i64 m, .string k, .string l] 47) 0 ⟨#[]⟩ ⟨#[]⟩ 47).below hB
  have hF0 := ((FilAt.new w m k l 47).alloc (.cells #[.int .i64 0, .string ⟨#[]⟩, .string ⟨#[]⟩] 47)).below hB
  have HF := Lib.hid hF1
  have HG := Lib.hid hF0
  have Hb := Lib.hid (below2 (below_new2 w _ _) hB)
  clear hB hF1 hF0 p1
  have d0 := HG.out.c0
  have d1 := HG.out.c1
  have d2 := HG.out.c2
  go_wp2_with fail
  refine (p2 _).mono ?_
  rintro e w2 ⟨rfl, hB⟩
  replace HF := Lib.hid (HF.out.below hB)
  replace HG := Lib.hid (HG.out.below hB)
  replace Hb := Lib.hid (below2 Hb.out hB)
  clear hB
  clear d0 d1 d2
  go_wp2_with fail
  refine (p3 _).mono ?_
  rintro e w3 ⟨rfl, hB⟩
  replace HF := Lib.hid (HF.out.below hB)
  replace HG := Lib.hid (HG.out.below hB)
  replace Hb := Lib.hid (below2 Hb.out hB)
  clear hB
  have d0 := HG.out.c0
  have d1 := HG.out.c1
  have d2 := HG.out.c2
  go_wp2_with fail
  refine (p2 _).mono ?_
  rintro e w4 ⟨rfl, hB⟩
  replace HF := Lib.hid (HF.out.below hB)
  replace HG := Lib.hid (HG.out.below hB)
  replace Hb := Lib.hid (below2 Hb.out hB)
  clear hB
  clear d0 d1 d2
  go_wp2_with fail
  refine (p4 _).mono ?_
  rintro e w5 ⟨rfl, hB⟩
  replace HF := Lib.hid (HF.out.below hB)
  replace HG := Lib.hid (HG.out.below hB)
  replace Hb := Lib.hid (below2 Hb.out hB)
  clear hB
  clear p2 p3 p4 hfd
  have a0 := HF.out.f0
  have a1 := HF.out.f1
  have a2 := HF.out.f2
  have b0 := HF.out.c0
  have b1 := HF.out.c1
  have b2 := HF.out.c2
  go_wp2_with fail
  (try simp only [Exit.inBlock, Exit.then]); refine bodyPost_ret (ret_file rfl rfl (((HF.out.set0 m).set1 _).set2 _)) rfl ?_
  exact ⟨rfl, below_set3 Hb.out (by omega) _ _ _⟩

theorem fcut_any (m : Int) (k l : ByteArray) (n : Int) (hs : k.size ≤ 9000 ∧ l.size ≤ 9000) (w : World) :
    Calls Tryz.prog 58 #[.agg #[.int .i64 m, .string k, .string l], .int .i64 n] w fun e w' => e = .returned (.tuple #[(Fi.cut ⟨m, k, l⟩ n).v, .int .i64 (Fi.cutE ⟨m, k, l⟩ n)]) ∧ Below w.heap.size w w' := by
  by_cases hc : Fi.cutOk ⟨m, k, l⟩ n = true
  · have e1 : Fi.cut ⟨m, k, l⟩ n = ⟨m, (Fi.read ⟨m, k, l⟩).extract 0 n.toNat, ⟨#[]⟩⟩ := by unfold Fi.cut; rw [if_pos hc]
    have e2 : Fi.cutE ⟨m, k, l⟩ n = 0 := by unfold Fi.cutE; rw [if_pos hc]
    have hc2 : Fi.is ⟨m, k, l⟩ = true ∧ 0 ≤ n ∧ n ≤ (k.size : Int) + l.size := by
      unfold Fi.cutOk at hc; rw [Bool.and_eq_true] at hc; exact ⟨hc.1, of_decide_eq_true hc.2⟩
    rw [e1, e2]
    exact fcut_yes m k l n hs w hc2.1 (eq_false (by omega)) (eq_false (by omega))
  · have e1 : Fi.cut ⟨m, k, l⟩ n = Fi.no := by unfold Fi.cut; rw [if_neg hc]
    have e2 : Fi.cutE ⟨m, k, l⟩ n = 1 := by unfold Fi.cutE; rw [if_neg hc]
    rw [e1, e2]
    cases h : Fi.is ⟨m, k, l⟩
    · exact fcut_bad m k l n hs w h
    · by_cases hn : n < 0
      · exact fcut_low m k l n hs w h (eq_true hn)
      · refine fcut_high m k l n hs w h (eq_false hn) (eq_true ?_)
        have : ¬ (0 ≤ n ∧ n ≤ (k.size : Int) + l.size) := fun hh => hc (by unfold Fi.cutOk; rw [h, Bool.true_and]; exact decide_eq_true hh)
        omega
end Go.Proofs.YtlnchfnmpamliaaGreat
