/-
  Layer 12 (file): the references' Cut.
-/
import Derived.Test.YtdhklggbmlkloaaRefFile2
namespace Go.Proofs.Ytdhklggbmlkloaa
set_option maxRecDepth 10000
open Go.RowKit

set_option maxHeartbeats 400000 in
theorem FRCut_bad (m : Int) (k l : ByteArray) (n : Int) (hs : k.size ≤ 9000 ∧ l.size ≤ 9000) (w : World) (h : Fi.is ⟨m, k, l⟩ = false) :
    Calls Try.prog 18 #[.agg #[.int .i64 m, .string k, .string l], .int .i64 n] w fun e w' => e = .returned (.tuple #[Fi.no.v, .int .i64 1]) ∧ Below w.heap.size w w' := by
  have p1 := fun W => FRIs_any m k l hs W
  rw [h] at p1
  clear h hs
  go_enter Try.func18, Try.ntmps18
  go_wp2_with fail
  refine (p1 _).mono ?_
  rintro e w1 ⟨rfl, hB⟩
  have hF1 := (FilAt.new1 w (.cells #[.int .i64 m, .string k, .string l] 23) 0 ⟨#[]⟩ ⟨#[]⟩ 23).below hB
  have hF0 := ((FilAt.new w m k l 23).alloc (.cells #[.int .i64 0, .string ⟨#[]⟩, .string ⟨#[]⟩] 23)).below hB
  have HF := Lib.hid hF1
  have HG := Lib.hid hF0
  have Hb := Lib.hid (below2 (below_new2 w _ _) hB)
  clear hB hF1 hF0
  have a0 := HF.out.f0
  have a1 := HF.out.f1
  have a2 := HF.out.f2
  have b0 := HF.out.c0
  have b1 := HF.out.c1
  have b2 := HF.out.c2
  clear p1
  go_wp2_with fail
  all_goals (try simp only [Exit.inBlock, Exit.then])
  all_goals refine bodyPost_ret (ret_file rfl rfl (((HF.out.set0 0).set1 _).set2 _)) rfl ?_
  all_goals exact ⟨rfl, below_set3 Hb.out (by omega) _ _ _⟩

set_option maxHeartbeats 400000 in
theorem FRCut_low (m : Int) (k l : ByteArray) (n : Int) (hs : k.size ≤ 9000 ∧ l.size ≤ 9000) (w : World) (h : Fi.is ⟨m, k, l⟩ = true) (hn : n < 0) :
    Calls Try.prog 18 #[.agg #[.int .i64 m, .string k, .string l], .int .i64 n] w fun e w' => e = .returned (.tuple #[Fi.no.v, .int .i64 1]) ∧ Below w.heap.size w w' := by
  have p1 := fun W => FRIs_any m k l hs W
  rw [h] at p1
  clear h hs
  go_enter Try.func18, Try.ntmps18
  go_wp2_with fail
  refine (p1 _).mono ?_
  rintro e w1 ⟨rfl, hB⟩
  have hF1 := (FilAt.new1 w (.cells #[.int .i64 m, .string k, .string l] 23) 0 ⟨#[]⟩ ⟨#[]⟩ 23).below hB
  have hF0 := ((FilAt.new w m k l 23).alloc (.cells #[.int .i64 0, .string ⟨#[]⟩, .string ⟨#[]⟩] 23)).below hB
  have HF := Lib.hid hF1
  have HG := Lib.hid hF0
  have Hb := Lib.hid (below2 (below_new2 w _ _) hB)
  clear hB hF1 hF0
  have a0 := HF.out.f0
  have a1 := HF.out.f1
  have a2 := HF.out.f2
  have b0 := HF.out.c0
  have b1 := HF.out.c1
  have b2 := HF.out.c2
  clear p1
  go_wp2_with fail
  all_goals (try simp only [Exit.inBlock, Exit.then])
  all_goals refine bodyPost_ret (ret_file rfl rfl (((HF.out.set0 0).set1 _).set2 _)) rfl ?_
  all_goals exact ⟨rfl, below_set3 Hb.out (by omega) _ _ _⟩

set_option maxHeartbeats 400000 in
theorem FRCut_high (m : Int) (k l : ByteArray) (n : Int) (hs : k.size ≤ 9000 ∧ l.size ≤ 9000) (w : World) (h : Fi.is ⟨m, k, l⟩ = true) (hn : 0 ≤ n) (r : ByteArray) (hr : r = Fi.read ⟨m, k, l⟩) (hg : (r.size : Int) < n) :
    Calls Try.prog 18 #[.agg #[.int .i64 m, .string k, .string l], .int .i64 n] w fun e w' => e = .returned (.tuple #[Fi.no.v, .int .i64 1]) ∧ Below w.heap.size w w' := by
  have p1 := fun W => FRIs_any m k l hs W
  have p2 := fun W => FRRead_any m k l hs W
  rw [h] at p1
  rw [← hr] at p2
  clear h hs hr
  go_enter Try.func18, Try.ntmps18
  go_wp2_with fail
  refine (p1 _).mono ?_
  rintro e w1 ⟨rfl, hB⟩
  have hF1 := (FilAt.new1 w (.cells #[.int .i64 m, .string k, .string l] 23) 0 ⟨#[]⟩ ⟨#[]⟩ 23).below hB
  have hF0 := ((FilAt.new w m k l 23).alloc (.cells #[.int .i64 0, .string ⟨#[]⟩, .string ⟨#[]⟩] 23)).below hB
  have HF := Lib.hid hF1
  have HG := Lib.hid hF0
  have Hb := Lib.hid (below2 (below_new2 w _ _) hB)
  clear hB hF1 hF0
  have d0 := HG.out.c0
  have d1 := HG.out.c1
  have d2 := HG.out.c2
  clear p1
  go_wp2_with fail
  refine (p2 _).mono ?_
  rintro e w2 ⟨rfl, hB2⟩
  replace HF := Lib.hid (HF.out.below hB2)
  replace HG := Lib.hid (HG.out.below hB2)
  replace Hb := Lib.hid (below2 Hb.out hB2)
  clear hB2
  clear d0 d1 d2 p2
  have a0 := HF.out.f0
  have a1 := HF.out.f1
  have a2 := HF.out.f2
  have b0 := HF.out.c0
  have b1 := HF.out.c1
  have b2 := HF.out.c2
  go_wp2_with fail
  all_goals (try simp only [Exit.inBlock, Exit.then])
  all_goals refine bodyPost_ret (ret_file rfl rfl (((HF.out.set0 0).set1 _).set2 _)) rfl ?_
  all_goals exact ⟨rfl, below_set3 Hb.out (by omega) _ _ _⟩

set_option maxHeartbeats 400000 in
theorem FRCut_yes (m : Int) (k l : ByteArray) (n : Int) (hs : k.size ≤ 9000 ∧ l.size ≤ 9000) (w : World) (h : Fi.is ⟨m, k, l⟩ = true) (hn : 0 ≤ n) (r : ByteArray) (hr : r = Fi.read ⟨m, k, l⟩) (hg : n ≤ (r.size : Int)) :
    Calls Try.prog 18 #[.agg #[.int .i64 m, .string k, .string l], .int .i64 n] w fun e w' => e = .returned (.tuple #[(⟨m, r.extract 0 n.toNat, ⟨#[]⟩⟩ : Fil).v, .int .i64 0]) ∧ Below w.heap.size w w' := by
  have p1 := fun W => FRIs_any m k l hs W
  have p2 := fun W => FRRead_any m k l hs W
  rw [h] at p1
  rw [← hr] at p2
  clear h hs hr
  go_enter Try.func18, Try.ntmps18
  go_wp2_with fail
  refine (p1 _).mono ?_
  rintro e w1 ⟨rfl, hB⟩
  have hF1 := (FilAt.new1 w (.cells #[.int .i64 m, .string k, .string l] 23) 0 ⟨#[]⟩ ⟨#[]⟩ 23).below hB
  have hF0 := ((FilAt.new w m k l 23).alloc (.cells #[.int .i64 0, .string ⟨#[]⟩, .string ⟨#[]⟩] 23)).below hB
  have HF := Lib.hid hF1
  have HG := Lib.hid hF0
  have Hb := Lib.hid (below2 (below_new2 w _ _) hB)
  clear hB hF1 hF0
  have d0 := HG.out.c0
  have d1 := HG.out.c1
  have d2 := HG.out.c2
  clear p1
  go_wp2_with fail
  refine (p2 _).mono ?_
  rintro e w2 ⟨rfl, hB2⟩
  replace HF := Lib.hid (HF.out.below hB2)
  replace HG := Lib.hid (HG.out.below hB2)
  replace Hb := Lib.hid (below2 Hb.out hB2)
  clear hB2
  clear d0 d1 d2
  have d0 := HG.out.c0
  have d1 := HG.out.c1
  have d2 := HG.out.c2
  have hlt := HG.out.lt
  go_wp2_with fail
  go_region_held3 (fun W => W.cell? ⟨w.heap.size, 0, none⟩ = some (.int .i64 m) ∧ W.cell? ⟨w.heap.size, 1, none⟩ = some (.string k) ∧ W.cell? ⟨w.heap.size, 2, none⟩ = some (.string l)) (first | exact ⟨d0, d1, d2⟩ | exact ⟨cell_set3 d0 (Nat.lt_succ_self _), cell_set3 d1 (Nat.lt_succ_self _), cell_set3 d2 (Nat.lt_succ_self _)⟩) ((go_at_call 25; refine (p2 _).mono ?_; rintro e w' ⟨rfl, hB'⟩; have hB2 : Below w2.heap.size w2 w' := (by first | exact hB' | exact below_undrew hB'); replace d0 := (hB2.cell (p := ⟨w.heap.size, 0, none⟩) hlt).trans d0; replace d1 := (hB2.cell (p := ⟨w.heap.size, 1, none⟩) hlt).trans d1; replace d2 := (hB2.cell (p := ⟨w.heap.size, 2, none⟩) hlt).trans d2; have HF2 := Lib.hid (HF.out.below hB2); have Hb2 := Lib.hid (below2 Hb.out hB2); have a0 := HF2.out.f0; have a1 := HF2.out.f1; have a2 := HF2.out.f2; have b0 := HF2.out.c0; have b1 := HF2.out.c1; have b2 := HF2.out.c2; clear hB' hB2))
  clear d0 d1 d2 p2
  go_wp2_with fail
  (try simp only [Exit.inBlock, Exit.then]); refine bodyPost_ret (ret_file rfl rfl (((HF2.out.set0 m).set1 _).set2 _)) rfl ?_
  exact ⟨rfl, below_set3 Hb2.out (by omega) _ _ _⟩

theorem FRCut_any (m : Int) (k l : ByteArray) (n : Int) (hs : k.size ≤ 9000 ∧ l.size ≤ 9000) (w : World) :
    Calls Try.prog 18 #[.agg #[.int .i64 m, .string k, .string l], .int .i64 n] w fun e w' => e = .returned (.tuple #[(Fi.cut ⟨m, k, l⟩ n).v, .int .i64 (Fi.cutE ⟨m, k, l⟩ n)]) ∧ Below w.heap.size w w' := by
  by_cases hc : Fi.cutOk ⟨m, k, l⟩ n = true
  · have e1 : Fi.cut ⟨m, k, l⟩ n = ⟨m, (Fi.read ⟨m, k, l⟩).extract 0 n.toNat, ⟨#[]⟩⟩ := by unfold Fi.cut; rw [if_pos hc]
    have e2 : Fi.cutE ⟨m, k, l⟩ n = 0 := by unfold Fi.cutE; rw [if_pos hc]
    have hc2 : Fi.is ⟨m, k, l⟩ = true ∧ 0 ≤ n ∧ n ≤ (k.size : Int) + l.size := by
      unfold Fi.cutOk at hc; rw [Bool.and_eq_true] at hc; exact ⟨hc.1, of_decide_eq_true hc.2⟩
    rw [e1, e2]
    exact FRCut_yes m k l n hs w hc2.1 hc2.2.1 _ rfl (by rw [Fi.read_size]; simp only; omega)
  · have e1 : Fi.cut ⟨m, k, l⟩ n = Fi.no := by unfold Fi.cut; rw [if_neg hc]
    have e2 : Fi.cutE ⟨m, k, l⟩ n = 1 := by unfold Fi.cutE; rw [if_neg hc]
    rw [e1, e2]
    cases h : Fi.is ⟨m, k, l⟩
    · exact FRCut_bad m k l n hs w h
    · by_cases hn : n < 0
      · exact FRCut_low m k l n hs w h hn
      · refine FRCut_high m k l n hs w h (by omega) _ rfl ?_
        have : ¬ (0 ≤ n ∧ n ≤ (k.size : Int) + l.size) := fun hh => hc (by unfold Fi.cutOk; rw [h, Bool.true_and]; exact decide_eq_true hh)
        rw [Fi.read_size]; simp only; omega

end Go.Proofs.Ytdhklggbmlkloaa
