/-
  Layer 12 (file): the references' Crash.
  Layer 14 (segment): the reference's Crash (the walk of Sync, turned).
-/
import Derived.Test.YtlnchfnmpamliaaGreatXJi
namespace Go.Proofs.YtlnchfnmpamliaaGreat
set_option maxRecDepth 10000
open Go.RowKit

set_option maxHeartbeats 400000 in
theorem FRCrash_no (m : Int) (k l : ByteArray) (n : Int) (hs : k.size ≤ 9000 ∧ l.size ≤ 9000) (w : World) (h : Fi.is ⟨m, k, l⟩ = false) :
    Calls Tryz.prog 40 #[.agg #[.int .i64 m, .string k, .string l], .int .i64 n] w fun e w' => e = .returned (.tuple #[Fi.no.v, .int .i64 1]) ∧ Below w.heap.size w w' := by
  have p1 := fun W => FRIs_any m k l hs W
  rw [h] at p1
  clear h hs
  go_enter Tryz.func40, Tryz.ntmps40
  go_wp2_with fail
  refine (p1 _).mono ?_
  rintro e w1 ⟨rfl, hB⟩
  have hF1 := (FilAt.new1 w (.cells #[.int .i64 m, .string k, .string l] 47) 0 ⟨#[]⟩ ⟨#[]⟩ 47).below hB
  have Hb := Lib.hid (below2 (below_new2 w _ _) hB)
  have a0 := hF1.f0
  have a1 := hF1.f1
  have a2 := hF1.f2
  have b0 := hF1.c0
  have b1 := hF1.c1
  have b2 := hF1.c2
  have HF := Lib.hid hF1
  clear p1 hB hF1
  go_wp2_with fail
  (try simp only [Exit.inBlock, Exit.then]); refine bodyPost_ret (ret_file rfl rfl (((HF.out.set0 0).set1 _).set2 _)) rfl ?_
  exact ⟨rfl, below_set3 Hb.out (by omega) _ _ _⟩

set_option maxHeartbeats 400000 in
theorem FRCrash_yes (m : Int) (k l : ByteArray) (n : Int) (hs : k.size ≤ 9000 ∧ l.size ≤ 9000) (w : World) (h : Fi.is ⟨m, k, l⟩ = true) (q : Nat) (hq : q = Fi.many ⟨m, k, l⟩ n) :
    Calls Tryz.prog 40 #[.agg #[.int .i64 m, .string k, .string l], .int .i64 n] w fun e w' => e = .returned (.tuple #[(⟨m, k ++ l.extract 0 q, ⟨#[]⟩⟩ : Fil).v, .int .i64 0]) ∧ Below w.heap.size w w' := by
  have p1 := fun W => FRIs_any m k l hs W
  rw [h] at p1
  obtain ⟨hk, hl⟩ := hs
  have Hm : Hid ((if (l.size : Int) < (if n < 0 then 0 else n) then (l.size : Int) else (if n < 0 then 0 else n)).toNat = q) := Lib.hid (by rw [hq]; unfold Fi.many; simp only; split <;> split at * <;> omega)
  have hql : q ≤ l.size := by rw [hq]; unfold Fi.many; simp only; omega
  have hcat : ¬ 9223372036854775807 < k.size + (l.extract 0 q).size := by rw [ByteArray.size_extract]; omega
  clear h hq
  go_enter Tryz.func40, Tryz.ntmps40
  go_wp2_with fail
  refine (p1 _).mono ?_
  rintro e w1 ⟨rfl, hB⟩
  have hF1 := (FilAt.new1 w (.cells #[.int .i64 m, .string k, .string l] 47) 0 ⟨#[]⟩ ⟨#[]⟩ 47).below hB
  have hF0 := ((FilAt.new w m k l 47).alloc (.cells #[.int .i64 0, .string ⟨#[]⟩, .string ⟨#[]⟩] 47)).below hB
  have Hb := Lib.hid (below2 (below_new2 w _ _) hB)
  have d0 := hF0.c0
  have d1 := hF0.c1
  have d2 := hF0.c2
  have a0 := hF1.f0
  have a1 := hF1.f1
  have a2 := hF1.f2
  have b0 := hF1.c0
  have b1 := hF1.c1
  have b2 := hF1.c2
  have HF := Lib.hid hF1
  clear p1 hB hF1 hF0
  go_wp2_with fail
  go_region
  rw [Hm.out]
  clear d0 d1 d2 a0 a1 a2 b0 b1 b2
  clear hcat hql hk hl
  go_wp2_with fail
  all_goals (try simp only [Exit.inBlock, Exit.then])
  all_goals refine bodyPost_ret (ret_file rfl rfl ((((HF.out.set0 m).set1 _).set2 _).drew)) rfl ?_
  all_goals exact ⟨rfl, below_drew12 (below_set3 Hb.out (by omega) _ _ _)⟩

theorem FRCrash_any (m : Int) (k l : ByteArray) (n : Int) (hs : k.size ≤ 9000 ∧ l.size ≤ 9000) (w : World) :
    Calls Tryz.prog 40 #[.agg #[.int .i64 m, .string k, .string l], .int .i64 n] w fun e w' => e = .returned (.tuple #[(Fi.crash ⟨m, k, l⟩ n).v, .int .i64 (Fi.badE ⟨m, k, l⟩)]) ∧ Below w.heap.size w w' := by
  cases h : Fi.is ⟨m, k, l⟩
  · have e1 : Fi.crash ⟨m, k, l⟩ n = Fi.no := by unfold Fi.crash; rw [h]; rfl
    have e2 : Fi.badE ⟨m, k, l⟩ = 1 := by unfold Fi.badE; rw [h]; rfl
    rw [e1, e2]; exact FRCrash_no m k l n hs w h
  · have e1 : Fi.crash ⟨m, k, l⟩ n = ⟨m, k ++ l.extract 0 (Fi.many ⟨m, k, l⟩ n), ⟨#[]⟩⟩ := by unfold Fi.crash; rw [h]; rfl
    have e2 : Fi.badE ⟨m, k, l⟩ = 0 := by unfold Fi.badE; rw [h]; rfl
    rw [e1, e2]; exact FRCrash_yes m k l n hs w h _ rfl

end Go.Proofs.YtlnchfnmpamliaaGreat

namespace Go.Proofs.YtlnchfnmpamliaaGreat
set_option maxRecDepth 10000
open Go.RowKit

set_option maxHeartbeats 1000000 in
theorem RSCrash_any (sz fi u : Int) (A : Option Addr) (n c : Nat) (fs : List Fil) (w : World) (hA : FilsAt w w.heap.size A fs) (hs : Sg.small ⟨sz, fi, fs⟩) (hn : n = fs.length) (hc : A = none → c = 0) :
    Calls Tryz.prog 14 #[.agg #[.int .i64 sz, .int .i64 fi, .slice A n c], .int .i64 u] w (GivesS w (Sg.crash ⟨sz, fi, fs⟩ u) (Sg.badE ⟨sz, fi, fs⟩)) := by
  have p1 := fun W (h : FilsAt W W.heap.size A fs) => RSIs_any sz fi A n c fs W h hs hn
  have S0 := Lib.hid (((St.start w).more (filF14 A w.heap.size fs) ⟨hA, Nat.le_refl _⟩).box2 #[.int .i64 sz, .int .i64 fi, .slice A n c] #[.int .i64 0, .int .i64 0, .slice none 0 0] 24 24)
  by_cases hi : Sg.is ⟨sz, fi, fs⟩ = true
  · rw [hi] at p1
    obtain ⟨pre, f, hfs, q1, q2, hfi, q3⟩ := Sg.is_split hi
    clear q1 q2 q3
    simp only at hfs
    have e1 : Sg.crash ⟨sz, fi, fs⟩ u = ⟨sz, fi, pre ++ [Fi.crash f u]⟩ := by unfold Sg.crash; rw [if_pos hi]; simp only; rw [hfs, Sg.onLast_split]
    have e2 : Sg.badE ⟨sz, fi, fs⟩ = 0 := by unfold Sg.badE; rw [if_pos hi]
    rw [e1, e2]
    have hl2 : n ≤ 20 := by have := (Sg.is_iff.1 hi).1.2.2.2; simp only at this; omega
    have p2 := fun W (h : FilsAt W W.heap.size A fs) => RSOwn_any sz fi A n c fs W h hn hc (by omega)
    have p3 := fun W => FRCrash_any f.most f.kept f.loose u (Rc.is_small9 hfi) W
    have e3 : (⟨f.most, f.kept, f.loose⟩ : Fil) = f := rfl
    rw [e3] at p3
    obtain ⟨Y, hY⟩ : ∃ Y, Y = Fi.crash f u := ⟨_, rfl⟩
    rw [← hY] at p3 ⊢
    obtain ⟨ym, yk, yl⟩ := Y
    obtain ⟨fm, fk, fl⟩ := f
    unfold Fil.v filV at p3
    simp only at p3
    have hk : n = pre.length + 1 := by rw [hn, hfs]; simp
    have wk : wrap64 ((n : Int) - 1) = (pre.length : Int) := by unfold wrap64; omega
    obtain ⟨k, hkk⟩ : ∃ k, k = pre.length := ⟨_, rfl⟩
    rw [← hkk] at wk hk
    have Hkk := Lib.hid hkk
    have Hfs := Lib.hid hfs
    have Hwk := Lib.hid wk
    have Hk := Lib.hid hk
    clear hA hs hc hi e1 e2 e3 hfi hY hkk hn hl2 hfs wk hk
    go_enter Tryz.func14, Tryz.ntmps14
    go_wp2_with fail
    refine (p1 _ ((S0.out.fact 0 rfl).1.more (S0.out.fact 0 rfl).2)).mono ?_
    rintro e w1 ⟨rfl, hB⟩
    have S1 := Lib.hid (S0.out.on hB)
    clear p1 hB S0
    have c0 := S1.out.cell 1 rfl 0 rfl
    have c1 := S1.out.cell 1 rfl 1 rfl
    have c2 := S1.out.cell 1 rfl 2 rfl
    go_wp2_with fail
    refine (p2 _ ((S1.out.fact 0 rfl).1.more (S1.out.fact 0 rfl).2)).mono ?_
    rintro e w2 ⟨A2, c2', rfl, hO, hB⟩
    rw [Hfs.out] at hO
    have X3 := Lib.hid (XAt.start sz fi 24 S1.out (by simp) hB hO)
    clear p2 hB hO c0 c1 c2
    obtain ⟨g, rfl, hnn, h3, hcap⟩ := X3.out.own.last
    rw [← Hkk.out] at h3 hcap
    have e0 := h3.c0
    have e1 := h3.c1
    have e2 := h3.c2
    simp only at e0 e1 e2
    have x2 := X3.out.x2
    have wk := Hwk.out
    have hk := Hk.out
    have i1 : (k : Int) < (n : Int) := by omega
    have i0 : (0 : Int) ≤ (k : Int) := by omega
    clear h3 hcap wk hk hnn
    have wk := Hwk.out
    go_wp2_with fail
    refine (p3 _).mono ?_
    rintro e w4 ⟨rfl, hB⟩
    have X5 := Lib.hid ((X3.out.on hB).on (below_new w4 (.cells #[.int .i64 ym, .string yk, .string yl] 47)))
    have x2 := X5.out.x2
    have F5 := FilAt.new w4 ym yk yl 47
    have f0 := F5.c0
    have f1 := F5.c1
    have f2 := F5.c2
    clear hB X3 p3 F5 e0 e1 e2
    go_wp2_with (refine wpList_store_fil rfl _ _ rfl w1.heap.size g n c2' k pre [] ⟨fm, fk, fl⟩ ⟨ym, yk, yl⟩ Hkk.out rfl rfl X5.out.own ?_
                 intro w6 hO hg
                 have X6 := Lib.hid (X5.out.turn hg hO)
                 clear hO hg f0 f1 f2 x2
                 have x0 := X6.out.x0
                 have x1 := X6.out.x1
                 have x2 := X6.out.x2
                 have a0 := X6.out.rf 0
                 have a1 := X6.out.rf 1
                 have a2 := X6.out.rf 2
                 have b0 := X6.out.r0
                 have b1 := X6.out.r1
                 have b2 := X6.out.r2)
    obtain ⟨t, ht⟩ := X6.out.res
    (try simp only [Exit.inBlock, Exit.then]); refine bodyPost_ret (ret_segs2b rfl rfl ht) rfl ?_
    obtain ⟨hO, hg⟩ := X6.out.done (.int .i64 sz) (.int .i64 fi) (.slice (some ⟨g, 0, none⟩) n c2') X6.out.own rfl
    refine ⟨some ⟨g, 0, none⟩, c2', ?_, OwnS.of (hO.lower S1.out.below.size), grown_below14 hg⟩
    have : n = (pre ++ [(⟨ym, yk, yl⟩ : Fil)]).length := by rw [List.length_append, ← Hkk.out, Hk.out]; rfl
    rw [this]; rfl
  · rw [Bool.not_eq_true] at hi
    have e1 : Sg.crash ⟨sz, fi, fs⟩ u = Sg.no := by unfold Sg.crash; rw [hi]; rfl
    have e2 : Sg.badE ⟨sz, fi, fs⟩ = 1 := by unfold Sg.badE; rw [hi]; rfl
    rw [e1, e2]
    simp only [hi] at p1
    clear e1 e2 hi hA hs hn
    go_enter Tryz.func14, Tryz.ntmps14
    go_wp2_with fail
    refine (p1 _ ((S0.out.fact 0 rfl).1.more (S0.out.fact 0 rfl).2)).mono ?_
    rintro e w1 ⟨rfl, hB⟩
    have S1 := Lib.hid (S0.out.on hB)
    clear p1 hB S0
    have a0 := S1.out.free 0 rfl 0
    have a1 := S1.out.free 0 rfl 1
    have a2 := S1.out.free 0 rfl 2
    have b0 := S1.out.cell 0 rfl 0 rfl
    have b1 := S1.out.cell 0 rfl 1 rfl
    have b2 := S1.out.cell 0 rfl 2 rfl
    go_wp2_with fail
    obtain ⟨t, ht⟩ := S1.out.live (w.heap.size + 1, #[.int .i64 0, .int .i64 0, .slice none 0 0]) (by simp)
    (try simp only [Exit.inBlock, Exit.then]); refine bodyPost_ret (ret_segs2b rfl rfl ht) rfl ?_
    exact givesS_no (below_set3 S1.out.below (Nat.le_succ _) _ _ _)
end Go.Proofs.YtlnchfnmpamliaaGreat
