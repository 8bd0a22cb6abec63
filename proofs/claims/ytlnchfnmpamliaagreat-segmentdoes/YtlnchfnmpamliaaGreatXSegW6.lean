/-
  Layer 14 (segment): the landed code: Mend.
-/
import Derived.Test.YtlnchfnmpamliaaGreatXSegW3
import Derived.Test.YtlnchfnmpamliaaGreatXSegW5
import Derived.Test.YtlnchfnmpamliaaGreatXRecW5
namespace Go.Proofs.YtlnchfnmpamliaaGreat
set_option maxRecDepth 10000
open Go.RowKit

set_option maxRecDepth 10000 in
set_option maxHeartbeats 4000000 in
theorem smend_any (sz fi : Int) (A : Option Addr) (n c : Nat) (fs : List Fil) (w : World) (hA : FilsAt w w.heap.size A fs) (hs : Sg.small ⟨sz, fi, fs⟩) (hn : n = fs.length) (hc : A = none → c = 0) (hcap : n ≤ c) :
    Calls Tryz.prog 15 #[.agg #[.int .i64 sz, .int .i64 fi, .slice A n c]] w (GivesS w (Sg.mend ⟨sz, fi, fs⟩) (Sg.badE ⟨sz, fi, fs⟩)) := by
  have p1 := fun W (h : FilsAt W W.heap.size A fs) => sgis_any sz fi A n c fs W h hs hn
  have S0 := Lib.hid (((St.start w).more (filF14 A w.heap.size fs) ⟨hA, Nat.le_refl _⟩).box2 #[.int .i64 sz, .int .i64 fi, .slice A n c] #[.int .i64 0, .int .i64 0, .slice none 0 0] 24 24)
  by_cases hi : Sg.is ⟨sz, fi, fs⟩ = true
  · rw [hi] at p1
    have e1 : Sg.mend ⟨sz, fi, fs⟩ = ⟨sz, fi, Sg.mendL fs fi⟩ := by unfold Sg.mend; rw [if_pos hi]
    have e2 : Sg.badE ⟨sz, fi, fs⟩ = 0 := by unfold Sg.badE; rw [if_pos hi]
    rw [e1, e2]
    have hb := (Sg.is_iff.1 hi).1
    simp only at hb
    have hne : fs ≠ [] := fun e => by rw [e] at hb; simp at hb
    obtain ⟨ps, f, m, hps, hfm, hpl, hwx, hyes, hno, hat⟩ := Sg.last_part fs fi hne
    have p2 := fun W (h : FilsAt W W.heap.size A fs) => parts_any sz fi A n c fs W h (Sg.files_is hi) (by omega) hb.2.1 hn
    unfold PartsS at p2
    rw [hps] at p2
    have hfi := Sg.files_is hi f hfm
    have hz := Rc.is_small9 hfi
    have hl2 : (ps ++ [Sg.prt f m]).length = ps.length + 1 := by simp
    rw [hl2] at p2
    obtain ⟨k, hk⟩ : ∃ k, k = ps.length := ⟨_, rfl⟩
    obtain ⟨K, hK⟩ : ∃ K, K = k + 1 := ⟨_, rfl⟩
    rw [← hk, ← hK] at p2
    rw [← hk] at hpl hyes hno hat
    have p3 := fun W (h : FilsAt W W.heap.size A (fs.take K)) => clone_any A K c (fs.take K) W h (by rw [List.length_take]; omega) hc (by omega)
    have p4 := fun W A3 c3 => whole_any ⟨Sg.prt f m, A3, c3⟩ hz W
    have e4 : (Sg.prt f m).whole = Sg.whole f m := rfl
    simp only [e4] at p4
    have p5 := fun W => rmend_any f.most f.kept f.loose m hz W
    have e5 : (⟨f.most, f.kept, f.loose⟩ : Fil) = f := rfl
    have e6 : Fi.badE f = 0 := by unfold Fi.badE; rw [hfi]; rfl
    rw [e5, e6] at p5
    obtain ⟨bb, hbb⟩ : ∃ x, x = Sg.whole f m := ⟨_, rfl⟩
    rw [← hbb] at p4 hyes hno
    obtain ⟨Y, hY⟩ : ∃ Y, Y = Rc.mend f m := ⟨_, rfl⟩
    rw [← hY] at p5 hno
    obtain ⟨T, hT⟩ : ∃ T : Int, T = ((Rc.texts f m).length : Nat) := ⟨_, rfl⟩
    rw [← hT] at p5
    obtain ⟨us, q, hus⟩ : ∃ us q, Sg.prt f m = ⟨f, m, us, q⟩ := ⟨_, _, rfl⟩
    rw [hus] at p4
    obtain ⟨ym, yk, yl⟩ := Y
    obtain ⟨fm, fk, fl⟩ := f
    unfold Fil.v filV at p5
    unfold prmV at p4
    simp only at p4 p5
    obtain ⟨L, hL⟩ : ∃ L, L = us.length := ⟨_, rfl⟩
    rw [← hL] at p4
    have wk : wrap64 ((K : Int) - 1) = (k : Int) := by unfold wrap64; omega
    have Hus := Lib.hid hus
    have HL := Lib.hid hL
    have Hk := Lib.hid hk
    have HK := Lib.hid hK
    have Hat := Lib.hid hat
    have Hyes := Lib.hid hyes
    have Hno := Lib.hid hno
    have Hpl := Lib.hid hpl
    have Hn := Lib.hid hn
    have Hwk := Lib.hid wk
    have Hcap := Lib.hid hcap
    clear hA hs hc hi e1 e2 hb hne hps hwx hfm hpl hyes hno hat hfi hz hl2 hk hK e4 e5 e6 hbb hY hT hus hL wk hn hcap
    go_enter Tryz.func15, Tryz.ntmps15
    go_wp2_with fail
    refine (p1 _ ((S0.out.fact 0 rfl).1.more (S0.out.fact 0 rfl).2)).mono ?_
    rintro e w1 ⟨rfl, hB⟩
    have S1 := Lib.hid (S0.out.on hB)
    clear p1 hB S0
    have c0 := S1.out.cell 1 rfl 0 rfl
    have c1 := S1.out.cell 1 rfl 1 rfl
    have c2 := S1.out.cell 1 rfl 2 rfl
    go_wp2_with fail
    refine (p2 _ ((S1.out.fact 0 rfl).1.more (S1.out.fact 0 rfl).2)).mono ?_
    rintro e w2 ⟨ms, A2, c2', rfl, hms, hO, hT, hB⟩
    obtain ⟨g, ⟨p, A3, c3⟩, rfl, hg, hbg, hm, h6⟩ := last14 hO hms
    rw [Hus.out] at hm
    simp only at hm
    subst hm
    rw [← Hk.out] at h6
    have e0 := h6.c0
    have e1 := h6.c1
    have e2 := h6.c2
    have e3 := h6.c3
    have e4 := h6.c4
    have e5 := h6.c5
    simp only at e0 e1 e2 e3 e4 e5
    rw [← HL.out] at e4
    have S2 := Lib.hid (S1.out.on hB)
    have S3 := Lib.hid ((S1.out.on hB).new #[.int .i64 fm, .string fk, .string fl, .int .i64 m, .slice A3 L c3, .int .i64 (q : Nat)] 49)
    clear p2 c0 c1 c2 hB S1 hms hO hT hg hbg h6
    have c2 := S3.out.cell 2 rfl 2 rfl
    have wk := Hwk.out
    have i1 : (k : Int) < (K : Int) := by have := HK.out; omega
    have i0 : (0 : Int) ≤ (k : Int) := by omega
    have i3 : K ≤ c := by have := HK.out; have := Hpl.out; have := Hcap.out; have := Hn.out; omega
    have i4 : (K : Int) ≤ (c : Int) := by omega
    go_wp2_with fail
    rw [wk]
    have hft : FilsAt w2 w2.heap.size A (fs.take K) := ((S2.out.fact 0 rfl).1.more (S2.out.fact 0 rfl).2).take K
    refine (p3 _ (hft.on (below_new w2 _))).mono ?_
    rintro e w4 ⟨A4, c4, rfl, hO, hB⟩
    have htk : fs.take K = fs.take k ++ [⟨fm, fk, fl⟩] := by
      have h := Hat.out
      have hl := Hpl.out
      rw [List.getElem?_eq_getElem hl] at h
      rw [HK.out, List.take_succ_eq_append_getElem hl, Option.some.inj h]
    have Hkl : Hid (k = (fs.take k).length) := Lib.hid (by rw [List.length_take]; have := Hpl.out; omega)
    rw [htk] at hO
    have X5 := Lib.hid (XAt.cloned S3.out (List.mem_of_getElem? (i := 1) rfl) (List.mem_of_getElem? (i := 2) rfl) hB hO)
    have S4 := Lib.hid (S3.out.on hB)
    have Hq : Hid (w.heap.size + 1 < w2.heap.size) := Lib.hid (lt14 (S2.out.blk14 0 rfl))
    have hF5 := kept14 (S4.out.blk14 0 rfl) (grown_cell14 w4 w.heap.size 2 (.slice A4 K c4)) (fun e => by injection e with e; have := Hq.out; omega)
    have HBs : Hid (w.heap.size ≤ w2.heap.size) := Lib.hid S2.out.below.size
    obtain ⟨g4, rfl, hnn, q3, q4⟩ := hO.lastw
    clear hft htk hB hO p3 S2 S3 c2 e0 e1 e2 e3 e4 e5 i3 i4 hnn q3 q4 wk
    have c2 := S4.out.cell 2 rfl 2 rfl
    have a2 := S4.out.free 2 rfl 2
    have d0 := cells14 hF5 0
    have d1 := cells14 hF5 1
    have d2 := cells14 hF5 2
    have d3 := cells14 hF5 3
    have d4 := cells14 hF5 4
    have d5 := cells14 hF5 5
    have HF5 := Lib.hid hF5
    clear hF5
    go_wp2_with fail
    obtain ⟨w5, hw5⟩ : ∃ x, x = w4.setCell ⟨w.heap.size, 2, none⟩ (.slice (some ⟨g4, 0, none⟩) K c4) := ⟨_, rfl⟩
    rw [← hw5] at X5 HF5 ⊢
    clear hw5 S4 c2 a2 d0 d1 d2 d3 d4 d5
    refine (p4 _ _ _).mono ?_
    rintro e w6 ⟨rfl, hB⟩
    have X6 := Lib.hid (X5.out.on hB)
    have hF6 := kept14 HF5.out (below_grown14 hB none) (fun e => nomatch e)
    clear hB X5 HF5 p4
    cases bb
    · have HR := Lib.hid (Hno.out rfl)
      clear Hyes Hno
      have d0 := cells14 hF6 0
      have d1 := cells14 hF6 1
      have d2 := cells14 hF6 2
      have d3 := cells14 hF6 3
      clear hF6
      go_wp2_with fail
      refine (p5 _).mono ?_
      rintro e w7 ⟨rfl, hB⟩
      have X7 := Lib.hid ((X6.out.on hB).on (below_new w7 (.cells #[.int .i64 ym, .string yk, .string yl] 47)))
      have F7 := FilAt.new w7 ym yk yl 47
      have f0 := F7.c0
      have f1 := F7.c1
      have f2 := F7.c2
      have x2 := X7.out.x2
      have wk := Hwk.out
      clear hB X6 p5 F7 d0 d1 d2 d3
      go_wp2_with (refine wpList_store_fil rfl _ _ rfl (w2.alloc (.cells #[.int .i64 fm, .string fk, .string fl, .int .i64 m, .slice A3 L c3, .int .i64 (q : Nat)] 49)).heap.size g4 K c4 k (fs.take k) [] ⟨fm, fk, fl⟩ ⟨ym, yk, yl⟩ Hkl.out rfl rfl X7.out.own ?_
                   intro w8 hO hg
                   have X8 := Lib.hid (X7.out.turn hg hO)
                   clear hO hg f0 f1 f2 x2
                   have x0 := X8.out.x0
                   have x1 := X8.out.x1
                   have x2 := X8.out.x2
                   have a0 := X8.out.rf 0
                   have a1 := X8.out.rf 1
                   have a2 := X8.out.rf 2
                   have b0 := X8.out.r0
                   have b1 := X8.out.r1
                   have b2 := X8.out.r2)
      obtain ⟨t, ht⟩ := X8.out.res
      (try simp only [Exit.inBlock, Exit.then]); refine bodyPost_ret (ret_segs2bw rfl rfl ht) rfl ?_
      obtain ⟨hO, hg⟩ := X8.out.done (.int .i64 sz) (.int .i64 fi) (.slice (some ⟨g4, 0, none⟩) K c4) X8.out.own rfl
      rw [HR.out]
      refine ⟨some ⟨g4, 0, none⟩, c4, ?_, OwnS.of (hO.lower (by have := HBs.out; simp; omega)), grown_below14 hg⟩
      have : K = (fs.take k ++ [(⟨ym, yk, yl⟩ : Fil)]).length := by rw [List.length_append, ← Hkl.out, HK.out]; rfl
      rw [this]; rfl
    · obtain ⟨_, h2, h3⟩ := Hyes.out rfl
      have HR := Lib.hid h3
      have Hfs : Hid (fs.take k ++ [⟨fm, fk, fl⟩] = fs) := Lib.hid (by
        have h := Hat.out
        have hl := Hpl.out
        rw [List.getElem?_eq_getElem hl] at h
        rw [← Option.some.inj h, ← List.take_succ_eq_append_getElem hl]
        exact List.take_of_length_le (Nat.le_of_eq h2.symm))
      have HKl : Hid (K = fs.length) := Lib.hid (by rw [HK.out]; exact h2)
      clear Hyes Hno h2 h3 hF6
      have x0 := X6.out.x0
      have x1 := X6.out.x1
      have x2 := X6.out.x2
      have a0 := X6.out.rf 0
      have a1 := X6.out.rf 1
      have a2 := X6.out.rf 2
      have b0 := X6.out.r0
      have b1 := X6.out.r1
      have b2 := X6.out.r2
      go_wp2_with fail
      obtain ⟨t, ht⟩ := X6.out.res
      (try simp only [Exit.inBlock, Exit.then]); refine bodyPost_ret (ret_segs2bw rfl rfl ht) rfl ?_
      obtain ⟨hO, hg⟩ := X6.out.done (.int .i64 sz) (.int .i64 fi) (.slice (some ⟨g4, 0, none⟩) K c4) X6.out.own rfl
      rw [Hfs.out] at hO
      rw [HR.out]
      refine ⟨some ⟨g4, 0, none⟩, c4, ?_, OwnS.of (hO.lower (by have := HBs.out; simp; omega)), grown_below14 hg⟩
      rw [HKl.out]; rfl
  · rw [Bool.not_eq_true] at hi
    have e1 : Sg.mend ⟨sz, fi, fs⟩ = Sg.no := by unfold Sg.mend; rw [hi]; rfl
    have e2 : Sg.badE ⟨sz, fi, fs⟩ = 1 := by unfold Sg.badE; rw [hi]; rfl
    rw [e1, e2]
    simp only [hi] at p1
    clear e1 e2 hi hA hs hn
    go_enter Tryz.func15, Tryz.ntmps15
    go_wp2_with fail
    refine (p1 _ ((S0.out.fact 0 rfl).1.more (S0.out.fact 0 rfl).2)).mono ?_
    rintro e w1 ⟨rfl, hB⟩
    have S1 := Lib.hid (S0.out.on hB)
    clear p1 hB S0
    have a0 := S1.out.free 0 rfl 0
    have a1 := S1.out.free 0 rfl 1
    have a2 := S1.out.free 0 rfl 2
    have b0 := S1.out.cell 0 rfl 0 rfl
    have b1 := S1.out.cell 0 rfl 1 rfl
    have b2 := S1.out.cell 0 rfl 2 rfl
    go_wp2_with fail
    obtain ⟨t, ht⟩ := S1.out.blk14 0 rfl
    (try simp only [Exit.inBlock, Exit.then]); refine bodyPost_ret (ret_segs2bw rfl rfl ht) rfl ?_
    exact givesS_now (below_set3 S1.out.below (Nat.le_succ _) _ _ _)
end Go.Proofs.YtlnchfnmpamliaaGreat
