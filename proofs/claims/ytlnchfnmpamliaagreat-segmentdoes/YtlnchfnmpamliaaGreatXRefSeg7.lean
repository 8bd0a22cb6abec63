/-
  Layer 14 (segment): the reference's Mend.
-/
import Derived.Test.YtlnchfnmpamliaaGreatXJi
import Derived.Test.YtlnchfnmpamliaaGreatXJh
namespace Go.Proofs.YtlnchfnmpamliaaGreat
set_option maxRecDepth 10000
open Go.RowKit

theorem OwnF.some14 {w : World} {base n cap : Nat} {A : Option Addr} {fs : List Fil} (h : OwnF w base (.slice A n cap) fs) (h0 : 0 < fs.length) : ∃ g, A = some ⟨g, 0, none⟩ := by
  rcases h.2 with ⟨_, e⟩ | ⟨g, cap', cur, e, _⟩
  · omega
  · injection e with e1; exact ⟨g, e1⟩
theorem OwnF.at14 {w : World} {base n cap g : Nat} {fs : List Fil} (h : OwnF w base (.slice (some ⟨g, 0, none⟩) n cap) fs) {j : Nat} (hj : j < fs.length) : Fi3 w g (j * 3) fs[j] := by
  obtain ⟨b, off, e, _, h3⟩ := h.rows.1 j hj
  cases e
  rw [Nat.zero_add] at h3; exact h3
theorem fs_at14 {fs : List Fil} {j : Nat} (h : j < fs.length) : fs = fs.take j ++ fs[j] :: fs.drop (j + 1) := by
  rw [← List.drop_eq_getElem_cons h, List.take_append_drop]
namespace Sg
/-- Behind j files all is as it was. -/
def Mended (fs : List Fil) (fi : Int) (j : Nat) (nn : Int) : Prop := mendL fs fi = fs.take j ++ mendL (fs.drop j) nn
theorem mended_zero (fs : List Fil) (fi : Int) : Mended fs fi 0 fi := by unfold Mended; simp
theorem mended_yes {fs : List Fil} {fi nn : Int} {j : Nat} (h : Mended fs fi j nn) (hj : j < fs.length) (hw : whole fs[j] nn = true) : Mended fs fi (j + 1) (nn + (sc fs[j] nn).1.length) := by
  unfold Mended at h ⊢
  rw [h, List.drop_eq_getElem_cons hj]
  simp only [mendL]
  rw [if_pos hw, List.take_succ_eq_append_getElem hj, List.append_assoc]; rfl
theorem mended_no {fs : List Fil} {fi nn : Int} {j : Nat} (h : Mended fs fi j nn) (hj : j < fs.length) (hw : ¬ whole fs[j] nn = true) : mendL fs fi = fs.take j ++ [Rc.mend fs[j] nn] := by
  unfold Mended at h
  rw [h, List.drop_eq_getElem_cons hj]
  simp only [mendL]
  rw [if_neg hw]
theorem mended_end {fs : List Fil} {fi nn : Int} (h : Mended fs fi fs.length nn) : mendL fs fi = fs := by
  unfold Mended at h
  rw [h, List.drop_length, List.take_length]; simp [mendL]
end Sg

set_option maxRecDepth 10000 in
set_option maxHeartbeats 2000000 in
theorem RSMend_any (sz fi : Int) (A : Option Addr) (n c : Nat) (fs : List Fil) (w : World) (hA : FilsAt w w.heap.size A fs) (hs : Sg.small ⟨sz, fi, fs⟩) (hn : n = fs.length) (hc : A = none → c = 0) :
    Calls Tryz.prog 16 #[.agg #[.int .i64 sz, .int .i64 fi, .slice A n c]] w (GivesS w (Sg.mend ⟨sz, fi, fs⟩) (Sg.badE ⟨sz, fi, fs⟩)) := by
  have p1 := fun W (h : FilsAt W W.heap.size A fs) => RSIs_any sz fi A n c fs W h hs hn
  have S0 := Lib.hid (((St.start w).more (filF14 A w.heap.size fs) ⟨hA, Nat.le_refl _⟩).box2 #[.int .i64 sz, .int .i64 fi, .slice A n c] #[.int .i64 0, .int .i64 0, .slice none 0 0] 24 24)
  by_cases hi : Sg.is ⟨sz, fi, fs⟩ = true
  · rw [hi] at p1
    have e1 : Sg.mend ⟨sz, fi, fs⟩ = ⟨sz, fi, Sg.mendL fs fi⟩ := by unfold Sg.mend; rw [if_pos hi]
    have e2 : Sg.badE ⟨sz, fi, fs⟩ = 0 := by unfold Sg.badE; rw [if_pos hi]
    rw [e1, e2]
    have hb := (Sg.is_iff.1 hi).1
    simp only at hb
    have Hlen : Hid (n ≤ 20) := Lib.hid (by omega)
    have Hfi : Hid (0 ≤ fi ∧ fi ≤ 900000000) := Lib.hid hb.2.1
    have Hpos : Hid (0 < fs.length) := Lib.hid (by omega)
    have Hi := Lib.hid hi
    have Hn := Lib.hid hn
    have p2 := fun W (h : FilsAt W W.heap.size A fs) => RSOwn_any sz fi A n c fs W h hn hc (by omega)
    clear hA hs hc hi e1 e2 hn hb
    go_enter Tryz.func16, Tryz.ntmps16
    go_wp2_with fail
    refine (p1 _ ((S0.out.fact 0 rfl).1.more (S0.out.fact 0 rfl).2)).mono ?_
    rintro e w1 ⟨rfl, hB⟩
    have S1 := Lib.hid (S0.out.on hB)
    clear p1 hB S0
    have c0 := S1.out.cell 1 rfl 0 rfl
    have c1 := S1.out.cell 1 rfl 1 rfl
    have c2 := S1.out.cell 1 rfl 2 rfl
    go_wp2_with fail
    refine (p2 _ ((S1.out.fact 0 rfl).1.more (S1.out.fact 0 rfl).2)).mono ?_
    rintro e w2 ⟨A2, c2', rfl, hO, hB⟩
    have X3 := Lib.hid (XAt.start sz fi 24 S1.out (by simp) hB hO)
    have S2 := Lib.hid ((S1.out.on hB).new #[.int .i64 sz, .int .i64 fi, .slice A2 n c2'] 24)
    obtain ⟨g, rfl⟩ := hO.some14 Hpos.out
    have Hcap : Hid (n ≤ c2') := Lib.hid (by rw [Hn.out]; exact hO.rows.2.2)
    clear p2 hB hO c0 c1 c2
    have c1 := S2.out.cell 2 rfl 1 rfl
    have x2 := X3.out.x2
    go_wp2_with fail
    clear c1 x2 S2
    go_loopw [5, 6] (fun m i wr => ∃ (j : Nat) (nn : Int), j ≤ n ∧ m = .int .i64 nn ∧ i = .int .i64 (j : Int) ∧ Hid (0 ≤ nn ∧ nn ≤ 900000000 + 4000 * (j : Int)) ∧ Hid (Sg.Mended fs fi j nn) ∧ Hid (XAt none w wr (w.heap.size + 1) w2.heap.size w1.heap.size sz fi (.slice (some ⟨g, 0, none⟩) n c2') fs)) (fun _ i _ => n - (intOf i).toNat)
    case atStart => exact ⟨0, fi, Nat.zero_le _, rfl, rfl, Lib.hid (by have := Hfi.out; omega), Lib.hid (Sg.mended_zero _ _), X3⟩
    case round =>
      obtain ⟨j, nn, hj, rfl, rfl, Hnn, HL, HX⟩ := hrel
      clear X3
      have x2 := HX.out.x2
      by_cases hlt : j < n
      · have hlt' : j < fs.length := by have := Hn.out; omega
        obtain ⟨⟨xm, xk, xl⟩, hx⟩ : ∃ x, x = fs[j] := ⟨_, rfl⟩
        have hfi : Fi.is ⟨xm, xk, xl⟩ = true := by rw [hx]; exact Sg.files_is Hi.out _ (List.getElem_mem hlt')
        have hz := Rc.is_small9 hfi
        have h3 := HX.out.own.at14 hlt'
        rw [← hx] at h3
        have e0 := h3.c0
        have e1 := h3.c1
        have e2 := h3.c2
        simp only at e0 e1 e2
        obtain ⟨us, q, hus⟩ : ∃ us q, (us, q) = Sg.sc ⟨xm, xk, xl⟩ nn := ⟨_, _, rfl⟩
        have hcnt := Sg.sc_count ⟨xm, xk, xl⟩ nn
        have hrs : (Fi.read ⟨xm, xk, xl⟩).size ≤ 4000 := by
          have h := Fi.is_small hfi
          rw [Fi.read_size]; omega
        have Hus : Hid (us.length ≤ 4000) := Lib.hid (by rw [← hus] at hcnt; simp only at hcnt; omega)
        have Hyes : Hid (q = (Fi.read ⟨xm, xk, xl⟩).size → Sg.Mended fs fi (j + 1) (nn + (us.length : Int))) := Lib.hid (fun h => by
          have h2 := Sg.mended_yes HL.out hlt' (by rw [← hx]; unfold Sg.whole; rw [← hus]; exact decide_eq_true h)
          rw [← hx, ← hus] at h2; exact h2)
        have Hno : Hid (q ≠ (Fi.read ⟨xm, xk, xl⟩).size → Sg.mendL fs fi = fs.take j ++ [Rc.mend ⟨xm, xk, xl⟩ nn]) := Lib.hid (fun h => by
          have h2 := Sg.mended_no HL.out hlt' (by rw [← hx]; unfold Sg.whole; rw [← hus]; simpa using h)
          rw [← hx] at h2; exact h2)
        have hcut := Rc.mend_cut hfi nn
        have esc : Rc.sc ⟨xm, xk, xl⟩ nn = (us, q) := hus.symm
        rw [esc] at hcut
        have hqle : q ≤ (Fi.read ⟨xm, xk, xl⟩).size := by
          have h := Rc.scan_le (bl (Fi.read ⟨xm, xk, xl⟩)) nn
          rw [bl_length] at h
          have e : Rc.scan (bl (Fi.read ⟨xm, xk, xl⟩)) nn = (us, q) := hus.symm
          rw [e] at h; exact h
        have p1 := fun W => FRRead_any xm xk xl hz W
        have p3 := fun W => FRCut_any xm xk xl (q : Nat) hz W
        rw [← hcut.1, hcut.2] at p3
        obtain ⟨r, hr⟩ : ∃ r, r = Fi.read ⟨xm, xk, xl⟩ := ⟨_, rfl⟩
        have p2 := fun W => RScan2_any r nn (by rw [hr]; omega) W
        unfold Scanned2 at p2
        have e9 : Rc.scan (bl r) nn = (us, q) := by rw [hr]; exact hus.symm
        rw [e9] at p2
        rw [← hr] at p1 Hyes Hno hqle
        obtain ⟨Y, hY⟩ : ∃ Y, Y = Rc.mend ⟨xm, xk, xl⟩ nn := ⟨_, rfl⟩
        rw [← hY] at p3 Hno
        obtain ⟨ym, yk, yl⟩ := Y
        unfold Fil.v filV at p3
        simp only at p3
        have Hq := Lib.hid hqle
        have hb1 : 0 ≤ nn + (us.length : Int) ∧ nn + (us.length : Int) ≤ 4000000000 := by have := Hlen.out; have := Hnn.out; have := Hus.out; omega
        have hb2 : 0 ≤ (j : Int) + 1 ∧ (j : Int) + 1 ≤ 4000000000 := by have := Hlen.out; omega
        have Hiw := Lib.hid (wrap14 ((j : Int) + 1) hb2.1 hb2.2)
        have Hiwf := Lib.hid (wrap14 (nn + (us.length : Int)) hb1.1 hb1.2)
        have Hfs : Hid (fs = fs.take j ++ ⟨xm, xk, xl⟩ :: fs.drop (j + 1)) := Lib.hid (by rw [hx]; exact fs_at14 hlt')
        have Hjl : Hid (j = (fs.take j).length) := Lib.hid (by rw [List.length_take]; omega)
        have Hjn : Hid (j < n) := Lib.hid hlt
        have Hjf : Hid (j < fs.length) := Lib.hid hlt'
        have i1 : (j : Int) < (n : Int) := by omega
        have i0 : (0 : Int) ≤ (j : Int) := by omega
        clear h3 hx hz hus hcnt hrs hqle hr e9 hfi hb1 hb2 hcut esc hY hlt'
        go_wp2_with fail
        refine (p1 _).mono ?_
        rintro e w4 ⟨rfl, hB⟩
        have X4 := Lib.hid (HX.out.on hB)
        clear hB p1 x2 e0 e1 e2 HX
        go_wp2_with fail
        refine (p2 _).mono ?_
        rintro e w5 ⟨A3, c3, rfl, q1, q2, hB, q3⟩
        clear q1 q2 q3
        have X5 := Lib.hid (X4.out.on hB)
        clear hB p2 X4
        have HV : Hid (Value.int .i64 ((j : Int) + 1) = Value.int .i64 ((j + 1 : Nat) : Int)) := Lib.hid (by rw [Int.natCast_succ])
        have HM : Hid (n - (intOf (Value.int .i64 ((j : Int) + 1))).toNat < n - (intOf (Value.int .i64 (j : Int))).toNat) := Lib.hid (by have := Hjn.out; simp only [intOf]; omega)
        by_cases hq : q = r.size
        · have j6 : ((q : Int) < (r.size : Int)) = False := eq_false (by omega)
          have HL2 := Lib.hid (Hyes.out hq)
          have Hnn2 : Hid (0 ≤ nn + (us.length : Int) ∧ nn + (us.length : Int) ≤ 900000000 + 4000 * ((j + 1 : Nat) : Int)) := Lib.hid (by have := Hnn.out; have := Hus.out; omega)
          clear Hyes Hno Hq hq p3
          go_wp2
          go_roundw
          case rel => exact ⟨j + 1, nn + (us.length : Int), Hjn.out, by rw [Hiwf.out], by rw [Hiw.out]; exact HV.out, Hnn2, HL2, X5⟩
          case measure => rw [Hiw.out]; exact HM.out
        · have j6 : ((q : Int) < (r.size : Int)) = True := eq_true (by have := Hq.out; omega)
          have HR := Lib.hid (Hno.out hq)
          clear Hyes Hno Hq hq
          have x2 := X5.out.x2
          have hOf := X5.out.own
          rw [Hfs.out] at hOf
          have h3 : Fi3 w5 g (j * 3) ⟨xm, xk, xl⟩ := by
            have h := hOf.at14 (j := j) (by have := Hjf.out; simp; omega)
            have e : (fs.take j ++ (⟨xm, xk, xl⟩ : Fil) :: fs.drop (j + 1))[j]'(by have := Hjf.out; simp; omega) = ⟨xm, xk, xl⟩ := by
              rw [List.getElem_append_right (by have := Hjl.out; omega)]
              simp [← Hjl.out]
            rw [e] at h; exact h
          have e0 := h3.c0
          have e1 := h3.c1
          have e2 := h3.c2
          simp only at e0 e1 e2
          clear h3 hOf
          go_wp2_with fail
          refine (p3 _).mono ?_
          rintro e w6 ⟨rfl, hB⟩
          have X6 := Lib.hid ((X5.out.on hB).on (below_new w6 (.cells #[.int .i64 ym, .string yk, .string yl] 47)))
          clear hB p3 e0 e1 e2 x2 X5
          have x2 := X6.out.x2
          have F5 := FilAt.new w6 ym yk yl 47
          have f0 := F5.c0
          have f1 := F5.c1
          have f2 := F5.c2
          have hOf := X6.out.own
          rw [Hfs.out] at hOf
          have HOf := Lib.hid hOf
          have hjc : j + 1 ≤ c2' := by have := Hcap.out; have := Hjn.out; omega
          have hjc2 : (j : Int) + 1 ≤ (c2' : Int) := by omega
          have iw := Hiw.out
          clear F5 hOf
          go_wp2_with (refine wpList_store_fil rfl _ _ rfl w1.heap.size g n c2' j (fs.take j) (fs.drop (j + 1)) ⟨xm, xk, xl⟩ ⟨ym, yk, yl⟩ Hjl.out rfl rfl HOf.out ?_
                       intro w7 hO hg
                       have X7 := Lib.hid (X6.out.turn hg hO)
                       have hO2 := hO.take (k := j + 1) (by have := Hjf.out; simp; omega) (by simp; omega)
                       have X8 := Lib.hid (X7.out.setX 2 (.slice (some ⟨g, 0, none⟩) (j + 1) c2') (v' := .slice (some ⟨g, 0, none⟩) (j + 1) c2') rfl hO2 rfl)
                       clear hO hg f0 f1 f2 x2 hO2
                       have x2 := X7.out.x2
                       have xf := X7.out.xf 2
                       have y0 := X8.out.x0
                       have y1 := X8.out.x1
                       have y2 := X8.out.x2
                       have a0 := X8.out.rf 0
                       have a1 := X8.out.rf 1
                       have a2 := X8.out.rf 2
                       have b0 := X8.out.r0
                       have b1 := X8.out.r1
                       have b2 := X8.out.r2)
          obtain ⟨t, ht⟩ := X8.out.res
          (try simp only [Exit.inBlock, Exit.then]); refine bodyPost_ret (ret_segs2b rfl rfl ht) rfl ?_
          obtain ⟨hO, hg⟩ := X8.out.done (.int .i64 sz) (.int .i64 fi) (.slice (some ⟨g, 0, none⟩) (j + 1) c2') X8.out.own rfl
          have htk : (fs.take j ++ (⟨ym, yk, yl⟩ : Fil) :: fs.drop (j + 1)).take (j + 1) = Sg.mendL fs fi := by
            rw [HR.out]
            have h1 : j + 1 = (fs.take j).length + 1 := by rw [← Hjl.out]
            rw [h1, List.take_length_add_append]; rfl
          rw [htk] at hO
          have hml : j + 1 = (Sg.mendL fs fi).length := by rw [HR.out, List.length_append, ← Hjl.out]; rfl
          exact ⟨some ⟨g, 0, none⟩, c2', by rw [hml]; rfl, OwnS.of (hO.lower S1.out.below.size), grown_below14 hg⟩
      · have hje : j = n := by omega
        have HR : Hid (Sg.mendL fs fi = fs) := Lib.hid (Sg.mended_end (by rw [← Hn.out, ← hje]; exact HL.out))
        have i1 : ((j : Int) < (n : Int)) = False := eq_false (by omega)
        have x0 := HX.out.x0
        have x1 := HX.out.x1
        have a0 := HX.out.rf 0
        have a1 := HX.out.rf 1
        have a2 := HX.out.rf 2
        have b0 := HX.out.r0
        have b1 := HX.out.r1
        have b2 := HX.out.r2
        clear hje hlt hj
        go_wp2_with fail
        obtain ⟨t, ht⟩ := HX.out.res
        (try simp only [Exit.inBlock, Exit.then]); refine bodyPost_ret (ret_segs2b rfl rfl ht) rfl ?_
        obtain ⟨hO, hg⟩ := HX.out.done (.int .i64 sz) (.int .i64 fi) (.slice (some ⟨g, 0, none⟩) n c2') HX.out.own rfl
        exact ⟨some ⟨g, 0, none⟩, c2', by simp only [HR.out]; rw [← Hn.out]; rfl, OwnS.of (by rw [HR.out]; exact hO.lower S1.out.below.size), grown_below14 hg⟩
  · rw [Bool.not_eq_true] at hi
    have e1 : Sg.mend ⟨sz, fi, fs⟩ = Sg.no := by unfold Sg.mend; rw [hi]; rfl
    have e2 : Sg.badE ⟨sz, fi, fs⟩ = 1 := by unfold Sg.badE; rw [hi]; rfl
    rw [e1, e2]
    simp only [hi] at p1
    clear e1 e2 hi hA hs hn
    go_enter Tryz.func16, Tryz.ntmps16
    go_wp2_with fail
    refine (p1 _ ((S0.out.fact 0 rfl).1.more (S0.out.fact 0 rfl).2)).mono ?_
    rintro e w1 ⟨rfl, hB⟩
    have S1 := Lib.hid (S0.out.on hB)
    clear p1 hB S0
    have a0 := S1.out.free 0 rfl 0
    have a1 := S1.out.free 0 rfl 1
    have a2 := S1.out.free 0 rfl 2
    have b0 := S1.out.cell 0 rfl 0 rfl
    have b1 := S1.out.cell 0 rfl 1 rfl
    have b2 := S1.out.cell 0 rfl 2 rfl
    go_wp2_with fail
    obtain ⟨t, ht⟩ := S1.out.live (w.heap.size + 1, #[.int .i64 0, .int .i64 0, .slice none 0 0]) (by simp)
    (try simp only [Exit.inBlock, Exit.then]); refine bodyPost_ret (ret_segs2b rfl rfl ht) rfl ?_
    exact givesS_no (below_set3 S1.out.below (Nat.le_succ _) _ _ _)
end Go.Proofs.YtlnchfnmpamliaaGreat
