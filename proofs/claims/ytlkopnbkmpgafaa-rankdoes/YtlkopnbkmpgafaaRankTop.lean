/-
  Layer 7 (rank): the law RankTop, over the contracts (printed by tools/gen-ranktop.py).
-/
import Derived.Test.YtlkopnbkmpgafaaRankRung
namespace Go.Proofs.Ytlkopnbkmpgafaa
open Go.RowKit

/-- What a call ends with that hands back these alarms, with what a nil slice is. -/
def GivesN (w : World) (n : Nat) (ls : List Alm) (e : Ending) (w' : World) : Prop := ∃ A c, e = .returned (.slice A n c) ∧ AlmsAt w' w'.heap.size A ls ∧ (A = none → c = 0) ∧ Below w.heap.size w w'
theorem OwnedA.givesN {w : World} {n : Nat} {ls : List Alm} {e : Ending} {w' : World} (h : OwnedA w ls e w') (hn : n = ls.length) : GivesN w n ls e w' := by
  obtain ⟨v, rfl, ho, hB⟩ := h
  obtain ⟨A, c, rfl, hA, h0, _⟩ := ho.slice
  exact ⟨A, c, by rw [hn], hA, h0, hB⟩
theorem KTop_g (HK : Hid RankK) (k : Int) (A : Option Addr) (n cap m : Nat) (ls Z : List Alm) (w : World) (hZ : Z = Rk.top k ls) (hm : m = Z.length) (hn : n = ls.length) (hA : AlmsAt w w.heap.size A ls) (hnil : A = none → cap = 0) (hl : ls.length ≤ 1000) :
    Calls Try.prog 10 #[.int .i64 k, .slice A n cap] w (GivesN w m Z) := by
  subst hZ
  exact (KTop_n HK k A n cap ls w hn hA hnil hl).mono fun _ _ h => h.givesN hm
theorem KMerge_g (HK : Hid RankK) (A B : Option Addr) (m n ca cb k : Nat) (ls ms Z : List Alm) (w : World) (hZ : Z = Rk.merge ls ms) (hk : k = Z.length) (hm : m = ls.length) (hn : n = ms.length) (hA : AlmsAt w w.heap.size A ls) (hB : AlmsAt w w.heap.size B ms) (ha : A = none → ca = 0) (hb : B = none → cb = 0) (hl : ls.length ≤ 400) (hl2 : ms.length ≤ 400) :
    Calls Try.prog 13 #[.slice A m ca, .slice B n cb] w (GivesN w k Z) := by
  subst hZ
  exact (KMerge_n HK A B m n ca cb ls ms w hm hn hA hB ha hb hl hl2).mono fun _ _ h => h.givesN hk

set_option maxHeartbeats 4000000 in
theorem rankTop_lt (HK : Hid RankK) (A B : Option Addr) (ca cb : Nat) (ls ms : List Alm) (n k : Int) (w : World) (hA : AlmsAt w w.heap.size A ls) (hB : AlmsAt w w.heap.size B ms) (ha : A = none → ca = 0) (hb : B = none → cb = 0) (hl : ls.length ≤ 40) (hl2 : ms.length ≤ 40) (hnk : n < k) :
    Calls Try.prog 6 #[.slice A ls.length ca, .slice B ms.length cb, .int .i64 n, .int .i64 k] w fun e w' => e = .returned (.bool true) ∧ Below w.heap.size w w' := by
  obtain ⟨la, hla⟩ : ∃ x, x = ls.length := ⟨_, rfl⟩
  obtain ⟨lb, hlb⟩ : ∃ x, x = ms.length := ⟨_, rfl⟩
  rw [← hla, ← hlb]
  have Hla := Lib.hid hla
  have Hlb := Lib.hid hlb
  have i40 : ((40 : Int) < (la : Int)) = False := eq_false (by omega)
  have j40 : ((40 : Int) < (lb : Int)) = False := eq_false (by omega)
  have m1 : (n < k) = True := eq_true hnk
  have m2 : (k < n) = False := eq_false (by omega)
  obtain ⟨X, hX⟩ : ∃ X, X = Rk.top n ls := ⟨_, rfl⟩
  obtain ⟨Y, hY⟩ : ∃ Y, Y = Rk.top n ms := ⟨_, rfl⟩
  obtain ⟨lx, hlx⟩ : ∃ x, x = X.length := ⟨_, rfl⟩
  obtain ⟨ly, hly⟩ : ∃ x, x = Y.length := ⟨_, rfl⟩
  obtain ⟨V, hV⟩ : ∃ V, V = Rk.top n ls := ⟨_, rfl⟩
  obtain ⟨lv, hlv⟩ : ∃ x, x = V.length := ⟨_, rfl⟩
  obtain ⟨Z, hZ⟩ : ∃ Z, Z = ls ++ ms := ⟨_, rfl⟩
  obtain ⟨lz, hlz⟩ : ∃ x, x = Z.length := ⟨_, rfl⟩
  obtain ⟨M, hM⟩ : ∃ M, M = Rk.merge X Y := ⟨_, rfl⟩
  obtain ⟨lm, hlm⟩ : ∃ x, x = M.length := ⟨_, rfl⟩
  obtain ⟨P, hP⟩ : ∃ P, P = Rk.top n Z := ⟨_, rfl⟩
  obtain ⟨lp, hlp⟩ : ∃ x, x = P.length := ⟨_, rfl⟩
  have hU : V = Rk.top k X := by rw [hX, Rk.top_top, hV]; congr 1; omega
  have hQ : P = Rk.top n M := by rw [hM, hX, hY, hP, hZ]; exact (Rk.top_both n ls ms).symm
  have lenX : X.length ≤ ls.length := by rw [hX]; exact Rk.top_len n ls
  have lenY : Y.length ≤ ms.length := by rw [hY]; exact Rk.top_len n ms
  have lenV : V.length ≤ ls.length := by rw [hV]; exact Rk.top_len _ ls
  have lenZ : Z.length = ls.length + ms.length := by rw [hZ, List.length_append]
  have lenM : M.length = X.length + Y.length := by rw [hM]; unfold Rk.merge; rw [Rk.sort_len, List.length_append]
  have lenP : P.length ≤ Z.length := by rw [hP]; exact Rk.top_len n Z
  have e1 : ((lx : Int) ≤ (la : Int)) = True := eq_true (by omega)
  have G1 := fun (W : World) (h : AlmsAt W W.heap.size A ls) => Lib.hid (KTop_g HK n A la ca lx ls X W hX hlx hla h ha (by omega))
  have G2 := fun (W : World) (h : AlmsAt W W.heap.size B ms) => Lib.hid (KTop_g HK n B lb cb ly ms Y W hY hly hlb h hb (by omega))
  have G4 := fun (W : World) (A' : Option Addr) (c : Nat) (h : AlmsAt W W.heap.size A' X) (h0 : A' = none → c = 0) => Lib.hid (KTop_g HK k A' lx c lv X V W hU hlv hlx h h0 (by omega))
  have G5 := fun (W : World) (h : AlmsAt W W.heap.size A ls) => Lib.hid (KTop_g HK n A la ca lv ls V W hV hlv hla h ha (by omega))
  have G6 := fun (W : World) (A1 A2 : Option Addr) (c1 c2 : Nat) (h1 : AlmsAt W W.heap.size A1 V) (h2 : AlmsAt W W.heap.size A2 V) => Lib.hid (RASame_n A1 A2 lv lv c1 c2 V W hlv hlv h1 h2 (by omega))
  have G7 := fun (W : World) (A1 A2 : Option Addr) (c1 c2 : Nat) (h1 : AlmsAt W W.heap.size A1 X) (h2 : AlmsAt W W.heap.size A2 Y) (h3 : A1 = none → c1 = 0) (h4 : A2 = none → c2 = 0) => Lib.hid (KMerge_g HK A1 A2 lx ly c1 c2 lm X Y M W hM hlm hlx hly h1 h2 h3 h4 (by omega) (by omega))
  have G8 := fun (W : World) (A' : Option Addr) (c : Nat) (h : AlmsAt W W.heap.size A' M) (h0 : A' = none → c = 0) => Lib.hid (KTop_g HK n A' lm c lp M P W hQ hlp hlm h h0 (by omega))
  have G9 := fun (W : World) (A' : Option Addr) (c : Nat) (h : AlmsAt W W.heap.size A' Z) (h0 : A' = none → c = 0) => Lib.hid (KTop_g HK n A' lz c lp Z P W hP hlp hlz h h0 (by omega))
  have G10 := fun (W : World) (A1 A2 : Option Addr) (c1 c2 : Nat) (h1 : AlmsAt W W.heap.size A1 P) (h2 : AlmsAt W W.heap.size A2 P) => Lib.hid (RASame_n A1 A2 lp lp c1 c2 P W hlp hlp h1 h2 (by omega))
  have HZ : Hid (ls ++ ms = Z) := Lib.hid hZ.symm
  have Hlz := Lib.hid hlz
  have Hll : Hid (ls.length + ms.length ≤ 80) := Lib.hid (by omega)
  have Ha := Lib.hid ha
  have Hb := Lib.hid hb
  have hBB := Below.refl w.heap.size w
  clear ha hb hl hl2 hla hlb hX hY hlx hly hV hlv hZ hlz hM hlm hP hlp hU hQ lenX lenY lenV lenZ lenM lenP hnk
  go_enter Try.func6, Try.ntmps6
  go_wp2_with fail
  refine ((G1 _ hA).out).mono ?_
  rintro e w1 ⟨Ax, cx, rfl, hXr, hXn, hB'⟩
  replace hA := hA.on hB'
  replace hB := hB.on hB'
  replace hBB := below2 hBB hB'
  clear hB' G1
  have HXn := Lib.hid hXn
  clear hXn
  go_wp2_with fail
  refine ((G2 _ hB).out).mono ?_
  rintro e w2 ⟨Ay, cy, rfl, hYr, hYn, hB'⟩
  replace hA := hA.on hB'
  replace hB := hB.on hB'
  replace hXr := hXr.on hB'
  replace hBB := below2 hBB hB'
  clear hB' G2
  have HYn := Lib.hid hYn
  clear hYn
  have HA := Lib.hid hA
  have HB := Lib.hid hB
  have HX := Lib.hid hXr
  have HY := Lib.hid hYr
  have HBB := Lib.hid hBB
  clear hA hB hXr hYr hBB
  go_wp2_with (first
    | (at_builtin; refine wpList_append_alms rfl _ _ rfl w2.heap.size _ ls ms rfl O1.out B _ _ rfl Hlb.out HB1.out Hb.out H1.out.size (by have := Hll.out; omega) ?_; intro v2 w4 hown2 hgrow2; rw [HZ.out] at hown2; have H2 : Hid (Below w2.heap.size w2 w4) := Lib.hid (H1.out.grown hgrow2 H1.out.size O1.out.ge); clear hgrow2; obtain ⟨Az, cz, rfl, hZr, hZn, hZc⟩ := hown2.slice; rw [← Hlz.out]; have HZr := Lib.hid hZr; have HZn := Lib.hid hZn; clear hown2 hZr hZn hZc)
    | (at_builtin; refine wpList_append_alms rfl _ _ rfl w2.heap.size _ [] ls rfl (OwnA.nil _ _) A _ _ rfl Hla.out HA.out Ha.out (Nat.le_refl _) (by have := Hll.out; simp; omega) ?_; intro v1 w3 hown1 hgrow1; rw [List.nil_append] at hown1; have O1 := Lib.hid hown1; have H1 : Hid (Below w2.heap.size w2 w3) := Lib.hid ((Below.refl _ w2).grown hgrow1 (Nat.le_refl _) (fun k hk => nomatch hk)); have HB1 := Lib.hid ((HB.out.below H1.out (Nat.le_refl _)).more H1.out.size); clear hown1 hgrow1))
  refine (ranked_any HK _).mono ?_
  rintro e w5 ⟨rfl, hB'⟩
  have hA := (HA.out.on H2.out).on hB'
  have hXr := (HX.out.on H2.out).on hB'
  have hYr := (HY.out.on H2.out).on hB'
  have hZr := HZr.out.on hB'
  have hBB := below2 (below2 HBB.out H2.out) hB'
  clear hB' HA HB HX HY HBB HZr H1 H2 O1 HB1
  go_wp2_with fail
  refine ((G4 _ _ _ hXr HXn.out).out).mono ?_
  rintro e w6 ⟨Au, cu, rfl, hUr, _, hB'⟩
  replace hA := hA.on hB'
  replace hXr := hXr.on hB'
  replace hYr := hYr.on hB'
  replace hZr := hZr.on hB'
  replace hBB := below2 hBB hB'
  clear hB' G4
  go_wp2_with fail
  refine ((G5 _ hA).out).mono ?_
  rintro e w7 ⟨Av, cv, rfl, hVr, _, hB'⟩
  replace hA := hA.on hB'
  replace hXr := hXr.on hB'
  replace hYr := hYr.on hB'
  replace hZr := hZr.on hB'
  replace hUr := hUr.on hB'
  replace hBB := below2 hBB hB'
  clear hB' G5
  go_wp2_with fail
  refine ((G6 _ _ _ _ _ hUr hVr).out).mono ?_
  rintro e w8 ⟨rfl, hB'⟩
  replace hA := hA.on hB'
  replace hXr := hXr.on hB'
  replace hYr := hYr.on hB'
  replace hZr := hZr.on hB'
  replace hUr := hUr.on hB'
  replace hVr := hVr.on hB'
  replace hBB := below2 hBB hB'
  clear hB' G6
  clear hUr hVr hA
  go_wp2_with fail
  refine ((G7 _ _ _ _ _ hXr hYr HXn.out HYn.out).out).mono ?_
  rintro e w9 ⟨Am, cm, rfl, hMr, hMn, hB'⟩
  replace hXr := hXr.on hB'
  replace hYr := hYr.on hB'
  replace hZr := hZr.on hB'
  replace hBB := below2 hBB hB'
  clear hB' G7
  have HMn := Lib.hid hMn
  clear hMn
  go_wp2_with fail
  refine ((G8 _ _ _ hMr HMn.out).out).mono ?_
  rintro e w10 ⟨Ap, cp, rfl, hPr, _, hB'⟩
  replace hXr := hXr.on hB'
  replace hYr := hYr.on hB'
  replace hZr := hZr.on hB'
  replace hMr := hMr.on hB'
  replace hBB := below2 hBB hB'
  clear hB' G8
  go_wp2_with fail
  refine ((G9 _ _ _ hZr HZn.out).out).mono ?_
  rintro e w11 ⟨Aq, cq, rfl, hQr, _, hB'⟩
  replace hXr := hXr.on hB'
  replace hYr := hYr.on hB'
  replace hZr := hZr.on hB'
  replace hMr := hMr.on hB'
  replace hPr := hPr.on hB'
  replace hBB := below2 hBB hB'
  clear hB' G9
  go_wp2_with fail
  refine ((G10 _ _ _ _ _ hPr hQr).out).mono ?_
  rintro e w12 ⟨rfl, hB'⟩
  replace hXr := hXr.on hB'
  replace hYr := hYr.on hB'
  replace hZr := hZr.on hB'
  replace hMr := hMr.on hB'
  replace hPr := hPr.on hB'
  replace hQr := hQr.on hB'
  replace hBB := below2 hBB hB'
  clear hB' G10
  have HF := Lib.hid hBB
  clear hBB hXr hYr hZr hMr hPr hQr
  go_wp2
  go_ret
  exact ⟨rfl, HF.out⟩

set_option maxHeartbeats 4000000 in
theorem rankTop_eq (HK : Hid RankK) (A B : Option Addr) (ca cb : Nat) (ls ms : List Alm) (n : Int) (w : World) (hA : AlmsAt w w.heap.size A ls) (hB : AlmsAt w w.heap.size B ms) (ha : A = none → ca = 0) (hb : B = none → cb = 0) (hl : ls.length ≤ 40) (hl2 : ms.length ≤ 40) :
    Calls Try.prog 6 #[.slice A ls.length ca, .slice B ms.length cb, .int .i64 n, .int .i64 n] w fun e w' => e = .returned (.bool true) ∧ Below w.heap.size w w' := by
  obtain ⟨la, hla⟩ : ∃ x, x = ls.length := ⟨_, rfl⟩
  obtain ⟨lb, hlb⟩ : ∃ x, x = ms.length := ⟨_, rfl⟩
  rw [← hla, ← hlb]
  have Hla := Lib.hid hla
  have Hlb := Lib.hid hlb
  have i40 : ((40 : Int) < (la : Int)) = False := eq_false (by omega)
  have j40 : ((40 : Int) < (lb : Int)) = False := eq_false (by omega)
  obtain ⟨X, hX⟩ : ∃ X, X = Rk.top n ls := ⟨_, rfl⟩
  obtain ⟨Y, hY⟩ : ∃ Y, Y = Rk.top n ms := ⟨_, rfl⟩
  obtain ⟨lx, hlx⟩ : ∃ x, x = X.length := ⟨_, rfl⟩
  obtain ⟨ly, hly⟩ : ∃ x, x = Y.length := ⟨_, rfl⟩
  obtain ⟨V, hV⟩ : ∃ V, V = Rk.top n ls := ⟨_, rfl⟩
  obtain ⟨lv, hlv⟩ : ∃ x, x = V.length := ⟨_, rfl⟩
  obtain ⟨Z, hZ⟩ : ∃ Z, Z = ls ++ ms := ⟨_, rfl⟩
  obtain ⟨lz, hlz⟩ : ∃ x, x = Z.length := ⟨_, rfl⟩
  obtain ⟨M, hM⟩ : ∃ M, M = Rk.merge X Y := ⟨_, rfl⟩
  obtain ⟨lm, hlm⟩ : ∃ x, x = M.length := ⟨_, rfl⟩
  obtain ⟨P, hP⟩ : ∃ P, P = Rk.top n Z := ⟨_, rfl⟩
  obtain ⟨lp, hlp⟩ : ∃ x, x = P.length := ⟨_, rfl⟩
  have hU : V = Rk.top n X := by rw [hX, Rk.top_top, hV]; congr 1; omega
  have hQ : P = Rk.top n M := by rw [hM, hX, hY, hP, hZ]; exact (Rk.top_both n ls ms).symm
  have lenX : X.length ≤ ls.length := by rw [hX]; exact Rk.top_len n ls
  have lenY : Y.length ≤ ms.length := by rw [hY]; exact Rk.top_len n ms
  have lenV : V.length ≤ ls.length := by rw [hV]; exact Rk.top_len _ ls
  have lenZ : Z.length = ls.length + ms.length := by rw [hZ, List.length_append]
  have lenM : M.length = X.length + Y.length := by rw [hM]; unfold Rk.merge; rw [Rk.sort_len, List.length_append]
  have lenP : P.length ≤ Z.length := by rw [hP]; exact Rk.top_len n Z
  have e1 : ((lx : Int) ≤ (la : Int)) = True := eq_true (by omega)
  have G1 := fun (W : World) (h : AlmsAt W W.heap.size A ls) => Lib.hid (KTop_g HK n A la ca lx ls X W hX hlx hla h ha (by omega))
  have G2 := fun (W : World) (h : AlmsAt W W.heap.size B ms) => Lib.hid (KTop_g HK n B lb cb ly ms Y W hY hly hlb h hb (by omega))
  have G4 := fun (W : World) (A' : Option Addr) (c : Nat) (h : AlmsAt W W.heap.size A' X) (h0 : A' = none → c = 0) => Lib.hid (KTop_g HK n A' lx c lv X V W hU hlv hlx h h0 (by omega))
  have G5 := fun (W : World) (h : AlmsAt W W.heap.size A ls) => Lib.hid (KTop_g HK n A la ca lv ls V W hV hlv hla h ha (by omega))
  have G6 := fun (W : World) (A1 A2 : Option Addr) (c1 c2 : Nat) (h1 : AlmsAt W W.heap.size A1 V) (h2 : AlmsAt W W.heap.size A2 V) => Lib.hid (RASame_n A1 A2 lv lv c1 c2 V W hlv hlv h1 h2 (by omega))
  have G7 := fun (W : World) (A1 A2 : Option Addr) (c1 c2 : Nat) (h1 : AlmsAt W W.heap.size A1 X) (h2 : AlmsAt W W.heap.size A2 Y) (h3 : A1 = none → c1 = 0) (h4 : A2 = none → c2 = 0) => Lib.hid (KMerge_g HK A1 A2 lx ly c1 c2 lm X Y M W hM hlm hlx hly h1 h2 h3 h4 (by omega) (by omega))
  have G8 := fun (W : World) (A' : Option Addr) (c : Nat) (h : AlmsAt W W.heap.size A' M) (h0 : A' = none → c = 0) => Lib.hid (KTop_g HK n A' lm c lp M P W hQ hlp hlm h h0 (by omega))
  have G9 := fun (W : World) (A' : Option Addr) (c : Nat) (h : AlmsAt W W.heap.size A' Z) (h0 : A' = none → c = 0) => Lib.hid (KTop_g HK n A' lz c lp Z P W hP hlp hlz h h0 (by omega))
  have G10 := fun (W : World) (A1 A2 : Option Addr) (c1 c2 : Nat) (h1 : AlmsAt W W.heap.size A1 P) (h2 : AlmsAt W W.heap.size A2 P) => Lib.hid (RASame_n A1 A2 lp lp c1 c2 P W hlp hlp h1 h2 (by omega))
  have HZ : Hid (ls ++ ms = Z) := Lib.hid hZ.symm
  have Hlz := Lib.hid hlz
  have Hll : Hid (ls.length + ms.length ≤ 80) := Lib.hid (by omega)
  have Ha := Lib.hid ha
  have Hb := Lib.hid hb
  have hBB := Below.refl w.heap.size w
  clear ha hb hl hl2 hla hlb hX hY hlx hly hV hlv hZ hlz hM hlm hP hlp hU hQ lenX lenY lenV lenZ lenM lenP
  go_enter Try.func6, Try.ntmps6
  go_wp2_with fail
  refine ((G1 _ hA).out).mono ?_
  rintro e w1 ⟨Ax, cx, rfl, hXr, hXn, hB'⟩
  replace hA := hA.on hB'
  replace hB := hB.on hB'
  replace hBB := below2 hBB hB'
  clear hB' G1
  have HXn := Lib.hid hXn
  clear hXn
  go_wp2_with fail
  refine ((G2 _ hB).out).mono ?_
  rintro e w2 ⟨Ay, cy, rfl, hYr, hYn, hB'⟩
  replace hA := hA.on hB'
  replace hB := hB.on hB'
  replace hXr := hXr.on hB'
  replace hBB := below2 hBB hB'
  clear hB' G2
  have HYn := Lib.hid hYn
  clear hYn
  have HA := Lib.hid hA
  have HB := Lib.hid hB
  have HX := Lib.hid hXr
  have HY := Lib.hid hYr
  have HBB := Lib.hid hBB
  clear hA hB hXr hYr hBB
  go_wp2_with (first
    | (at_builtin; refine wpList_append_alms rfl _ _ rfl w2.heap.size _ ls ms rfl O1.out B _ _ rfl Hlb.out HB1.out Hb.out H1.out.size (by have := Hll.out; omega) ?_; intro v2 w4 hown2 hgrow2; rw [HZ.out] at hown2; have H2 : Hid (Below w2.heap.size w2 w4) := Lib.hid (H1.out.grown hgrow2 H1.out.size O1.out.ge); clear hgrow2; obtain ⟨Az, cz, rfl, hZr, hZn, hZc⟩ := hown2.slice; rw [← Hlz.out]; have HZr := Lib.hid hZr; have HZn := Lib.hid hZn; clear hown2 hZr hZn hZc)
    | (at_builtin; refine wpList_append_alms rfl _ _ rfl w2.heap.size _ [] ls rfl (OwnA.nil _ _) A _ _ rfl Hla.out HA.out Ha.out (Nat.le_refl _) (by have := Hll.out; simp; omega) ?_; intro v1 w3 hown1 hgrow1; rw [List.nil_append] at hown1; have O1 := Lib.hid hown1; have H1 : Hid (Below w2.heap.size w2 w3) := Lib.hid ((Below.refl _ w2).grown hgrow1 (Nat.le_refl _) (fun k hk => nomatch hk)); have HB1 := Lib.hid ((HB.out.below H1.out (Nat.le_refl _)).more H1.out.size); clear hown1 hgrow1))
  refine (ranked_any HK _).mono ?_
  rintro e w5 ⟨rfl, hB'⟩
  have hA := (HA.out.on H2.out).on hB'
  have hXr := (HX.out.on H2.out).on hB'
  have hYr := (HY.out.on H2.out).on hB'
  have hZr := HZr.out.on hB'
  have hBB := below2 (below2 HBB.out H2.out) hB'
  clear hB' HA HB HX HY HBB HZr H1 H2 O1 HB1
  go_wp2_with fail
  refine ((G4 _ _ _ hXr HXn.out).out).mono ?_
  rintro e w6 ⟨Au, cu, rfl, hUr, _, hB'⟩
  replace hA := hA.on hB'
  replace hXr := hXr.on hB'
  replace hYr := hYr.on hB'
  replace hZr := hZr.on hB'
  replace hBB := below2 hBB hB'
  clear hB' G4
  go_wp2_with fail
  refine ((G5 _ hA).out).mono ?_
  rintro e w7 ⟨Av, cv, rfl, hVr, _, hB'⟩
  replace hA := hA.on hB'
  replace hXr := hXr.on hB'
  replace hYr := hYr.on hB'
  replace hZr := hZr.on hB'
  replace hUr := hUr.on hB'
  replace hBB := below2 hBB hB'
  clear hB' G5
  go_wp2_with fail
  refine ((G6 _ _ _ _ _ hUr hVr).out).mono ?_
  rintro e w8 ⟨rfl, hB'⟩
  replace hA := hA.on hB'
  replace hXr := hXr.on hB'
  replace hYr := hYr.on hB'
  replace hZr := hZr.on hB'
  replace hUr := hUr.on hB'
  replace hVr := hVr.on hB'
  replace hBB := below2 hBB hB'
  clear hB' G6
  clear hUr hVr hA
  go_wp2_with fail
  refine ((G7 _ _ _ _ _ hXr hYr HXn.out HYn.out).out).mono ?_
  rintro e w9 ⟨Am, cm, rfl, hMr, hMn, hB'⟩
  replace hXr := hXr.on hB'
  replace hYr := hYr.on hB'
  replace hZr := hZr.on hB'
  replace hBB := below2 hBB hB'
  clear hB' G7
  have HMn := Lib.hid hMn
  clear hMn
  go_wp2_with fail
  refine ((G8 _ _ _ hMr HMn.out).out).mono ?_
  rintro e w10 ⟨Ap, cp, rfl, hPr, _, hB'⟩
  replace hXr := hXr.on hB'
  replace hYr := hYr.on hB'
  replace hZr := hZr.on hB'
  replace hMr := hMr.on hB'
  replace hBB := below2 hBB hB'
  clear hB' G8
  go_wp2_with fail
  refine ((G9 _ _ _ hZr HZn.out).out).mono ?_
  rintro e w11 ⟨Aq, cq, rfl, hQr, _, hB'⟩
  replace hXr := hXr.on hB'
  replace hYr := hYr.on hB'
  replace hZr := hZr.on hB'
  replace hMr := hMr.on hB'
  replace hPr := hPr.on hB'
  replace hBB := below2 hBB hB'
  clear hB' G9
  go_wp2_with fail
  refine ((G10 _ _ _ _ _ hPr hQr).out).mono ?_
  rintro e w12 ⟨rfl, hB'⟩
  replace hXr := hXr.on hB'
  replace hYr := hYr.on hB'
  replace hZr := hZr.on hB'
  replace hMr := hMr.on hB'
  replace hPr := hPr.on hB'
  replace hQr := hQr.on hB'
  replace hBB := below2 hBB hB'
  clear hB' G10
  have HF := Lib.hid hBB
  clear hBB hXr hYr hZr hMr hPr hQr
  go_wp2
  go_ret
  exact ⟨rfl, HF.out⟩

set_option maxHeartbeats 4000000 in
theorem rankTop_gt (HK : Hid RankK) (A B : Option Addr) (ca cb : Nat) (ls ms : List Alm) (n k : Int) (w : World) (hA : AlmsAt w w.heap.size A ls) (hB : AlmsAt w w.heap.size B ms) (ha : A = none → ca = 0) (hb : B = none → cb = 0) (hl : ls.length ≤ 40) (hl2 : ms.length ≤ 40) (hnk : k < n) :
    Calls Try.prog 6 #[.slice A ls.length ca, .slice B ms.length cb, .int .i64 n, .int .i64 k] w fun e w' => e = .returned (.bool true) ∧ Below w.heap.size w w' := by
  obtain ⟨la, hla⟩ : ∃ x, x = ls.length := ⟨_, rfl⟩
  obtain ⟨lb, hlb⟩ : ∃ x, x = ms.length := ⟨_, rfl⟩
  rw [← hla, ← hlb]
  have Hla := Lib.hid hla
  have Hlb := Lib.hid hlb
  have i40 : ((40 : Int) < (la : Int)) = False := eq_false (by omega)
  have j40 : ((40 : Int) < (lb : Int)) = False := eq_false (by omega)
  have m1 : (n < k) = False := eq_false (by omega)
  have m2 : (k < n) = True := eq_true hnk
  obtain ⟨X, hX⟩ : ∃ X, X = Rk.top n ls := ⟨_, rfl⟩
  obtain ⟨Y, hY⟩ : ∃ Y, Y = Rk.top n ms := ⟨_, rfl⟩
  obtain ⟨lx, hlx⟩ : ∃ x, x = X.length := ⟨_, rfl⟩
  obtain ⟨ly, hly⟩ : ∃ x, x = Y.length := ⟨_, rfl⟩
  obtain ⟨V, hV⟩ : ∃ V, V = Rk.top k ls := ⟨_, rfl⟩
  obtain ⟨lv, hlv⟩ : ∃ x, x = V.length := ⟨_, rfl⟩
  obtain ⟨Z, hZ⟩ : ∃ Z, Z = ls ++ ms := ⟨_, rfl⟩
  obtain ⟨lz, hlz⟩ : ∃ x, x = Z.length := ⟨_, rfl⟩
  obtain ⟨M, hM⟩ : ∃ M, M = Rk.merge X Y := ⟨_, rfl⟩
  obtain ⟨lm, hlm⟩ : ∃ x, x = M.length := ⟨_, rfl⟩
  obtain ⟨P, hP⟩ : ∃ P, P = Rk.top n Z := ⟨_, rfl⟩
  obtain ⟨lp, hlp⟩ : ∃ x, x = P.length := ⟨_, rfl⟩
  have hU : V = Rk.top k X := by rw [hX, Rk.top_top, hV]; congr 1; omega
  have hQ : P = Rk.top n M := by rw [hM, hX, hY, hP, hZ]; exact (Rk.top_both n ls ms).symm
  have lenX : X.length ≤ ls.length := by rw [hX]; exact Rk.top_len n ls
  have lenY : Y.length ≤ ms.length := by rw [hY]; exact Rk.top_len n ms
  have lenV : V.length ≤ ls.length := by rw [hV]; exact Rk.top_len _ ls
  have lenZ : Z.length = ls.length + ms.length := by rw [hZ, List.length_append]
  have lenM : M.length = X.length + Y.length := by rw [hM]; unfold Rk.merge; rw [Rk.sort_len, List.length_append]
  have lenP : P.length ≤ Z.length := by rw [hP]; exact Rk.top_len n Z
  have e1 : ((lx : Int) ≤ (la : Int)) = True := eq_true (by omega)
  have G1 := fun (W : World) (h : AlmsAt W W.heap.size A ls) => Lib.hid (KTop_g HK n A la ca lx ls X W hX hlx hla h ha (by omega))
  have G2 := fun (W : World) (h : AlmsAt W W.heap.size B ms) => Lib.hid (KTop_g HK n B lb cb ly ms Y W hY hly hlb h hb (by omega))
  have G4 := fun (W : World) (A' : Option Addr) (c : Nat) (h : AlmsAt W W.heap.size A' X) (h0 : A' = none → c = 0) => Lib.hid (KTop_g HK k A' lx c lv X V W hU hlv hlx h h0 (by omega))
  have G5 := fun (W : World) (h : AlmsAt W W.heap.size A ls) => Lib.hid (KTop_g HK k A la ca lv ls V W hV hlv hla h ha (by omega))
  have G6 := fun (W : World) (A1 A2 : Option Addr) (c1 c2 : Nat) (h1 : AlmsAt W W.heap.size A1 V) (h2 : AlmsAt W W.heap.size A2 V) => Lib.hid (RASame_n A1 A2 lv lv c1 c2 V W hlv hlv h1 h2 (by omega))
  have G7 := fun (W : World) (A1 A2 : Option Addr) (c1 c2 : Nat) (h1 : AlmsAt W W.heap.size A1 X) (h2 : AlmsAt W W.heap.size A2 Y) (h3 : A1 = none → c1 = 0) (h4 : A2 = none → c2 = 0) => Lib.hid (KMerge_g HK A1 A2 lx ly c1 c2 lm X Y M W hM hlm hlx hly h1 h2 h3 h4 (by omega) (by omega))
  have G8 := fun (W : World) (A' : Option Addr) (c : Nat) (h : AlmsAt W W.heap.size A' M) (h0 : A' = none → c = 0) => Lib.hid (KTop_g HK n A' lm c lp M P W hQ hlp hlm h h0 (by omega))
  have G9 := fun (W : World) (A' : Option Addr) (c : Nat) (h : AlmsAt W W.heap.size A' Z) (h0 : A' = none → c = 0) => Lib.hid (KTop_g HK n A' lz c lp Z P W hP hlp hlz h h0 (by omega))
  have G10 := fun (W : World) (A1 A2 : Option Addr) (c1 c2 : Nat) (h1 : AlmsAt W W.heap.size A1 P) (h2 : AlmsAt W W.heap.size A2 P) => Lib.hid (RASame_n A1 A2 lp lp c1 c2 P W hlp hlp h1 h2 (by omega))
  have HZ : Hid (ls ++ ms = Z) := Lib.hid hZ.symm
  have Hlz := Lib.hid hlz
  have Hll : Hid (ls.length + ms.length ≤ 80) := Lib.hid (by omega)
  have Ha := Lib.hid ha
  have Hb := Lib.hid hb
  have hBB := Below.refl w.heap.size w
  clear ha hb hl hl2 hla hlb hX hY hlx hly hV hlv hZ hlz hM hlm hP hlp hU hQ lenX lenY lenV lenZ lenM lenP hnk
  go_enter Try.func6, Try.ntmps6
  go_wp2_with fail
  refine ((G1 _ hA).out).mono ?_
  rintro e w1 ⟨Ax, cx, rfl, hXr, hXn, hB'⟩
  replace hA := hA.on hB'
  replace hB := hB.on hB'
  replace hBB := below2 hBB hB'
  clear hB' G1
  have HXn := Lib.hid hXn
  clear hXn
  go_wp2_with fail
  refine ((G2 _ hB).out).mono ?_
  rintro e w2 ⟨Ay, cy, rfl, hYr, hYn, hB'⟩
  replace hA := hA.on hB'
  replace hB := hB.on hB'
  replace hXr := hXr.on hB'
  replace hBB := below2 hBB hB'
  clear hB' G2
  have HYn := Lib.hid hYn
  clear hYn
  have HA := Lib.hid hA
  have HB := Lib.hid hB
  have HX := Lib.hid hXr
  have HY := Lib.hid hYr
  have HBB := Lib.hid hBB
  clear hA hB hXr hYr hBB
  go_wp2_with (first
    | (at_builtin; refine wpList_append_alms rfl _ _ rfl w2.heap.size _ ls ms rfl O1.out B _ _ rfl Hlb.out HB1.out Hb.out H1.out.size (by have := Hll.out; omega) ?_; intro v2 w4 hown2 hgrow2; rw [HZ.out] at hown2; have H2 : Hid (Below w2.heap.size w2 w4) := Lib.hid (H1.out.grown hgrow2 H1.out.size O1.out.ge); clear hgrow2; obtain ⟨Az, cz, rfl, hZr, hZn, hZc⟩ := hown2.slice; rw [← Hlz.out]; have HZr := Lib.hid hZr; have HZn := Lib.hid hZn; clear hown2 hZr hZn hZc)
    | (at_builtin; refine wpList_append_alms rfl _ _ rfl w2.heap.size _ [] ls rfl (OwnA.nil _ _) A _ _ rfl Hla.out HA.out Ha.out (Nat.le_refl _) (by have := Hll.out; simp; omega) ?_; intro v1 w3 hown1 hgrow1; rw [List.nil_append] at hown1; have O1 := Lib.hid hown1; have H1 : Hid (Below w2.heap.size w2 w3) := Lib.hid ((Below.refl _ w2).grown hgrow1 (Nat.le_refl _) (fun k hk => nomatch hk)); have HB1 := Lib.hid ((HB.out.below H1.out (Nat.le_refl _)).more H1.out.size); clear hown1 hgrow1))
  refine (ranked_any HK _).mono ?_
  rintro e w5 ⟨rfl, hB'⟩
  have hA := (HA.out.on H2.out).on hB'
  have hXr := (HX.out.on H2.out).on hB'
  have hYr := (HY.out.on H2.out).on hB'
  have hZr := HZr.out.on hB'
  have hBB := below2 (below2 HBB.out H2.out) hB'
  clear hB' HA HB HX HY HBB HZr H1 H2 O1 HB1
  go_wp2_with fail
  refine ((G4 _ _ _ hXr HXn.out).out).mono ?_
  rintro e w6 ⟨Au, cu, rfl, hUr, _, hB'⟩
  replace hA := hA.on hB'
  replace hXr := hXr.on hB'
  replace hYr := hYr.on hB'
  replace hZr := hZr.on hB'
  replace hBB := below2 hBB hB'
  clear hB' G4
  go_wp2_with fail
  refine ((G5 _ hA).out).mono ?_
  rintro e w7 ⟨Av, cv, rfl, hVr, _, hB'⟩
  replace hA := hA.on hB'
  replace hXr := hXr.on hB'
  replace hYr := hYr.on hB'
  replace hZr := hZr.on hB'
  replace hUr := hUr.on hB'
  replace hBB := below2 hBB hB'
  clear hB' G5
  go_wp2_with fail
  refine ((G6 _ _ _ _ _ hUr hVr).out).mono ?_
  rintro e w8 ⟨rfl, hB'⟩
  replace hA := hA.on hB'
  replace hXr := hXr.on hB'
  replace hYr := hYr.on hB'
  replace hZr := hZr.on hB'
  replace hUr := hUr.on hB'
  replace hVr := hVr.on hB'
  replace hBB := below2 hBB hB'
  clear hB' G6
  clear hUr hVr hA
  go_wp2_with fail
  refine ((G7 _ _ _ _ _ hXr hYr HXn.out HYn.out).out).mono ?_
  rintro e w9 ⟨Am, cm, rfl, hMr, hMn, hB'⟩
  replace hXr := hXr.on hB'
  replace hYr := hYr.on hB'
  replace hZr := hZr.on hB'
  replace hBB := below2 hBB hB'
  clear hB' G7
  have HMn := Lib.hid hMn
  clear hMn
  go_wp2_with fail
  refine ((G8 _ _ _ hMr HMn.out).out).mono ?_
  rintro e w10 ⟨Ap, cp, rfl, hPr, _, hB'⟩
  replace hXr := hXr.on hB'
  replace hYr := hYr.on hB'
  replace hZr := hZr.on hB'
  replace hMr := hMr.on hB'
  replace hBB := below2 hBB hB'
  clear hB' G8
  go_wp2_with fail
  refine ((G9 _ _ _ hZr HZn.out).out).mono ?_
  rintro e w11 ⟨Aq, cq, rfl, hQr, _, hB'⟩
  replace hXr := hXr.on hB'
  replace hYr := hYr.on hB'
  replace hZr := hZr.on hB'
  replace hMr := hMr.on hB'
  replace hPr := hPr.on hB'
  replace hBB := below2 hBB hB'
  clear hB' G9
  go_wp2_with fail
  refine ((G10 _ _ _ _ _ hPr hQr).out).mono ?_
  rintro e w12 ⟨rfl, hB'⟩
  replace hXr := hXr.on hB'
  replace hYr := hYr.on hB'
  replace hZr := hZr.on hB'
  replace hMr := hMr.on hB'
  replace hPr := hPr.on hB'
  replace hQr := hQr.on hB'
  replace hBB := below2 hBB hB'
  clear hB' G10
  have HF := Lib.hid hBB
  clear hBB hXr hYr hZr hMr hPr hQr
  go_wp2
  go_ret
  exact ⟨rfl, HF.out⟩

set_option maxHeartbeats 1000000 in
theorem rankTop_walk (HK : Hid RankK) (A : Option Addr) (ca : Nat) (ls : List Alm) (B : Option Addr) (cb : Nat) (ms : List Alm) (n k : Int) (w : World) (hA : AlmsAt w w.heap.size A ls) (hB : AlmsAt w w.heap.size B ms) (ha : A = none → ca = 0) (hb : B = none → cb = 0) :
    Calls Try.prog 6 #[.slice A ls.length ca, .slice B ms.length cb, .int .i64 n, .int .i64 k] w fun e w' => e = .returned (.bool true) ∧ Below w.heap.size w w' := by
  rcases Nat.lt_or_ge 40 ls.length with h1 | h1
  · have i1 : (40 : Int) < (ls.length : Int) := by omega
    clear hA hB ha hb
    go_enter Try.func6, Try.ntmps6
    go_wp2
    go_ret
    exact ⟨rfl, Below.refl _ _⟩
  · rcases Nat.lt_or_ge 40 ms.length with h2 | h2
    · have i1 : ((40 : Int) < (ls.length : Int)) = False := eq_false (by omega)
      have i2 : (40 : Int) < (ms.length : Int) := by omega
      clear hA hB ha hb
      go_enter Try.func6, Try.ntmps6
      go_wp2
      go_ret
      exact ⟨rfl, Below.refl _ _⟩
    · rcases Int.lt_trichotomy n k with h | h | h
      · exact rankTop_lt HK A B ca cb ls ms n k w hA hB ha hb h1 h2 h
      · subst h
        exact rankTop_eq HK A B ca cb ls ms n w hA hB ha hb h1 h2
      · exact rankTop_gt HK A B ca cb ls ms n k w hA hB ha hb h1 h2 h
end Go.Proofs.Ytlkopnbkmpgafaa
