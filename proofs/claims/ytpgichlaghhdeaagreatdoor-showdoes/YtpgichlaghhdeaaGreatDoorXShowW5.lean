/-
  Layer 11 (show): heard.
-/
import Derived.Test.YtpgichlaghhdeaaGreatDoorXShowW1
import Derived.Test.YtpgichlaghhdeaaGreatDoorXRefShow7
import Derived.Test.YtpgichlaghhdeaaGreatDoorXJc
import Derived.Test.YtpgichlaghhdeaaGreatDoorXJd
import Derived.Test.YtpgichlaghhdeaaGreatDoorXRankC1
namespace Go.Proofs.YtpgichlaghhdeaaGreatDoor
set_option maxRecDepth 10000
open Go.RowKit

/-- Sorted, and parted: in either order. -/
theorem sort_filter (p : Alm → Bool) (l : List Alm) : Rk.sort (l.filter p) = (Rk.sort l).filter p :=
  (Rk.sort_of (List.Pairwise.sublist List.filter_sublist (Rk.sort_sorted l)) ((Rk.sort_perm l).filter p)).symm

set_option maxHeartbeats 4000000 in
theorem heard_no (m n : Int) (A : Option Addr) (l c : Nat) (ls : List Alm) (B : Option Addr) (k0 d : Nat) (ws : List Win) (w : World) (h1 : Told w A l c ls) (h2 : ToldW w B k0 d ws) (hx : (Bd.isB m n ls && Mu.isL ws) = false) :
    Calls Tryz.prog 41 #[.agg #[.int .i64 m, .int .i64 n, .slice A l c], .slice B k0 d] w fun e w' => e = thr 1 ∧ Below w.heap.size w w' := by
  have HS0 : Hid (St w (w.alloc (.cells #[.int .i64 m, .int .i64 n, .slice A l c] 28)) [(w.heap.size, #[.int .i64 m, .int .i64 n, .slice A l c])] [rowF A ls, winF B ws]) := Lib.hid
    ((((St.start w).more (winF B ws) h2.2.1).more (rowF A ls) h1.2.1).new #[.int .i64 m, .int .i64 n, .slice A l c] 28)
  have g1 := fun W (h : AlmsAt W W.heap.size A ls) => kk_is m n A l c ls W ⟨h1.1, h, h1.2.2.1, h1.2.2.2⟩
  have g2 := fun W (h : WinsAt W W.heap.size B ws) => mIs_any B k0 d ws W ⟨h2.1, h, h2.2.2.1, h2.2.2.2⟩
  have g3 := fun W => need_no 1 W
  clear h1 h2
  cases e1 : Bd.isB m n ls
  · rw [e1] at g1
    clear e1 hx g2
    go_enter Tryz.func41, Tryz.ntmps41
    go_wp2_with (refine wpList_load_st rfl 28 _ rfl HS0.out 0 _ _ rfl rfl _ Tryz.underlying28 rfl (by rfl) ?_)
    refine (g1 _ (HS0.out.fact 0 rfl)).mono ?_
    rintro e w1 ⟨rfl, hB⟩
    have HS1 := Lib.hid (HS0.out.on hB)
    clear hB g1 HS0
    go_wp2_with fail
    refine (g3 _).mono ?_
    rintro e w2 ⟨rfl, rfl⟩
    exact ⟨rfl, rfl, HS1.out.below⟩
  · rw [e1, Bool.true_and] at hx
    rw [e1] at g1
    rw [hx] at g2
    clear e1 hx
    go_enter Tryz.func41, Tryz.ntmps41
    go_wp2_with (refine wpList_load_st rfl 28 _ rfl HS0.out 0 _ _ rfl rfl _ Tryz.underlying28 rfl (by rfl) ?_)
    refine (g1 _ (HS0.out.fact 0 rfl)).mono ?_
    rintro e w1 ⟨rfl, hB⟩
    have HS1 := Lib.hid (HS0.out.on hB)
    clear hB g1 HS0
    go_wp2_with fail
    refine (g2 _ (HS1.out.fact 1 rfl)).mono ?_
    rintro e w2 ⟨rfl, hB⟩
    have HS2 := Lib.hid (HS1.out.on hB)
    clear hB g2 HS1
    go_wp2_with fail
    refine (g3 _).mono ?_
    rintro e w3 ⟨rfl, rfl⟩
    exact ⟨rfl, rfl, HS2.out.below⟩

set_option maxHeartbeats 4000000 in
theorem heard_ok (m n : Int) (A : Option Addr) (l c : Nat) (ls : List Alm) (B : Option Addr) (k0 d : Nat) (ws : List Win) (w : World) (h1 : Told w A l c ls) (h2 : ToldW w B k0 d ws) (e1 : Bd.isB m n ls = true) (e2 : Mu.isL ws = true) :
    Calls Tryz.prog 41 #[.agg #[.int .i64 m, .int .i64 n, .slice A l c], .slice B k0 d] w (OwnedA w (Sh.heardL ws n ls)) := by
  have HS0 : Hid (St w (w.alloc (.cells #[.int .i64 m, .int .i64 n, .slice A l c] 28)) [(w.heap.size, #[.int .i64 m, .int .i64 n, .slice A l c])] [rowF A ls, winF B ws]) := Lib.hid
    ((((St.start w).more (winF B ws) h2.2.1).more (rowF A ls) h1.2.1).new #[.int .i64 m, .int .i64 n, .slice A l c] 28)
  have g1 := fun W (h : AlmsAt W W.heap.size A ls) => kk_is m n A l c ls W ⟨h1.1, h, h1.2.2.1, h1.2.2.2⟩
  have g2 := fun W (h : WinsAt W W.heap.size B ws) => mIs_any B k0 d ws W ⟨h2.1, h, h2.2.2.1, h2.2.2.2⟩
  have g3 := fun W => need_yes 1 W
  rw [e1] at g1
  rw [e2] at g2
  obtain ⟨r, hr⟩ : ∃ r, r = ls.filter (Sh.un ws n) := ⟨_, rfl⟩
  have eR : Sh.heardL ws n ls = Rk.sort r := by rw [hr, sort_filter]; rfl
  rw [eR]
  have Hr : Hid ([] ++ (ls.drop 0).filter (Sh.un ws n) = r) := Lib.hid (by rw [hr]; rfl)
  have Hl := Lib.hid h1.1
  have Hl1 := Lib.hid h1.2.2.2
  have H2a := Lib.hid h2.1
  have H2 := Lib.hid h2.2.2
  clear e1 e2 eR hr h1 h2
  go_enter Tryz.func41, Tryz.ntmps41
  go_wp2_with (refine wpList_load_st rfl 28 _ rfl HS0.out 0 _ _ rfl rfl _ Tryz.underlying28 rfl (by rfl) ?_)
  refine (g1 _ (HS0.out.fact 0 rfl)).mono ?_
  rintro e w1 ⟨rfl, hB⟩
  have HS1 := Lib.hid (HS0.out.on hB)
  clear hB g1 HS0
  go_wp2_with fail
  refine (g2 _ (HS1.out.fact 1 rfl)).mono ?_
  rintro e w2 ⟨rfl, hB⟩
  have HS2 := Lib.hid (HS1.out.on hB)
  clear hB g2 HS1
  go_wp2_with fail
  refine (g3 _).mono ?_
  rintro e w3 ⟨rfl, rfl⟩
  clear g3
  obtain ⟨p, hp⟩ : ∃ p, p = w.heap.size := ⟨_, rfl⟩
  rw [← hp] at HS2 ⊢
  have Hwp : Hid (w.heap.size ≤ w3.heap.size) := Lib.hid HS2.out.below.size
  clear hp
  have d2 := HS2.out.cell 0 rfl 2 rfl
  have StH0 : Hid (∀ W, Below w3.heap.size w3 W → St w W [(p, #[.int .i64 m, .int .i64 n, .slice A l c])] [rowF A ls, winF B ws]) := Lib.hid (fun W h => HS2.out.on h)
  go_wp2_with fail
  clear d2
  go_loopw [5, 18] (fun z i wr => ∃ (k : Nat) (out : List Alm) (A' : Option Addr) (q c' : Nat), z = .slice A' q c' ∧ Hid (q = out.length) ∧ k ≤ l ∧ i = .int .i64 (k : Int) ∧ Hid (OwnA wr w3.heap.size (.slice A' q c') out) ∧ Hid (St w wr [(p, #[.int .i64 m, .int .i64 n, .slice A l c])] [rowF A ls, winF B ws]) ∧ Hid (Below w3.heap.size w3 wr) ∧ Hid (out ++ (ls.drop k).filter (Sh.un ws n) = r) ∧ Hid (out.length ≤ k)) (fun _ i _ => l - (intOf i).toNat)
  case atStart => exact ⟨0, [], none, 0, 0, rfl, Lib.hid rfl, Nat.zero_le _, rfl, Lib.hid (OwnA.nil _ _), HS2, Lib.hid (Below.refl _ _), Hr, Lib.hid (Nat.zero_le _)⟩
  case round =>
    clear HS2 Hr
    obtain ⟨k, out, A', q, c', rfl, Hq, hk, rfl, HO, HS, HB3, Ho, Hlen⟩ := hrel
    by_cases hlt : k < l
    · have kl : k < ls.length := by rw [← Hl.out]; exact hlt
      obtain ⟨b7, o7, hA7, hb7, h6⟩ := (show AlmsAt wr wr.heap.size A ls from HS.out.fact 0 rfl) k kl
      subst hA7
      obtain ⟨x, hx⟩ : ∃ x, x = ls[k] := ⟨_, rfl⟩
      have Hd : Hid (ls.drop k = x :: ls.drop (k + 1)) := Lib.hid (by rw [hx]; exact List.drop_eq_getElem_cons kl)
      rw [← hx] at h6
      obtain ⟨x0, x1, x2, x3, x4, x5⟩ := x
      have f0 := h6.c0
      have f1 := h6.c1
      have f2 := h6.c2
      have f3 := h6.c3
      have f4 := h6.c4
      have f5 := h6.c5
      simp only at f0 f1 f2 f3 f4 f5
      have gH := fun W (h : WinsAt W W.heap.size B ws) => mHas_any B k0 d ws x0 n W ⟨H2a.out, h, H2.out⟩
      have i1 : (k : Int) < (l : Int) := by omega
      have i3 : (0 : Int) ≤ (k : Int) := by omega
      have Ik : Hid (wrap64 ((k : Int) + 1) = (k : Int) + 1) := Lib.hid (by have := Hl1.out; unfold wrap64; omega)
      have Hk := Lib.hid hlt
      have HSn := Lib.hid (HS.out.new #[.int .i64 x0, .int .i64 x1, .int .i64 x2, .int .i64 x3, .int .i64 x4, .int .i64 x5] 25)
      have HBn := Lib.hid (below_new wr (.cells #[.int .i64 x0, .int .i64 x1, .int .i64 x2, .int .i64 x3, .int .i64 x4, .int .i64 x5] 25))
      have s0 := HSn.out.cell 0 rfl 0 rfl
      have s1 := HSn.out.cell 1 rfl 1 rfl
      clear hx kl hk hlt h6 hb7
      cases hh : Mu.has ws x0 n with
      | true =>
        simp only [hh] at gH
        have Ho2 : Hid (out ++ (ls.drop (k + 1)).filter (Sh.un ws n) = r) := Lib.hid (by rw [← Ho.out, Hd.out, List.filter_cons]; unfold Sh.un; simp only [hh]; rfl)
        clear hh Ho Hd
        go_wp2_with fail
        refine (gH _ (HSn.out.fact 1 rfl)).mono ?_
        rintro e w5 ⟨rfl, hB⟩
        have HB5 := Lib.hid (below2 HBn.out hB)
        have HS5 : Hid (St w w5 [(p, #[.int .i64 m, .int .i64 n, .slice (some ⟨b7, o7, none⟩) l c])] [rowF (some ⟨b7, o7, none⟩) ls, winF B ws]) := Lib.hid (HS.out.on HB5.out)
        have HO5 := Lib.hid (HO.out.below HB5.out)
        have HB35 := Lib.hid (below2 HB3.out HB5.out)
        clear hB gH s0 s1 f0 f1 f2 f3 f4 f5 HSn HBn HS HO HB3 HB5
        go_wp2
        go_roundw
        case rel => exact ⟨k + 1, out, A', q, c', rfl, Hq, Hk.out, by first | rfl | (rw [Ik.out]; rfl), HO5, HS5, HB35, Ho2, Lib.hid (Nat.le_succ_of_le Hlen.out)⟩
        case measure => have := Hk.out; (try rw [Ik.out]); simp [intOf]; omega
      | false =>
        simp only [hh] at gH
        have Ho2 : Hid ((out ++ [(⟨x0, x1, x2, x3, x4, x5⟩ : Alm)]) ++ (ls.drop (k + 1)).filter (Sh.un ws n) = r) := Lib.hid (by rw [← Ho.out, Hd.out, List.filter_cons]; unfold Sh.un; simp only [hh]; simp)
        clear hh Ho Hd
        go_wp2_with fail
        refine (gH _ (HSn.out.fact 1 rfl)).mono ?_
        rintro e W8 ⟨rfl, hB⟩
        have HSa := Lib.hid (HSn.out.on hB)
        have HB5 := Lib.hid (below2 HBn.out hB)
        have HS5 : Hid (St w W8 [(p, #[.int .i64 m, .int .i64 n, .slice (some ⟨b7, o7, none⟩) l c])] [rowF (some ⟨b7, o7, none⟩) ls, winF B ws]) := Lib.hid (HS.out.on HB5.out)
        have HO5 := Lib.hid (HO.out.below HB5.out)
        have HB35 := Lib.hid (below2 HB3.out HB5.out)
        clear hB gH s0 s1 f0 f1 f2 f3 f4 f5 HSn HBn HS HO HB3 HB5
        have ON := Lib.hid (AlmsAt.oneH W8 x0 x1 x2 x3 x4 x5 25)
        have HBn := Lib.hid (below_new W8 (.cells #[.int .i64 x0, .int .i64 x1, .int .i64 x2, .int .i64 x3, .int .i64 x4, .int .i64 x5] 25))
        have HOn := Lib.hid (HO5.out.below HBn.out)
        go_wp2_with (first
          | (refine wpList_load_st rfl 25 _ rfl HSa.out 0 _ _ rfl rfl _ Tryz.underlying25 rfl (by rfl) ?_)
          | (at_builtin; refine wpList_append_alms rfl _ _ rfl w3.heap.size _ out [(⟨x0, x1, x2, x3, x4, x5⟩ : Alm)] rfl HOn.out (some ⟨W8.heap.size, 0, none⟩) 1 _ rfl rfl ON.out (fun e => nomatch e) (Nat.le_trans HB35.out.size HBn.out.size) (by have := Hlen.out; have := Hk.out; have := Hl1.out; simp only [List.length_cons, List.length_nil]; omega) ?_; intro v' w9 hown' hgrow; obtain ⟨A9, c9, rfl, _⟩ := hown'.slice; obtain ⟨q9, hq9⟩ : ∃ q9, q9 = (out ++ [(⟨x0, x1, x2, x3, x4, x5⟩ : Alm)]).length := ⟨_, rfl⟩; rw [← hq9] at hown' ⊢; have Hq9 := Lib.hid hq9; have HO9 := Lib.hid hown'; have HB9 : Hid (Below w3.heap.size w3 w9) := Lib.hid ((below2 HB35.out HBn.out).grown hgrow (Nat.le_trans HB35.out.size HBn.out.size) (fun k hk => (World.ownsRow.lt HOn.out k hk).1)); have HS9 : Hid (St w w9 [(p, #[.int .i64 m, .int .i64 n, .slice (some ⟨b7, o7, none⟩) l c])] [rowF (some ⟨b7, o7, none⟩) ls, winF B ws]) := Lib.hid (StH0.out _ HB9.out); clear hown' hgrow hq9))
        go_roundw
        case rel => exact ⟨k + 1, _, A9, q9, c9, rfl, Hq9, Hk.out, by first | rfl | (rw [Ik.out]; rfl), HO9, HS9, HB9, Ho2, Lib.hid (by rw [List.length_append, List.length_singleton]; have := Hlen.out; omega)⟩
        case measure => have := Hk.out; (try rw [Ik.out]); simp [intOf]; omega
    · have ik : ((k : Int) < (l : Int)) = False := eq_false (by omega)
      have hnil : ls.drop k = [] := List.drop_eq_nil_of_le (by rw [← Hl.out]; omega)
      have Ho2 : Hid (out = r) := Lib.hid (by have h := Ho.out; rw [hnil] at h; simpa using h)
      rw [Ho2.out] at HO Hq Hlen
      obtain ⟨A8, c8, e8, hA8, hn8, _⟩ := HO.out.slice
      have g4 := fun W (h : AlmsAt W W.heap.size A' r) => kk_sort A' q c' r W Hq.out h (by injection e8 with e8 e9 e10; subst e8 e10; exact hn8) (by have := Hlen.out; have := Hl1.out; omega)
      have hA9 : AlmsAt wr wr.heap.size A' r := by injection e8 with e8; subst e8; exact hA8
      have HA9 := Lib.hid hA9
      clear hk hlt Ho hnil hA8 hA9 hn8 e8
      go_wp2_with fail
      refine (g4 _ HA9.out).mono ?_
      rintro e w6 ⟨v, rfl, hO, hB⟩
      have HOo := Lib.hid hO
      have HBo := Lib.hid (below2 HS.out.below hB)
      have HSw := Lib.hid HS.out.below.size
      clear hO hB g4 HS
      go_wp2
      go_ret
      exact ⟨_, rfl, HOo.out.lower HSw.out, HBo.out⟩
end Go.Proofs.YtpgichlaghhdeaaGreatDoor
