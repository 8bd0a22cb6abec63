/-
  Layer 5 (life): the walk of the reference's ways: all rows of so many deeds.
-/
import Derived.Test.YtipblfmabhggkaaRefRows
namespace Go.Proofs.Ytipblfmabhggkaa
open Go.RowKit

theorem Try.infoS : (Try.prog.info? 22).map (fun i => (i.zero, i.size, i.bytes)) = some (some (.slice none 0 0), 1, 24) := by kernel_rfl

theorem rows_one (w : World) (f : Int) :
    RowsAt (((w.alloc (.cells #[] 3)).alloc (.cells #[.slice (some ⟨w.heap.size, 0, none⟩) 0 0] 22)).alloc (.cells #[.int .i64 f] 3)) (some ⟨w.heap.size + 1, 0, none⟩) [[]] ∧
    IntsAt (((w.alloc (.cells #[] 3)).alloc (.cells #[.slice (some ⟨w.heap.size, 0, none⟩) 0 0] 22)).alloc (.cells #[.int .i64 f] 3)) (((w.alloc (.cells #[] 3)).alloc (.cells #[.slice (some ⟨w.heap.size, 0, none⟩) 0 0] 22)).alloc (.cells #[.int .i64 f] 3)).heap.size (some ⟨w.heap.size + 1 + 1, 0, none⟩) [f] ∧
    Below w.heap.size w (((w.alloc (.cells #[] 3)).alloc (.cells #[.slice (some ⟨w.heap.size, 0, none⟩) 0 0] 22)).alloc (.cells #[.int .i64 f] 3)) := by
  have s2 : ((w.alloc (.cells #[] 3)).alloc (.cells #[.slice (some ⟨w.heap.size, 0, none⟩) 0 0] 22)).heap.size = w.heap.size + 1 + 1 := by simp
  refine ⟨fun i hi => ?_, ?_, ((below_new w _).alloc (by simp) _).alloc (by simp; omega) _⟩
  · obtain rfl : i = 0 := by simpa using hi
    refine ⟨w.heap.size + 1, 0, rfl, by simp, some ⟨w.heap.size, 0, none⟩, 0, ?_, by simp, IntsAt.nil _ _ _⟩
    have h1 := heap_alloc2_new w (.cells #[] 3) (.cells #[.slice (some ⟨w.heap.size, 0, none⟩) 0 0] 22)
    have h2 := (below_new ((w.alloc (.cells #[] 3)).alloc (.cells #[.slice (some ⟨w.heap.size, 0, none⟩) 0 0] 22)) (.cells #[.int .i64 f] 3)).block (w.heap.size + 1) (by simp)
    rw [h1] at h2
    simp only [World.cell?, h2]
    rfl
  · have := IntsAt.one ((w.alloc (.cells #[] 3)).alloc (.cells #[.slice (some ⟨w.heap.size, 0, none⟩) 0 0] 22)) f 3
    rw [s2] at this
    exact this

set_option maxRecDepth 10000 in
set_option maxHeartbeats 8000000 in
theorem ways_any (f : Int) (n : Nat) (hn : n ≤ 4) : ∀ (w : World),
    Calls Try.prog 26 #[.int .i64 f, .int .i64 (n : Int)] w fun e w' => ∃ AL cL AE cE, e = .returned (.tuple #[.slice AL (Lf.wys f n).length cL, .slice AE (Lf.wys f n).length cE]) ∧ RowsAt w' AL ((Lf.wys f n).map (·.1)) ∧ IntsAt w' w'.heap.size AE ((Lf.wys f n).map (·.2)) ∧ Below w.heap.size w w' := by
  induction n with
  | zero =>
    intro w
    have H := Lib.hid (rows_one w f)
    have z0 : (((0 : Nat) : Int) == 0) = true := by decide
    go_enter Try.func26, Try.ntmps26
    go_wp2
    go_ret2
    exact ⟨_, _, _, _, rfl, H.out.1, H.out.2.1, H.out.2.2⟩
  | succ n ih =>
    intro w
    have ih' := ih (by omega) w
    clear ih
    obtain ⟨i0, hi, hz0, hz1, hz2⟩ := info_parts Try.infoI3
    obtain ⟨j0, hj, hy0, hy1, hy2⟩ := info_parts Try.infoS
    have Hsmall := Lib.hid (Lf.wys_small f (n := n) (by omega))
    rw [Lf.wys_succ]
    obtain ⟨rs, hrs⟩ : ∃ rs, rs = Lf.wys f n := ⟨_, rfl⟩
    rw [← hrs] at ih' Hsmall ⊢
    obtain ⟨m, hm⟩ : ∃ m : Int, m = ((n + 1 : Nat) : Int) := ⟨_, rfl⟩
    rw [← hm]
    have m0 : (m == 0) = false := by rw [beq_eq_false_iff_ne]; omega
    have m1 : wrap64 (m - 1) = (n : Int) := by unfold wrap64; omega
    have Hrow : Hid (∀ r ∈ rs, r.1.length ≤ 4) := Lib.hid (fun r hr => by rw [hrs] at hr; rw [Lf.wys_row hr]; omega)
    clear hrs hm hn
    go_enter Try.func26, Try.ntmps26
    go_wp2_with fail
    refine ih'.mono ?_
    rintro e W1 ⟨AL, cL, AE, cE, rfl, hRL, hIE, hB1⟩
    have HRL := Lib.hid hRL
    have HIE := Lib.hid hIE
    have HB1 := Lib.hid hB1
    clear ih' hRL hIE hB1 m0 m1
    go_wp2_with fail
    go_loopw [8, 9, 10] (fun o q i wr => ∃ k : Nat, k ≤ rs.length ∧ i = .int .i64 (k : Int) ∧ ∃ xs, WF W1 wr o q xs (Lf.acc rs k)) (fun _ _ i _ => rs.length - (intOf i).toNat)
    case atStart => exact ⟨0, Nat.zero_le _, rfl, [], WF.nil W1⟩
    case round =>
      obtain ⟨k, hk, rfl, xs, hF⟩ := hrel
      by_cases hlt : k < rs.length
      · have Hk := Lib.hid hlt
        have i1 : (k : Int) < (rs.length : Int) := by omega
        have HF0 := Lib.hid hF
        clear hF hk hlt
        go_wp2_with fail
        go_loopw [8, 9, 11] (fun o q d wr => ∃ j : Nat, j ≤ 6 ∧ d = .int .i64 ((j : Int) + 1) ∧ ∃ xs, WF W1 wr o q xs (Lf.accS rs k j)) (fun _ _ d _ => 7 - (intOf d).toNat)
        case atStart => exact ⟨0, by omega, rfl, xs, by rw [Lf.accS_zero]; exact HF0.out⟩
        case round =>
          obtain ⟨j, hj6, rfl, ys, hF⟩ := hrel
          clear HF0
          by_cases hjl : j < 6
          · have Hj := Lib.hid hjl
            have Hst := Lib.hid (Lf.accS_step rs k j)
            have Hln := Lib.hid (Lf.accS_len (rs := rs) Hk.out (j := j) (by omega))
            obtain ⟨r, hr⟩ : ∃ r, r = rs.getD k ([], 0) := ⟨_, rfl⟩
            rw [← hr] at Hst
            have hrk : rs[k]'Hk.out = r := by rw [hr]; simp [List.getD, List.getElem?_eq_getElem Hk.out]
            obtain ⟨b, off, rfl, hbb, hce⟩ := (HIE.out.on hF.bel) k (by simpa using Hk.out)
            rw [List.getElem_map, hrk] at hce
            obtain ⟨b2, off2, rfl, hbb2, C, c, hcr, hnil, hIC⟩ := (HRL.out.on hF.bel) k (by simpa using Hk.out)
            rw [List.getElem_map, hrk] at hcr hIC
            have Hl5' : r.1.length ≤ 4 := Hrow.out r (by rw [← hrk]; exact List.getElem_mem _)
            obtain ⟨l, e0⟩ := r
            have Hl5 : Hid (l.length ≤ 4) := Lib.hid Hl5'
            clear Hl5'
            simp only at hce hcr hIC Hst
            obtain ⟨us, has⟩ : ∃ us, us = Lf.accS rs k j := ⟨_, rfl⟩
            rw [← has] at hF Hst Hln
            have Has := Lib.hid has
            obtain ⟨d, hd⟩ : ∃ d, d = (j : Int) + 1 := ⟨_, rfl⟩
            rw [← hd] at Hst ⊢
            have Hd := Lib.hid hd
            have i6 : d ≤ 6 := by omega
            have Iw : Hid (wrap64 (d + 1) = d + 1) := Lib.hid (by unfold wrap64; omega)
            have h1 := fun W => RNext_any e0 d W
            obtain ⟨p, hp⟩ : ∃ p, p = Lf.nx e0 d := ⟨_, rfl⟩
            rw [← hp] at h1 Hst
            have HF := Lib.hid hF
            have HIC := Lib.hid hIC
            clear hr hrk has hd hp hF hIC hjl hj6
            cases hok : Lf.ok e0 d
            · rw [hok] at h1
              have Hs2 : Hid (Lf.accS rs k (j + 1) = us) := Lib.hid (by rw [Hst.out, hok]; simp)
              clear Hst hok
              go_wp2_with fail
              refine (h1 _).mono ?_
              rintro e w2 ⟨rfl, rfl⟩
              clear h1
              go_wp2
              go_roundw
              case rel => exact ⟨j + 1, Hj.out, by first | (rw [Iw.out, Hd.out]; rfl) | (rw [Hd.out]; rfl), ys, by rw [Hs2.out]; exact HF.out⟩
              case measure => have := Hd.out; have := Hj.out; (try rw [Iw.out]); simp [intOf]; omega
            · rw [hok] at h1
              have Hs2 : Hid (Lf.accS rs k (j + 1) = us ++ [(l ++ [d], p)]) := Lib.hid (by rw [Hst.out, hok]; simp)
              clear Hst hok
              go_wp2_with fail
              refine (h1 _).mono ?_
              rintro e w2 ⟨rfl, rfl⟩
              clear h1
              go_wp2_with (first
                | (at_builtin; refine wpList_append_ints rfl _ _ rfl w2.heap.size (.slice none 0 0) [] l rfl (World.ownsRow_nil _ _ _ _) C c rfl HIC.out hnil (Nat.le_refl _) (by have := Hl5.out; simp; omega) ?_; intro v1 W2 ho1 hg1; have HO1 := Lib.hid ho1; have HB2 : Hid (Below w2.heap.size w2 W2) := Lib.hid ((Below.refl _ w2).grown hg1 (Nat.le_refl _) (fun k hk => by cases hk)); clear ho1 hg1)
                | (at_builtin; refine wpList_append_ints rfl _ _ rfl w2.heap.size v1 l [d] rfl (HO1.out.alloc _) (some ⟨W2.heap.size, 0, none⟩) 1 rfl (IntsAt.one W2 d 3) (fun h => by cases h) (by have := HB2.out.size; simp; omega) (by have := Hl5.out; simp; omega) ?_; intro v2 W3 ho2 hg2; have HB3 : Hid (Below w2.heap.size w2 W3) := Lib.hid ((HB2.out.alloc HB2.out.size _).grown hg2 (by have := HB2.out.size; simp; omega) (fun k hk => (HO1.out.lt k hk).1)); have HS3 := Lib.hid ((HF.out.fresh ho2).below (below_new W3 (.cells #[v2] 22))); have HF3 := Lib.hid ((HF.out.below HB3.out).below (below_new W3 (.cells #[v2] 22))); have ho2' : W3.ownsRow w2.heap.size 3 1 v2 (l.length + 1) ((l ++ [d]).map (Value.int .i64)) := (by simpa using ho2); obtain ⟨A2, c2, rfl⟩ := ownsRow_slice ho2'; clear ho2 ho2' hg2)
                | (at_builtin; refine wpList_append_own_at _ rfl _ _ 53 rfl W1.heap.size 22 j0 (.slice none 0 0) 1 24 Try.underlying53 hj hy0 hy1 hy2 rfl (by decide) _ _ _ rfl HF3.out.out ⟨W3.heap.size, 0, none⟩ 1 1 [.slice A2 (l.length + 1) c2] rfl rfl (cell_one_new _ _ _) (by simp [Value.oneCell']) (by have := Hln.out; have := Hsmall.out; unfold maxLen; omega) (by have := Hln.out; have := Hsmall.out; omega) HF3.out.bel.size ?_; intro v3 W4 ho3 hg3 _ hat3; have HM := Lib.hid ((HF3.out.addRow HS3.out ho3 hg3 hat3).below (below_new W4 (.cells #[.int .i64 p] 3))); clear ho3 hg3 hat3)
                | (at_builtin; refine wpList_append_own_at _ rfl _ _ 22 rfl W1.heap.size 3 i0 (.int .i64 0) 1 8 Try.underlying22 hi hz0 hz1 hz2 rfl (by decide) _ _ _ rfl HM.out.made ⟨W4.heap.size, 0, none⟩ 1 1 [.int .i64 p] rfl rfl (cell_one_new _ _ _) (by simp [Value.oneCell']) (by have := Hln.out; have := Hsmall.out; unfold maxLen; omega) (by have := Hln.out; have := Hsmall.out; omega) HM.out.bel.size ?_; intro v4 W5 ho4 hg4 _ hat4; have HE := Lib.hid (HM.out.addNum ho4 hg4 hat4); clear ho4 hg4 hat4))
              go_roundw
              case rel => exact ⟨j + 1, Hj.out, by first | (rw [Iw.out, Hd.out]; rfl) | (rw [Hd.out]; rfl), _, by rw [Hs2.out]; exact HE.out⟩
              case measure => have := Hd.out; have := Hj.out; (try rw [Iw.out]); simp [intOf]; omega
          · obtain rfl : j = 6 := by omega
            have Ik : Hid (wrap64 ((k : Int) + 1) = (k : Int) + 1) := Lib.hid (by have := Hk.out; have := Hsmall.out; unfold wrap64; omega)
            have HF := Lib.hid hF
            clear hF
            go_wp2
            go_roundw
            case rel => exact ⟨k + 1, Hk.out, by first | rfl | (rw [Ik.out]; rfl), ys, by rw [← Lf.accS_six]; exact HF.out⟩
            case measure => have := Hk.out; (try rw [Ik.out]); simp [intOf]; omega
      · obtain rfl : k = rs.length := by omega
        obtain ⟨A1, c1, rfl⟩ := ownsRow_slice hF.out
        obtain ⟨A2, c2, rfl⟩ := ownsRow_slice hF.made
        have HF := Lib.hid hF
        clear hF
        go_wp2
        go_ret2
        exact ⟨_, _, _, _, rfl, HF.out.rowsAt, HF.out.numsAt, below2 HB1.out HF.out.bel⟩
end Go.Proofs.Ytipblfmabhggkaa
