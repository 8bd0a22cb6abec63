/-
  Layer 9 (due): worlds with draws and new blocks behind; the small walks: isTime, waits, told, isAhead, compareSpots, and the library's cmp.Compare and cmp.Or of ints.
-/
import Derived.Test.YtplpadblhjdpcaaGreatXJa
import Derived.Test.YtplpadblhjdpcaaGreatXJb
import Derived.Test.YtplpadblhjdpcaaGreatXJc
import Derived.Sort.Grow
import Derived.BigQuiet
import Derived.Deep.QuietTactic
import Derived.Lib.Hide
namespace Go.Proofs.YtplpadblhjdpcaaGreat
set_option maxRecDepth 10000
open Go.RowKit

/-- Some draws on, and some blocks more. -/
def Gr (w W : World) : Prop := ∃ q os, W = Go.Sort.grow (w.drewN q) os
theorem Gr.refl (w : World) : Gr w w := ⟨0, #[], by rw [Go.Sort.grow_empty]; rfl⟩
theorem Gr.alloc {w W : World} (h : Gr w W) (o : Obj) : Gr w (W.alloc o) := by
  obtain ⟨q, os, rfl⟩ := h
  exact ⟨q, os ++ #[o], by rw [Go.Sort.alloc_eq_grow, Go.Sort.grow_grow]⟩
theorem Gr.drewN {w W : World} (h : Gr w W) (n : Nat) : Gr w (W.drewN n) := by
  obtain ⟨q, os, rfl⟩ := h
  exact ⟨q + n, os, by show Go.Sort.grow ((w.drewN q).drewN n) os = _; rw [World.drewN_drewN]⟩
theorem Gr.drew {w W : World} (h : Gr w W) : Gr w W.drew := h.drewN 1
theorem Gr.trans {a b c : World} (h : Gr a b) (k : Gr b c) : Gr a c := by
  obtain ⟨q, os, rfl⟩ := h
  obtain ⟨q2, os2, rfl⟩ := k
  exact ⟨q + q2, os ++ os2, by show Go.Sort.grow (Go.Sort.grow ((a.drewN q).drewN q2) os) os2 = _; rw [Go.Sort.grow_grow, World.drewN_drewN]⟩
theorem Gr.below {w W : World} (h : Gr w W) : Below w.heap.size w W := by
  obtain ⟨q, os, rfl⟩ := h
  exact ⟨rfl, rfl, rfl, by rw [Go.Sort.size_grow]; exact Nat.le_add_right _ _, fun i hi => Go.Sort.heap_grow_old (w.drewN q) os hi⟩


namespace Du
/-- Two numbers. -/
def ci (x y : Int) : Int := if x < y then -1 else if y < x then 1 else 0
/-- Two spots. -/
def cs (b c b' c' : Int) : Int := if Sp.less b c b' c' then -1 else if Sp.less b' c' b c then 1 else 0
/-- The first one that is not 0. -/
def nz : List Int → Int
  | [] => 0
  | x :: l => if x ≠ 0 then x else nz l
theorem nz_drop {zs : List Int} {k : Nat} (h : k < zs.length) : nz (zs.drop k) = if zs[k] ≠ 0 then zs[k] else nz (zs.drop (k + 1)) := by
  rw [List.drop_eq_getElem_cons h]; rfl
/-- Two turns. -/
def cmp (x y : Trn) : Int := nz [ci x.tm y.tm, cs x.b x.c y.b y.c, ci x.ph y.ph]
theorem cmp_lt (x y : Trn) : cmp x y < 0 ↔ ahead x y = true := by
  rw [ahead_iff]
  unfold cmp cs ci
  simp only [Sp.less_iff, nz]
  by_cases a1 : x.tm < y.tm
  · simp [a1]
  · by_cases a2 : y.tm < x.tm
    · have := Int.ne_of_gt a2
      simp [a1, a2]; omega
    · have e : x.tm = y.tm := by omega
      simp only [a1, a2, if_false]
      by_cases b1 : x.b < y.b ∨ (x.b = y.b ∧ x.c < y.c)
      · simp only [b1, if_true]; simp; omega
      · by_cases b2 : y.b < x.b ∨ (y.b = x.b ∧ y.c < x.c)
        · simp only [b1, b2, if_true, if_false]; simp; omega
        · simp only [b1, b2, if_false]
          by_cases c1 : x.ph < y.ph
          · simp [c1]; omega
          · by_cases c2 : y.ph < x.ph
            · simp [c1, c2]; omega
            · simp [c1, c2]; omega
end Du

theorem disTime_any (n : Int) (w : World) :
    Calls Tryz.prog 22 #[.int .i64 n] w fun e w' => e = .returned (.bool (Am.isT n)) ∧ w' = w := by
  go_enter Tryz.func22, Tryz.ntmps22
  go_wp2
  all_goals go_ret
  all_goals (refine ⟨?_, rfl⟩; congr 2; unfold Am.isT; simp [*] <;> omega)

theorem dwaits_any (x0 x1 x2 x3 x4 x5 : Int) (w : World) :
    Calls Tryz.prog 45 #[.agg #[.int .i64 x0, .int .i64 x1, .int .i64 x2, .int .i64 x3, .int .i64 x4, .int .i64 x5]] w fun e w' => e = .returned (.bool (Du.waits ⟨x0, x1, x2, x3, x4, x5⟩)) ∧ Below w.heap.size w w' := by
  by_cases h1 : x2 = 1
  · subst h1
    go_enter Tryz.func45, Tryz.ntmps45
    go_wp2
    go_ret
    exact ⟨rfl, below_new _ _⟩
  · have b1 : (x2 == 1) = false := by rw [beq_eq_false_iff_ne]; exact h1
    have e : Du.waits ⟨x0, x1, x2, x3, x4, x5⟩ = (x2 == 4) := by unfold Du.waits; simp only; rw [b1]; rfl
    rw [e]
    clear e h1
    go_enter Tryz.func45, Tryz.ntmps45
    go_wp2
    go_ret
    exact ⟨rfl, below_new _ _⟩

theorem dtold_any (x0 x1 x2 x3 x4 x5 : Int) (w : World) :
    Calls Tryz.prog 122 #[.agg #[.int .i64 x0, .int .i64 x1, .int .i64 x2, .int .i64 x3, .int .i64 x4, .int .i64 x5]] w fun e w' => e = .returned (.agg #[.int .i64 x0, .int .i64 x1, .int .i64 x2, .int .i64 x3, .int .i64 x4, .int .i64 x5]) ∧ Below w.heap.size w w' := by
  have Ka := Lib.hid ((Six.new w x0 x1 x2 x3 x4 x5 78).alloc (.cells #[.int .i64 0, .int .i64 0, .int .i64 0, .int .i64 0, .int .i64 0, .int .i64 0] 38))
  have Kz := Lib.hid (Six.new1 w (.cells #[.int .i64 x0, .int .i64 x1, .int .i64 x2, .int .i64 x3, .int .i64 x4, .int .i64 x5] 78) 0 0 0 0 0 0 38)
  have HB := Lib.hid (below_new2 w (.cells #[.int .i64 x0, .int .i64 x1, .int .i64 x2, .int .i64 x3, .int .i64 x4, .int .i64 x5] 78) (.cells #[.int .i64 0, .int .i64 0, .int .i64 0, .int .i64 0, .int .i64 0, .int .i64 0] 38))
  go_enter Tryz.func122, Tryz.ntmps122
  go_wp2_with (first
    | (refine wpList_load_six rfl 78 _ rfl w.heap.size _ rfl Ka.out _ Tryz.underlying78 rfl (by rfl) ?_)
    | (refine wpList_store_six rfl 38 _ _ rfl (w.heap.size + 1) _ ⟨x0, x1, x2, x3, x4, x5⟩ rfl rfl Kz.out (by rfl) ?_; intro w6 hw6; have K6 := Lib.hid (Kz.out.put6 hw6); have HB6 := Lib.hid (below_put6 HB.out (by omega) hw6); clear hw6))
  (try simp only [Exit.inBlock, Exit.then]); refine bodyPost_ret (ret_alarm1 (a := ⟨x0, x1, x2, x3, x4, x5⟩) rfl rfl K6.out) rfl ?_
  exact ⟨rfl, HB6.out⟩

set_option maxHeartbeats 1000000 in
theorem dahead_any (x0 x1 x2 x3 x4 x5 y0 y1 y2 y3 y4 y5 : Int) (w : World) :
    Calls Tryz.prog 31 #[.agg #[.int .i64 x0, .int .i64 x1, .int .i64 x2, .int .i64 x3, .int .i64 x4, .int .i64 x5], .agg #[.int .i64 y0, .int .i64 y1, .int .i64 y2, .int .i64 y3, .int .i64 y4, .int .i64 y5]] w fun e w' => e = .returned (.bool (Du.before ⟨x0, x1, x2, x3, x4, x5⟩ ⟨y0, y1, y2, y3, y4, y5⟩)) ∧ Below w.heap.size w w' := by
  have hB0 := Lib.hid (below_new2 w (.cells #[.int .i64 x0, .int .i64 x1, .int .i64 x2, .int .i64 x3, .int .i64 x4, .int .i64 x5] 38) (.cells #[.int .i64 y0, .int .i64 y1, .int .i64 y2, .int .i64 y3, .int .i64 y4, .int .i64 y5] 38))
  by_cases h1 : x5 < y5
  · have e : Du.before ⟨x0, x1, x2, x3, x4, x5⟩ ⟨y0, y1, y2, y3, y4, y5⟩ = true := by unfold Du.before; simp [h1]
    rw [e]
    clear e
    go_enter Tryz.func31, Tryz.ntmps31
    go_wp2
    go_ret
    exact ⟨rfl, hB0.out⟩
  · have d1 : (x5 < y5) = False := eq_false h1
    by_cases h2 : x5 = y5
    · subst h2
      have e : Du.before ⟨x0, x1, x2, x3, x4, x5⟩ ⟨y0, y1, y2, y3, y4, x5⟩ = Sp.less x0 x1 y0 y1 := by unfold Du.before Bd.lessA; simp
      rw [e]
      have g := fun W => Less_any x0 x1 y0 y1 W
      obtain ⟨z, hz⟩ : ∃ z, z = Sp.less x0 x1 y0 y1 := ⟨_, rfl⟩
      simp only [← hz] at g ⊢
      clear e h1 hz
      go_enter Tryz.func31, Tryz.ntmps31
      go_wp2_with fail
      refine (g _).mono ?_
      rintro e w1 ⟨rfl, hB⟩
      have HB := Lib.hid (below2 hB0.out hB)
      clear hB
      go_wp2
      go_ret
      exact ⟨rfl, HB.out⟩
    · have b2 : (x5 == y5) = false := by rw [beq_eq_false_iff_ne]; exact h2
      have e : Du.before ⟨x0, x1, x2, x3, x4, x5⟩ ⟨y0, y1, y2, y3, y4, y5⟩ = false := by unfold Du.before; simp [h1, h2]
      rw [e]
      clear e h1 h2
      go_enter Tryz.func31, Tryz.ntmps31
      go_wp2
      go_ret
      exact ⟨rfl, hB0.out⟩

theorem gisAhead_any (b c b' c' : Int) (w : World) :
    Calls Tryz.prog 74 #[.agg #[.int .i64 b, .int .i64 c], .agg #[.int .i64 b', .int .i64 c']] w fun e w' => e = .returned (.bool (Sp.less b c b' c')) ∧ Gr w w' := by
  rcases Int.lt_trichotomy b b' with h | h | h
  · have h1 : decide (b < b') = true := decide_eq_true h
    have e0 : Sp.less b c b' c' = true := by unfold Sp.less; rw [h1]; rfl
    rw [e0]; clear e0 h
    go_enter Tryz.func74, Tryz.ntmps74
    go_wp2
    go_ret
    exact ⟨rfl, ((Gr.refl w).alloc _).alloc _⟩
  · subst h
    have h1 : decide (b < b) = false := decide_eq_false (by omega)
    have e0 : Sp.less b c b c' = decide (c < c') := by unfold Sp.less; rw [h1]; simp
    rw [e0]; clear e0
    go_enter Tryz.func74, Tryz.ntmps74
    go_wp2
    go_ret
    exact ⟨rfl, ((Gr.refl w).alloc _).alloc _⟩
  · have h1 : decide (b < b') = false := decide_eq_false (by omega)
    have h2 : (b == b') = false := by rw [beq_eq_false_iff_ne]; omega
    have e0 : Sp.less b c b' c' = false := by unfold Sp.less; rw [h1, h2]; rfl
    rw [e0]; clear e0 h
    go_enter Tryz.func74, Tryz.ntmps74
    go_wp2
    go_ret
    exact ⟨rfl, ((Gr.refl w).alloc _).alloc _⟩
theorem gLess_any (b c b' c' : Int) (w : World) :
    Calls Tryz.prog 52 #[.agg #[.int .i64 b, .int .i64 c], .agg #[.int .i64 b', .int .i64 c']] w fun e w' => e = .returned (.bool (Sp.less b c b' c')) ∧ Gr w w' := by
  go_enter Tryz.func52, Tryz.ntmps52
  go_wp2_with fail
  refine (gisAhead_any b c b' c' _).mono ?_
  rintro e w1 ⟨rfl, hB⟩
  go_wp2
  go_ret
  exact ⟨rfl, (((Gr.refl w).alloc _).alloc _).trans hB⟩

set_option maxHeartbeats 1000000 in
theorem dspots_any (b c b' c' : Int) (w : World) :
    Calls Tryz.prog 67 #[.agg #[.int .i64 b, .int .i64 c], .agg #[.int .i64 b', .int .i64 c']] w fun e w' => e = .returned (.int .i64 (Du.cs b c b' c')) ∧ Gr w w' := by
  have g1 := fun W => gLess_any b c b' c' W
  have g2 := fun W => gLess_any b' c' b c W
  have HG := Lib.hid (((Gr.refl w).alloc (.cells #[.int .i64 b, .int .i64 c] 26)).alloc (.cells #[.int .i64 b', .int .i64 c'] 26))
  unfold Du.cs
  cases h1 : Sp.less b c b' c'
  · rw [if_neg (by simp)]
    simp only [h1] at g1
    cases h2 : Sp.less b' c' b c
    · rw [if_neg (by simp)]
      simp only [h2] at g2
      clear h1 h2
      go_enter Tryz.func67, Tryz.ntmps67
      go_wp2_with fail
      refine (g1 _).mono ?_
      rintro e w1 ⟨rfl, hG⟩
      have T1 := ((Two.new w b c 26).alloc (.cells #[.int .i64 b', .int .i64 c'] 26)).below hG.below
      have T2 := (Two.new1 w (.cells #[.int .i64 b, .int .i64 c] 26) b' c' 26).below hG.below
      have c0 := T1.c0
      have c1 := T1.c1
      have c2 := T2.c0
      have c3 := T2.c1
      clear T1 T2
      have HG1 := Lib.hid (HG.out.trans hG)
      clear hG
      go_wp2_with fail
      refine (g2 _).mono ?_
      rintro e w2 ⟨rfl, hG⟩
      have HG2 := Lib.hid (HG1.out.trans hG)
      clear hG
      go_wp2
      go_ret
      exact ⟨rfl, HG2.out⟩
    · rw [if_pos rfl]
      simp only [h2] at g2
      clear h1 h2
      go_enter Tryz.func67, Tryz.ntmps67
      go_wp2_with fail
      refine (g1 _).mono ?_
      rintro e w1 ⟨rfl, hG⟩
      have T1 := ((Two.new w b c 26).alloc (.cells #[.int .i64 b', .int .i64 c'] 26)).below hG.below
      have T2 := (Two.new1 w (.cells #[.int .i64 b, .int .i64 c] 26) b' c' 26).below hG.below
      have c0 := T1.c0
      have c1 := T1.c1
      have c2 := T2.c0
      have c3 := T2.c1
      clear T1 T2
      have HG1 := Lib.hid (HG.out.trans hG)
      clear hG
      go_wp2_with fail
      refine (g2 _).mono ?_
      rintro e w2 ⟨rfl, hG⟩
      have HG2 := Lib.hid (HG1.out.trans hG)
      clear hG
      go_wp2
      go_ret
      exact ⟨rfl, HG2.out⟩
  · rw [if_pos rfl]
    simp only [h1] at g1
    clear h1 g2
    go_enter Tryz.func67, Tryz.ntmps67
    go_wp2_with fail
    refine (g1 _).mono ?_
    rintro e w1 ⟨rfl, hG⟩
    have HG1 := Lib.hid (HG.out.trans hG)
    clear hG
    go_wp2
    go_ret
    exact ⟨rfl, HG1.out⟩

theorem isnan_any (x : Int) (w : World) : Calls Tryz.prog 90 #[.int .i64 x] w fun e w' => e = .returned (.bool false) ∧ w' = w := by
  have h : (x == x) = true := by rw [beq_iff_eq]
  go_enter Tryz.func90, Tryz.ntmps90
  go_wp2
  go_ret
  exact ⟨rfl, rfl⟩
theorem cmpint_any (x y : Int) (w : World) : Calls Tryz.prog 66 #[.int .i64 x, .int .i64 y] w fun e w' => e = .returned (.int .i64 (Du.ci x y)) ∧ w' = w := by
  have g1 := fun W => isnan_any x W
  have g2 := fun W => isnan_any y W
  unfold Du.ci
  by_cases h1 : x < y
  · rw [if_pos h1]
    go_enter Tryz.func66, Tryz.ntmps66
    go_wp2_with fail
    refine (g1 _).mono ?_
    rintro e w1 ⟨rfl, rfl⟩
    go_wp2_with fail
    refine (g2 _).mono ?_
    rintro e w1 ⟨rfl, rfl⟩
    go_wp2
    go_ret
    exact ⟨rfl, rfl⟩
  · rw [if_neg h1]
    have d1 : (x < y) = False := eq_false h1
    by_cases h2 : y < x
    · rw [if_pos h2]
      go_enter Tryz.func66, Tryz.ntmps66
      go_wp2_with fail
      refine (g1 _).mono ?_
      rintro e w1 ⟨rfl, rfl⟩
      go_wp2_with fail
      refine (g2 _).mono ?_
      rintro e w1 ⟨rfl, rfl⟩
      go_wp2
      go_ret
      exact ⟨rfl, rfl⟩
    · rw [if_neg h2]
      have d2 : (y < x) = False := eq_false h2
      go_enter Tryz.func66, Tryz.ntmps66
      go_wp2_with fail
      refine (g1 _).mono ?_
      rintro e w1 ⟨rfl, rfl⟩
      go_wp2_with fail
      refine (g2 _).mono ?_
      rintro e w1 ⟨rfl, rfl⟩
      go_wp2
      go_ret
      exact ⟨rfl, rfl⟩

set_option maxHeartbeats 1000000 in
theorem cmpor_any (A : Option Addr) (n cap : Nat) (zs : List Int) (w : World) (hn : n = zs.length) (hA : IntsAt w w.heap.size A zs) (hl : n ≤ 1000) :
    Calls Tryz.prog 65 #[.slice A n cap] w fun e w' => e = .returned (.int .i64 (Du.nz zs)) ∧ w' = w := by
  have HA := Lib.hid hA
  have Hn := Lib.hid hn
  have Hl := Lib.hid hl
  obtain ⟨r, hr⟩ : ∃ r, r = Du.nz zs := ⟨_, rfl⟩
  have Hr := Lib.hid hr
  rw [← hr]
  clear hA hn hl hr
  go_enter Tryz.func65, Tryz.ntmps65
  go_wp2
  go_loopw [8] (fun i wr => ∃ k : Nat, k ≤ n ∧ i = .int .i64 (k : Int) ∧ wr = w ∧ Hid (Du.nz (zs.drop k) = r)) (fun i _ => n - (intOf i).toNat)
  case atStart => exact ⟨0, Nat.zero_le _, rfl, (by first | trivial | rfl), Lib.hid (by rw [Hr.out]; rfl)⟩
  case round =>
    obtain ⟨k, hk, rfl, rfl, Hf⟩ := hrel
    by_cases hlt : k < n
    · have kl : k < zs.length := by rw [← Hn.out]; exact hlt
      obtain ⟨b0, o0, rfl, hb0, hc⟩ := HA.out k kl
      have Hs := Lib.hid (Du.nz_drop kl)
      obtain ⟨x, hx⟩ : ∃ x, x = zs[k] := ⟨_, rfl⟩
      rw [← hx] at hc Hs
      have i1 : (k : Int) < (n : Int) := by omega
      have i3 : (0 : Int) ≤ (k : Int) := by omega
      have Iw : Hid (wrap64 ((k : Int) + 1) = (k : Int) + 1) := Lib.hid (by have := Hl.out; unfold wrap64; omega)
      have Hk := Lib.hid hlt
      clear hx kl hk hlt
      by_cases hx0 : x = 0
      · subst hx0
        have He : Hid (Du.nz (zs.drop (k + 1)) = r) := Lib.hid (by rw [← Hf.out, Hs.out, if_neg (by simp)])
        clear Hs Hf
        go_wp2
        go_roundw
        case rel => exact ⟨k + 1, Hk.out, by first | rfl | (rw [Iw.out]; rfl), (by first | trivial | rfl), He⟩
        case measure => have := Hk.out; (try rw [Iw.out]); simp [intOf]; omega
      · have hxb : (x == 0) = false := by rw [beq_eq_false_iff_ne]; exact hx0
        have He : Hid (r = x) := Lib.hid (by rw [← Hf.out, Hs.out, if_pos hx0])
        clear Hs Hf hx0
        go_wp2
        go_ret
        exact ⟨by rw [He.out]; rfl, by first | trivial | rfl⟩
    · have ik : ((k : Int) < (n : Int)) = False := eq_false (by omega)
      have He : Hid (r = 0) := Lib.hid (by rw [← Hf.out, List.drop_eq_nil_of_le (by have := Hn.out; omega)]; rfl)
      clear hk hlt Hf
      go_wp2
      go_ret
      exact ⟨by rw [He.out]; rfl, by first | trivial | rfl⟩
end Go.Proofs.YtplpadblhjdpcaaGreat
