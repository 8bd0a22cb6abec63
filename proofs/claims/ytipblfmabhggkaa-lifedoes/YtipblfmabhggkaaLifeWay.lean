/-
  Layer 5 (life): the walks of Way and Reach.
-/
import Derived.Test.YtipblfmabhggkaaLifeEx
import Derived.Lib.OwnBridge
import Derived.Sort.OwnSortedInts
namespace Go.Proofs.Ytipblfmabhggkaa
open Go.RowKit Go.Sort

theorem owns_lower {w : World} {base base' : Nat} {e : TypeId} {size : Nat} {v : Value} {n : Nat} {xs : List Value} (h : w.ownsRow base e size v n xs) (hb : base' ≤ base) : w.ownsRow base' e size v n xs := by
  refine ⟨h.1, ?_⟩
  rcases h.2 with h0 | ⟨g, cap, cur, h1, h2, h3⟩
  · exact Or.inl h0
  · exact Or.inr ⟨g, cap, cur, h1, Nat.le_trans hb h2, h3⟩

def lenS : Value → Nat
  | .slice _ n _ => n
  | _ => 0
theorem trV_1 (f : Int) (v : Value) (ss : List (Int × Int)) : (trV f v ss)[1]? = some v := rfl
theorem trV_0 (f : Int) (v : Value) (ss : List (Int × Int)) : (trV f v ss)[0]? = some (.int .i64 f) := rfl

theorem field_reached (f : Int) (A : Option Addr) (n c : Nat) (ss : List (Int × Int)) (h : ss.length = 5) (W : World) : (Instr.field 50 (.agg (trV f (.slice A n c) ss)) 1).run Try.prog W = .ok (.slice A n c) W := by
  obtain ⟨a, b, c, d, e, rfl⟩ := five h
  kernel_rfl

/-- What holds ahead of each round of wayTo. -/
def WkRel (w : World) (f to : Int) (u : Value) (B : Nat) (v p : Value) (wr : World) : Prop :=
  ∃ k : Nat, k ≤ 4 ∧ p = .int .i64 (Lf.wk f to k).1 ∧ (Lf.wk f to k).2.length = k ∧ wr.ownsRow w.heap.size 3 1 v k ((Lf.wk f to k).2.map (Value.int .i64)) ∧ TrAt wr B f u (Lf.know f 30).2 ∧ Below w.heap.size w wr

set_option maxRecDepth 10000 in
set_option maxHeartbeats 2000000 in
theorem wayTo_any (f to : Int) (hf : Lf.isP f = true) (ht : Lf.isP to = true) (g cap : Nat) (w : World) (hA : IntsAt w w.heap.size (some ⟨g, 0, none⟩) (Lf.know f 30).1) :
    Calls Try.prog 25 #[.agg (trV f (.slice (some ⟨g, 0, none⟩) 5 cap) (Lf.know f 30).2), .int .i64 to] w fun e w' => ∃ u, e = .returned (.tuple #[u, .bool true]) ∧ w'.ownsRow w.heap.size 3 1 u (Lf.way f to).length ((Lf.way f to).map (Value.int .i64)) ∧ Below w.heap.size w w' := by
  obtain ⟨i0, hi, hz0, hz1, hz2⟩ := info_parts Try.infoI3
  have Hfact := Lib.hid (Lf.know_facts hf (n := 30) (Nat.le_refl _))
  have HW := fun k (hk : k ≤ 4) => Lib.hid (Lf.wk_facts hf ht hk)
  have hhas := Lf.has_all hf ht
  have hc0 := trV_1 f (.slice (some ⟨g, 0, none⟩) 5 cap) (Lf.know f 30).2
  obtain ⟨W1, hW1⟩ : ∃ W, W = w.alloc (.cells (trV f (.slice (some ⟨g, 0, none⟩) 5 cap) (Lf.know f 30).2) 50) := ⟨_, rfl⟩
  have hB1 : Below w.heap.size w W1 := by rw [hW1]; exact below_new _ _
  have hT1 : TrAt W1 w.heap.size f (.slice (some ⟨g, 0, none⟩) 5 cap) (Lf.know f 30).2 := by rw [hW1]; exact heap_alloc_new _ _
  have hCon := Try.slices_Contains_int g 0 5 cap (Lf.know f 30).1 to W1 (by rw [Hfact.out.2.2.2.2 rfl]; exact Nat.le_refl _) (by omega) (fun j hj => by
    obtain ⟨b, off, e, hlt, hc⟩ := hA j hj
    cases e
    rw [hB1.cell (p := ⟨g, 0 + j, none⟩) hlt, hc]; simp [List.getD, List.getElem?_eq_getElem hj])
  rw [List.take_of_length_le (by rw [Hfact.out.2.2.2.2 rfl]; exact Nat.le_refl _), hhas] at hCon
  have HB1 := Lib.hid hB1
  have HT1 := Lib.hid hT1
  have Hl2 := Lib.hid Hfact.out.2.2.1
  clear hA hf ht hhas hB1 hT1 Hfact
  go_enter Try.func25, Try.ntmps25
  go_wp2_with fail
  rw [← hW1]
  refine hCon.mono ?_
  rintro e w1 ⟨rfl, rfl⟩
  clear hW1 hCon hc0
  go_wp2_with fail
  go_loopw [6, 7] (fun v p wr => WkRel w f to (.slice (some ⟨g, 0, none⟩) 5 cap) w.heap.size v p wr) (fun v _ _ => 5 - lenS v)
  case atStart => exact ⟨0, by omega, rfl, rfl, World.ownsRow_nil _ _ _ _, HT1.out, HB1.out⟩
  case round =>
    obtain ⟨k, hk, rfl, hlen, hown, hT, hB⟩ := hrel
    obtain ⟨A1, c1, rfl⟩ := ownsRow_slice hown
    have HK := HW k hk
    have HWs := Lib.hid (fun h => Lf.wk_succ (f := f) (to := to) (k := k) h)
    have Hlen := Lib.hid hlen
    obtain ⟨p, hp⟩ : ∃ p, p = (Lf.wk f to k).1 := ⟨_, rfl⟩
    obtain ⟨l, hl⟩ : ∃ l, l = (Lf.wk f to k).2 := ⟨_, rfl⟩
    obtain ⟨ss, hss⟩ : ∃ ss, ss = (Lf.know f 30).2 := ⟨_, rfl⟩
    rw [← hp] at HK HWs ⊢
    rw [← hl] at HK HWs Hlen hown
    rw [← hss] at HWs hT Hl2
    have Hss := Lib.hid hss
    have k0 := hT.c0
    clear hp hl hlen hss
    by_cases hpf : p = f
    · subst hpf
      have Hend := Lib.hid (HK.out.2 rfl)
      have hf0 : (p == p) = true := by simp
      have HB := Lib.hid hB
      have Hk := Lib.hid hk
      clear HK HWs hT hB hk HW
      by_cases hv : Value.slice A1 k c1 = .slice none 0 0
      · obtain ⟨rfl, rfl, rfl⟩ : A1 = none ∧ k = 0 ∧ c1 = 0 := by injection hv with a b c; exact ⟨a, b, c⟩
        have hl0 : l = [] := List.length_eq_zero_iff.1 Hlen.out
        have Hw : Hid (Lf.way p to = []) := Lib.hid (by rw [← Hend.out, hl0]; rfl)
        clear hl0 hown hv
        have hR := Try.slices_Reverse_int_empty none 0 wr
        go_wp2_with fail
        refine hR.mono ?_
        rintro e w2 ⟨rfl, rfl⟩
        go_wp2
        go_ret2
        exact ⟨_, rfl, by rw [Hw.out]; exact World.ownsRow_nil _ _ _ _, HB.out⟩
      · obtain ⟨g2, cap2, hv2, hbg, hgl, hncap, hcm, hl3, hH⟩ := Lib.holds_of_ownsRow hown hv
        obtain ⟨rfl, rfl⟩ : A1 = some ⟨g2, 0, none⟩ ∧ c1 = cap2 := by injection hv2 with a b c; exact ⟨a, c⟩
        have hR := Try.slices_Reverse_int g2 0 c1 l wr hH (by have := Hk.out; have := Hlen.out; omega)
        rw [Hlen.out] at hR
        have HO := fun q => Lib.hid (Lib.ownsRow_putRow (q := q) (k := k) (ys := l.reverse) hown (by rw [List.length_reverse]; exact Hlen.out) (Nat.le_refl _))
        have HBq := fun q => Lib.hid (Lib.below_putRow (enc := Value.int .i64) (q := q) (d := l.reverse.toArray) HB.out hbg)
        clear hown hv hv2 hbg hgl hncap hcm hl3 hH
        go_wp2_with fail
        refine hR.mono ?_
        rintro e w2 ⟨rfl, q, rfl⟩
        go_wp2
        go_ret2
        refine ⟨_, rfl, ?_, (HBq q).out⟩
        have := (HO q).out
        rw [List.take_of_length_le (by rw [List.length_reverse, Hlen.out]; exact Nat.le_refl _)] at this
        have e2 : (Lf.way p to).length = k := by rw [← Hend.out, List.length_reverse]; exact Hlen.out
        rw [e2, ← Hend.out]; exact this
    · have hne : (p == f) = false := by rw [beq_eq_false_iff_ne]; exact hpf
      obtain ⟨hk4, hpP⟩ := HK.out.1 hpf
      have hpi := Lf.isP_iff.1 hpP
      obtain ⟨m, rfl⟩ : ∃ m : Nat, p = (m : Int) := ⟨p.toNat, by omega⟩
      have Hm5 : Hid (m < 5) := Lib.hid (by omega)
      have m0 : (0 : Int) ≤ (m : Int) := by omega
      have m5 : (m : Int) < 5 := by omega
      have HS := Lib.hid (HWs.out hpf)
      obtain ⟨x, hx⟩ : ∃ x, x = (ss.getD m (0, 0)).2 := ⟨_, rfl⟩
      obtain ⟨y, hy⟩ : ∃ y, y = (ss.getD m (0, 0)).1 := ⟨_, rfl⟩
      rw [Int.toNat_natCast, ← hx, ← hy] at HS
      have q1 := hT.cb Hl2.out Hm5.out
      rw [← hx] at q1
      have hB2 := Lib.hid hB
      have hT2 := Lib.hid hT
      have Hy : Hid (y = (ss.getD m (0, 0)).1) := Lib.hid hy
      have Hk4 := Lib.hid hk4
      have Hk := Lib.hid hk
      have Hown1 := Lib.hid (hown.alloc (.cells #[.int .i64 x] 3))
      have HT3 := Lib.hid (hT.below (below_new wr (.cells #[.int .i64 x] 3)))
      clear HK HWs hpi hpP hk4 hx hy hT hB hown hk
      go_wp2_with (at_builtin; refine wpList_append_own _ rfl _ _ 22 rfl w.heap.size 3 i0 (.int .i64 0) 1 8 Try.underlying22 hi hz0 hz1 hz2 rfl (by decide) _ _ _ rfl Hown1.out ⟨wr.heap.size, 0, none⟩ 1 1 [.int .i64 x] rfl rfl (cell_one_new _ _ _) (by simp [Value.oneCell']) (by have := Hk.out; unfold maxLen; omega) (by have := Hk.out; omega) (by have := hB2.out.size; simp; omega) ?_; intro v' w5 hown' hgrow _; obtain ⟨g', cap', rfl⟩ := ownsRow_some hown' (by omega); have hT5 := HT3.out.grown Hown1.out hgrow; have q2 := hT5.ca Hl2.out Hm5.out; rw [← Hy.out] at q2; have HT5 := Lib.hid hT5; have HB5 : Hid (Below w.heap.size w w5) := Lib.hid ((hB2.out.alloc hB2.out.size _).grown hgrow (by have := hB2.out.size; simp; omega) (fun j ej => (Hown1.out.lt j ej).1)); have Hown5 := Lib.hid hown'; clear hT5 hown' hgrow q1)
      go_roundw
      case rel => exact ⟨k + 1, Hk4.out, by rw [HS.out], by rw [HS.out]; simp [Hlen.out], by rw [HS.out]; simpa using Hown5.out, by rw [← Hss.out]; exact HT5.out, HB5.out⟩
      case measure => have := Hk4.out; simp [lenS]; omega

set_option maxHeartbeats 1000000 in
theorem Way_any (f to : Int) (w : World) :
    Calls Try.prog 13 #[.int .i64 f, .int .i64 to] w fun e w' => ∃ u, e = .returned (.tuple #[u, .bool (Lf.isP f && Lf.isP to)]) ∧ w'.ownsRow w.heap.size 3 1 u (Lf.way f to).length ((Lf.way f to).map (Value.int .i64)) ∧ Below w.heap.size w w' := by
  have h1 := fun W => isPhase_any f W
  have h2 := fun W => isPhase_any to W
  cases hf : Lf.isP f
  · have Hw : Hid (Lf.way f to = []) := Lib.hid (by unfold Lf.way; rw [hf]; rfl)
    rw [hf] at h1
    rw [Bool.false_and]
    clear hf h2
    go_enter Try.func13, Try.ntmps13
    go_wp2_with fail
    refine (h1 _).mono ?_
    rintro e w1 ⟨rfl, rfl⟩
    go_wp2
    go_ret2
    exact ⟨_, rfl, by rw [Hw.out]; exact World.ownsRow_nil _ _ _ _, Below.refl _ _⟩
  · cases ht : Lf.isP to
    · have Hw : Hid (Lf.way f to = []) := Lib.hid (by unfold Lf.way; rw [hf, ht]; rfl)
      rw [hf] at h1
      rw [ht] at h2
      rw [Bool.and_false]
      clear hf ht
      go_enter Try.func13, Try.ntmps13
      go_wp2_with fail
      refine (h1 _).mono ?_
      rintro e w1 ⟨rfl, rfl⟩
      go_wp2_with fail
      refine (h2 _).mono ?_
      rintro e w1 ⟨rfl, rfl⟩
      go_wp2
      go_ret2
      exact ⟨_, rfl, by rw [Hw.out]; exact World.ownsRow_nil _ _ _ _, Below.refl _ _⟩
    · rw [hf] at h1
      rw [ht] at h2
      have h3 := explore_any f hf w
      have h4 := fun g cap W hA => wayTo_any f to hf ht g cap W hA
      have Hl := Lib.hid ((Lf.know_facts hf (n := 30) (Nat.le_refl _)).2.2.2.2 rfl)
      rw [Bool.true_and]
      clear hf ht
      go_enter Try.func13, Try.ntmps13
      go_wp2_with fail
      refine (h1 _).mono ?_
      rintro e w1 ⟨rfl, rfl⟩
      go_wp2_with fail
      refine (h2 _).mono ?_
      rintro e w1 ⟨rfl, rfl⟩
      go_wp2_with fail
      refine h3.mono ?_
      rintro e w3 ⟨v, rfl, hown, hB⟩
      obtain ⟨g, cap, rfl⟩ := ownsRow_some hown (by omega)
      have hA : IntsAt w3 w3.heap.size (some ⟨g, 0, none⟩) (Lf.know f 30).1 := by
        rw [← Hl.out] at hown
        exact IntsAt.of_own hown
      have h5 := h4 g cap w3 hA
      clear hown hA h4 h3 h1 h2
      go_wp2_with fail
      refine h5.mono ?_
      rintro e w4 ⟨u, rfl, hown, hB4⟩
      clear h5
      go_wp2
      go_ret2
      exact ⟨u, rfl, owns_lower hown hB.size, below2 hB hB4⟩

set_option maxHeartbeats 1000000 in
theorem Reach_any (f : Int) (w : World) :
    Calls Try.prog 19 #[.int .i64 f] w fun e w' => ∃ u, e = .returned u ∧ w'.ownsRow w.heap.size 3 1 u (Lf.reach f).length ((Lf.reach f).map (Value.int .i64)) ∧ Below w.heap.size w w' := by
  have h1 := fun W => isPhase_any f W
  cases hf : Lf.isP f
  · have Hw : Hid (Lf.reach f = []) := Lib.hid (by unfold Lf.reach; rw [hf]; rfl)
    rw [hf] at h1
    clear hf
    go_enter Try.func19, Try.ntmps19
    go_wp2_with fail
    refine (h1 _).mono ?_
    rintro e w1 ⟨rfl, rfl⟩
    go_wp2
    go_ret
    exact ⟨_, rfl, by rw [Hw.out]; exact World.ownsRow_nil _ _ _ _, Below.refl _ _⟩
  · rw [hf] at h1
    have h3 := explore_any f hf w
    have Hl := Lib.hid ((Lf.know_facts hf (n := 30) (Nat.le_refl _)).2.2.2.2 rfl)
    have Hs := Lib.hid (Lf.sorted_all hf)
    have Hl5 : Hid ((Lf.reach f).length = 5) := Lib.hid (by unfold Lf.reach; rw [hf]; rfl)
    have hsel := fun g cap W => field_reached f (some ⟨g, 0, none⟩) 5 cap (Lf.know f 30).2 (Lf.know_facts hf (n := 30) (Nat.le_refl _)).2.2.1 W
    clear hf
    go_enter Try.func19, Try.ntmps19
    go_wp2_with fail
    refine (h1 _).mono ?_
    rintro e w1 ⟨rfl, rfl⟩
    go_wp2_with fail
    refine h3.mono ?_
    rintro e w3 ⟨v, rfl, hown, hB⟩
    clear h1 h3
    have hv : v ≠ .slice none 0 0 := by
      rintro rfl
      rcases hown.2 with ⟨_, h0⟩ | ⟨g, c, cur, h0, _⟩
      · omega
      · cases h0
    obtain ⟨g, cap, rfl, hbg, hgl, hncap, hcm, hl3, hH⟩ := Lib.holds_of_ownsRow hown hv
    have hs1 := Try.slices_Sort_int g 0 cap (Lf.know f 30).1 w3 hH hgl (by have := Hl.out; omega)
    rw [Hs.out, Hl.out] at hs1
    have hq := hsel g cap w3
    have HO : ∀ nn os, Hid ((grow (putRow (Value.int .i64) (Sort.ahead w3 nn) g 0 (Lf.reach f).toArray) os).ownsRow w1.heap.size 3 1 (.slice (some ⟨g, 0, none⟩) 5 cap) 5 ((Lf.reach f).map (Value.int .i64)) ∧ Below w1.heap.size w1 (grow (putRow (Value.int .i64) (Sort.ahead w3 nn) g 0 (Lf.reach f).toArray) os)) := fun nn os => Lib.hid (by
      rcases hown.2 with ⟨h0, _⟩ | ⟨g', cap', cur, hv, hbase, hb, h1, h2, h3, h4⟩
      · cases h0
      cases hv
      have hs := ownsRow_sortedI (n := nn) (os := os) (ts := Lf.reach f) (ss := (Lf.know f 30).1) (by rw [Hl5.out, Hl.out]) hbase hb (by rw [Hl.out]; exact h1) h2 h3
      rw [Hl.out] at hs
      exact ⟨hs, hB.grown (grownBy_sortedI _) hB.size (fun j hj => by cases hj; exact hbase)⟩)
    clear hown hbg hgl hncap hcm hl3 hH hv hsel
    go_wp2_with fail
    refine hs1.mono ?_
    rintro e w4 ⟨rfl, nn, os, rfl⟩
    go_wp2
    go_ret
    have := (HO nn os).out
    exact ⟨_, rfl, by rw [Hl5.out]; exact this.1, this.2⟩
end Go.Proofs.Ytipblfmabhggkaa
