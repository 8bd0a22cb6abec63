/-
  Layer 5 (life): the walks of the reference's Way and Reach.
-/
import Derived.Test.YtipblfmabhggkaaRefWays
namespace Go.Proofs.Ytipblfmabhggkaa
open Go.RowKit

set_option maxRecDepth 10000 in
set_option maxHeartbeats 4000000 in
theorem RWay_yes (f to : Int) (hf : Lf.isP f = true) (ht : Lf.isP to = true) (w : World) :
    Calls Try.prog 14 #[.int .i64 f, .int .i64 to] w fun e w' => ∃ A c, e = .returned (.tuple #[.slice A (Lf.way f to).length c, .bool true]) ∧ IntsAt w' w'.heap.size A (Lf.way f to) ∧ Below w.heap.size w w' := by
  have H0 := Lib.hid (Lf.firstN_way hf ht)
  have HW := fun (n : Nat) (hn : n ≤ 4) W => ways_any f n hn W
  obtain ⟨a0, a1⟩ := Lf.isP_iff.1 hf
  obtain ⟨b0, b1⟩ := Lf.isP_iff.1 ht
  have a4 : f ≤ 4 := by omega
  have b4 : to ≤ 4 := by omega
  obtain ⟨wy, hwy⟩ : ∃ wy, wy = Lf.way f to := ⟨_, rfl⟩
  rw [← hwy] at H0 ⊢
  clear hf ht a1 b1 hwy
  go_enter Try.func14, Try.ntmps14
  go_wp2_with fail
  clear a0 b0 a4 b4
  go_loopw [6] (fun i wr => ∃ n : Nat, n ≤ 5 ∧ i = .int .i64 (n : Int) ∧ Lf.firstN f to n (5 - n) = some wy ∧ Below w.heap.size w wr) (fun i _ => 5 - (intOf i).toNat)
  case atStart => exact ⟨0, by omega, rfl, H0.out, Below.refl _ _⟩
  case round =>
    obtain ⟨n, hn, rfl, hf1, hB⟩ := hrel
    clear H0
    by_cases hlt : n ≤ 4
    · have Hn := Lib.hid hlt
      have i4 : (n : Int) ≤ 4 := by omega
      have h1 := HW n hlt wr
      have Hsm := Lib.hid (Lf.wys_small f hlt)
      rw [Lf.firstN_step hlt] at hf1
      obtain ⟨rs, hrs⟩ : ∃ rs, rs = Lf.wys f n := ⟨_, rfl⟩
      rw [← hrs] at h1 hf1 Hsm
      have HF1 := Lib.hid hf1
      have HB := Lib.hid hB
      clear hrs hf1 hB hlt hn
      go_wp2_with fail
      refine h1.mono ?_
      rintro e W1 ⟨AL, cL, AE, cE, rfl, hRL, hIE, hB1⟩
      have HRL := Lib.hid hRL
      have HIE := Lib.hid hIE
      have HB1 := Lib.hid (below2 HB.out hB1)
      clear h1 hRL hIE hB1 HB i4
      go_wp2_with fail
      go_loopw [9] (fun i wr => ∃ k : Nat, k ≤ rs.length ∧ i = .int .i64 (k : Int) ∧ Lf.goOn f to n (Lf.first to (rs.drop k)) = some wy ∧ wr = W1) (fun i _ => rs.length - (intOf i).toNat)
      case atStart => exact ⟨0, Nat.zero_le _, rfl, HF1.out, rfl⟩
      case round =>
        obtain ⟨k, hk, rfl, hg, rfl⟩ := hrel
        clear HF1
        by_cases hkl : k < rs.length
        · rw [Lf.first_drop hkl] at hg
          obtain ⟨b, off, rfl, hbb, hce⟩ := HIE.out k (by simpa using hkl)
          obtain ⟨b2, off2, rfl, hbb2, C, c, hcr, hnil, hIC⟩ := HRL.out k (by simpa using hkl)
          rw [List.getElem_map] at hce hcr hIC
          obtain ⟨r, hr⟩ : ∃ r, r = rs[k]'hkl := ⟨_, rfl⟩
          rw [← hr] at hg hce hcr hIC
          obtain ⟨l, e0⟩ := r
          simp only at hg hce hcr hIC
          have HIC := Lib.hid hIC
          have i1 : (k : Int) < (rs.length : Int) := by omega
          have Ik : Hid (wrap64 ((k : Int) + 1) = (k : Int) + 1) := Lib.hid (by have := Hsm.out; unfold wrap64; omega)
          have Hk : Hid (k + 1 ≤ rs.length) := Lib.hid hkl
          clear hr hIC hk hkl
          by_cases he : e0 = to
          · subst he
            rw [if_pos rfl] at hg
            have Hl : Hid (l = wy) := Lib.hid (by injection hg)
            have e1 : (e0 == e0) = true := by simp
            clear hg
            go_wp2
            go_ret2
            have := Hl.out
            subst this
            exact ⟨_, _, rfl, HIC.out, HB1.out⟩
          · rw [if_neg he] at hg
            have e1 : (e0 == to) = false := by rw [beq_eq_false_iff_ne]; exact he
            have Hg := Lib.hid hg
            clear hg he
            go_wp2
            go_roundw
            case rel => exact ⟨k + 1, Hk.out, by first | rfl | (rw [Ik.out]; rfl), Hg.out, by first | trivial | rfl⟩
            case measure => have := Hk.out; (try rw [Ik.out]); simp [intOf]; omega
        · obtain rfl : k = rs.length := by omega
          rw [List.drop_length] at hg
          have Hg : Hid (Lf.firstN f to (n + 1) (4 - n) = some wy) := Lib.hid hg
          have Ik : Hid (wrap64 ((n : Int) + 1) = (n : Int) + 1) := Lib.hid (by have := Hn.out; unfold wrap64; omega)
          clear hg
          go_wp2
          go_roundw
          case rel => exact ⟨n + 1, by have := Hn.out; omega, by first | rfl | (rw [Ik.out]; rfl), by rw [show 5 - (n + 1) = 4 - n by omega]; exact Hg.out, HB1.out⟩
          case measure => have := Hn.out; (try rw [Ik.out]); simp [intOf]; omega
    · obtain rfl : n = 5 := by omega
      exfalso
      simp [Lf.firstN] at hf1

set_option maxHeartbeats 1000000 in
theorem RWay_any (f to : Int) (w : World) :
    Calls Try.prog 14 #[.int .i64 f, .int .i64 to] w fun e w' => ∃ A c, e = .returned (.tuple #[.slice A (Lf.way f to).length c, .bool (Lf.isP f && Lf.isP to)]) ∧ IntsAt w' w'.heap.size A (Lf.way f to) ∧ Below w.heap.size w w' := by
  by_cases h : (0 ≤ f ∧ f < 5) ∧ 0 ≤ to ∧ to < 5
  · have h1 := Lf.isP_iff.2 h.1
    have h2 := Lf.isP_iff.2 h.2
    have := RWay_yes f to h1 h2 w
    rw [h1, h2]; exact this
  · have hno : (Lf.isP f && Lf.isP to) = false := by unfold Lf.isP; simp; omega
    have hw0 : Lf.way f to = [] := by unfold Lf.way; rw [hno]; rfl
    rw [hno, hw0]
    clear hno hw0
    rcases (by omega : f < 0 ∨ (0 ≤ f ∧ 4 < f) ∨ (0 ≤ f ∧ f ≤ 4 ∧ to < 0) ∨ (0 ≤ f ∧ f ≤ 4 ∧ 0 ≤ to ∧ 4 < to)) with h1 | ⟨h1, h2⟩ | ⟨h1, h2, h3⟩ | ⟨h1, h2, h3, h4⟩
    all_goals (
      clear h
      (try have d4 : decide (4 < to) = true := decide_eq_true (by assumption))
      go_enter Try.func14, Try.ntmps14
      go_wp2
      go_ret2
      exact ⟨_, _, rfl, IntsAt.nil _ _ _, Below.refl _ _⟩)

/-- The phases below k, as numbers. -/
def upTo (b : Bool) (k : Nat) : List Int := if b then (List.range k).map (fun (i : Nat) => (i : Int)) else []
theorem upTo_succ (k : Nat) : upTo true (k + 1) = upTo true k ++ [(k : Int)] := by simp [upTo, List.range_succ]
theorem upTo_len (b : Bool) (k : Nat) : (upTo b k).length ≤ k := by cases b <;> simp [upTo]
theorem upTo_reach (f : Int) : upTo (Lf.isP f) 5 = Lf.reach f := by
  unfold Lf.reach upTo
  cases Lf.isP f <;> rfl

set_option maxRecDepth 10000 in
set_option maxHeartbeats 2000000 in
theorem RReach_any (f : Int) (w : World) :
    Calls Try.prog 20 #[.int .i64 f] w fun e w' => ∃ u, e = .returned u ∧ w'.ownsRow w.heap.size 3 1 u (Lf.reach f).length ((Lf.reach f).map (Value.int .i64)) ∧ Below w.heap.size w w' := by
  obtain ⟨i0, hi, hz0, hz1, hz2⟩ := info_parts Try.infoI3
  have HR := Lib.hid (upTo_reach f)
  have hW := fun (k : Nat) (hk : k < 5) W => RWay_any f (k : Int) W
  have hP : ∀ k : Nat, k < 5 → Lf.isP (k : Int) = true := fun k hk => Lf.isP_iff.2 (by omega)
  obtain ⟨b, hb⟩ : ∃ b, b = Lf.isP f := ⟨_, rfl⟩
  rw [← hb] at HR hW
  clear hb
  go_enter Try.func20, Try.ntmps20
  go_wp2_with fail
  go_loopw [3, 4] (fun v i wr => ∃ k : Nat, k ≤ 5 ∧ i = .int .i64 (k : Int) ∧ wr.ownsRow w.heap.size 3 1 v (upTo b k).length ((upTo b k).map (Value.int .i64)) ∧ Below w.heap.size w wr) (fun _ i _ => 5 - (intOf i).toNat)
  case atStart => exact ⟨0, by omega, rfl, by cases b <;> exact World.ownsRow_nil _ _ _ _, Below.refl _ _⟩
  case round =>
    obtain ⟨k, hk, rfl, hown, hB⟩ := hrel
    by_cases hlt : k < 5
    · have h1 := hW k hlt wr
      rw [hP k hlt, Bool.and_true] at h1
      have Hlt := Lib.hid hlt
      have i4 : (k : Int) ≤ 4 := by omega
      have Ik : Hid (wrap64 ((k : Int) + 1) = (k : Int) + 1) := Lib.hid (by unfold wrap64; omega)
      have Hown := Lib.hid hown
      have HB := Lib.hid hB
      clear hk hlt hown hB hW hP
      cases b
      · go_wp2_with fail
        refine h1.mono ?_
        rintro e w2 ⟨A, c, rfl, _, hB1⟩
        have Hown2 := Lib.hid (owns_below Hown.out hB1)
        have HB2 := Lib.hid (below2 HB.out hB1)
        clear h1 hB1
        go_wp2
        go_roundw
        case rel => exact ⟨k + 1, Hlt.out, by first | rfl | (rw [Ik.out]; rfl), Hown2.out, HB2.out⟩
        case measure => have := Hlt.out; (try rw [Ik.out]); simp [intOf]; omega
      · go_wp2_with fail
        refine h1.mono ?_
        rintro e w2 ⟨A, c, rfl, _, hB1⟩
        have Hown2 := Lib.hid ((owns_below Hown.out hB1).alloc (.cells #[.int .i64 (k : Int)] 3))
        have HB2 := Lib.hid (below2 HB.out hB1)
        have Hlen := Lib.hid (upTo_len true k)
        have Hu := Lib.hid (upTo_succ k)
        clear h1 hB1
        go_wp2_with (at_builtin; refine wpList_append_own _ rfl _ _ 22 rfl w.heap.size 3 i0 (.int .i64 0) 1 8 Try.underlying22 hi hz0 hz1 hz2 rfl (by decide) _ _ _ rfl Hown2.out ⟨w2.heap.size, 0, none⟩ 1 1 [.int .i64 (k : Int)] rfl rfl (cell_one_new _ _ _) (by simp [Value.oneCell']) (by have := Hlt.out; have := Hlen.out; unfold maxLen; omega) (by have := Hlt.out; have := Hlen.out; omega) (by have := HB2.out.size; simp; omega) ?_; intro v' w5 hown' hgrow _; have HB5 : Hid (Below w.heap.size w w5) := Lib.hid ((HB2.out.alloc HB2.out.size _).grown hgrow (by have := HB2.out.size; simp; omega) (fun j ej => (Hown2.out.lt j ej).1)); have Hown5 := Lib.hid hown'; clear hown' hgrow)
        go_roundw
        case rel => exact ⟨k + 1, Hlt.out, by first | rfl | (rw [Ik.out]; rfl), by rw [Hu.out]; simpa using Hown5.out, HB5.out⟩
        case measure => have := Hlt.out; (try rw [Ik.out]); simp [intOf]; omega
    · obtain rfl : k = 5 := by omega
      rw [HR.out] at hown
      have Hown := Lib.hid hown
      have HB := Lib.hid hB
      clear hown hB hW hP
      go_wp2
      go_ret
      exact ⟨_, rfl, Hown.out, HB.out⟩
end Go.Proofs.Ytipblfmabhggkaa
