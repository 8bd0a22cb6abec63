/-
  Layer 7 (rank), the reference: press, keys, Compare.
-/
import Derived.Test.YtlkopnbkmpgafaaChecked
import Derived.Test.YtlkopnbkmpgafaaRankM
import Derived.Test.YtlkopnbkmpgafaaAlarmTwo
import Derived.StillTailTactics
import Derived.BigQuiet
import Derived.Deep.QuietTactic
import Derived.Lib.Hide
namespace Go.Proofs.Ytlkopnbkmpgafaa
open Go.RowKit

theorem Rpress_any (p : Int) (w : World) :
    Calls Try.prog 31 #[.int .i64 p] w fun e w' => e = .returned (.int .i64 (Rk.press p)) ∧ w' = w := by
  have key : ∀ x, Rk.press p = x → Calls Try.prog 31 #[.int .i64 p] w (fun e w' => e = .returned (.int .i64 x) ∧ w' = w) := by
    intro x hx
    by_cases h2 : p = 2
    · subst h2
      obtain rfl : 0 = x := hx
      go_enter Try.func31, Try.ntmps31
      go_wp2
      go_ret
      exact ⟨rfl, rfl⟩
    · by_cases h1 : p = 1
      · subst h1
        obtain rfl : 1 = x := hx
        go_enter Try.func31, Try.ntmps31
        go_wp2
        go_ret
        exact ⟨rfl, rfl⟩
      · by_cases h4 : p = 4
        · subst h4
          obtain rfl : 2 = x := hx
          go_enter Try.func31, Try.ntmps31
          go_wp2
          go_ret
          exact ⟨rfl, rfl⟩
        · by_cases h3 : p = 3
          · subst h3
            obtain rfl : 3 = x := hx
            go_enter Try.func31, Try.ntmps31
            go_wp2
            go_ret
            exact ⟨rfl, rfl⟩
          · have e : Rk.press p = 4 := by unfold Rk.press; rw [if_neg h2, if_neg h1, if_neg h4, if_neg h3]
            rw [e] at hx
            obtain rfl : 4 = x := hx
            have d2 : (p == 2) = false := by rw [beq_eq_false_iff_ne]; exact h2
            have d1 : (p == 1) = false := by rw [beq_eq_false_iff_ne]; exact h1
            have d4 : (p == 4) = false := by rw [beq_eq_false_iff_ne]; exact h4
            have d3 : (p == 3) = false := by rw [beq_eq_false_iff_ne]; exact h3
            clear e h1 h2 h3 h4
            go_enter Try.func31, Try.ntmps31
            go_wp2
            go_ret
            exact ⟨rfl, rfl⟩
  exact key _ rfl

theorem IntsAt.seven (w : World) (a b c d e f g : Int) (t : TypeId) : IntsAt (w.alloc (.cells #[.int .i64 a, .int .i64 b, .int .i64 c, .int .i64 d, .int .i64 e, .int .i64 f, .int .i64 g] t)) (w.heap.size + 1) (some ⟨w.heap.size, 0, none⟩) [a, b, c, d, e, f, g] := fun i hi => by
  have hb := World.alloc_heap_new w (.cells #[.int .i64 a, .int .i64 b, .int .i64 c, .int .i64 d, .int .i64 e, .int .i64 f, .int .i64 g] t)
  refine ⟨w.heap.size, 0, rfl, by omega, ?_⟩
  have hi' : i < 7 := hi
  have h7 : i = 0 ∨ i = 1 ∨ i = 2 ∨ i = 3 ∨ i = 4 ∨ i = 5 ∨ i = 6 := by omega
  rcases h7 with rfl | rfl | rfl | rfl | rfl | rfl | rfl <;> (simp only [World.cell?, hb]; rfl)

set_option maxRecDepth 10000 in
set_option maxHeartbeats 2000000 in
theorem Rkeys_any (b c ph pr si un : Int) (w : World) :
    Calls Try.prog 25 #[.agg #[.int .i64 b, .int .i64 c, .int .i64 ph, .int .i64 pr, .int .i64 si, .int .i64 un]] w fun e w' => ∃ g, e = .returned (.slice (some ⟨g, 0, none⟩) 7 7) ∧ IntsAt w' w'.heap.size (some ⟨g, 0, none⟩) (Rk.keys ⟨b, c, ph, pr, si, un⟩) ∧ Below w.heap.size w w' := by
  have g1 := fun W => Rpress_any ph W
  unfold Rk.keys
  simp only
  obtain ⟨x, hx⟩ : ∃ x, x = Rk.press ph := ⟨_, rfl⟩
  rw [← hx] at g1 ⊢
  clear hx
  obtain ⟨w1, hw1⟩ : ∃ W, W = (w.alloc (.cells #[.int .i64 b, .int .i64 c, .int .i64 ph, .int .i64 pr, .int .i64 si, .int .i64 un] 34)).drew := ⟨_, rfl⟩
  have ka : Six w1 w.heap.size ⟨b, c, ph, pr, si, un⟩ := by rw [hw1]; exact ⟨(Six.new w b c ph pr si un _).blk⟩
  have HB : Hid (Below w.heap.size w w1) := Lib.hid (by rw [hw1]; have h := below_new w (.cells #[.int .i64 b, .int .i64 c, .int .i64 ph, .int .i64 pr, .int .i64 si, .int .i64 un] 34); exact ⟨h.os, h.tape, h.output, h.size, h.block⟩)
  go_enter Try.func25, Try.ntmps25
  go_wp2_with fail
  refine wp_region_still_tail 17 (by kernel_rfl) (by kernel_rfl) ?_
  change wpStill _ _ (w.alloc (.cells #[.int .i64 b, .int .i64 c, .int .i64 ph, .int .i64 pr, .int .i64 si, .int .i64 un] 34)).drew (fun a' => wpList _ _ _ _ a' (w.alloc (.cells #[.int .i64 b, .int .i64 c, .int .i64 ph, .int .i64 pr, .int .i64 si, .int .i64 un] 34)).drew) _ _
  rw [← hw1]
  clear hw1
  have c0 := ka.c0
  have c1 := ka.c1
  have c2 := ka.c2
  have c3 := ka.c3
  have c4 := ka.c4
  have c5 := ka.c5
  have Hlt : Hid (w.heap.size < w1.heap.size) := Lib.hid ka.lt
  clear ka
  simp only [List.take_succ_cons, List.take_zero, List.drop_succ_cons, List.drop_zero]
  still_step
  still_step
  still_call (g1 _)
  still_step
  still_step
  still_step
  still_step
  still_step
  still_step
  still_step
  still_step
  still_step
  still_step
  still_step
  still_step
  still_step
  still_step
  refine wpStill_nil ?_
  clear c0 c1 c2 c3 c4 c5 g1
  go_wp2
  go_ret
  exact ⟨_, rfl, (IntsAt.seven w1 x pr si un ph b c _).more (by simp), HB.out.alloc (by have := Hlt.out; omega) _⟩

/-- What holds ahead of each round of Compare. -/
def CmpRel (w : World) (xs ys : List Int) (i : Value) (wr : World) : Prop :=
  ∃ k q : Nat, k ≤ 7 ∧ i = .int .i64 (k : Int) ∧ wr = w.drewN q ∧ Rk.lex (xs.drop k) (ys.drop k) = Rk.lex xs ys
theorem lex_step {xs ys : List Int} {k : Nat} (h1 : k < xs.length) (h2 : k < ys.length) : Rk.lex (xs.drop k) (ys.drop k) = if xs[k] < ys[k] then -1 else if ys[k] < xs[k] then 1 else Rk.lex (xs.drop (k + 1)) (ys.drop (k + 1)) := by
  rw [List.drop_eq_getElem_cons h1, List.drop_eq_getElem_cons h2]
  rfl

set_option maxHeartbeats 2000000 in
theorem RCompare_any (b c ph pr si un b' c' ph' pr' si' un' : Int) (w : World) :
    Calls Try.prog 19 #[.agg #[.int .i64 b, .int .i64 c, .int .i64 ph, .int .i64 pr, .int .i64 si, .int .i64 un], .agg #[.int .i64 b', .int .i64 c', .int .i64 ph', .int .i64 pr', .int .i64 si', .int .i64 un']] w fun e w' => e = .returned (.int .i64 (Rk.cmp ⟨b, c, ph, pr, si, un⟩ ⟨b', c', ph', pr', si', un'⟩)) ∧ Below w.heap.size w w' := by
  have g1 := fun W => Rkeys_any b c ph pr si un W
  have g2 := fun W => Rkeys_any b' c' ph' pr' si' un' W
  unfold Rk.cmp
  obtain ⟨xs, hxs⟩ : ∃ xs, xs = Rk.keys ⟨b, c, ph, pr, si, un⟩ := ⟨_, rfl⟩
  obtain ⟨ys, hys⟩ : ∃ ys, ys = Rk.keys ⟨b', c', ph', pr', si', un'⟩ := ⟨_, rfl⟩
  have Lx : Hid (xs.length = 7) := Lib.hid (by rw [hxs]; rfl)
  have Ly : Hid (ys.length = 7) := Lib.hid (by rw [hys]; rfl)
  rw [← hxs] at g1 ⊢
  rw [← hys] at g2 ⊢
  clear hxs hys
  obtain ⟨r, hr⟩ : ∃ r, r = Rk.lex xs ys := ⟨_, rfl⟩
  have Hr := Lib.hid hr
  rw [← hr]
  clear hr
  have k0 := (Six.new w b c ph pr si un 34).alloc (.cells #[.int .i64 b', .int .i64 c', .int .i64 ph', .int .i64 pr', .int .i64 si', .int .i64 un'] 34)
  have k1 := Six.new1 w (.cells #[.int .i64 b, .int .i64 c, .int .i64 ph, .int .i64 pr, .int .i64 si, .int .i64 un] 34) b' c' ph' pr' si' un' 34
  have K1 := Lib.hid k1
  clear k0 k1
  go_enter Try.func19, Try.ntmps19
  go_wp2_with fail
  refine (g1 _).mono ?_
  rintro e w1 ⟨p, rfl, hX, hB⟩
  have HX := Lib.hid hX
  have HB := Lib.hid (below2 (below_new2 w _ _) hB)
  have K2 := K1.out.below hB
  have c0 := K2.c0
  have c1 := K2.c1
  have c2 := K2.c2
  have c3 := K2.c3
  have c4 := K2.c4
  have c5 := K2.c5
  clear g1 hX hB K1 K2
  go_wp2_with fail
  refine (g2 _).mono ?_
  rintro e w2 ⟨q, rfl, hY, hB⟩
  have HX2 := Lib.hid ((HX.out.below hB (Nat.le_refl _)).more hB.size)
  have HY := Lib.hid hY
  have HB2 := Lib.hid (below2 HB.out hB)
  clear g2 hY hB HX HB c0 c1 c2 c3 c4 c5
  go_wp2_with fail
  go_loopw [7] (fun i wr => CmpRel w2 xs ys i wr) (fun i _ => 7 - (intOf i).toNat)
  case atStart => exact ⟨0, 0, Nat.zero_le _, rfl, rfl, rfl⟩
  case round =>
    obtain ⟨k, n, hk, rfl, rfl, hl⟩ := hrel
    rw [← Hr.out] at hl
    have Hl := Lib.hid hl
    clear hl
    by_cases hlt : k < 7
    · have l1 : k < xs.length := by rw [Lx.out]; exact hlt
      have l2 : k < ys.length := by rw [Ly.out]; exact hlt
      have Hs := Lib.hid (lex_step l1 l2)
      obtain ⟨b1, o1, e1, hb1, hc1⟩ := HX2.out k l1
      obtain ⟨b2, o2, e2, hb2, hc2⟩ := HY.out k l2
      cases e1
      cases e2
      rw [Nat.zero_add] at hc1 hc2
      obtain ⟨x, hx⟩ : ∃ x, x = xs[k] := ⟨_, rfl⟩
      obtain ⟨y, hy⟩ : ∃ y, y = ys[k] := ⟨_, rfl⟩
      rw [← hx] at hc1 Hs
      rw [← hy] at hc2 Hs
      clear hx hy
      have i1 : (k : Int) < 7 := by omega
      have i3 : (0 : Int) ≤ (k : Int) := by omega
      have Iw : Hid (wrap64 ((k : Int) + 1) = (k : Int) + 1) := Lib.hid (by unfold wrap64; omega)
      have Hk := Lib.hid hlt
      clear hk hlt l1 l2
      by_cases hxy : x < y
      · have He : Hid (r = -1) := Lib.hid (by rw [← Hl.out, Hs.out, if_pos hxy])
        have d1 : decide (x < y) = true := decide_eq_true hxy
        clear hxy Hs Hl
        go_wp2
        go_quiet (fail)
        go_wp2
        go_ret
        exact ⟨by rw [He.out]; rfl, by first | exact below_drew HB2.out _ | exact below_drew (below_drew HB2.out _) _ | exact below_drew (below_drew (below_drew HB2.out _) _) _⟩
      · have d1 : decide (x < y) = false := decide_eq_false hxy
        by_cases hyx : y < x
        · have He : Hid (r = 1) := Lib.hid (by rw [← Hl.out, Hs.out, if_neg hxy, if_pos hyx])
          have d2 : decide (y < x) = true := decide_eq_true hyx
          clear hxy hyx Hs Hl
          go_wp2
          go_quiet (fail)
          go_wp2
          go_quiet (fail)
          go_wp2
          go_ret
          exact ⟨by rw [He.out]; rfl, by first | exact below_drew HB2.out _ | exact below_drew (below_drew HB2.out _) _ | exact below_drew (below_drew (below_drew HB2.out _) _) _⟩
        · have He : Hid (Rk.lex (xs.drop (k + 1)) (ys.drop (k + 1)) = r) := Lib.hid (by rw [← Hl.out, Hs.out, if_neg hxy, if_neg hyx])
          have d2 : decide (y < x) = false := decide_eq_false hyx
          clear hxy hyx Hs Hl
          go_wp2
          go_quiet (fail)
          go_wp2
          go_quiet (fail)
          go_wp2
          go_roundw
          case rel => exact ⟨k + 1, _, Hk.out, by first | rfl | (rw [Iw.out]; rfl), rfl, by rw [He.out, Hr.out]⟩
          case measure => have := Hk.out; (try rw [Iw.out]); simp [intOf]; omega
    · have i7 : decide ((k : Int) < 7) = false := decide_eq_false (by omega)
      have He : Hid (r = 0) := Lib.hid (by
        have h1 : xs.drop k = [] := List.drop_eq_nil_of_le (by rw [Lx.out]; omega)
        have h2 := Hl.out
        rw [h1] at h2
        rw [← h2]
        unfold Rk.lex
        rfl)
      clear Hl hk hlt
      go_wp2
      go_ret
      exact ⟨by rw [He.out]; rfl, by first | exact below_drew HB2.out _ | exact below_drew (below_drew HB2.out _) _ | exact below_drew (below_drew (below_drew HB2.out _) _) _⟩
end Go.Proofs.Ytlkopnbkmpgafaa
