/-
  Layer 7 (rank), the reference: press, keys, Compare.
  Layer 7 (rank), the reference: Own, Same.
  Rows of alarms in memory: a beginning, and what is behind it, as slices.
  Layer 7 (rank), the reference: Sort.
  Layer 7 (rank), the reference: Top, Place, Merge.
-/
import Derived.Test.YtpgichlaghhdeaaGreatDoorChecked
import Derived.Test.YtpgichlaghhdeaaGreatDoorXJa
import Derived.Test.YtpgichlaghhdeaaGreatDoorXJb
import Derived.StillTailTactics
import Derived.BigQuiet
import Derived.Deep.QuietTactic
import Derived.Lib.Hide
import Derived.Deep.RegionHeld3
import Derived.Test.YtpgichlaghhdeaaGreatDoorXJc
namespace Go.Proofs.YtpgichlaghhdeaaGreatDoor
set_option maxRecDepth 10000
open Go.RowKit

theorem Rpress_any (p : Int) (w : World) :
    Calls Tryz.prog 123 #[.int .i64 p] w fun e w' => e = .returned (.int .i64 (Rk.press p)) ∧ w' = w := by
  have key : ∀ x, Rk.press p = x → Calls Tryz.prog 123 #[.int .i64 p] w (fun e w' => e = .returned (.int .i64 x) ∧ w' = w) := by
    intro x hx
    by_cases h2 : p = 2
    · subst h2
      obtain rfl : 0 = x := hx
      go_enter Tryz.func123, Tryz.ntmps123
      go_wp2
      go_ret
      exact ⟨rfl, rfl⟩
    · by_cases h1 : p = 1
      · subst h1
        obtain rfl : 1 = x := hx
        go_enter Tryz.func123, Tryz.ntmps123
        go_wp2
        go_ret
        exact ⟨rfl, rfl⟩
      · by_cases h4 : p = 4
        · subst h4
          obtain rfl : 2 = x := hx
          go_enter Tryz.func123, Tryz.ntmps123
          go_wp2
          go_ret
          exact ⟨rfl, rfl⟩
        · by_cases h3 : p = 3
          · subst h3
            obtain rfl : 3 = x := hx
            go_enter Tryz.func123, Tryz.ntmps123
            go_wp2
            go_ret
            exact ⟨rfl, rfl⟩
          · have e : Rk.press p = 4 := by unfold Rk.press; rw [if_neg h2, if_neg h1, if_neg h4, if_neg h3]
            rw [e] at hx
            obtain rfl : 4 = x := hx
            have d2 : (p == 2) = false := by rw [beq_eq_false_iff_ne]; exact h2
            have d1 : (p == 1) = false := by rw [beq_eq_false_iff_ne]; exact h1
            have d4 : (p == 4) = false := by rw [beq_eq_false_iff_ne]; exact h4
            have d3 : (p == 3) = false := by rw [beq_eq_false_iff_ne]; exact h3
            clear e h1 h2 h3 h4
            go_enter Tryz.func123, Tryz.ntmps123
            go_wp2
            go_ret
            exact ⟨rfl, rfl⟩
  exact key _ rfl

theorem IntsAt.seven (w : World) (a b c d e f g : Int) (t : TypeId) : IntsAt (w.alloc (.cells #[.int .i64 a, .int .i64 b, .int .i64 c, .int .i64 d, .int .i64 e, .int .i64 f, .int .i64 g] t)) (w.heap.size + 1) (some ⟨w.heap.size, 0, none⟩) [a, b, c, d, e, f, g] := fun i hi => by
  have hb := World.alloc_heap_new w (.cells #[.int .i64 a, .int .i64 b, .int .i64 c, .int .i64 d, .int .i64 e, .int .i64 f, .int .i64 g] t)
  refine ⟨w.heap.size, 0, rfl, by omega, ?_⟩
  have hi' : i < 7 := hi
  have h7 : i = 0 ∨ i = 1 ∨ i = 2 ∨ i = 3 ∨ i = 4 ∨ i = 5 ∨ i = 6 := by omega
  rcases h7 with rfl | rfl | rfl | rfl | rfl | rfl | rfl <;> (simp only [World.cell?, hb]; rfl)

set_option maxRecDepth 10000 in
set_option maxHeartbeats 2000000 in
theorem Rkeys_any (b c ph pr si un : Int) (w : World) :
    Calls Tryz.prog 100 #[.agg #[.int .i64 b, .int .i64 c, .int .i64 ph, .int .i64 pr, .int .i64 si, .int .i64 un]] w fun e w' => ∃ g, e = .returned (.slice (some ⟨g, 0, none⟩) 7 7) ∧ IntsAt w' w'.heap.size (some ⟨g, 0, none⟩) (Rk.keys ⟨b, c, ph, pr, si, un⟩) ∧ Below w.heap.size w w' := by
  have g1 := fun W => Rpress_any ph W
  unfold Rk.keys
  simp only
  obtain ⟨x, hx⟩ : ∃ x, x = Rk.press ph := ⟨_, rfl⟩
  rw [← hx] at g1 ⊢
  clear hx
  obtain ⟨w1, hw1⟩ : ∃ W, W = (w.alloc (.cells #[.int .i64 b, .int .i64 c, .int .i64 ph, .int .i64 pr, .int .i64 si, .int .i64 un] 25)).drew := ⟨_, rfl⟩
  have ka : Six w1 w.heap.size ⟨b, c, ph, pr, si, un⟩ := by rw [hw1]; exact ⟨(Six.new w b c ph pr si un _).blk⟩
  have HB : Hid (Below w.heap.size w w1) := Lib.hid (by rw [hw1]; have h := below_new w (.cells #[.int .i64 b, .int .i64 c, .int .i64 ph, .int .i64 pr, .int .i64 si, .int .i64 un] 25); exact ⟨h.os, h.tape, h.output, h.size, h.block⟩)
  go_enter Tryz.func100, Tryz.ntmps100
  go_wp2_with fail
  refine wp_region_still_tail 17 (by kernel_rfl) (by kernel_rfl) ?_
  change wpStill _ _ (w.alloc (.cells #[.int .i64 b, .int .i64 c, .int .i64 ph, .int .i64 pr, .int .i64 si, .int .i64 un] 25)).drew (fun a' => wpList _ _ _ _ a' (w.alloc (.cells #[.int .i64 b, .int .i64 c, .int .i64 ph, .int .i64 pr, .int .i64 si, .int .i64 un] 25)).drew) _ _
  rw [← hw1]
  clear hw1
  have c0 := ka.c0
  have c1 := ka.c1
  have c2 := ka.c2
  have c3 := ka.c3
  have c4 := ka.c4
  have c5 := ka.c5
  have Hlt : Hid (w.heap.size < w1.heap.size) := Lib.hid ka.lt
  clear ka
  simp only [List.take_succ_cons, List.take_zero, List.drop_succ_cons, List.drop_zero]
  still_step
  still_step
  still_call (g1 _)
  still_step
  still_step
  still_step
  still_step
  still_step
  still_step
  still_step
  still_step
  still_step
  still_step
  still_step
  still_step
  still_step
  still_step
  refine wpStill_nil ?_
  clear c0 c1 c2 c3 c4 c5 g1
  go_wp2
  go_ret
  exact ⟨_, rfl, (IntsAt.seven w1 x pr si un ph b c _).more (by simp), HB.out.alloc (by have := Hlt.out; omega) _⟩

/-- What holds ahead of each round of Compare. -/
def CmpRel (w : World) (xs ys : List Int) (i : Value) (wr : World) : Prop :=
  ∃ k q : Nat, k ≤ 7 ∧ i = .int .i64 (k : Int) ∧ wr = w.drewN q ∧ Rk.lex (xs.drop k) (ys.drop k) = Rk.lex xs ys
theorem lex_step {xs ys : List Int} {k : Nat} (h1 : k < xs.length) (h2 : k < ys.length) : Rk.lex (xs.drop k) (ys.drop k) = if xs[k] < ys[k] then -1 else if ys[k] < xs[k] then 1 else Rk.lex (xs.drop (k + 1)) (ys.drop (k + 1)) := by
  rw [List.drop_eq_getElem_cons h1, List.drop_eq_getElem_cons h2]
  rfl

set_option maxHeartbeats 2000000 in
theorem RCompare_any (b c ph pr si un b' c' ph' pr' si' un' : Int) (w : World) :
    Calls Tryz.prog 71 #[.agg #[.int .i64 b, .int .i64 c, .int .i64 ph, .int .i64 pr, .int .i64 si, .int .i64 un], .agg #[.int .i64 b', .int .i64 c', .int .i64 ph', .int .i64 pr', .int .i64 si', .int .i64 un']] w fun e w' => e = .returned (.int .i64 (Rk.cmp ⟨b, c, ph, pr, si, un⟩ ⟨b', c', ph', pr', si', un'⟩)) ∧ Below w.heap.size w w' := by
  have g1 := fun W => Rkeys_any b c ph pr si un W
  have g2 := fun W => Rkeys_any b' c' ph' pr' si' un' W
  unfold Rk.cmp
  obtain ⟨xs, hxs⟩ : ∃ xs, xs = Rk.keys ⟨b, c, ph, pr, si, un⟩ := ⟨_, rfl⟩
  obtain ⟨ys, hys⟩ : ∃ ys, ys = Rk.keys ⟨b', c', ph', pr', si', un'⟩ := ⟨_, rfl⟩
  have Lx : Hid (xs.length = 7) := Lib.hid (by rw [hxs]; rfl)
  have Ly : Hid (ys.length = 7) := Lib.hid (by rw [hys]; rfl)
  rw [← hxs] at g1 ⊢
  rw [← hys] at g2 ⊢
  clear hxs hys
  obtain ⟨r, hr⟩ : ∃ r, r = Rk.lex xs ys := ⟨_, rfl⟩
  have Hr := Lib.hid hr
  rw [← hr]
  clear hr
  have k0 := (Six.new w b c ph pr si un 25).alloc (.cells #[.int .i64 b', .int .i64 c', .int .i64 ph', .int .i64 pr', .int .i64 si', .int .i64 un'] 25)
  have k1 := Six.new1 w (.cells #[.int .i64 b, .int .i64 c, .int .i64 ph, .int .i64 pr, .int .i64 si, .int .i64 un] 25) b' c' ph' pr' si' un' 25
  have K1 := Lib.hid k1
  clear k0 k1
  go_enter Tryz.func71, Tryz.ntmps71
  go_wp2_with fail
  refine (g1 _).mono ?_
  rintro e w1 ⟨p, rfl, hX, hB⟩
  have HX := Lib.hid hX
  have HB := Lib.hid (below2 (below_new2 w _ _) hB)
  have K2 := K1.out.below hB
  have c0 := K2.c0
  have c1 := K2.c1
  have c2 := K2.c2
  have c3 := K2.c3
  have c4 := K2.c4
  have c5 := K2.c5
  clear g1 hX hB K1 K2
  go_wp2_with fail
  refine (g2 _).mono ?_
  rintro e w2 ⟨q, rfl, hY, hB⟩
  have HX2 := Lib.hid ((HX.out.below hB (Nat.le_refl _)).more hB.size)
  have HY := Lib.hid hY
  have HB2 := Lib.hid (below2 HB.out hB)
  clear g2 hY hB HX HB c0 c1 c2 c3 c4 c5
  go_wp2_with fail
  go_loopw [7] (fun i wr => CmpRel w2 xs ys i wr) (fun i _ => 7 - (intOf i).toNat)
  case atStart => exact ⟨0, 0, Nat.zero_le _, rfl, rfl, rfl⟩
  case round =>
    obtain ⟨k, n, hk, rfl, rfl, hl⟩ := hrel
    rw [← Hr.out] at hl
    have Hl := Lib.hid hl
    clear hl
    by_cases hlt : k < 7
    · have l1 : k < xs.length := by rw [Lx.out]; exact hlt
      have l2 : k < ys.length := by rw [Ly.out]; exact hlt
      have Hs := Lib.hid (lex_step l1 l2)
      obtain ⟨b1, o1, e1, hb1, hc1⟩ := HX2.out k l1
      obtain ⟨b2, o2, e2, hb2, hc2⟩ := HY.out k l2
      cases e1
      cases e2
      rw [Nat.zero_add] at hc1 hc2
      obtain ⟨x, hx⟩ : ∃ x, x = xs[k] := ⟨_, rfl⟩
      obtain ⟨y, hy⟩ : ∃ y, y = ys[k] := ⟨_, rfl⟩
      rw [← hx] at hc1 Hs
      rw [← hy] at hc2 Hs
      clear hx hy
      have i1 : (k : Int) < 7 := by omega
      have i3 : (0 : Int) ≤ (k : Int) := by omega
      have Iw : Hid (wrap64 ((k : Int) + 1) = (k : Int) + 1) := Lib.hid (by unfold wrap64; omega)
      have Hk := Lib.hid hlt
      clear hk hlt l1 l2
      by_cases hxy : x < y
      · have He : Hid (r = -1) := Lib.hid (by rw [← Hl.out, Hs.out, if_pos hxy])
        have d1 : decide (x < y) = true := decide_eq_true hxy
        clear hxy Hs Hl
        go_wp2
        go_quiet (fail)
        go_wp2
        go_ret
        exact ⟨by rw [He.out]; rfl, by first | exact below_drew HB2.out _ | exact below_drew (below_drew HB2.out _) _ | exact below_drew (below_drew (below_drew HB2.out _) _) _⟩
      · have d1 : decide (x < y) = false := decide_eq_false hxy
        by_cases hyx : y < x
        · have He : Hid (r = 1) := Lib.hid (by rw [← Hl.out, Hs.out, if_neg hxy, if_pos hyx])
          have d2 : decide (y < x) = true := decide_eq_true hyx
          clear hxy hyx Hs Hl
          go_wp2
          go_quiet (fail)
          go_wp2
          go_quiet (fail)
          go_wp2
          go_ret
          exact ⟨by rw [He.out]; rfl, by first | exact below_drew HB2.out _ | exact below_drew (below_drew HB2.out _) _ | exact below_drew (below_drew (below_drew HB2.out _) _) _⟩
        · have He : Hid (Rk.lex (xs.drop (k + 1)) (ys.drop (k + 1)) = r) := Lib.hid (by rw [← Hl.out, Hs.out, if_neg hxy, if_neg hyx])
          have d2 : decide (y < x) = false := decide_eq_false hyx
          clear hxy hyx Hs Hl
          go_wp2
          go_quiet (fail)
          go_wp2
          go_quiet (fail)
          go_wp2
          go_roundw
          case rel => exact ⟨k + 1, _, Hk.out, by first | rfl | (rw [Iw.out]; rfl), rfl, by rw [He.out, Hr.out]⟩
          case measure => have := Hk.out; (try rw [Iw.out]); simp [intOf]; omega
    · have i7 : decide ((k : Int) < 7) = false := decide_eq_false (by omega)
      have He : Hid (r = 0) := Lib.hid (by
        have h1 : xs.drop k = [] := List.drop_eq_nil_of_le (by rw [Lx.out]; omega)
        have h2 := Hl.out
        rw [h1] at h2
        rw [← h2]
        unfold Rk.lex
        rfl)
      clear Hl hk hlt
      go_wp2
      go_ret
      exact ⟨by rw [He.out]; rfl, by first | exact below_drew HB2.out _ | exact below_drew (below_drew HB2.out _) _ | exact below_drew (below_drew (below_drew HB2.out _) _) _⟩
end Go.Proofs.YtpgichlaghhdeaaGreatDoor

namespace Go.Proofs.YtpgichlaghhdeaaGreatDoor
set_option maxRecDepth 10000
open Go.RowKit

set_option maxHeartbeats 400000 in
theorem RAOwn_any (A : Option Addr) (cap : Nat) (ls : List Alm) (w : World) (hA : AlmsAt w w.heap.size A ls) (hnil : A = none → cap = 0) (hl : ls.length ≤ 1000) :
    Calls Tryz.prog 27 #[.slice A ls.length cap] w (OwnedA w ls) := by
  have HA := Lib.hid hA
  have Hn := Lib.hid hnil
  have Hl := Lib.hid hl
  obtain ⟨m, hm⟩ : ∃ m, m = ls.length := ⟨_, rfl⟩
  have Hm := Lib.hid hm
  rw [← hm]
  clear hA hnil hl hm
  go_enter Tryz.func27, Tryz.ntmps27
  go_wp2_with (at_builtin; refine wpList_append_alms rfl _ _ rfl w.heap.size _ [] ls rfl (OwnA.nil _ _) A _ cap rfl Hm.out HA.out Hn.out (Nat.le_refl _) (by have := Hl.out; simp; omega) ?_; intro v' w1 hown' hgrow; rw [List.nil_append] at hown'; have hB1 : Below w.heap.size w w1 := (Below.refl _ w).grown hgrow (Nat.le_refl _) (fun k hk => by cases hk); clear hgrow)
  go_ret
  exact ⟨_, rfl, hown', hB1⟩

set_option maxHeartbeats 1000000 in
theorem RASame_any (A B : Option Addr) (ca cb : Nat) (ls : List Alm) (w : World) (hA : AlmsAt w w.heap.size A ls) (hB : AlmsAt w w.heap.size B ls) (hl : ls.length ≤ 1000) :
    Calls Tryz.prog 18 #[.slice A ls.length ca, .slice B ls.length cb] w fun e w' => e = .returned (.bool true) ∧ ∃ n, w' = w.drewN n := by
  have h1 : ((ls.length : Int) == (ls.length : Int)) = true := by rw [beq_iff_eq]
  go_enter Tryz.func18, Tryz.ntmps18
  go_wp2
  go_loopw [5] (fun i wr => ∃ k q : Nat, k ≤ ls.length ∧ i = .int .i64 (k : Int) ∧ wr = w.drewN q) (fun i _ => ls.length - (intOf i).toNat)
  case atStart => exact ⟨0, 0, Nat.zero_le _, rfl, rfl⟩
  case round =>
    obtain ⟨k, q, hk, rfl, rfl⟩ := hrel
    by_cases hlt : k < ls.length
    · obtain ⟨b, off, rfl, hb, h6⟩ := hA k hlt
      obtain ⟨b', off', rfl, hb', h6'⟩ := hB k hlt
      obtain ⟨a, ha⟩ : ∃ a, a = ls[k] := ⟨_, rfl⟩
      rw [← ha] at h6 h6'
      obtain ⟨x0, x1, x2, x3, x4, x5⟩ := a
      have c0 := h6.c0
      have c1 := h6.c1
      have c2 := h6.c2
      have c3 := h6.c3
      have c4 := h6.c4
      have c5 := h6.c5
      have d0 := h6'.c0
      have d1 := h6'.c1
      have d2 := h6'.c2
      have d3 := h6'.c3
      have d4 := h6'.c4
      have d5 := h6'.c5
      simp only at c0 c1 c2 c3 c4 c5 d0 d1 d2 d3 d4 d5
      have i1 : (k : Int) < (ls.length : Int) := by omega
      have i3 : (0 : Int) ≤ (k : Int) := by omega
      have i5 : wrap64 ((k : Int) + 1) = (k : Int) + 1 := by unfold wrap64; omega
      clear ha h6 h6'
      go_wp2
      go_quiet (fail)
      go_wp2
      go_roundw
      case rel => exact ⟨k + 1, _, by omega, by first | rfl | (rw [i5]; rfl), rfl⟩
      case measure => first | (rw [i5]; clear i5; simp [intOf]; omega) | (simp only [intOf]; clear i5; omega)
    · obtain rfl : k = ls.length := by omega
      go_wp2
      go_ret
      exact ⟨rfl, _, rfl⟩
end Go.Proofs.YtpgichlaghhdeaaGreatDoor

namespace Go.Proofs.YtpgichlaghhdeaaGreatDoor
set_option maxRecDepth 10000
open Go.RowKit

theorem run_slice_to (A : Option Addr) (n cap j : Nat) (hj : j ≤ cap) (w : World) :
    (Instr.sliceAt 26 (.slice A n cap) none (some (.int .i64 (j : Int))) none).run Tryz.prog w = .ok (sliced A 0 j cap 6) w := by
  have hs : (sizeOf 25).run Tryz.prog w = .ok 6 w := by kernel_rfl
  have hb : (Instr.sliceBound (.int .i64 (j : Int)) cap .sliceAcap).run Tryz.prog w = .ok j w := by simp [Instr.sliceBound, asIntOf, hj]
  simp [Instr.sliceAt, Instr.slice, Instr.sliceBounds, run_underlying Tryz.underlying26, hs, hb, Result.andThen, sliced]
theorem run_slice_from (A : Option Addr) (n cap j : Nat) (hj : j ≤ n) (w : World) :
    (Instr.sliceAt 26 (.slice A n cap) (some (.int .i64 (j : Int))) none none).run Tryz.prog w = .ok (sliced A j n cap 6) w := by
  have hs : (sizeOf 25).run Tryz.prog w = .ok 6 w := by kernel_rfl
  have hb : (Instr.sliceBound (.int .i64 (j : Int)) n .sliceB).run Tryz.prog w = .ok j w := by simp [Instr.sliceBound, asIntOf, hj]
  simp [Instr.sliceAt, Instr.slice, Instr.sliceBounds, run_underlying Tryz.underlying26, hs, hb, Result.andThen, sliced]

theorem wpList_slice_to {ops : Array Oper} {rest : List Oper} {o : Oper} {a : Act} {w : World} {Q : Exit → Act → World → Prop} (hgd : o.guard = none) (x y : Operand) (ho : o.op = .slice 26 x none (some y) none)
    (A : Option Addr) (n cap j B : Nat) (ls : List Alm) (hx : a.eval x = .slice A n cap) (hy : a.eval y = .int .i64 (j : Int)) (hA : AlmsAt w B A ls) (hnil : A = none → cap = 0) (hnc : n ≤ cap) (hn : n = ls.length) (hj : j ≤ n)
    (h : ∀ A2, AlmsAt w B A2 (ls.take j) → (A2 = none → cap = 0) → wpList Tryz.prog ops Q rest (a.put o.dst (.slice A2 j cap)) w) : wpList Tryz.prog ops Q (o :: rest) a w := by
  refine wpList_plain hgd fun K hK => ?_
  have hrun := run_slice_to A n cap j (by omega) w
  unfold Oper.wp
  simp only [execOp, ho, hx, hy, Option.map_none, Option.map_some, Sem.run_bind, hrun, Result.andThen_ok, Sem.run_pure]
  refine hK _ _ ?_
  have hh := h (if cap = 0 then A else A.map (·.add (0 * 6)))
  have e : (if cap = 0 then A else A.map (·.add (0 * 6))) = A := by
    split
    · rfl
    · cases A with
      | none => rfl
      | some ad => rw [Option.map_some]; congr 1
  rw [e] at hh
  unfold sliced
  rw [e, Nat.sub_zero, Nat.sub_zero]
  exact hh (hA.take j) hnil
theorem wpList_slice_from {ops : Array Oper} {rest : List Oper} {o : Oper} {a : Act} {w : World} {Q : Exit → Act → World → Prop} (hgd : o.guard = none) (x y : Operand) (ho : o.op = .slice 26 x (some y) none none)
    (A : Option Addr) (n cap j B : Nat) (ls : List Alm) (hx : a.eval x = .slice A n cap) (hy : a.eval y = .int .i64 (j : Int)) (hA : AlmsAt w B A ls) (hnil : A = none → cap = 0) (hnc : n ≤ cap) (hn : n = ls.length) (hj : j ≤ n)
    (h : ∀ A2, AlmsAt w B A2 (ls.drop j) → (A2 = none → cap - j = 0) → wpList Tryz.prog ops Q rest (a.put o.dst (.slice A2 (n - j) (cap - j))) w) : wpList Tryz.prog ops Q (o :: rest) a w := by
  refine wpList_plain hgd fun K hK => ?_
  have hrun := run_slice_from A n cap j hj w
  unfold Oper.wp
  simp only [execOp, ho, hx, hy, Option.map_none, Option.map_some, Sem.run_bind, hrun, Result.andThen_ok, Sem.run_pure]
  refine hK _ _ ?_
  unfold sliced
  by_cases hc : cap = j
  · rw [if_pos hc]
    have hz : ls.drop j = [] := List.drop_eq_nil_of_le (by omega)
    exact h A (by rw [hz]; exact AlmsAt.nil _ _ _) (fun _ => by omega)
  · rw [if_neg hc]
    cases A with
    | none => exact absurd (hnil rfl) (by omega)
    | some ad =>
      rw [Option.map_some]
      by_cases hz : ls.drop j = []
      · exact h _ (by rw [hz]; exact AlmsAt.nil _ _ _) (fun e => by cases e)
      · have hlt : j < ls.length := by
          rcases Nat.lt_or_ge j ls.length with h1 | h1
          · exact h1
          · exact absurd (List.drop_eq_nil_of_le h1) hz
        obtain ⟨b, off, e, _⟩ := hA j hlt
        cases e
        rw [Go.WideShapes.add_plain]
        exact h _ (hA.drop j) (fun e => by cases e)
end Go.Proofs.YtpgichlaghhdeaaGreatDoor

namespace Go.Proofs.YtpgichlaghhdeaaGreatDoor
set_option maxRecDepth 10000
open Go.RowKit

theorem OwnA.ge {w : World} {base : Nat} {v : Value} {ls : List Alm} (h : OwnA w base v ls) : ∀ k, v.ownBlock = some k → base ≤ k := fun k hk => (World.ownsRow.lt h k hk).1
theorem AlmsAt.one (w : World) (x0 x1 x2 x3 x4 x5 : Int) (t : TypeId) : AlmsAt (w.alloc (.cells #[.int .i64 x0, .int .i64 x1, .int .i64 x2, .int .i64 x3, .int .i64 x4, .int .i64 x5] t)) (w.alloc (.cells #[.int .i64 x0, .int .i64 x1, .int .i64 x2, .int .i64 x3, .int .i64 x4, .int .i64 x5] t)).heap.size (some ⟨w.heap.size, 0, none⟩) [⟨x0, x1, x2, x3, x4, x5⟩] := fun i hi => by
  obtain rfl : i = 0 := by simpa using hi
  have h := Six.new w x0 x1 x2 x3 x4 x5 t
  exact ⟨w.heap.size, 0, rfl, h.lt, ⟨h.c0, h.c1, h.c2, h.c3, h.c4, h.c5⟩⟩

/-- What holds ahead of each round of Sort. -/
def SortRel (w : World) (ls : List Alm) (out i : Value) (wr : World) : Prop :=
  ∃ k : Nat, k ≤ ls.length ∧ i = .int .i64 (k : Int) ∧ OwnA wr w.heap.size out (Rk.sort (ls.take k)) ∧ Below w.heap.size w wr
/-- What holds ahead of each round of its inner loop. -/
def InsRel (w : World) (o : List Alm) (a : Alm) (i : Value) (wr : World) : Prop :=
  ∃ j : Nat, j ≤ o.length ∧ i = .int .i64 (j : Int) ∧ Below w.heap.size w wr ∧ ∀ n (h : n < o.length), n < j → Rk.cmp o[n] a ≤ 0

set_option maxRecDepth 10000 in
set_option maxHeartbeats 4000000 in
theorem RASort_any (A : Option Addr) (cap : Nat) (ls : List Alm) (w : World) (hA : AlmsAt w w.heap.size A ls) (hl : ls.length ≤ 1000) :
    Calls Tryz.prog 44 #[.slice A ls.length cap] w (OwnedA w (Rk.sort ls)) := by
  have HA := Lib.hid hA
  have Hl := Lib.hid hl
  obtain ⟨m, hm⟩ : ∃ m, m = ls.length := ⟨_, rfl⟩
  have Hm := Lib.hid hm
  have i2 : (m : Int) ≤ 1000 := by omega
  rw [← hm]
  clear hA hl hm
  go_enter Tryz.func44, Tryz.ntmps44
  go_wp2_with fail
  go_loopw [3, 4] (fun out i wr => SortRel w ls out i wr) (fun _ i _ => m - (intOf i).toNat)
  case atStart => exact ⟨0, Nat.zero_le _, rfl, OwnA.nil _ _, Below.refl _ _⟩
  case round =>
    obtain ⟨k, hk, rfl, hown, hB⟩ := hrel
    obtain ⟨wo, hwo⟩ : ∃ W, W = wr := ⟨_, rfl⟩
    subst hwo
    have HB := Lib.hid hB
    have HO := Lib.hid hown
    obtain ⟨A1, cap1, rfl, hA1, hn1, hc1⟩ := hown.slice
    obtain ⟨o, ho⟩ : ∃ o, o = Rk.sort (ls.take k) := ⟨_, rfl⟩
    have Ho := Lib.hid ho
    have Hol : Hid (o.length = k) := Lib.hid (by rw [ho, Rk.sort_len, List.length_take]; omega)
    rw [← ho] at HO hA1 hc1
    have Lo : Hid (k = o.length) := Lib.hid (by rw [ho, Rk.sort_len, List.length_take]; omega)
    rw [Rk.sort_len, List.length_take, Nat.min_eq_left hk] at *
    have HA1 := Lib.hid hA1
    have Hn1 := Lib.hid hn1
    have Hc1 : Hid (k ≤ cap1) := Lib.hid (by have := Lo.out; omega)
    clear hown hA1 hn1 hc1 ho hB
    by_cases hlt : k < m
    · have Hk := Lib.hid hlt
      have kl : k < ls.length := by rw [← Hm.out]; exact hlt
      obtain ⟨a, ha⟩ : ∃ a, a = ls[k] := ⟨_, rfl⟩
      have Hins : Hid (Rk.sort (ls.take (k + 1)) = Rk.ins a o) := Lib.hid (by rw [Rk.sort_take_succ ls k kl, ← ha, ← Ho.out])
      obtain ⟨b0, o0, rfl, hb0, h6⟩ := HA.out k kl
      rw [← ha] at h6
      have H6 := Lib.hid (h6.below HB.out hb0)
      have Hb0 : Hid (b0 < wo.heap.size) := Lib.hid (Nat.lt_of_lt_of_le hb0 HB.out.size)
      have i1 : (k : Int) < (m : Int) := by omega
      have i0 : (0 : Int) ≤ (k : Int) := by omega
      have Iw : Hid (wrap64 ((k : Int) + 1) = (k : Int) + 1) := Lib.hid (by unfold wrap64; omega)
      clear ha h6 hb0 kl hk hlt
      go_wp2_with fail
      go_loopw [5] (fun i w' => InsRel wo o a i w') (fun i _ => o.length - (intOf i).toNat)
      case atStart => exact ⟨0, Nat.zero_le _, rfl, Below.refl _ _, fun _ _ h => absurd h (Nat.not_lt_zero _)⟩
      case round =>
        obtain ⟨j, hj, rfl, hBi, hle⟩ := hrel
        have HBi := Lib.hid hBi
        have Hle := Lib.hid hle
        have Hj := Lib.hid hj
        have H6i := Lib.hid (H6.out.below hBi Hb0.out)
        have HA1i := Lib.hid (HA1.out.below hBi (Nat.le_refl _))
        clear hBi hle
        by_cases hjl : j < o.length
        · obtain ⟨g, og, hg1, hg2, hg6⟩ := HA1i.out j hjl
          obtain ⟨y, hy⟩ : ∃ y, y = o[j] := ⟨_, rfl⟩
          rw [← hy] at hg6
          have Hy : Hid (∀ h : j < o.length, o[j] = y) := Lib.hid (fun _ => hy.symm)
          obtain ⟨y0, y1, y2, y3, y4, y5⟩ := y
          obtain ⟨x0, x1, x2, x3, x4, x5⟩ := a
          have gC := fun W => RCompare_any y0 y1 y2 y3 y4 y5 x0 x1 x2 x3 x4 x5 W
          obtain ⟨z, hz⟩ : ∃ z, z = Rk.cmp ⟨y0, y1, y2, y3, y4, y5⟩ ⟨x0, x1, x2, x3, x4, x5⟩ := ⟨_, rfl⟩
          have Hz := Lib.hid hz
          rw [← hz] at gC
          clear hz hy
          have Hjl := Lib.hid hjl
          have ij : (j : Int) < (k : Int) := by have := Lo.out; omega
          have ij0 : (0 : Int) ≤ (j : Int) := by omega
          have Ij : Hid (wrap64 ((j : Int) + 1) = (j : Int) + 1) := Lib.hid (by have := Lo.out; have := Hk.out; unfold wrap64; omega)
          have hyx := hg6
          have hxx := H6i.out
          have Hgl := Lib.hid hg2
          subst hg1
          clear hj hjl
          go_wp2_with fail
          refine wp_region_held_drew (S := (fun W : World => Al6 W g (og + j * 6) ⟨y0, y1, y2, y3, y4, y5⟩ ∧ Al6 W b0 (o0 + k * 6) ⟨x0, x1, x2, x3, x4, x5⟩)) (by kernel_rfl) ⟨⟨hyx.c0, hyx.c1, hyx.c2, hyx.c3, hyx.c4, hyx.c5⟩, ⟨hxx.c0, hxx.c1, hxx.c2, hxx.c3, hxx.c4, hxx.c5⟩⟩ (fun hHeld => ?_)
          refine wpAnyH_take (i := 0) (oi := { dst := some 13, op := Op.move (Operand.tmp 5), type := 3, pos := _, after := #[], guard := none }) (v := ?_) rfl (by kernel_rfl) (by kernel_rfl) (by kernel_rfl) (fun _ _ _ h => h) (Or.inl ⟨by rfl, ?hy⟩) hHeld ?_
          case hy => intro w0 hSw; (try dsimp only at hSw); go_simp; (try with_reducible rfl)
          (try simp only [Act.put, List.setIfInBounds_toArray, List.set_cons_zero, List.set_cons_succ])
          refine wpAnyH_take (i := 1) (oi := { dst := some 14, op := Op.move (Operand.tmp 3), type := 26, pos := _, after := #[], guard := none }) (v := ?_) rfl (by kernel_rfl) (by kernel_rfl) (by kernel_rfl) (fun _ _ _ h => h) (Or.inl ⟨by rfl, ?hy⟩) hHeld ?_
          case hy => intro w0 hSw; (try dsimp only at hSw); go_simp; (try with_reducible rfl)
          (try simp only [Act.put, List.setIfInBounds_toArray, List.set_cons_zero, List.set_cons_succ])
          refine wpAnyH_take (i := 2) (oi := { dst := some 15, op := Op.call { callee := Callee.builtin Builtin.len, args := #[Operand.tmp 14], argTypes := #[26] }, type := 3, pos := _, after := #[{ on := 1, ground := Ground.data }], guard := none }) (v := ?_) rfl (by kernel_rfl) (by kernel_rfl) (by kernel_rfl) (fun _ _ _ h => h) (Or.inl ⟨by rfl, ?hy⟩) hHeld ?_
          case hy => intro w0 hSw; (try dsimp only at hSw); go_simp; (try with_reducible rfl)
          (try simp only [Act.put, List.setIfInBounds_toArray, List.set_cons_zero, List.set_cons_succ])
          refine wpAnyH_take (i := 3) (oi := { dst := some 16, op := Op.binOp BinOp.lss 3 (Operand.tmp 13) (Operand.tmp 15) 3, type := 4, pos := _, after := #[{ on := 0, ground := Ground.data }, { on := 2, ground := Ground.data }], guard := none }) (v := ?_) rfl (by kernel_rfl) (by kernel_rfl) (by kernel_rfl) (fun _ _ _ h => h) (Or.inl ⟨by rfl, ?hy⟩) hHeld ?_
          case hy => intro w0 hSw; (try dsimp only at hSw); go_simp; (try with_reducible rfl)
          (try simp only [Act.put, List.setIfInBounds_toArray, List.set_cons_zero, List.set_cons_succ])
          refine wpAnyH_take (i := 4) (oi := { dst := some 17, op := Op.move (Operand.tmp 16), type := 4, pos := _, after := #[{ on := 3, ground := Ground.data }], guard := none }) (v := ?_) rfl (by kernel_rfl) (by kernel_rfl) (by kernel_rfl) (fun _ _ _ h => h) (Or.inl ⟨by rfl, ?hy⟩) hHeld ?_
          case hy => intro w0 hSw; (try dsimp only at hSw); go_simp; (try with_reducible rfl)
          (try simp only [Act.put, List.setIfInBounds_toArray, List.set_cons_zero, List.set_cons_succ])
          refine wpAnyH_take (i := 5) (oi := { dst := some 18, op := Op.move (Operand.tmp 3), type := 26, pos := _, after := #[{ on := 4, ground := Ground.guard }], guard := some (4, true) }) (v := ?_) rfl (by kernel_rfl) (by kernel_rfl) (by kernel_rfl) (fun _ _ _ h => h) (Or.inl ⟨by rfl, ?hy⟩) hHeld ?_
          case hy => intro w0 hSw; (try dsimp only at hSw); go_simp; (try with_reducible rfl)
          (try simp only [Act.put, List.setIfInBounds_toArray, List.set_cons_zero, List.set_cons_succ])
          refine wpAnyH_take (i := 6) (oi := { dst := some 19, op := Op.move (Operand.tmp 5), type := 3, pos := _, after := #[{ on := 4, ground := Ground.guard }], guard := some (4, true) }) (v := ?_) rfl (by kernel_rfl) (by kernel_rfl) (by kernel_rfl) (fun _ _ _ h => h) (Or.inl ⟨by rfl, ?hy⟩) hHeld ?_
          case hy => intro w0 hSw; (try dsimp only at hSw); go_simp; (try with_reducible rfl)
          (try simp only [Act.put, List.setIfInBounds_toArray, List.set_cons_zero, List.set_cons_succ])
          refine wpAnyH_take (i := 7) (oi := { dst := some 20, op := Op.indexAddr 26 (Operand.tmp 18) (Operand.tmp 19), type := 0, pos := _, after := #[{ on := 5, ground := Ground.data }, { on := 6, ground := Ground.data }, { on := 4, ground := Ground.guard }], guard := some (4, true) }) (v := ?_) rfl (by kernel_rfl) (by kernel_rfl) (by kernel_rfl) (fun _ _ _ h => h) (Or.inl ⟨by rfl, ?hy⟩) hHeld ?_
          case hy => intro w0 hSw; (try dsimp only at hSw); go_simp; (try with_reducible rfl)
          (try simp only [Act.put, List.setIfInBounds_toArray, List.set_cons_zero, List.set_cons_succ])
          refine wpAnyH_take (i := 8) (oi := { dst := some 21, op := Op.load 25 (Operand.tmp 20), type := 25, pos := _, after := #[{ on := 7, ground := Ground.data }, { on := 4, ground := Ground.guard }], guard := some (4, true) }) (v := ?_) rfl (by kernel_rfl) (by kernel_rfl) (by kernel_rfl) (fun _ _ _ h => h) (Or.inl ⟨by rfl, ?hy⟩) hHeld ?_
          case hy => intro w0 hSw; have q0 := hSw.1.c0; have q1 := hSw.1.c1; have q2 := hSw.1.c2; have q3 := hSw.1.c3; have q4 := hSw.1.c4; have q5 := hSw.1.c5; (try simp only at q0 q1 q2 q3 q4 q5); clear hSw; go_simp; (try with_reducible rfl)
          (try simp only [Act.put, List.setIfInBounds_toArray, List.set_cons_zero, List.set_cons_succ])
          refine wpAnyH_take (i := 9) (oi := { dst := some 22, op := Op.move (Operand.tmp 0), type := 26, pos := _, after := #[{ on := 4, ground := Ground.guard }], guard := some (4, true) }) (v := ?_) rfl (by kernel_rfl) (by kernel_rfl) (by kernel_rfl) (fun _ _ _ h => h) (Or.inl ⟨by rfl, ?hy⟩) hHeld ?_
          case hy => intro w0 hSw; (try dsimp only at hSw); go_simp; (try with_reducible rfl)
          (try simp only [Act.put, List.setIfInBounds_toArray, List.set_cons_zero, List.set_cons_succ])
          refine wpAnyH_take (i := 10) (oi := { dst := some 23, op := Op.move (Operand.tmp 4), type := 3, pos := _, after := #[{ on := 4, ground := Ground.guard }], guard := some (4, true) }) (v := ?_) rfl (by kernel_rfl) (by kernel_rfl) (by kernel_rfl) (fun _ _ _ h => h) (Or.inl ⟨by rfl, ?hy⟩) hHeld ?_
          case hy => intro w0 hSw; (try dsimp only at hSw); go_simp; (try with_reducible rfl)
          (try simp only [Act.put, List.setIfInBounds_toArray, List.set_cons_zero, List.set_cons_succ])
          refine wpAnyH_take (i := 11) (oi := { dst := some 24, op := Op.indexAddr 26 (Operand.tmp 22) (Operand.tmp 23), type := 0, pos := _, after := #[{ on := 9, ground := Ground.data }, { on := 10, ground := Ground.data }, { on := 4, ground := Ground.guard }], guard := some (4, true) }) (v := ?_) rfl (by kernel_rfl) (by kernel_rfl) (by kernel_rfl) (fun _ _ _ h => h) (Or.inl ⟨by rfl, ?hy⟩) hHeld ?_
          case hy => intro w0 hSw; (try dsimp only at hSw); go_simp; (try with_reducible rfl)
          (try simp only [Act.put, List.setIfInBounds_toArray, List.set_cons_zero, List.set_cons_succ])
          refine wpAnyH_take (i := 12) (oi := { dst := some 25, op := Op.load 25 (Operand.tmp 24), type := 25, pos := _, after := #[{ on := 11, ground := Ground.data }, { on := 4, ground := Ground.guard }], guard := some (4, true) }) (v := ?_) rfl (by kernel_rfl) (by kernel_rfl) (by kernel_rfl) (fun _ _ _ h => h) (Or.inl ⟨by rfl, ?hy⟩) hHeld ?_
          case hy => intro w0 hSw; have q0 := hSw.2.c0; have q1 := hSw.2.c1; have q2 := hSw.2.c2; have q3 := hSw.2.c3; have q4 := hSw.2.c4; have q5 := hSw.2.c5; (try simp only at q0 q1 q2 q3 q4 q5); clear hSw; go_simp; (try with_reducible rfl)
          (try simp only [Act.put, List.setIfInBounds_toArray, List.set_cons_zero, List.set_cons_succ])
          refine wpAnyH_ready (rs := [13]) (by kernel_rfl) (by simp) ?_
          refine AllReadyH.cons (o := { dst := some 26, op := Op.call { callee := Callee.value (Operand.func 71), args := #[Operand.tmp 21, Operand.tmp 25], argTypes := #[25, 25] }, type := 3, pos := _, after := #[{ on := 8, ground := Ground.data }, { on := 12, ground := Ground.data }, { on := 4, ground := Ground.chain }, { on := 4, ground := Ground.guard }], guard := some (4, true) }) rfl (fun K hK => ?_) AllReadyH.nil
          go_simp
          refine (gC _).mono ?_
          rintro e wx ⟨rfl, hB'⟩
          replace hyx := hyx.below (by first | exact below_undrew hB' | exact hB') (Nat.lt_of_lt_of_le Hgl.out HBi.out.size)
          replace hxx := hxx.below (by first | exact below_undrew hB' | exact hB') (Nat.lt_of_lt_of_le Hb0.out HBi.out.size)
          have hBx : Below wo.heap.size wo wx := below2 HBi.out (by first | exact below_undrew hB' | exact hB')
          clear hB' gC
          go_wp2_with fail
          refine hK.out _ _ ⟨⟨hyx.c0, hyx.c1, hyx.c2, hyx.c3, hyx.c4, hyx.c5⟩, ⟨hxx.c0, hxx.c1, hxx.c2, hxx.c3, hxx.c4, hxx.c5⟩⟩ (fun hHeld => ?_)
          clear hK K
          (try simp only [Act.put, List.setIfInBounds_toArray, List.set_cons_zero, List.set_cons_succ])
          refine wpAnyH_take (i := 14) (oi := { dst := some 27, op := Op.binOp BinOp.leq 3 (Operand.tmp 26) (Operand.const (Value.int IntKind.i64 0)) 3, type := 4, pos := _, after := #[{ on := 13, ground := Ground.data }, { on := 4, ground := Ground.guard }], guard := some (4, true) }) (v := ?_) rfl (by kernel_rfl) (by kernel_rfl) (by kernel_rfl) (fun _ _ _ h => h) (Or.inl ⟨by rfl, ?hy⟩) hHeld ?_
          case hy => intro w0 hSw; (try dsimp only at hSw); go_simp; (try with_reducible rfl)
          (try simp only [Act.put, List.setIfInBounds_toArray, List.set_cons_zero, List.set_cons_succ])
          refine wpAnyH_take (i := 15) (oi := { dst := some 28, op := Op.pick (Operand.tmp 17) (Operand.tmp 27) (Operand.const (Value.bool false)), type := 4, pos := _, after := #[{ on := 4, ground := Ground.data }, { on := 14, ground := Ground.data }], guard := none }) (v := ?_) rfl (by kernel_rfl) (by kernel_rfl) (by kernel_rfl) (fun _ _ _ h => h) (Or.inl ⟨by rfl, ?hy⟩) hHeld ?_
          case hy => intro w0 hSw; (try dsimp only at hSw); go_simp; (try with_reducible rfl)
          (try simp only [Act.put, List.setIfInBounds_toArray, List.set_cons_zero, List.set_cons_succ])
          refine wpAnyH_done (by kernel_rfl) ?_ _
          clear hHeld
          have HBw0 := Lib.hid hBx
          clear hyx hxx hBx
          by_cases hz0 : z ≤ 0
          · rw [decide_eq_true hz0]
            have Hc : Hid (Rk.cmp ⟨y0, y1, y2, y3, y4, y5⟩ ⟨x0, x1, x2, x3, x4, x5⟩ ≤ 0) := Lib.hid (by rw [← Hz.out]; exact hz0)
            clear hz0
            go_wp2
            go_roundw
            case rel =>
              refine ⟨j + 1, Hjl.out, by first | rfl | (rw [Ij.out]; rfl), HBw0.out, fun n hn hnj => ?_⟩
              rcases Nat.lt_or_ge n j with h1 | h1
              · exact Hle.out n hn h1
              · obtain rfl : n = j := by omega
                rw [Hy.out hn]
                exact Hc.out
            case measure => have := Hjl.out; (try rw [Ij.out]); simp [intOf]; omega
          · rw [decide_eq_false hz0]
            have HI : Hid (Rk.ins ⟨x0, x1, x2, x3, x4, x5⟩ o = o.take j ++ [⟨x0, x1, x2, x3, x4, x5⟩] ++ o.drop j) := Lib.hid (Rk.ins_at _ o j Hj.out Hle.out (fun h => by rw [Hy.out h, ← Hz.out]; exact hz0))
            obtain ⟨wi, hwi⟩ : ∃ W, W = wx := ⟨_, rfl⟩
            subst hwi
            have HBw := Lib.hid HBw0.out
            have Hsz : Hid (wo.heap.size ≤ wi.heap.size) := Lib.hid HBw.out.size
            have HAw := Lib.hid ((HA1.out.below HBw.out (Nat.le_refl _)).more Hsz.out)
            have H6w := Lib.hid (H6.out.below HBw.out Hb0.out)
            have Hb0w : Hid (b0 < wi.heap.size) := Lib.hid (Nat.lt_of_lt_of_le Hb0.out Hsz.out)
            have Hok : Hid (o.length ≤ 1000) := Lib.hid (by have := Lo.out; have := Hk.out; have := Hm.out; have := Hl.out; omega)
            clear hz0 HBw0
            go_wp2_with (first
              | (refine wpList_slice_to rfl _ _ rfl _ _ _ j wi.heap.size o rfl rfl HAw.out Hn1.out Hc1.out Lo.out (by have := Hj.out; have := Lo.out; omega) ?_; intro A2 hA2 hn2; have HA2 := Lib.hid hA2; have Hn2 := Lib.hid hn2; clear hA2 hn2)
              | (refine wpList_slice_from rfl _ _ rfl _ _ _ j wi.heap.size o rfl rfl HAw2.out Hn1.out Hc1.out Lo.out (by have := Hj.out; have := Lo.out; omega) ?_; intro A3 hA3 hn3; have HA3 := Lib.hid hA3; have Hn3 := Lib.hid hn3; clear hA3 hn3)
              | (at_builtin; refine wpList_append_alms rfl _ _ rfl wi.heap.size _ _ (o.drop j) rfl Own2.out A3 _ _ rfl (by rw [List.length_drop, ← Lo.out]) (HA3.out.more HB2.out.size) Hn3.out HB2.out.size (by have := Hok.out; simp; omega) ?_; intro v3 w3 hown3 hgrow3; have Own3 := Lib.hid hown3; have HB3 : Hid (Below wi.heap.size wi w3) := Lib.hid (HB2.out.grown hgrow3 HB2.out.size Own2.out.ge); clear hown3 hgrow3)
              | (at_builtin; refine wpList_append_alms rfl _ _ rfl wi.heap.size _ (o.take j) [(⟨x0, x1, x2, x3, x4, x5⟩ : Alm)] rfl OwN.out (some ⟨w1.heap.size, 0, none⟩) 1 _ rfl rfl ON.out (fun e => nomatch e) HBN.out.size (by have := Hok.out; simp; omega) ?_; intro v2 w2 hown2 hgrow2; have Own2 := Lib.hid hown2; have HB2 : Hid (Below wi.heap.size wi w2) := Lib.hid (HBN.out.grown hgrow2 HBN.out.size OwN.out.ge); have HAw2 := Lib.hid (HAw.out.below HB2.out (Nat.le_refl _)); clear hown2 hgrow2 q0 q1 q2 q3 q4 q5)
              | (at_builtin; refine wpList_append_alms rfl _ _ rfl wi.heap.size _ [] (o.take j) rfl (OwnA.nil _ _) A2 _ _ rfl (by have := Hj.out; rw [List.length_take]; omega) HA2.out Hn2.out (Nat.le_refl _) (by have := Hok.out; simp; omega) ?_; intro v1 w1 hown1 hgrow1; rw [List.nil_append] at hown1; have Own1 := Lib.hid hown1; have HB1 : Hid (Below wi.heap.size wi w1) := Lib.hid ((Below.refl _ wi).grown hgrow1 (Nat.le_refl _) (fun k hk => by cases hk)); have h6w := H6w.out.below HB1.out Hb0w.out; have q0 := h6w.c0; have q1 := h6w.c1; have q2 := h6w.c2; have q3 := h6w.c3; have q4 := h6w.c4; have q5 := h6w.c5; (try simp only at q0 q1 q2 q3 q4 q5); have HN := Lib.hid (below_new w1 (.cells #[.int .i64 x0, .int .i64 x1, .int .i64 x2, .int .i64 x3, .int .i64 x4, .int .i64 x5] 25)); have OwN := Lib.hid (Own1.out.below HN.out); have ON := Lib.hid (AlmsAt.one w1 x0 x1 x2 x3 x4 x5 25); have HBN := Lib.hid (below2 HB1.out HN.out); clear hown1 hgrow1 h6w))
            go_roundw
            case rel => exact ⟨k + 1, by have := Hk.out; have := Hm.out; omega, by first | rfl | (rw [Iw.out]; rfl), by rw [Hins.out, HI.out]; exact Own3.out.lower (Nat.le_trans HB.out.size Hsz.out), below2 HB.out (below2 HBw.out HB3.out)⟩
            case measure => have := Hk.out; (try rw [Iw.out]); simp [intOf]; omega
        · have hjk : j = k := by have := Lo.out; omega
          have HI : Hid (Rk.ins a o = o.take j ++ [a] ++ o.drop j) := Lib.hid (Rk.ins_at _ o j Hj.out Hle.out (fun h => absurd h hjl))
          obtain ⟨x0, x1, x2, x3, x4, x5⟩ := a
          have ij : ((j : Int) < (k : Int)) = False := eq_false (by omega)
          have Hwr := HBi
          clear hj hjl hjk
          go_wp2_with fail
          refine wp_region_held_drew (S := (fun _ : World => True)) (by kernel_rfl) trivial (fun hHeld => ?_)
          refine wpAnyH_take (i := 0) (oi := { dst := some 13, op := Op.move (Operand.tmp 5), type := 3, pos := _, after := #[], guard := none }) (v := ?_) rfl (by kernel_rfl) (by kernel_rfl) (by kernel_rfl) (fun _ _ _ h => h) (Or.inl ⟨by rfl, ?hy⟩) hHeld ?_
          case hy => intro w0 hSw; (try dsimp only at hSw); go_simp; (try with_reducible rfl)
          (try simp only [Act.put, List.setIfInBounds_toArray, List.set_cons_zero, List.set_cons_succ])
          refine wpAnyH_take (i := 1) (oi := { dst := some 14, op := Op.move (Operand.tmp 3), type := 26, pos := _, after := #[], guard := none }) (v := ?_) rfl (by kernel_rfl) (by kernel_rfl) (by kernel_rfl) (fun _ _ _ h => h) (Or.inl ⟨by rfl, ?hy⟩) hHeld ?_
          case hy => intro w0 hSw; (try dsimp only at hSw); go_simp; (try with_reducible rfl)
          (try simp only [Act.put, List.setIfInBounds_toArray, List.set_cons_zero, List.set_cons_succ])
          refine wpAnyH_take (i := 2) (oi := { dst := some 15, op := Op.call { callee := Callee.builtin Builtin.len, args := #[Operand.tmp 14], argTypes := #[26] }, type := 3, pos := _, after := #[{ on := 1, ground := Ground.data }], guard := none }) (v := ?_) rfl (by kernel_rfl) (by kernel_rfl) (by kernel_rfl) (fun _ _ _ h => h) (Or.inl ⟨by rfl, ?hy⟩) hHeld ?_
          case hy => intro w0 hSw; (try dsimp only at hSw); go_simp; (try with_reducible rfl)
          (try simp only [Act.put, List.setIfInBounds_toArray, List.set_cons_zero, List.set_cons_succ])
          refine wpAnyH_take (i := 3) (oi := { dst := some 16, op := Op.binOp BinOp.lss 3 (Operand.tmp 13) (Operand.tmp 15) 3, type := 4, pos := _, after := #[{ on := 0, ground := Ground.data }, { on := 2, ground := Ground.data }], guard := none }) (v := ?_) rfl (by kernel_rfl) (by kernel_rfl) (by kernel_rfl) (fun _ _ _ h => h) (Or.inl ⟨by rfl, ?hy⟩) hHeld ?_
          case hy => intro w0 hSw; (try dsimp only at hSw); go_simp; (try with_reducible rfl)
          (try simp only [Act.put, List.setIfInBounds_toArray, List.set_cons_zero, List.set_cons_succ])
          refine wpAnyH_take (i := 4) (oi := { dst := some 17, op := Op.move (Operand.tmp 16), type := 4, pos := _, after := #[{ on := 3, ground := Ground.data }], guard := none }) (v := ?_) rfl (by kernel_rfl) (by kernel_rfl) (by kernel_rfl) (fun _ _ _ h => h) (Or.inl ⟨by rfl, ?hy⟩) hHeld ?_
          case hy => intro w0 hSw; (try dsimp only at hSw); go_simp; (try with_reducible rfl)
          (try simp only [Act.put, List.setIfInBounds_toArray, List.set_cons_zero, List.set_cons_succ])
          refine wpAnyH_take (i := 5) (oi := { dst := some 18, op := Op.move (Operand.tmp 3), type := 26, pos := _, after := #[{ on := 4, ground := Ground.guard }], guard := some (4, true) }) (v := undef) rfl (by kernel_rfl) (by kernel_rfl) (by kernel_rfl) (fun _ _ _ h => h) (Or.inr ⟨by rfl, rfl⟩) hHeld ?_
          (try simp only [Act.put, List.setIfInBounds_toArray, List.set_cons_zero, List.set_cons_succ])
          refine wpAnyH_take (i := 6) (oi := { dst := some 19, op := Op.move (Operand.tmp 5), type := 3, pos := _, after := #[{ on := 4, ground := Ground.guard }], guard := some (4, true) }) (v := undef) rfl (by kernel_rfl) (by kernel_rfl) (by kernel_rfl) (fun _ _ _ h => h) (Or.inr ⟨by rfl, rfl⟩) hHeld ?_
          (try simp only [Act.put, List.setIfInBounds_toArray, List.set_cons_zero, List.set_cons_succ])
          refine wpAnyH_take (i := 7) (oi := { dst := some 20, op := Op.indexAddr 26 (Operand.tmp 18) (Operand.tmp 19), type := 0, pos := _, after := #[{ on := 5, ground := Ground.data }, { on := 6, ground := Ground.data }, { on := 4, ground := Ground.guard }], guard := some (4, true) }) (v := undef) rfl (by kernel_rfl) (by kernel_rfl) (by kernel_rfl) (fun _ _ _ h => h) (Or.inr ⟨by rfl, rfl⟩) hHeld ?_
          (try simp only [Act.put, List.setIfInBounds_toArray, List.set_cons_zero, List.set_cons_succ])
          refine wpAnyH_take (i := 8) (oi := { dst := some 21, op := Op.load 25 (Operand.tmp 20), type := 25, pos := _, after := #[{ on := 7, ground := Ground.data }, { on := 4, ground := Ground.guard }], guard := some (4, true) }) (v := undef) rfl (by kernel_rfl) (by kernel_rfl) (by kernel_rfl) (fun _ _ _ h => h) (Or.inr ⟨by rfl, rfl⟩) hHeld ?_
          (try simp only [Act.put, List.setIfInBounds_toArray, List.set_cons_zero, List.set_cons_succ])
          refine wpAnyH_take (i := 9) (oi := { dst := some 22, op := Op.move (Operand.tmp 0), type := 26, pos := _, after := #[{ on := 4, ground := Ground.guard }], guard := some (4, true) }) (v := undef) rfl (by kernel_rfl) (by kernel_rfl) (by kernel_rfl) (fun _ _ _ h => h) (Or.inr ⟨by rfl, rfl⟩) hHeld ?_
          (try simp only [Act.put, List.setIfInBounds_toArray, List.set_cons_zero, List.set_cons_succ])
          refine wpAnyH_take (i := 10) (oi := { dst := some 23, op := Op.move (Operand.tmp 4), type := 3, pos := _, after := #[{ on := 4, ground := Ground.guard }], guard := some (4, true) }) (v := undef) rfl (by kernel_rfl) (by kernel_rfl) (by kernel_rfl) (fun _ _ _ h => h) (Or.inr ⟨by rfl, rfl⟩) hHeld ?_
          (try simp only [Act.put, List.setIfInBounds_toArray, List.set_cons_zero, List.set_cons_succ])
          refine wpAnyH_take (i := 11) (oi := { dst := some 24, op := Op.indexAddr 26 (Operand.tmp 22) (Operand.tmp 23), type := 0, pos := _, after := #[{ on := 9, ground := Ground.data }, { on := 10, ground := Ground.data }, { on := 4, ground := Ground.guard }], guard := some (4, true) }) (v := undef) rfl (by kernel_rfl) (by kernel_rfl) (by kernel_rfl) (fun _ _ _ h => h) (Or.inr ⟨by rfl, rfl⟩) hHeld ?_
          (try simp only [Act.put, List.setIfInBounds_toArray, List.set_cons_zero, List.set_cons_succ])
          refine wpAnyH_take (i := 12) (oi := { dst := some 25, op := Op.load 25 (Operand.tmp 24), type := 25, pos := _, after := #[{ on := 11, ground := Ground.data }, { on := 4, ground := Ground.guard }], guard := some (4, true) }) (v := undef) rfl (by kernel_rfl) (by kernel_rfl) (by kernel_rfl) (fun _ _ _ h => h) (Or.inr ⟨by rfl, rfl⟩) hHeld ?_
          (try simp only [Act.put, List.setIfInBounds_toArray, List.set_cons_zero, List.set_cons_succ])
          refine wpAnyH_take (i := 13) (oi := { dst := some 26, op := Op.call { callee := Callee.value (Operand.func 71), args := #[Operand.tmp 21, Operand.tmp 25], argTypes := #[25, 25] }, type := 3, pos := _, after := #[{ on := 8, ground := Ground.data }, { on := 12, ground := Ground.data }, { on := 4, ground := Ground.chain }, { on := 4, ground := Ground.guard }], guard := some (4, true) }) (v := undef) rfl (by kernel_rfl) (by kernel_rfl) (by kernel_rfl) (fun _ _ _ h => h) (Or.inr ⟨by rfl, rfl⟩) hHeld ?_
          (try simp only [Act.put, List.setIfInBounds_toArray, List.set_cons_zero, List.set_cons_succ])
          refine wpAnyH_take (i := 14) (oi := { dst := some 27, op := Op.binOp BinOp.leq 3 (Operand.tmp 26) (Operand.const (Value.int IntKind.i64 0)) 3, type := 4, pos := _, after := #[{ on := 13, ground := Ground.data }, { on := 4, ground := Ground.guard }], guard := some (4, true) }) (v := undef) rfl (by kernel_rfl) (by kernel_rfl) (by kernel_rfl) (fun _ _ _ h => h) (Or.inr ⟨by rfl, rfl⟩) hHeld ?_
          (try simp only [Act.put, List.setIfInBounds_toArray, List.set_cons_zero, List.set_cons_succ])
          refine wpAnyH_take (i := 15) (oi := { dst := some 28, op := Op.pick (Operand.tmp 17) (Operand.tmp 27) (Operand.const (Value.bool false)), type := 4, pos := _, after := #[{ on := 4, ground := Ground.data }, { on := 14, ground := Ground.data }], guard := none }) (v := ?_) rfl (by kernel_rfl) (by kernel_rfl) (by kernel_rfl) (fun _ _ _ h => h) (Or.inl ⟨by rfl, ?hy⟩) hHeld ?_
          case hy => intro w0 hSw; (try dsimp only at hSw); go_simp; (try with_reducible rfl)
          (try simp only [Act.put, List.setIfInBounds_toArray, List.set_cons_zero, List.set_cons_succ])
          refine wpAnyH_done (by kernel_rfl) ?_ _
          clear hHeld
          obtain ⟨wi, hwi⟩ : ∃ W, W = wr.drew := ⟨_, rfl⟩
          have hBx : Below wo.heap.size wo wi := by rw [hwi]; have h := Hwr.out; exact ⟨h.os, h.tape, h.output, h.size, h.block⟩
          rw [← hwi]
          clear hwi
          have HBw := Lib.hid hBx
          have Hsz : Hid (wo.heap.size ≤ wi.heap.size) := Lib.hid HBw.out.size
          have HAw := Lib.hid ((HA1.out.below HBw.out (Nat.le_refl _)).more Hsz.out)
          have H6w := Lib.hid (H6.out.below HBw.out Hb0.out)
          have Hb0w : Hid (b0 < wi.heap.size) := Lib.hid (Nat.lt_of_lt_of_le Hb0.out Hsz.out)
          have Hok : Hid (o.length ≤ 1000) := Lib.hid (by have := Lo.out; have := Hk.out; have := Hm.out; have := Hl.out; omega)
          clear hBx
          go_wp2_with (first
            | (refine wpList_slice_to rfl _ _ rfl _ _ _ j wi.heap.size o rfl rfl HAw.out Hn1.out Hc1.out Lo.out (by have := Hj.out; have := Lo.out; omega) ?_; intro A2 hA2 hn2; have HA2 := Lib.hid hA2; have Hn2 := Lib.hid hn2; clear hA2 hn2)
            | (refine wpList_slice_from rfl _ _ rfl _ _ _ j wi.heap.size o rfl rfl HAw2.out Hn1.out Hc1.out Lo.out (by have := Hj.out; have := Lo.out; omega) ?_; intro A3 hA3 hn3; have HA3 := Lib.hid hA3; have Hn3 := Lib.hid hn3; clear hA3 hn3)
            | (at_builtin; refine wpList_append_alms rfl _ _ rfl wi.heap.size _ _ (o.drop j) rfl Own2.out A3 _ _ rfl (by rw [List.length_drop, ← Lo.out]) (HA3.out.more HB2.out.size) Hn3.out HB2.out.size (by have := Hok.out; simp; omega) ?_; intro v3 w3 hown3 hgrow3; have Own3 := Lib.hid hown3; have HB3 : Hid (Below wi.heap.size wi w3) := Lib.hid (HB2.out.grown hgrow3 HB2.out.size Own2.out.ge); clear hown3 hgrow3)
            | (at_builtin; refine wpList_append_alms rfl _ _ rfl wi.heap.size _ (o.take j) [(⟨x0, x1, x2, x3, x4, x5⟩ : Alm)] rfl OwN.out (some ⟨w1.heap.size, 0, none⟩) 1 _ rfl rfl ON.out (fun e => nomatch e) HBN.out.size (by have := Hok.out; simp; omega) ?_; intro v2 w2 hown2 hgrow2; have Own2 := Lib.hid hown2; have HB2 : Hid (Below wi.heap.size wi w2) := Lib.hid (HBN.out.grown hgrow2 HBN.out.size OwN.out.ge); have HAw2 := Lib.hid (HAw.out.below HB2.out (Nat.le_refl _)); clear hown2 hgrow2 q0 q1 q2 q3 q4 q5)
            | (at_builtin; refine wpList_append_alms rfl _ _ rfl wi.heap.size _ [] (o.take j) rfl (OwnA.nil _ _) A2 _ _ rfl (by have := Hj.out; rw [List.length_take]; omega) HA2.out Hn2.out (Nat.le_refl _) (by have := Hok.out; simp; omega) ?_; intro v1 w1 hown1 hgrow1; rw [List.nil_append] at hown1; have Own1 := Lib.hid hown1; have HB1 : Hid (Below wi.heap.size wi w1) := Lib.hid ((Below.refl _ wi).grown hgrow1 (Nat.le_refl _) (fun k hk => by cases hk)); have h6w := H6w.out.below HB1.out Hb0w.out; have q0 := h6w.c0; have q1 := h6w.c1; have q2 := h6w.c2; have q3 := h6w.c3; have q4 := h6w.c4; have q5 := h6w.c5; (try simp only at q0 q1 q2 q3 q4 q5); have HN := Lib.hid (below_new w1 (.cells #[.int .i64 x0, .int .i64 x1, .int .i64 x2, .int .i64 x3, .int .i64 x4, .int .i64 x5] 25)); have OwN := Lib.hid (Own1.out.below HN.out); have ON := Lib.hid (AlmsAt.one w1 x0 x1 x2 x3 x4 x5 25); have HBN := Lib.hid (below2 HB1.out HN.out); clear hown1 hgrow1 h6w))
          go_roundw
          case rel => exact ⟨k + 1, by have := Hk.out; have := Hm.out; omega, by first | rfl | (rw [Iw.out]; rfl), by rw [Hins.out, HI.out]; exact Own3.out.lower (Nat.le_trans HB.out.size Hsz.out), below2 HB.out (below2 HBw.out HB3.out)⟩
          case measure => have := Hk.out; (try rw [Iw.out]); simp [intOf]; omega
    · have Hkm : Hid (k = ls.length) := Lib.hid (by have := Hm.out; omega)
      have ik : ((k : Int) < (m : Int)) = False := eq_false (by omega)
      clear hk hlt
      go_wp2
      go_ret
      refine ⟨_, rfl, ?_, HB.out⟩
      have h := HO.out
      rw [← Lo.out] at h
      have e : o = Rk.sort ls := by rw [Ho.out, Hkm.out, List.take_length]
      rw [← e]
      exact h
end Go.Proofs.YtpgichlaghhdeaaGreatDoor

namespace Go.Proofs.YtpgichlaghhdeaaGreatDoor
set_option maxRecDepth 10000
open Go.RowKit

theorem RAOwn_n (A : Option Addr) (n cap : Nat) (ls : List Alm) (w : World) (hn : n = ls.length) (hA : AlmsAt w w.heap.size A ls) (hnil : A = none → cap = 0) (hl : ls.length ≤ 1000) :
    Calls Tryz.prog 27 #[.slice A n cap] w (OwnedA w ls) := by subst hn; exact RAOwn_any A cap ls w hA hnil hl
theorem RASort_n (A : Option Addr) (n cap : Nat) (ls : List Alm) (w : World) (hn : n = ls.length) (hA : AlmsAt w w.heap.size A ls) (hl : ls.length ≤ 1000) :
    Calls Tryz.prog 44 #[.slice A n cap] w (OwnedA w (Rk.sort ls)) := by subst hn; exact RASort_any A cap ls w hA hl

end Go.Proofs.YtpgichlaghhdeaaGreatDoor
