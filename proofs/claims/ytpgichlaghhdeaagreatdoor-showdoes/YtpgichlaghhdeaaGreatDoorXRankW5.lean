/-
  Layer 7 (rank): alarms: a row of alarms out of one that was ranked.
-/
import Derived.Test.YtpgichlaghhdeaaGreatDoorXRankW4
import Derived.Deep.MidRow
import Derived.OwnWalk
namespace Go.Proofs.YtpgichlaghhdeaaGreatDoor
set_option maxRecDepth 10000
open Go.RowKit

theorem set_six (A C : List Value) (y0 y1 y2 y3 y4 y5 v0 v1 v2 v3 v4 v5 : Value) :
    ((((((A ++ y0 :: y1 :: y2 :: y3 :: y4 :: y5 :: C).set A.length v0).set (A.length + 1) v1).set (A.length + 1 + 1) v2).set (A.length + 1 + 1 + 1) v3).set (A.length + 1 + 1 + 1 + 1) v4).set (A.length + 1 + 1 + 1 + 1 + 1) v5 = A ++ v0 :: v1 :: v2 :: v3 :: v4 :: v5 :: C := by
  induction A with
  | nil => rfl
  | cons a A ih =>
    simp only [List.cons_append, List.length_cons, List.set_cons_succ]
    rw [ih]

theorem setCells_six (w : World) (g o : Nat) (x : Alm) : w.setCells g o (almV x) = (((((w.setCell ⟨g, o, none⟩ (.int .i64 x.b)).setCell ⟨g, o + 1, none⟩ (.int .i64 x.c)).setCell ⟨g, o + 1 + 1, none⟩ (.int .i64 x.ph)).setCell ⟨g, o + 1 + 1 + 1, none⟩ (.int .i64 x.pr)).setCell ⟨g, o + 1 + 1 + 1 + 1, none⟩ (.int .i64 x.si)).setCell ⟨g, o + 1 + 1 + 1 + 1 + 1, none⟩ (.int .i64 x.un) := rfl

theorem grown_cell (w : World) (g i : Nat) (v : Value) : w.grownBy (w.setCell ⟨g, i, none⟩ v) (some g) :=
  ⟨rfl, rfl, rfl, by simp [World.setCell], fun k _ hne => heap_setCell_other w ⟨g, i, none⟩ k v (fun e => hne (by rw [e]))⟩
theorem grown_two {a b c : World} {r : Option Nat} (h : a.grownBy b r) (k : b.grownBy c r) : a.grownBy c r := by
  obtain ⟨h1, h2, h3, h4, h5⟩ := h
  obtain ⟨k1, k2, k3, k4, k5⟩ := k
  exact ⟨k1.trans h1, k2.trans h2, k3.trans h3, Nat.le_trans h4 k4, fun i hi hne => (k5 i (Nat.lt_of_lt_of_le hi h4) hne).trans (h5 i hi hne)⟩

/-- One alarm of a row of one's own is another one. -/
theorem OwnA.put {w : World} {base g n cap : Nat} {pre post : List Alm} {y : Alm} (x : Alm) (h : OwnA w base (.slice (some ⟨g, 0, none⟩) n cap) (pre ++ y :: post)) :
    OwnA (w.setCells g (pre.length * 6) (almV x)) base (.slice (some ⟨g, 0, none⟩) n cap) (pre ++ x :: post) ∧ w.grownBy (w.setCells g (pre.length * 6) (almV x)) (some g) := by
  obtain ⟨h0, h1⟩ := h
  rcases h1 with ⟨e, _⟩ | ⟨g', cap', cur, e, hb, hg, hcap, hmax, hsz, ht⟩
  · cases e
  · injection e with e1 e2 e3
    injection e1 with e1
    injection e1 with e1
    subst e1 e3
    have hA : (flat6 pre).length = pre.length * 6 := flat6_len pre
    rw [setCells_six, ← hA]
    refine ⟨⟨?_, Or.inr ⟨g, cap, _, ?_, hb, heap_setCell_same _ _ _ _ _ _ (heap_setCell_same _ _ _ _ _ _ (heap_setCell_same _ _ _ _ _ _ (heap_setCell_same _ _ _ _ _ _ (heap_setCell_same _ _ _ _ _ _ (heap_setCell_same _ _ _ _ _ _ hg))))), ?_, hmax, ?_, ?_⟩⟩, ?_⟩
    · rw [flat6_len]
    · rw [e2]; simp
    · simpa using hcap
    · simpa using hsz
    · have el : (pre ++ x :: post).length = (pre ++ y :: post).length := by simp
      rw [el]
      rw [flat6_app, flat6_cons] at ht ⊢
      simp only [Array.toList_setIfInBounds, List.take_set, ht]
      exact set_six _ _ _ _ _ _ _ _ _ _ _ _ _ _
    · exact grown_two (grown_two (grown_two (grown_two (grown_two (grown_cell _ _ _ _) (grown_cell _ _ _ _)) (grown_cell _ _ _ _)) (grown_cell _ _ _ _)) (grown_cell _ _ _ _)) (grown_cell _ _ _ _)

/-- Its cells are there. -/
theorem OwnA.there {w : World} {base g n cap : Nat} {pre post : List Alm} {y : Alm} (h : OwnA w base (.slice (some ⟨g, 0, none⟩) n cap) (pre ++ y :: post)) : w.there g (pre.length * 6) 6 := fun j hj => by
  have h6 : (flat6 (pre ++ y :: post))[pre.length * 6 + j]? ≠ none := by
    intro e
    rw [List.getElem?_eq_none_iff, flat6_len] at e
    simp at e
    omega
  obtain ⟨u, hu⟩ := Option.ne_none_iff_exists'.1 h6
  have hc := World.ownsRow.cells h (g := g) rfl _ _ hu
  rw [Go.WideShapes.add_plain, Nat.zero_add] at hc
  refine ⟨by rw [hc]; rfl, ?_⟩
  rcases h.2 with ⟨e, _⟩ | ⟨g', cap', cur, e, _, hg, _⟩
  · cases e
  · injection e with e1
    injection e1 with e1
    injection e1 with e1
    subst e1
    exact frozen_of_row w g _ _ _ hg

/-- A whole alarm is laid into a row of one's own. -/
theorem wpList_store_alm {ops : Array Oper} {rest : List Oper} {o : Oper} {a : Act} {w : World} {Q : Exit → Act → World → Prop} (hgd : o.guard = none) (x y : Operand) (ho : o.op = .store 25 x y)
    (base g n cap k : Nat) (pre post : List Alm) (z al : Alm) (hk : k = pre.length) (hx : a.eval x = .pointer (some ⟨g, k * 6, none⟩)) (hy : a.eval y = .agg (sixV al)) (hO : OwnA w base (.slice (some ⟨g, 0, none⟩) n cap) (pre ++ z :: post))
    (h : ∀ w', OwnA w' base (.slice (some ⟨g, 0, none⟩) n cap) (pre ++ al :: post) → w.grownBy w' (some g) → wpList Tryz.prog ops Q rest (a.put o.dst undef) w') : wpList Tryz.prog ops Q (o :: rest) a w := by
  subst hk
  refine wpList_store_mid hgd 25 x y ho g (pre.length * 6) (sixV al) hx hy hO.there (by rfl) (six_one al) ?_
  have hp := hO.put al
  exact h _ hp.1 hp.2

/-- Alarms of nothing. -/
def zeros (n : Nat) : List Alm := List.replicate n ⟨0, 0, 0, 0, 0, 0⟩
theorem zeros_cells : ∀ n : Nat, flat6 (zeros n) = List.replicate (n * 6) (Value.int .i64 0)
  | 0 => rfl
  | n + 1 => by
    have ih := zeros_cells n
    unfold zeros at ih ⊢
    rw [List.replicate_succ, flat6_cons, ih, show (n + 1) * 6 = n * 6 + 1 + 1 + 1 + 1 + 1 + 1 by omega]
    simp only [List.replicate_succ]

theorem zeros_len (n : Nat) : (zeros n).length = n := by unfold zeros; rw [List.length_replicate]

def AlmRel (w : World) (n : Nat) (ls : List Alm) (i : Value) (wr : World) : Prop :=
  ∃ k : Nat, k ≤ n ∧ i = .int .i64 (k : Int) ∧ OwnA wr w.heap.size (.slice (some ⟨w.heap.size, 0, none⟩) n n) (ls.take k ++ zeros (n - k)) ∧ Below w.heap.size w wr

theorem made_zeros (n : Nat) : (madeCells (Value.agg #[.int .i64 0, .int .i64 0, .int .i64 0, .int .i64 0, .int .i64 0, .int .i64 0]).cells (n * 6)).toList = flat6 (zeros n) := by
  rw [zeros_cells]
  apply List.ext_getElem
  · simp [madeCells]
  · intro i h1 h2
    have hm : i % 6 = 0 ∨ i % 6 = 1 ∨ i % 6 = 2 ∨ i % 6 = 3 ∨ i % 6 = 4 ∨ i % 6 = 5 := by omega
    simp only [madeCells, Value.cells, Array.toList_map, List.getElem_map, Array.getElem_toList, Array.getElem_range, List.getElem_replicate]
    show (#[Value.int .i64 0, .int .i64 0, .int .i64 0, .int .i64 0, .int .i64 0, .int .i64 0])[i % 6]! = _
    rcases hm with hm | hm | hm | hm | hm | hm <;> rw [hm] <;> rfl

set_option maxRecDepth 10000 in
set_option maxHeartbeats 4000000 in
theorem kalarms_any (A0 : Option Addr) (n cap0 : Nat) (ls : List Alm) (w : World) (hn : n = ls.length) (hA : AlmsAt w w.heap.size A0 ls) (hl : n ≤ 1000) :
    Calls Tryz.prog 98 #[.slice A0 n cap0] w (OwnedA w ls) := by
  have HA := Lib.hid hA
  have Hn := Lib.hid hn
  have Hl := Lib.hid hl
  clear hA hn hl
  obtain ⟨i0, hi, hz0, hz1, hz2⟩ := info_parts Tryz.infoAl
  have HI := Lib.hid hi
  have HZ0 := Lib.hid hz0
  have HZ1 := Lib.hid hz1
  have HZ2 := Lib.hid hz2
  clear hi hz0 hz1 hz2
  go_enter Tryz.func98, Tryz.ntmps98
  go_wp2_with (refine wpList_make_full w rfl _ _ 26 rfl w.heap.size 25 i0 _ 6 Tryz.underlying26 HI.out HZ0.out HZ1.out .i64 .i64 (n : Int) (n : Int) n rfl rfl rfl rfl (by rw [HZ2.out]; have := Hl.out; omega) (by have := Hl.out; unfold maxLen; omega) (Nat.le_refl _) ?_
               intro w1 hown hgrow
               have HO := Lib.hid hown
               have HB : Hid (Below w.heap.size w w1) := Lib.hid ((Below.refl _ w).grown hgrow (Nat.le_refl _) (fun k hk => nomatch hk))
               clear hown hgrow)
  rw [made_zeros] at HO
  go_loopw [11] (fun i wr => AlmRel w n ls i wr) (fun i _ => n - (intOf i).toNat)
  case atStart => exact ⟨0, Nat.zero_le _, rfl, by unfold OwnA; rw [List.take_zero, List.nil_append, Nat.sub_zero, zeros_len]; exact HO.out, HB.out⟩
  case round =>
    obtain ⟨k, hk, rfl, hown, hB⟩ := hrel
    have HOi := Lib.hid hown
    have HBi := Lib.hid hB
    clear hown hB HO HB
    by_cases hlt : k < n
    · have kl : k < ls.length := by rw [← Hn.out]; exact hlt
      have Htk := Lib.hid (List.take_succ_eq_append_getElem kl)
      have Hz : Hid (zeros (n - k) = ⟨0, 0, 0, 0, 0, 0⟩ :: zeros (n - (k + 1))) := Lib.hid (by unfold zeros; rw [show n - k = (n - (k + 1)) + 1 by omega, List.replicate_succ])
      obtain ⟨b1, o1, rfl, hb1, h6⟩ := (HA.out.below HBi.out (Nat.le_refl _)) k kl
      obtain ⟨x, hx⟩ : ∃ x, x = ls[k] := ⟨_, rfl⟩
      rw [← hx] at h6 Htk
      clear hx
      obtain ⟨x0, x1, x2, x3, x4, x5⟩ := x
      have c0 := h6.c0
      have c1 := h6.c1
      have c2 := h6.c2
      have c3 := h6.c3
      have c4 := h6.c4
      have c5 := h6.c5
      simp only at c0 c1 c2 c3 c4 c5
      have i1 : (k : Int) < (n : Int) := by omega
      have i3 : (0 : Int) ≤ (k : Int) := by omega
      have Ik : Hid (wrap64 ((k : Int) + 1) = (k : Int) + 1) := Lib.hid (by have := Hl.out; unfold wrap64; omega)
      have Hk := Lib.hid hlt
      have HZ := Lib.hid (Six.new wr 0 0 0 0 0 0 79)
      have HZB := Lib.hid (below_new wr (.cells #[.int .i64 0, .int .i64 0, .int .i64 0, .int .i64 0, .int .i64 0, .int .i64 0] 79))
      have Hpl : Hid (k = (ls.take k).length) := Lib.hid (by rw [List.length_take]; omega)
      rw [Hz.out] at HOi
      clear h6 kl hk hlt
      go_wp2_with (first
        | (refine wpList_store_six rfl 79 _ _ rfl wr.heap.size _ ⟨x0, x1, x2, x3, x4, x5⟩ rfl rfl HZ.out (by rfl) ?_
           intro w2 hw2
           have K2 := HZ.out.put6 hw2
           have HB2 := Lib.hid (below_put6 HZB.out (Nat.le_refl _) hw2)
           clear hw2 c0 c1 c2 c3 c4 c5
           have c0 := K2.c0
           have c1 := K2.c1
           have c2 := K2.c2
           have c3 := K2.c3
           have c4 := K2.c4
           have c5 := K2.c5
           simp only at c0 c1 c2 c3 c4 c5
           clear K2
           have O2 := Lib.hid (HOi.out.below HB2.out))
        | (refine wpList_store_alm rfl _ _ rfl w.heap.size w.heap.size n n k (ls.take k) _ ⟨0, 0, 0, 0, 0, 0⟩ ⟨x0, x1, x2, x3, x4, x5⟩ Hpl.out rfl rfl O2.out ?_
           intro w3 hown3 hgrow3
           have O3 := Lib.hid hown3
           have HB4 : Hid (Below w.heap.size w w3) := Lib.hid ((below2 HBi.out HB2.out).grown hgrow3 (below2 HBi.out HB2.out).size (fun k hk => by cases hk; exact Nat.le_refl _))
           clear hown3 hgrow3 c0 c1 c2 c3 c4 c5))
      go_roundw
      case rel => exact ⟨k + 1, Hk.out, by first | rfl | (rw [Ik.out]; rfl), by rw [Htk.out, List.append_assoc]; exact O3.out, HB4.out⟩
      case measure => have := Hk.out; (try rw [Ik.out]); simp [intOf]; omega
    · have ik : ((k : Int) < (n : Int)) = False := eq_false (by omega)
      have He : Hid (ls.take k ++ zeros (n - k) = ls) := Lib.hid (by rw [List.take_of_length_le (by have := Hn.out; omega), show n - k = 0 by omega]; exact List.append_nil _)
      rw [He.out] at HOi
      clear hk hlt He
      go_wp2
      go_ret
      exact ⟨_, rfl, HOi.out, HBi.out⟩
end Go.Proofs.YtpgichlaghhdeaaGreatDoor
