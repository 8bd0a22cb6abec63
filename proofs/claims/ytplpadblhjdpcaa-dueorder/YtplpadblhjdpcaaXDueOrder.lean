/-
  Layer 9 (due): the law DueOrder, over the contracts.
-/
import Derived.Test.YtplpadblhjdpcaaXJa
import Derived.BigQuiet
import Derived.Deep.QuietTactic
namespace Go.Proofs.Ytplpadblhjdpcaa
set_option maxRecDepth 10000
open Go.RowKit

theorem TrnsAt.one (w : World) (x0 x1 x2 x3 : Int) (t : TypeId) : TrnsAt (w.alloc (.cells #[.int .i64 x0, .int .i64 x1, .int .i64 x2, .int .i64 x3] t)) (w.alloc (.cells #[.int .i64 x0, .int .i64 x1, .int .i64 x2, .int .i64 x3] t)).heap.size (some ⟨w.heap.size, 0, none⟩) [⟨x0, x1, x2, x3⟩] := fun i hi => by
  obtain rfl : i = 0 := by simpa using hi
  have h : ∀ j v, (#[.int .i64 x0, .int .i64 x1, .int .i64 x2, .int .i64 x3] : Array Value)[j]? = some v → (w.alloc (.cells #[.int .i64 x0, .int .i64 x1, .int .i64 x2, .int .i64 x3] t)).cell? ⟨w.heap.size, j, none⟩ = some v := fun j v hj => by
    rw [cell_of_row _ w.heap.size j _ t (0, 0) (heap_alloc_new w _)]; exact hj
  exact ⟨w.heap.size, 0, rfl, by simp, ⟨h 0 _ rfl, h 1 _ rfl, h 2 _ rfl, h 3 _ rfl⟩⟩
def BackRel (w1 : World) (l : Nat) (ts : List Trn) (out i : Value) (wr : World) : Prop :=
  ∃ j : Nat, j ≤ l ∧ i = .int .i64 ((j : Int) - 1) ∧ OwnT wr w1.heap.size out (ts.drop j).reverse ∧ Below w1.heap.size w1 wr

set_option maxRecDepth 10000 in
set_option maxHeartbeats 4000000 in
theorem dueOrder_go (HD : Hid DueK) (HT : Hid TSameK) (HC : Hid ComingK) (A : Option Addr) (l c : Nat) (ts : List Trn) (w : World) (hl : l = ts.length) (hA : TrnsAt w w.heap.size A ts) (h0 : A = none → c = 0) (hf : l ≤ 60) :
    Calls Try.prog 6 #[.slice A l c] w fun e w' => e = .returned (.bool true) ∧ Below w.heap.size w w' := by
  obtain ⟨M, hM⟩ : ∃ M, M = Du.order ts := ⟨_, rfl⟩
  have hlM : l = M.length := by rw [hM, Du.order_len]; exact hl
  have G1 := fun (W : World) (h : TrnsAt W W.heap.size A ts) => Lib.hid (HD.out.order A l c ts W hl h h0 (by omega))
  have G2 := fun (W : World) (A1 : Option Addr) (c1 : Nat) (h : TrnsAt W W.heap.size A1 M) (h1 : A1 = none → c1 = 0) => Lib.hid (HD.out.order A1 l c1 M W hlM h h1 (by omega))
  have G3 := fun (W : World) (A1 : Option Addr) (c1 : Nat) (h : TrnsAt W W.heap.size A1 ts.reverse) (h1 : A1 = none → c1 = 0) => Lib.hid (HD.out.order A1 l c1 ts.reverse W (by rw [List.length_reverse]; exact hl) h h1 (by omega))
  have S1 := fun (W : World) (A1 A2 : Option Addr) (c1 c2 : Nat) (h : TrnsAt W W.heap.size A1 M) (h1 : TrnsAt W W.heap.size A2 M) => Lib.hid (HT.out A1 A2 l c1 c2 M W hlM h h1 (by omega))
  simp only [← hM] at G1
  have e2 : Du.order M = M := by rw [hM, Du.order_again]
  have e3 : Du.order ts.reverse = M := by rw [hM, Du.order_back]
  simp only [e2] at G2
  simp only [e3] at G3
  have HtM : Hid (∀ i (h : i + 1 < M.length), (M[i]'(by omega)).tm ≤ (M[i + 1]'h).tm) := Lib.hid (fun i h => by subst hM; exact Du.order_tm h)
  have i60 : ((60 : Int) < (l : Int)) = False := eq_false (by omega)
  have iw : wrap64 ((l : Int) - 1) = (l : Int) - 1 := by unfold wrap64; omega
  have HS := Lib.hid ((St.start w).more (turnF A ts) hA)
  have Hl := Lib.hid hl
  have HlM := Lib.hid hlM
  have Hf := Lib.hid hf
  clear hl hA h0 hf hM hlM e2 e3
  go_enter Try.func6, Try.ntmps6
  go_wp2_with fail
  refine (G1 _ (HS.out.fact 0 rfl)).out.mono ?_
  rintro e w1 ⟨A1, c1, rfl, hO, hB⟩
  have N1 := Lib.hid hO.rows.2
  replace HS := Lib.hid ((HS.out.on hB).more (turnF A1 M) hO.rows.1)
  clear hO hB G1 i60
  go_wp2_with fail
  go_loopw [4, 5] (fun out i wr => BackRel w1 l ts out i wr) (fun _ i _ => (intOf i + 1).toNat)
  case atStart => exact ⟨l, Nat.le_refl _, by first | rfl | rw [iw], by rw [List.drop_eq_nil_of_le (by rw [Hl.out]; exact Nat.le_refl _)]; exact OwnT.nil _ _, Below.refl _ _⟩
  case round =>
    obtain ⟨j, hj, hi, hown, hBr⟩ := hrel
    have HO := Lib.hid hown
    have HB := Lib.hid hBr
    have HSo := Lib.hid (HS.out.on hBr)
    clear hown hBr iw
    rcases j with _ | k
    · have e : (((0 : Nat) : Int) - 1) = -1 := rfl
      rw [e] at hi
      subst hi
      clear e hj
      rw [List.drop_zero] at HO
      obtain ⟨A2, c2, rfl, hA2, hn2, _⟩ := HO.out.slice
      rw [List.length_reverse, ← Hl.out] at HO ⊢
      have HS2 := Lib.hid (HSo.out.more (turnF A2 ts.reverse) hA2)
      have N2 := Lib.hid hn2
      have HM : Hid (TrnsAt wr wr.heap.size A1 M) := Lib.hid (HSo.out.fact 0 rfl)
      clear hA2 hn2
      obtain ⟨wo, hwo⟩ : ∃ W, W = wr := ⟨_, rfl⟩
      subst hwo
      go_wp2_with fail
      go_loopw [6] (fun i wr => ∃ j q : Nat, i = .int .i64 ((j : Int) + 1) ∧ wr = wo.drewN q) (fun i _ => l - (intOf i).toNat)
      case atStart => exact ⟨0, 0, rfl, rfl⟩
      case round =>
        obtain ⟨j, q, rfl, rfl⟩ := hrel
        by_cases hlt : j + 1 < l
        · have kl : j + 1 < M.length := by rw [← HlM.out]; exact hlt
          obtain ⟨b0, o0, rfl, hb0, h6⟩ := HM.out j (by omega)
          obtain ⟨b1, o1, e1, hb1, h7⟩ := HM.out (j + 1) kl
          cases e1
          have hle := HtM.out j kl
          obtain ⟨x, hx⟩ : ∃ x, x = M[j]'(by omega) := ⟨_, rfl⟩
          obtain ⟨y, hy⟩ : ∃ y, y = M[j + 1]'kl := ⟨_, rfl⟩
          rw [← hx] at h6 hle
          rw [← hy] at h7 hle
          obtain ⟨x0, x1, x2, x3⟩ := x
          obtain ⟨y0, y1, y2, y3⟩ := y
          have d0 := h6.c0
          have f0 := h7.c0
          simp only at d0 f0 hle
          have ile : (y0 < x0) = False := eq_false (by omega)
          have i1 : (j : Int) + 1 < (l : Int) := by omega
          have i2 : (j : Int) < (l : Int) := by omega
          have i3 : (0 : Int) ≤ (j : Int) := by omega
          have i4 : (0 : Int) ≤ (j : Int) + 1 := by omega
          have i5 : ((j : Int) + 1).toNat = j + 1 := by omega
          have i8 : wrap64 (j : Int) = (j : Int) := by have := Hf.out; unfold wrap64; omega
          have i9 : IntKind.i64.wrap (j : Int) = (j : Int) := by have := Hf.out; clear i8; rw [IntKind.wrap_i64]; omega
          have Ik : Hid (wrap64 ((j : Int) + 1 + 1) = (j : Int) + 1 + 1) := Lib.hid (by have := Hf.out; clear i8 i9; unfold wrap64; omega)
          have Hk := Lib.hid hlt
          clear h6 h7 kl hlt hx hy hb0 hb1 hle
          go_wp2
          go_quiet (fail)
          go_wp2
          go_roundw
          case rel => exact ⟨j + 1, _, by first | rfl | (rw [Ik.out]; rfl), rfl⟩
          case measure => have := Hk.out; (try rw [Ik.out]); simp [intOf]; omega
        · have ik : ((j : Int) + 1 < (l : Int)) = False := eq_false (by omega)
          have HS3 := Lib.hid (HS2.out.drewN q)
          clear hlt HS2 HO HM
          go_wp2_with fail
          refine (HC.out _).mono ?_
          rintro e w3 ⟨rfl, hB⟩
          replace HS3 := Lib.hid (HS3.out.on hB)
          clear hB
          go_wp2_with fail
          refine (G2 _ A1 c1 (HS3.out.fact 1 rfl) N1.out).out.mono ?_
          rintro e w4 ⟨A4, c4, rfl, hO, hB⟩
          replace HS3 := Lib.hid ((HS3.out.on hB).more (turnF A4 M) hO.rows.1)
          clear hB hO G2
          go_wp2_with fail
          refine (S1 _ A4 A1 c4 c1 (HS3.out.fact 0 rfl) (HS3.out.fact 2 rfl)).out.mono ?_
          rintro e w5 ⟨rfl, hB⟩
          replace HS3 := Lib.hid (HS3.out.on hB)
          clear hB
          go_wp2_with fail
          refine (G3 _ A2 c2 (HS3.out.fact 1 rfl) N2.out).out.mono ?_
          rintro e w6 ⟨A6, c6, rfl, hO, hB⟩
          replace HS3 := Lib.hid ((HS3.out.on hB).more (turnF A6 M) hO.rows.1)
          clear hB hO G3
          go_wp2_with fail
          refine (S1 _ A6 A1 c6 c1 (HS3.out.fact 0 rfl) (HS3.out.fact 3 rfl)).out.mono ?_
          rintro e w7 ⟨rfl, hB⟩
          replace HS3 := Lib.hid (HS3.out.on hB)
          clear hB S1
          go_wp2
          go_ret
          exact ⟨rfl, HS3.out.below⟩
    · have e : (((k + 1 : Nat) : Int) - 1) = (k : Int) := by omega
      rw [e] at hi
      subst hi
      have kl : k < ts.length := by rw [← Hl.out]; omega
      have HAw : Hid (TrnsAt wr wr.heap.size A ts) := Lib.hid (HSo.out.fact 1 rfl)
      obtain ⟨b0, o0, rfl, hb0, h6⟩ := HAw.out k kl
      have Hof : Hid ((ts.drop k).reverse = (ts.drop (k + 1)).reverse ++ [ts[k]'kl]) := Lib.hid (by rw [List.drop_eq_getElem_cons kl, List.reverse_cons])
      have Hle : Hid ((ts.drop (k + 1)).reverse.length ≤ 1000) := Lib.hid (by rw [List.length_reverse, List.length_drop]; have := Hf.out; have := Hl.out; omega)
      obtain ⟨x, hx⟩ : ∃ x, x = ts[k]'kl := ⟨_, rfl⟩
      rw [← hx] at h6 Hof
      clear hx
      obtain ⟨x0, x1, x2, x3⟩ := x
      have d0 := h6.c0
      have d1 := h6.c1
      have d2 := h6.c2
      have d3 := h6.c3
      simp only at d0 d1 d2 d3
      have i1 : (k : Int) < (l : Int) := by omega
      have i3 : (0 : Int) ≤ (k : Int) := by omega
      have Ik : Hid (wrap64 ((k : Int) - 1) = (k : Int) - 1) := Lib.hid (by have := Hf.out; unfold wrap64; omega)
      have Hk : Hid (k ≤ l) := Lib.hid (by omega)
      have HN2 := Lib.hid (below_new wr (.cells #[.int .i64 x0, .int .i64 x1, .int .i64 x2, .int .i64 x3] 38))
      have O2 := Lib.hid (HO.out.below HN2.out)
      have ON := Lib.hid (TrnsAt.one wr x0 x1 x2 x3 38)
      have HB3 := Lib.hid (below2 HB.out HN2.out)
      clear h6 kl e hj hb0 HAw
      go_wp2_with (at_builtin; refine wpList_append_trns rfl _ _ 26 rfl Try.underlying26 w1.heap.size _ (ts.drop (k + 1)).reverse [(⟨x0, x1, x2, x3⟩ : Trn)] rfl O2.out (some ⟨wr.heap.size, 0, none⟩) 1 _ rfl rfl ON.out (fun e => nomatch e) HB3.out.size (by have := Hle.out; simp only [List.length_cons, List.length_nil]; omega) ?_; intro v5 w5 hown5 hgrow5; rw [← Hof.out] at hown5; have O5 := Lib.hid hown5; have HB5 : Hid (Below w1.heap.size w1 w5) := Lib.hid (HB3.out.grown hgrow5 HB3.out.size O2.out.ge); clear hown5 hgrow5 d0 d1 d2 d3)
      go_roundw
      case rel => exact ⟨k, Hk.out, by first | rfl | (rw [Ik.out]), O5.out, HB5.out⟩
      case measure => (try rw [Ik.out]); simp [intOf]
theorem dueOrder_far (A : Option Addr) (l c : Nat) (w : World) (hf : 60 < l) :
    Calls Try.prog 6 #[.slice A l c] w fun e w' => e = .returned (.bool true) ∧ Below w.heap.size w w' := by
  have i60 : (60 : Int) < (l : Int) := by omega
  clear hf
  go_enter Try.func6, Try.ntmps6
  go_wp2
  go_ret
  exact ⟨rfl, Below.refl _ _⟩
theorem dueOrder_walk (HD : Hid DueK) (HT : Hid TSameK) (HC : Hid ComingK) (A : Option Addr) (c : Nat) (ts : List Trn) (w : World) (hA : TrnsAt w w.heap.size A ts) (h0 : A = none → c = 0) :
    Calls Try.prog 6 #[.slice A ts.length c] w fun e w' => e = .returned (.bool true) ∧ Below w.heap.size w w' := by
  by_cases hf : 60 < ts.length
  · exact dueOrder_far A ts.length c w hf
  · exact dueOrder_go HD HT HC A ts.length c ts w rfl hA h0 (by omega)
end Go.Proofs.Ytplpadblhjdpcaa
