/-
  Layer 8 (board): the walks of without and passed.
-/
import Derived.Test.YthlojadkgpmnmaaBoardW4
namespace Go.Proofs.Ythlojadkgpmnmaa
open Go.RowKit

def WoRel (w1 : World) (l : Nat) (f : List Alm → List Alm) (ls : List Alm) (out i : Value) (wr : World) : Prop :=
  ∃ k : Nat, k ≤ l ∧ i = .int .i64 (k : Int) ∧ OwnA wr w1.heap.size out (f (ls.take k)) ∧ Below w1.heap.size w1 wr

set_option maxRecDepth 10000 in
set_option maxHeartbeats 2000000 in
theorem without_any (A : Option Addr) (l c : Nat) (ls : List Alm) (b ch : Int) (w : World) (h : Told w A l c ls) :
    Calls Try.prog 40 #[.slice A l c, .agg #[.int .i64 b, .int .i64 ch]] w (OwnedA w (Bd.dropL b ch ls)) := by
  obtain ⟨hl, hA, _, hf⟩ := h
  have HS := Lib.hid (((St.start w).more (rowF A ls) hA).new #[.int .i64 b, .int .i64 ch] 26)
  have HZ : Hid (w.heap.size ≤ (w.alloc (.cells #[.int .i64 b, .int .i64 ch] 26)).heap.size) := Lib.hid (by simp)
  have Hl := Lib.hid hl
  have Hf := Lib.hid hf
  clear hl hA hf
  go_enter Try.func40, Try.ntmps40
  go_wp2_with fail
  obtain ⟨w1, hw1⟩ : ∃ W, W = w.alloc (.cells #[.int .i64 b, .int .i64 ch] 26) := ⟨_, rfl⟩
  rw [← hw1] at HS HZ ⊢
  clear hw1
  obtain ⟨p1, hp1⟩ : ∃ p, p = w.heap.size := ⟨_, rfl⟩
  rw [← hp1] at HS ⊢
  clear hp1
  go_wp2_with fail
  go_loopw [5, 10] (fun out i wr => WoRel w1 l (Bd.dropL b ch) ls out i wr) (fun _ i _ => l - (intOf i).toNat)
  case atStart => exact ⟨0, Nat.zero_le _, rfl, OwnA.nil _ _, Below.refl _ _⟩
  case round =>
    obtain ⟨k, hk, rfl, hown, hBr⟩ := hrel
    have HO := Lib.hid hown
    have HB := Lib.hid hBr
    have HSo := Lib.hid (HS.out.on hBr)
    clear hown hBr
    by_cases hlt : k < l
    · have kl : k < ls.length := by rw [← Hl.out]; exact hlt
      have HA : Hid (AlmsAt wr wr.heap.size A ls) := Lib.hid (HSo.out.fact 0 rfl)
      obtain ⟨b0, o0, rfl, hb0, h6⟩ := HA.out k kl
      have Hof := Lib.hid (Bd.drop_take (b := b) (c := ch) kl)
      have Hle : Hid ((Bd.dropL b ch (ls.take k)).length ≤ 1000) := Lib.hid (by have h1 : (Bd.dropL b ch (ls.take k)).length ≤ (ls.take k).length := List.length_filter_le _ _; have := Hf.out; have := Hl.out; rw [List.length_take] at h1; omega)
      obtain ⟨x, hx⟩ : ∃ x, x = ls[k] := ⟨_, rfl⟩
      rw [← hx] at h6 Hof
      clear hx
      obtain ⟨x0, x1, x2, x3, x4, x5⟩ := x
      have d0 := h6.c0
      have d1 := h6.c1
      have d2 := h6.c2
      have d3 := h6.c3
      have d4 := h6.c4
      have d5 := h6.c5
      simp only at d0 d1 d2 d3 d4 d5
      have i1 : (k : Int) < (l : Int) := by omega
      have i3 : (0 : Int) ≤ (k : Int) := by omega
      have Ik : Hid (wrap64 ((k : Int) + 1) = (k : Int) + 1) := Lib.hid (by have := Hf.out; unfold wrap64; omega)
      have Hk := Lib.hid hlt
      obtain ⟨z, hz⟩ : ∃ z, z = !decide (x0 = b ∧ x1 = ch) := ⟨_, rfl⟩
      have hq := fun W => run_neq_sp x0 x1 b ch z hz W
      have Ha : Hid (Bd.atS b ch ⟨x0, x1, x2, x3, x4, x5⟩ = !z) := Lib.hid (by rw [hz]; unfold Bd.atS; by_cases h1 : x0 = b <;> by_cases h2 : x1 = ch <;> simp [h1, h2])
      have HN1 := Lib.hid (below_new wr (.cells #[.int .i64 x0, .int .i64 x1, .int .i64 x2, .int .i64 x3, .int .i64 x4, .int .i64 x5] 28))
      have HSn := Lib.hid (HSo.out.on HN1.out)
      have HN2 := Lib.hid (below_new2 wr (.cells #[.int .i64 x0, .int .i64 x1, .int .i64 x2, .int .i64 x3, .int .i64 x4, .int .i64 x5] 28) (.cells #[.int .i64 x0, .int .i64 x1, .int .i64 x2, .int .i64 x3, .int .i64 x4, .int .i64 x5] 28))
      clear h6 kl hk hlt hb0 hz
      cases z
      · have Hof2 : Hid (Bd.dropL b ch (ls.take (k + 1)) = Bd.dropL b ch (ls.take k)) := Lib.hid (by rw [Hof.out, Ha.out]; exact List.append_nil _)
        have O2 := Lib.hid (HO.out.below HN1.out)
        have HB3 := Lib.hid (below2 HB.out HN1.out)
        clear Hof Ha
        go_wp2_with (refine wpList_load_st rfl 26 _ rfl HSn.out 0 _ _ rfl rfl _ Try.underlying26 rfl (by rfl) ?_)
        go_roundw
        case rel => exact ⟨k + 1, Hk.out, by first | rfl | (rw [Ik.out]; rfl), by rw [Hof2.out]; exact O2.out, HB3.out⟩
        case measure => have := Hk.out; (try rw [Ik.out]); simp [intOf]; omega
      · have Hof2 : Hid (Bd.dropL b ch (ls.take (k + 1)) = Bd.dropL b ch (ls.take k) ++ [⟨x0, x1, x2, x3, x4, x5⟩]) := Lib.hid (by rw [Hof.out, Ha.out]; rfl)
        have O2 := Lib.hid (HO.out.below HN2.out)
        have HB3 := Lib.hid (below2 HB.out HN2.out)
        have ON := Lib.hid (AlmsAt.one9 wr (.cells #[.int .i64 x0, .int .i64 x1, .int .i64 x2, .int .i64 x3, .int .i64 x4, .int .i64 x5] 28) x0 x1 x2 x3 x4 x5 28)
        clear Hof Ha
        go_wp2_with (first | (refine wpList_load_st rfl 26 _ rfl HSn.out 0 _ _ rfl rfl _ Try.underlying26 rfl (by rfl) ?_) | (at_builtin; refine wpList_append_almsT rfl _ _ 54 rfl Try.underlying54 w1.heap.size _ (Bd.dropL b ch (ls.take k)) [(⟨x0, x1, x2, x3, x4, x5⟩ : Alm)] rfl O2.out (some ⟨wr.heap.size + 1, 0, none⟩) 1 _ rfl rfl ON.out (fun e => nomatch e) HB3.out.size (by have := Hle.out; simp; omega) ?_; intro v3 w3 hown3 hgrow3; have O3 := Lib.hid hown3; have HB4 : Hid (Below w1.heap.size w1 w3) := Lib.hid (HB3.out.grown hgrow3 HB3.out.size O2.out.ge8); clear hown3 hgrow3 d0 d1 d2 d3 d4 d5))
        go_roundw
        case rel => exact ⟨k + 1, Hk.out, by first | rfl | (rw [Ik.out]; rfl), by rw [Hof2.out]; exact O3.out, HB4.out⟩
        case measure => have := Hk.out; (try rw [Ik.out]); simp [intOf]; omega
    · have ik : ((k : Int) < (l : Int)) = False := eq_false (by omega)
      have He : Hid (ls.take k = ls) := Lib.hid (List.take_of_length_le (by have := Hl.out; omega))
      rw [He.out] at HO
      have H1 := Lib.hid (HO.out.lower HZ.out)
      clear hk hlt He
      go_wp2
      go_ret
      exact ⟨_, rfl, H1.out, HSo.out.below⟩

set_option maxRecDepth 10000 in
set_option maxHeartbeats 2000000 in
theorem passed_any (A : Option Addr) (l c : Nat) (ls : List Alm) (t : Int) (w : World) (h : Told w A l c ls) :
    Calls Try.prog 42 #[.slice A l c, .int .i64 t] w (OwnedA w (Bd.passL t ls)) := by
  obtain ⟨hl, hA, _, hf⟩ := h
  have HS := Lib.hid ((St.start w).more (rowF A ls) hA)
  have Hl := Lib.hid hl
  have Hf := Lib.hid hf
  clear hl hA hf
  go_enter Try.func42, Try.ntmps42
  go_wp2_with fail
  go_loopw [5, 10] (fun out i wr => WoRel w l (Bd.passL t) ls out i wr) (fun _ i _ => l - (intOf i).toNat)
  case atStart => exact ⟨0, Nat.zero_le _, rfl, OwnA.nil _ _, Below.refl _ _⟩
  case round =>
    obtain ⟨k, hk, rfl, hown, hBr⟩ := hrel
    have HO := Lib.hid hown
    have HB := Lib.hid hBr
    have HSo := Lib.hid (HS.out.on hBr)
    clear hown hBr
    by_cases hlt : k < l
    · have kl : k < ls.length := by rw [← Hl.out]; exact hlt
      have HA : Hid (AlmsAt wr wr.heap.size A ls) := Lib.hid (HSo.out.fact 0 rfl)
      obtain ⟨b0, o0, rfl, hb0, h6⟩ := HA.out k kl
      have Hof := Lib.hid (Bd.pass_take (t := t) kl)
      have Hle : Hid ((Bd.passL t (ls.take k)).length ≤ 1000) := Lib.hid (by have h1 : (Bd.passL t (ls.take k)).length = (ls.take k).length := List.length_map _; have := Hf.out; have := Hl.out; rw [List.length_take] at h1; omega)
      obtain ⟨x, hx⟩ : ∃ x, x = ls[k] := ⟨_, rfl⟩
      rw [← hx] at h6 Hof
      clear hx
      obtain ⟨x0, x1, x2, x3, x4, x5⟩ := x
      have d0 := h6.c0
      have d1 := h6.c1
      have d2 := h6.c2
      have d3 := h6.c3
      have d4 := h6.c4
      have d5 := h6.c5
      simp only at d0 d1 d2 d3 d4 d5
      have i1 : (k : Int) < (l : Int) := by omega
      have i3 : (0 : Int) ≤ (k : Int) := by omega
      have Ik : Hid (wrap64 ((k : Int) + 1) = (k : Int) + 1) := Lib.hid (by have := Hf.out; unfold wrap64; omega)
      have Hk := Lib.hid hlt
      have g := fun W => APass_any x0 x1 x2 x3 x4 x5 t W
      obtain ⟨y, hy⟩ : ∃ y, y = Am.pass ⟨x0, x1, x2, x3, x4, x5⟩ t := ⟨_, rfl⟩
      simp only [← hy] at g
      rw [← hy] at Hof
      obtain ⟨y0, y1, y2, y3, y4, y5⟩ := y
      simp only [sixV] at g
      have HN1 := Lib.hid (below_new wr (.cells #[.int .i64 x0, .int .i64 x1, .int .i64 x2, .int .i64 x3, .int .i64 x4, .int .i64 x5] 28))
      clear h6 kl hk hlt hb0 hy
      go_wp2_with fail
      refine (g _).mono ?_
      rintro e w2 ⟨rfl, hB⟩
      have HB2 := Lib.hid (below2 HN1.out hB)
      have HN2 := Lib.hid (below2 HB2.out (below_new w2 (.cells #[.int .i64 y0, .int .i64 y1, .int .i64 y2, .int .i64 y3, .int .i64 y4, .int .i64 y5] 28)))
      have O2 := Lib.hid (HO.out.below HN2.out)
      have HB3 := Lib.hid (below2 HB.out HN2.out)
      have ON := Lib.hid (AlmsAt.one8 w2 y0 y1 y2 y3 y4 y5 28)
      clear hB d0 d1 d2 d3 d4 d5 g
      go_wp2_with (at_builtin; refine wpList_append_almsT rfl _ _ 54 rfl Try.underlying54 w.heap.size _ (Bd.passL t (ls.take k)) [(⟨y0, y1, y2, y3, y4, y5⟩ : Alm)] rfl O2.out (some ⟨w2.heap.size, 0, none⟩) 1 _ rfl rfl ON.out (fun e => nomatch e) HB3.out.size (by have := Hle.out; simp; omega) ?_; intro v3 w3 hown3 hgrow3; have O3 := Lib.hid hown3; have HB4 : Hid (Below w.heap.size w w3) := Lib.hid (HB3.out.grown hgrow3 HB3.out.size O2.out.ge8); clear hown3 hgrow3)
      go_roundw
      case rel => exact ⟨k + 1, Hk.out, by first | rfl | (rw [Ik.out]; rfl), by rw [Hof.out]; exact O3.out, HB4.out⟩
      case measure => have := Hk.out; (try rw [Ik.out]); simp [intOf]; omega
    · have ik : ((k : Int) < (l : Int)) = False := eq_false (by omega)
      have He : Hid (ls.take k = ls) := Lib.hid (List.take_of_length_le (by have := Hl.out; omega))
      rw [He.out] at HO
      clear hk hlt He
      go_wp2
      go_ret
      exact ⟨_, rfl, HO.out, HSo.out.below⟩
end Go.Proofs.Ythlojadkgpmnmaa
