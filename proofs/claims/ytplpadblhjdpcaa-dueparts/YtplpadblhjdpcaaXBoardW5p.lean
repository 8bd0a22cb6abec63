/-
  Layer 8 (board): the walk of passed.
-/
import Derived.Test.YtplpadblhjdpcaaXJd
namespace Go.Proofs.Ytplpadblhjdpcaa
set_option maxRecDepth 10000
open Go.RowKit

set_option maxRecDepth 10000 in
set_option maxHeartbeats 2000000 in
theorem passed_any (A : Option Addr) (l c : Nat) (ls : List Alm) (t : Int) (w : World) (h : Told w A l c ls) :
    Calls Try.prog 24 #[.slice A l c, .int .i64 t] w (OwnedA w (Bd.passL t ls)) := by
  obtain ⟨hl, hA, _, hf⟩ := h
  have HS := Lib.hid ((St.start w).more (rowF A ls) hA)
  have Hl := Lib.hid hl
  have Hf := Lib.hid hf
  clear hl hA hf
  go_enter Try.func24, Try.ntmps24
  go_wp2_with fail
  go_loopw [5, 10] (fun out i wr => WoRel w l (Bd.passL t) ls out i wr) (fun _ i _ => l - (intOf i).toNat)
  case atStart => exact ⟨0, Nat.zero_le _, rfl, OwnA.nil _ _, Below.refl _ _⟩
  case round =>
    obtain ⟨k, hk, rfl, hown, hBr⟩ := hrel
    have HO := Lib.hid hown
    have HB := Lib.hid hBr
    have HSo := Lib.hid (HS.out.on hBr)
    clear hown hBr
    by_cases hlt : k < l
    · have kl : k < ls.length := by rw [← Hl.out]; exact hlt
      have HA : Hid (AlmsAt wr wr.heap.size A ls) := Lib.hid (HSo.out.fact 0 rfl)
      obtain ⟨b0, o0, rfl, hb0, h6⟩ := HA.out k kl
      have Hof := Lib.hid (Bd.pass_take (t := t) kl)
      have Hle : Hid ((Bd.passL t (ls.take k)).length ≤ 1000) := Lib.hid (by have h1 : (Bd.passL t (ls.take k)).length = (ls.take k).length := List.length_map _; have := Hf.out; have := Hl.out; rw [List.length_take] at h1; omega)
      obtain ⟨x, hx⟩ : ∃ x, x = ls[k] := ⟨_, rfl⟩
      rw [← hx] at h6 Hof
      clear hx
      obtain ⟨x0, x1, x2, x3, x4, x5⟩ := x
      have d0 := h6.c0
      have d1 := h6.c1
      have d2 := h6.c2
      have d3 := h6.c3
      have d4 := h6.c4
      have d5 := h6.c5
      simp only at d0 d1 d2 d3 d4 d5
      have i1 : (k : Int) < (l : Int) := by omega
      have i3 : (0 : Int) ≤ (k : Int) := by omega
      have Ik : Hid (wrap64 ((k : Int) + 1) = (k : Int) + 1) := Lib.hid (by have := Hf.out; unfold wrap64; omega)
      have Hk := Lib.hid hlt
      have g := fun W => APass_any x0 x1 x2 x3 x4 x5 t W
      obtain ⟨y, hy⟩ : ∃ y, y = Am.pass ⟨x0, x1, x2, x3, x4, x5⟩ t := ⟨_, rfl⟩
      simp only [← hy] at g
      rw [← hy] at Hof
      obtain ⟨y0, y1, y2, y3, y4, y5⟩ := y
      simp only [sixV] at g
      have HN1 := Lib.hid (below_new wr (.cells #[.int .i64 x0, .int .i64 x1, .int .i64 x2, .int .i64 x3, .int .i64 x4, .int .i64 x5] 36))
      clear h6 kl hk hlt hb0 hy
      go_wp2_with fail
      refine (g _).mono ?_
      rintro e w2 ⟨rfl, hB⟩
      have HB2 := Lib.hid (below2 HN1.out hB)
      have HN2 := Lib.hid (below2 HB2.out (below_new w2 (.cells #[.int .i64 y0, .int .i64 y1, .int .i64 y2, .int .i64 y3, .int .i64 y4, .int .i64 y5] 36)))
      have O2 := Lib.hid (HO.out.below HN2.out)
      have HB3 := Lib.hid (below2 HB.out HN2.out)
      have ON := Lib.hid (AlmsAt.one8 w2 y0 y1 y2 y3 y4 y5 36)
      clear hB d0 d1 d2 d3 d4 d5 g
      go_wp2_with (at_builtin; refine wpList_append_almsT rfl _ _ 57 rfl Try.underlying57 w.heap.size _ (Bd.passL t (ls.take k)) [(⟨y0, y1, y2, y3, y4, y5⟩ : Alm)] rfl O2.out (some ⟨w2.heap.size, 0, none⟩) 1 _ rfl rfl ON.out (fun e => nomatch e) HB3.out.size (by have := Hle.out; simp; omega) ?_; intro v3 w3 hown3 hgrow3; have O3 := Lib.hid hown3; have HB4 : Hid (Below w.heap.size w w3) := Lib.hid (HB3.out.grown hgrow3 HB3.out.size O2.out.ge8); clear hown3 hgrow3)
      go_roundw
      case rel => exact ⟨k + 1, Hk.out, by first | rfl | (rw [Ik.out]; rfl), by rw [Hof.out]; exact O3.out, HB4.out⟩
      case measure => have := Hk.out; (try rw [Ik.out]); simp [intOf]; omega
    · have ik : ((k : Int) < (l : Int)) = False := eq_false (by omega)
      have He : Hid (ls.take k = ls) := Lib.hid (List.take_of_length_le (by have := Hl.out; omega))
      rw [He.out] at HO
      clear hk hlt He
      go_wp2
      go_ret
      exact ⟨_, rfl, HO.out, HSo.out.below⟩
end Go.Proofs.Ytplpadblhjdpcaa
