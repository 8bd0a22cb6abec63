/-
  Layer 8 (board), the reference: Of.
-/
import Derived.Test.YthlojadkgpmnmaaRefBoard1
import Derived.Test.YthlojadkgpmnmaaBoardBeds
namespace Go.Proofs.Ythlojadkgpmnmaa
open Go.RowKit

theorem OwnA.ge8 {w : World} {base : Nat} {v : Value} {ls : List Alm} (h : OwnA w base v ls) : ∀ k, v.ownBlock = some k → base ≤ k := fun k hk => (World.ownsRow.lt h k hk).1
theorem AlmsAt.one8 (w : World) (x0 x1 x2 x3 x4 x5 : Int) (t : TypeId) : AlmsAt (w.alloc (.cells #[.int .i64 x0, .int .i64 x1, .int .i64 x2, .int .i64 x3, .int .i64 x4, .int .i64 x5] t)) (w.alloc (.cells #[.int .i64 x0, .int .i64 x1, .int .i64 x2, .int .i64 x3, .int .i64 x4, .int .i64 x5] t)).heap.size (some ⟨w.heap.size, 0, none⟩) [⟨x0, x1, x2, x3, x4, x5⟩] := fun i hi => by
  obtain rfl : i = 0 := by simpa using hi
  have h := Six.new w x0 x1 x2 x3 x4 x5 t
  exact ⟨w.heap.size, 0, rfl, h.lt, ⟨h.c0, h.c1, h.c2, h.c3, h.c4, h.c5⟩⟩

def OfRel (w1 : World) (l : Nat) (zs : List Int) (ls : List Alm) (out i : Value) (wr : World) : Prop :=
  ∃ k : Nat, k ≤ l ∧ i = .int .i64 (k : Int) ∧ OwnA wr w1.heap.size out (Bd.ofL zs (ls.take k)) ∧ Below w1.heap.size w1 wr

set_option maxRecDepth 10000 in
set_option maxHeartbeats 4000000 in
theorem rbOf (m n : Int) (A : Option Addr) (l c : Nat) (ls : List Alm) (B : Option Addr) (lb cb : Nat) (zs : List Int) (w : World) (h : Told w A l c ls) (hlb : lb = zs.length) (hB : IntsAt w w.heap.size B zs) (hf2 : lb ≤ 1000) :
    Calls Try.prog 23 #[.agg #[.int .i64 m, .int .i64 n, .slice A l c], .slice B lb cb] w (OwnedA w (Bd.ofL zs ls)) := by
  obtain ⟨hl, hA, _, hf⟩ := h
  have HS := Lib.hid ((((St.start w).more (rowF A ls) hA).more (numF B zs) hB).new #[.int .i64 m, .int .i64 n, .slice A l c] 24)
  have HZ : Hid (w.heap.size ≤ (w.alloc (.cells #[.int .i64 m, .int .i64 n, .slice A l c] 24)).heap.size) := Lib.hid (by simp)
  have Hl := Lib.hid hl
  have Hlb := Lib.hid hlb
  have Hf := Lib.hid hf
  have Hf2 := Lib.hid hf2
  clear hl hA hlb hB hf hf2
  go_enter Try.func23, Try.ntmps23
  go_wp2_with fail
  obtain ⟨w1, hw1⟩ : ∃ W, W = w.alloc (.cells #[.int .i64 m, .int .i64 n, .slice A l c] 24) := ⟨_, rfl⟩
  rw [← hw1] at HS HZ ⊢
  clear hw1
  obtain ⟨p1, hp1⟩ : ∃ p, p = w.heap.size := ⟨_, rfl⟩
  rw [← hp1] at HS ⊢
  clear hp1
  go_loopw [5, 6] (fun out i wr => OfRel w1 l zs ls out i wr) (fun _ i _ => l - (intOf i).toNat)
  case atStart => exact ⟨0, Nat.zero_le _, rfl, OwnA.nil _ _, Below.refl _ _⟩
  case round =>
    obtain ⟨k, hk, rfl, hown, hBr⟩ := hrel
    obtain ⟨wo, hwo⟩ : ∃ W, W = wr := ⟨_, rfl⟩
    subst hwo
    have HO := Lib.hid hown
    have HB := Lib.hid hBr
    have HSo := Lib.hid (HS.out.on hBr)
    clear hown hBr
    have s2 := HSo.out.cell 0 rfl 2 rfl
    by_cases hlt : k < l
    · have kl : k < ls.length := by rw [← Hl.out]; exact hlt
      have HA : Hid (AlmsAt wo wo.heap.size A ls) := Lib.hid (HSo.out.fact 1 rfl)
      have HN : Hid (IntsAt wo wo.heap.size B zs) := Lib.hid (HSo.out.fact 0 rfl)
      obtain ⟨b0, o0, rfl, hb0, h6⟩ := HA.out k kl
      have Hof := Lib.hid (Bd.of_take (zs := zs) kl)
      have Hle : Hid ((Bd.ofL zs (ls.take k)).length ≤ 1000) := Lib.hid (by have h1 : (Bd.ofL zs (ls.take k)).length ≤ (ls.take k).length := List.length_filter_le _ _; have := Hf.out; have := Hl.out; rw [List.length_take] at h1; omega)
      obtain ⟨x, hx⟩ : ∃ x, x = ls[k] := ⟨_, rfl⟩
      rw [← hx] at h6 Hof
      clear hx
      obtain ⟨x0, x1, x2, x3, x4, x5⟩ := x
      simp only at Hof
      have d0 := h6.c0
      have d1 := h6.c1
      have d2 := h6.c2
      have d3 := h6.c3
      have d4 := h6.c4
      have d5 := h6.c5
      simp only at d0 d1 d2 d3 d4 d5
      have i1 : (k : Int) < (l : Int) := by omega
      have i3 : (0 : Int) ≤ (k : Int) := by omega
      have Ik : Hid (wrap64 ((k : Int) + 1) = (k : Int) + 1) := Lib.hid (by have := Hf.out; unfold wrap64; omega)
      have Hk := Lib.hid hlt
      clear h6 kl hk hlt hb0
      go_wp2_with fail
      go_loopw [7, 8] (fun inn kk wr => ∃ j q : Nat, j ≤ lb ∧ kk = .int .i64 (j : Int) ∧ inn = .bool ((zs.take j).any (fun z => z == x0)) ∧ wr = wo.drewN q) (fun _ kk _ => lb - (intOf kk).toNat)
      case atStart => exact ⟨0, 0, Nat.zero_le _, rfl, rfl, rfl⟩
      case round =>
        obtain ⟨j, q2, hj, rfl, rfl, rfl⟩ := hrel
        by_cases hlt : j < lb
        · have jl : j < zs.length := by rw [← Hlb.out]; exact hlt
          obtain ⟨b1, o1, rfl, hb1, hc⟩ := HN.out j jl
          have Hany := Lib.hid (any_take (x := x0) jl)
          obtain ⟨z, hz⟩ : ∃ z, z = zs[j] := ⟨_, rfl⟩
          rw [← hz] at hc Hany
          clear hz
          obtain ⟨bb, hbb⟩ : ∃ b, b = (zs.take j).any (fun z => z == x0) := ⟨_, rfl⟩
          rw [← hbb] at Hany ⊢
          clear hbb
          have j1 : (j : Int) < (lb : Int) := by omega
          have j3 : (0 : Int) ≤ (j : Int) := by omega
          have Ij : Hid (wrap64 ((j : Int) + 1) = (j : Int) + 1) := Lib.hid (by have := Hf2.out; unfold wrap64; omega)
          have Hj := Lib.hid hlt
          clear jl hj hlt hb1
          cases bb
          · go_wp2
            go_quiet (fail)
            go_wp2
            go_roundw
            case rel => exact ⟨j + 1, _, Hj.out, by first | rfl | (rw [Ij.out]; rfl), by rw [Hany.out]; rfl, rfl⟩
            case measure => have := Hj.out; (try rw [Ij.out]); simp [intOf]; omega
          · go_wp2
            go_quiet (fail)
            go_wp2
            go_roundw
            case rel => exact ⟨j + 1, _, Hj.out, by first | rfl | (rw [Ij.out]; rfl), by rw [Hany.out]; rfl, rfl⟩
            case measure => have := Hj.out; (try rw [Ij.out]); simp [intOf]; omega
        · have ik : ((j : Int) < (lb : Int)) = False := eq_false (by omega)
          have He : Hid (zs.take j = zs) := Lib.hid (List.take_of_length_le (by have := Hlb.out; omega))
          rw [He.out]
          have HOq : Hid (OwnA (wo.drewN q2) w1.heap.size u5 (Bd.ofL zs (ls.take k))) := HO
          have HBq := Lib.hid (below_drew HB.out q2)
          clear hj hlt He
          cases hit : zs.any (fun z => z == x0)
          · have Hof2 : Hid (Bd.ofL zs (ls.take (k + 1)) = Bd.ofL zs (ls.take k)) := Lib.hid (by rw [Hof.out, hit]; exact List.append_nil _)
            clear Hof hit
            go_wp2
            go_roundw
            case rel => exact ⟨k + 1, Hk.out, by first | rfl | (rw [Ik.out]; rfl), by rw [Hof2.out]; exact HOq.out, HBq.out⟩
            case measure => have := Hk.out; (try rw [Ik.out]); simp [intOf]; omega
          · have Hof2 : Hid (Bd.ofL zs (ls.take (k + 1)) = Bd.ofL zs (ls.take k) ++ [⟨x0, x1, x2, x3, x4, x5⟩]) := Lib.hid (by rw [Hof.out, hit]; rfl)
            clear Hof hit
            have HN2 := Lib.hid (below_new (wo.drewN q2) (.cells #[.int .i64 x0, .int .i64 x1, .int .i64 x2, .int .i64 x3, .int .i64 x4, .int .i64 x5] 28))
            have O2 := Lib.hid (HOq.out.below HN2.out)
            have ON := Lib.hid (AlmsAt.one8 (wo.drewN q2) x0 x1 x2 x3 x4 x5 28)
            have HB3 := Lib.hid (below2 HBq.out HN2.out)
            go_wp2_with (at_builtin; refine wpList_append_alms rfl _ _ rfl w1.heap.size _ (Bd.ofL zs (ls.take k)) [(⟨x0, x1, x2, x3, x4, x5⟩ : Alm)] rfl O2.out (some ⟨(wo.drewN q2).heap.size, 0, none⟩) 1 _ rfl rfl ON.out (fun e => nomatch e) HB3.out.size (by have := Hle.out; simp; omega) ?_; intro v3 w3 hown3 hgrow3; have O3 := Lib.hid hown3; have HB4 : Hid (Below w1.heap.size w1 w3) := Lib.hid (HB3.out.grown hgrow3 HB3.out.size O2.out.ge8); clear hown3 hgrow3 d0 d1 d2 d3 d4 d5 s2)
            go_roundw
            case rel => exact ⟨k + 1, Hk.out, by first | rfl | (rw [Ik.out]; rfl), by rw [Hof2.out]; exact O3.out, HB4.out⟩
            case measure => have := Hk.out; (try rw [Ik.out]); simp [intOf]; omega
    · have ik : ((k : Int) < (l : Int)) = False := eq_false (by omega)
      have He : Hid (ls.take k = ls) := Lib.hid (List.take_of_length_le (by have := Hl.out; omega))
      rw [He.out] at HO
      have H1 := Lib.hid (HO.out.lower HZ.out)
      clear hk hlt He
      go_wp2
      go_ret
      exact ⟨_, rfl, H1.out, HSo.out.below⟩
end Go.Proofs.Ythlojadkgpmnmaa
