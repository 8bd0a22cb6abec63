/-
  Layer 8 (board): the walk of of (slices.Index and slices.Contains of numbers with it).
-/
import Derived.Test.YthlojadkgpmnmaaBoardW5
namespace Go.Proofs.Ythlojadkgpmnmaa
open Go.RowKit

def Bd.idx (x : Int) : Nat → List Int → Int
  | _, [] => -1
  | k, z :: l => if x = z then (k : Int) else Bd.idx x (k + 1) l
theorem Bd.idx_drop {x : Int} {zs : List Int} {k : Nat} (h : k < zs.length) : Bd.idx x k (zs.drop k) = if x = zs[k] then (k : Int) else Bd.idx x (k + 1) (zs.drop (k + 1)) := by
  rw [List.drop_eq_getElem_cons h]; rfl
theorem Bd.idx_any (x : Int) : ∀ (l : List Int) (k : Nat), decide (0 ≤ Bd.idx x k l) = l.any (fun z => z == x)
  | [], _ => rfl
  | z :: l, k => by
    unfold Bd.idx
    by_cases h : x = z
    · rw [if_pos h, decide_eq_true (by omega), List.any_cons, h]
      simp
    · rw [if_neg h, Bd.idx_any x l (k + 1), List.any_cons]
      have : (z == x) = false := by rw [beq_eq_false_iff_ne]; exact fun e => h e.symm
      rw [this, Bool.false_or]

set_option maxHeartbeats 1000000 in
theorem index_any (B : Option Addr) (lb cb : Nat) (zs : List Int) (x : Int) (w : World) (hlb : lb = zs.length) (hB : IntsAt w w.heap.size B zs) (hf : lb ≤ 1000) :
    Calls Try.prog 66 #[.slice B lb cb, .int .i64 x] w fun e w' => e = .returned (.int .i64 (Bd.idx x 0 zs)) ∧ w' = w := by
  have Hl := Lib.hid hlb
  have Hf := Lib.hid hf
  have HN := Lib.hid hB
  obtain ⟨r, hr⟩ : ∃ r, r = Bd.idx x 0 zs := ⟨_, rfl⟩
  have Hr := Lib.hid hr
  rw [← hr]
  clear hlb hB hf hr
  go_enter Try.func66, Try.ntmps66
  go_wp2_with fail
  go_loopw [8] (fun i wr => ∃ k : Nat, i = .int .i64 (k : Int) ∧ Hid (Bd.idx x k (zs.drop k) = r) ∧ wr = w) (fun i _ => lb - (intOf i).toNat)
  case atStart => exact ⟨0, rfl, Lib.hid (by rw [Hr.out]; rfl), by first | trivial | rfl⟩
  case round =>
    obtain ⟨k, rfl, Hg, rfl⟩ := hrel
    by_cases hlt : k < lb
    · have kl : k < zs.length := by rw [← Hl.out]; exact hlt
      obtain ⟨b0, o0, rfl, hb0, hc⟩ := HN.out k kl
      have Hs := Lib.hid (Bd.idx_drop (x := x) kl)
      obtain ⟨z, hz⟩ : ∃ z, z = zs[k]'kl := ⟨_, rfl⟩
      rw [← hz] at hc Hs
      clear hz
      have i1 : (k : Int) < (lb : Int) := by omega
      have i3 : (0 : Int) ≤ (k : Int) := by omega
      have Ik : Hid (wrap64 ((k : Int) + 1) = (k : Int) + 1) := Lib.hid (by have := Hf.out; unfold wrap64; omega)
      have Hk := Lib.hid hlt
      clear kl hlt hb0
      by_cases hx : x = z
      · have He : Hid (r = (k : Int)) := Lib.hid (by rw [← Hg.out, Hs.out, if_pos hx])
        have q : (x == z) = true := by rw [beq_iff_eq]; exact hx
        clear Hs Hg hx
        go_wp2
        go_ret
        exact ⟨by rw [He.out]; rfl, by first | trivial | rfl⟩
      · have He : Hid (Bd.idx x (k + 1) (zs.drop (k + 1)) = r) := Lib.hid (by rw [← Hg.out, Hs.out, if_neg hx])
        have q : (x == z) = false := by rw [beq_eq_false_iff_ne]; exact hx
        clear Hs Hg hx
        go_wp2
        go_roundw
        case rel => exact ⟨k + 1, by first | rfl | (rw [Ik.out]; rfl), He, by first | trivial | rfl⟩
        case measure => have := Hk.out; (try rw [Ik.out]); simp [intOf]; omega
    · have ik : ((k : Int) < (lb : Int)) = False := eq_false (by omega)
      have He : Hid (r = -1) := Lib.hid (by rw [← Hg.out, List.drop_eq_nil_of_le (by have := Hl.out; omega)]; rfl)
      clear hlt Hg
      go_wp2
      go_ret
      exact ⟨by rw [He.out]; rfl, by first | trivial | rfl⟩

theorem contains_any (B : Option Addr) (lb cb : Nat) (zs : List Int) (x : Int) (w : World) (hlb : lb = zs.length) (hB : IntsAt w w.heap.size B zs) (hf : lb ≤ 1000) :
    Calls Try.prog 55 #[.slice B lb cb, .int .i64 x] w fun e w' => e = .returned (.bool (zs.any (fun z => z == x))) ∧ w' = w := by
  have g := index_any B lb cb zs x w hlb hB hf
  rw [← Bd.idx_any x zs 0]
  obtain ⟨r, hr⟩ : ∃ r, r = Bd.idx x 0 zs := ⟨_, rfl⟩
  rw [← hr] at g ⊢
  clear hr hlb hB hf
  go_enter Try.func55, Try.ntmps55
  go_wp2_with fail
  refine g.mono ?_
  rintro e w1 ⟨rfl, rfl⟩
  go_wp2
  go_ret
  exact ⟨rfl, rfl⟩

set_option maxRecDepth 10000 in
set_option maxHeartbeats 2000000 in
theorem of_any (A : Option Addr) (l c : Nat) (ls : List Alm) (B : Option Addr) (lb cb : Nat) (zs : List Int) (w : World) (h : Told w A l c ls) (hlb : lb = zs.length) (hB : IntsAt w w.heap.size B zs) (hf2 : lb ≤ 1000) :
    Calls Try.prog 44 #[.slice A l c, .slice B lb cb] w (OwnedA w (Bd.ofL zs ls)) := by
  obtain ⟨hl, hA, _, hf⟩ := h
  have HS := Lib.hid (((St.start w).more (rowF A ls) hA).more (numF B zs) hB)
  have Hl := Lib.hid hl
  have Hf := Lib.hid hf
  have g0 := fun W x (hB : IntsAt W W.heap.size B zs) => Lib.hid (contains_any B lb cb zs x W hlb hB hf2)
  clear hl hA hf hlb hB hf2
  go_enter Try.func44, Try.ntmps44
  go_wp2_with fail
  go_loopw [5, 10] (fun out i wr => WoRel w l (Bd.ofL zs) ls out i wr) (fun _ i _ => l - (intOf i).toNat)
  case atStart => exact ⟨0, Nat.zero_le _, rfl, OwnA.nil _ _, Below.refl _ _⟩
  case round =>
    obtain ⟨k, hk, rfl, hown, hBr⟩ := hrel
    have HO := Lib.hid hown
    have HB := Lib.hid hBr
    have HSo := Lib.hid (HS.out.on hBr)
    clear hown hBr
    by_cases hlt : k < l
    · have kl : k < ls.length := by rw [← Hl.out]; exact hlt
      have HA : Hid (AlmsAt wr wr.heap.size A ls) := Lib.hid (HSo.out.fact 1 rfl)
      obtain ⟨b0, o0, rfl, hb0, h6⟩ := HA.out k kl
      have Hof := Lib.hid (Bd.of_take (zs := zs) kl)
      have Hle : Hid ((Bd.ofL zs (ls.take k)).length ≤ 1000) := Lib.hid (by have h1 : (Bd.ofL zs (ls.take k)).length ≤ (ls.take k).length := List.length_filter_le _ _; have := Hf.out; have := Hl.out; rw [List.length_take] at h1; omega)
      obtain ⟨x, hx⟩ : ∃ x, x = ls[k] := ⟨_, rfl⟩
      rw [← hx] at h6 Hof
      clear hx
      obtain ⟨x0, x1, x2, x3, x4, x5⟩ := x
      simp only at Hof
      have d0 := h6.c0
      have d1 := h6.c1
      have d2 := h6.c2
      have d3 := h6.c3
      have d4 := h6.c4
      have d5 := h6.c5
      simp only at d0 d1 d2 d3 d4 d5
      have i1 : (k : Int) < (l : Int) := by omega
      have i3 : (0 : Int) ≤ (k : Int) := by omega
      have Ik : Hid (wrap64 ((k : Int) + 1) = (k : Int) + 1) := Lib.hid (by have := Hf.out; unfold wrap64; omega)
      have Hk := Lib.hid hlt
      have HN1 := Lib.hid (below_new wr (.cells #[.int .i64 x0, .int .i64 x1, .int .i64 x2, .int .i64 x3, .int .i64 x4, .int .i64 x5] 28))
      have HSn := Lib.hid (HSo.out.new #[.int .i64 x0, .int .i64 x1, .int .i64 x2, .int .i64 x3, .int .i64 x4, .int .i64 x5] 28)
      have g := g0 _ x0 (HSn.out.fact 0 rfl)
      have HN2 := Lib.hid (below_new2 wr (.cells #[.int .i64 x0, .int .i64 x1, .int .i64 x2, .int .i64 x3, .int .i64 x4, .int .i64 x5] 28) (.cells #[.int .i64 x0, .int .i64 x1, .int .i64 x2, .int .i64 x3, .int .i64 x4, .int .i64 x5] 28))
      obtain ⟨z, hz⟩ : ∃ z, z = zs.any (fun z => z == x0) := ⟨_, rfl⟩
      rw [← hz] at g Hof
      clear h6 kl hk hlt hb0 hz
      cases z
      · have Hof2 : Hid (Bd.ofL zs (ls.take (k + 1)) = Bd.ofL zs (ls.take k)) := Lib.hid (by rw [Hof.out]; exact List.append_nil _)
        have O2 := Lib.hid (HO.out.below HN1.out)
        have HB3 := Lib.hid (below2 HB.out HN1.out)
        clear Hof
        go_wp2_with fail
        refine g.out.mono ?_
        rintro e w1 ⟨rfl, rfl⟩
        clear g
        go_wp2
        go_roundw
        case rel => exact ⟨k + 1, Hk.out, by first | rfl | (rw [Ik.out]; rfl), by rw [Hof2.out]; exact O2.out, HB3.out⟩
        case measure => have := Hk.out; (try rw [Ik.out]); simp [intOf]; omega
      · have Hof2 : Hid (Bd.ofL zs (ls.take (k + 1)) = Bd.ofL zs (ls.take k) ++ [⟨x0, x1, x2, x3, x4, x5⟩]) := Lib.hid (by rw [Hof.out]; rfl)
        have O2 := Lib.hid (HO.out.below HN2.out)
        have HB3 := Lib.hid (below2 HB.out HN2.out)
        have ON := Lib.hid (AlmsAt.one9 wr (.cells #[.int .i64 x0, .int .i64 x1, .int .i64 x2, .int .i64 x3, .int .i64 x4, .int .i64 x5] 28) x0 x1 x2 x3 x4 x5 28)
        clear Hof
        go_wp2_with fail
        refine g.out.mono ?_
        rintro e w1 ⟨rfl, rfl⟩
        clear g
        go_wp2_with (at_builtin; refine wpList_append_almsT rfl _ _ 54 rfl Try.underlying54 w.heap.size _ (Bd.ofL zs (ls.take k)) [(⟨x0, x1, x2, x3, x4, x5⟩ : Alm)] rfl O2.out (some ⟨wr.heap.size + 1, 0, none⟩) 1 _ rfl rfl ON.out (fun e => nomatch e) HB3.out.size (by have := Hle.out; simp; omega) ?_; intro v3 w3 hown3 hgrow3; have O3 := Lib.hid hown3; have HB4 : Hid (Below w.heap.size w w3) := Lib.hid (HB3.out.grown hgrow3 HB3.out.size O2.out.ge8); clear hown3 hgrow3 d0 d1 d2 d3 d4 d5)
        go_roundw
        case rel => exact ⟨k + 1, Hk.out, by first | rfl | (rw [Ik.out]; rfl), by rw [Hof2.out]; exact O3.out, HB4.out⟩
        case measure => have := Hk.out; (try rw [Ik.out]); simp [intOf]; omega
    · have ik : ((k : Int) < (l : Int)) = False := eq_false (by omega)
      have He : Hid (ls.take k = ls) := Lib.hid (List.take_of_length_le (by have := Hl.out; omega))
      rw [He.out] at HO
      clear hk hlt He
      go_wp2
      go_ret
      exact ⟨_, rfl, HO.out, HSo.out.below⟩
end Go.Proofs.Ythlojadkgpmnmaa
