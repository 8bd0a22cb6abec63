/-
  Layer 4 (spot), the reference: Own, Same, of spots.
-/
import Derived.Test.YtndpcnimebedcaaDoorSpotBeds
namespace Go.Proofs.YtndpcnimebedcaaDoor
open Go.RowKit

theorem Tryd.infoSp : (Tryd.prog.info? 23).map (fun i => (i.zero, i.size, i.bytes)) = some (some (.agg #[.int .i64 0, .int .i64 0]), 2, 16) := by kernel_rfl

/-- Spots, cell by cell. -/
def flat (ls : List (Int × Int)) : List Value := ls.flatMap (fun p => [.int .i64 p.1, .int .i64 p.2])
theorem flat_len : ∀ ls : List (Int × Int), (flat ls).length = ls.length * 2
  | [] => rfl
  | p :: ls => by have := flat_len ls; simp only [flat, List.flatMap_cons] at *; simp [this]; omega
theorem flat_get : ∀ (ls : List (Int × Int)) (i : Nat) (h : i < ls.length), (flat ls)[i * 2]? = some (.int .i64 ls[i].1) ∧ (flat ls)[i * 2 + 1]? = some (.int .i64 ls[i].2)
  | p :: ls, 0, _ => ⟨rfl, rfl⟩
  | p :: ls, i + 1, h => by
    have := flat_get ls i (by simpa using h)
    simp only [flat, List.flatMap_cons] at *
    have e1 : (i + 1) * 2 = i * 2 + 2 := by omega
    rw [e1]
    exact ⟨by simpa using this.1, by simpa using this.2⟩

theorem SpotsAt.flat_cells {w : World} {B : Nat} {a : Addr} {ls : List (Int × Int)} (h : SpotsAt w B (some a) ls) : ∀ j u, (flat ls)[j]? = some u → w.cell? (a.add j) = some u := by
  intro j u hu
  have hj := (List.getElem?_eq_some_iff.1 hu).1
  rw [flat_len] at hj
  obtain ⟨b, off, ha, _, h0, h1⟩ := h (j / 2) (by omega)
  cases ha
  have g := flat_get ls (j / 2) (by omega)
  rw [Go.WideShapes.add_plain]
  rcases Nat.mod_two_eq_zero_or_one j with hm | hm
  · have e : j / 2 * 2 = j := by omega
    rw [e] at h0 g
    rw [h0]
    exact g.1.symm.trans hu
  · have e : j / 2 * 2 + 1 = j := by omega
    have e2 : off + j / 2 * 2 + 1 = off + j := by omega
    rw [e2] at h1
    rw [e] at g
    rw [h1]
    exact g.2.symm.trans hu

theorem SpotsAt.of_own {w : World} {base : Nat} {e : TypeId} {A : Option Addr} {cap : Nat} {ls : List (Int × Int)} (h : w.ownsRow base e 2 (.slice A ls.length cap) ls.length (flat ls)) : SpotsAt w w.heap.size A ls := fun i hi => by
  rcases h.2 with ⟨_, h0⟩ | ⟨g, cap', cur, hv, _, hg, _⟩
  · omega
  · have hA : A = some ⟨g, 0, none⟩ := by injection hv
    subst hA
    have g2 := flat_get ls i hi
    have hc0 := h.cells (g := g) rfl _ _ g2.1
    have hc1 := h.cells (g := g) rfl _ _ g2.2
    rw [Go.WideShapes.add_plain] at hc0 hc1
    exact ⟨g, 0, rfl, (Array.getElem?_eq_some_iff.1 hg).1, hc0, hc1⟩

/-- A slice of one's own with these spots. -/
def OwnedS (w : World) (ls : List (Int × Int)) (e : Ending) (w' : World) : Prop :=
  ∃ A' cap', e = .returned (.slice A' ls.length cap') ∧ SpotsAt w' w'.heap.size A' ls ∧ Below w.heap.size w w'

set_option maxHeartbeats 400000 in
theorem ROwn_any (A : Option Addr) (cap : Nat) (ls : List (Int × Int)) (w : World) (hA : SpotsAt w w.heap.size A ls) (hnil : A = none → cap = 0) (hl : ls.length ≤ 1000) :
    Calls Tryd.prog 8 #[.slice A ls.length cap] w (OwnedS w ls) := by
  obtain ⟨i0, hi, hz0, hz1, hz2⟩ := info_parts Tryd.infoSp
  have hown0 := World.ownsRow_nil w w.heap.size 23 2
  cases A with
  | none =>
    obtain rfl : cap = 0 := hnil rfl
    obtain rfl : ls = [] := by
      cases ls with
      | nil => rfl
      | cons z zs => obtain ⟨b, off, h, _⟩ := hA 0 (by simp); cases h
    go_enter Tryd.func8, Tryd.ntmps8
    go_wp2_with (at_builtin; refine wpList_append_own_none _ rfl _ _ 24 rfl w.heap.size 23 i0 2 Tryd.underlying24 hi _ _ _ rfl hown0 rfl ?_)
    go_ret
    exact ⟨none, 0, rfl, fun i hi => absurd hi (Nat.not_lt_zero _), Below.refl _ _⟩
  | some a =>
    have hcells := hA.flat_cells
    obtain ⟨m, hm⟩ : ∃ m, m = ls.length := ⟨_, rfl⟩
    have hlen : (flat ls).length = m * 2 := by rw [hm]; exact flat_len ls
    have hone : ∀ u ∈ flat ls, u.oneCell' = true := by
      intro u hu
      simp only [flat, List.mem_flatMap, List.mem_cons, List.not_mem_nil, or_false] at hu
      obtain ⟨p, _, rfl | rfl⟩ := hu <;> rfl
    have Hm := Lib.hid hm
    rw [← hm] at hl
    have Q0 : ∀ e w', (∃ A' cap', e = .returned (.slice A' m cap') ∧ SpotsAt w' w'.heap.size A' ls ∧ Below w.heap.size w w') → OwnedS w ls e w' := fun e w' h => by rw [hm] at h; exact h
    refine Calls.mono ?_ Q0
    rw [← hm]
    clear Q0
    obtain ⟨xs, hxs⟩ : ∃ xs, xs = flat ls := ⟨_, rfl⟩
    rw [← hxs] at hcells hlen hone
    have Hxs := Lib.hid hxs; have Hlen := Lib.hid hlen; have Hone := Lib.hid hone; have Hc := Lib.hid hcells
    clear hm hxs hlen hone hcells hA hnil
    go_enter Tryd.func8, Tryd.ntmps8
    go_wp2_with (at_builtin; refine wpList_append_own _ rfl _ _ 24 rfl w.heap.size 23 i0 (.agg #[.int .i64 0, .int .i64 0]) 2 16 Tryd.underlying24 hi hz0 hz1 hz2 rfl (by decide) _ _ _ rfl hown0 a m cap xs rfl Hlen.out Hc.out Hone.out (by unfold maxLen; omega) (by omega) (Nat.le_refl _) ?_; intro v' w1 hown' hgrow _; rw [Nat.zero_add, List.nil_append] at hown'; have hB1 : Below w.heap.size w w1 := (Below.refl _ w).grown hgrow (Nat.le_refl _) (fun k hk => (hown0.lt k hk).1); clear hgrow; obtain ⟨A', cap', rfl⟩ := ownsRow_slice hown')
    go_ret
    exact ⟨A', cap', rfl, SpotsAt.of_own (by rw [← Hm.out, ← Hxs.out]; exact hown'), hB1⟩

set_option maxHeartbeats 1000000 in
theorem RSame_any (A B : Option Addr) (ca cb : Nat) (ls : List (Int × Int)) (w : World) (hA : SpotsAt w w.heap.size A ls) (hB : SpotsAt w w.heap.size B ls) (hl : ls.length ≤ 1000) :
    Calls Tryd.prog 25 #[.slice A ls.length ca, .slice B ls.length cb] w fun e w' => e = .returned (.bool true) ∧ ∃ n, w' = w.drewN n := by
  have h1 : ((ls.length : Int) == (ls.length : Int)) = true := by rw [beq_iff_eq]
  go_enter Tryd.func25, Tryd.ntmps25
  go_wp2
  go_loopw [5] (fun i wr => ∃ k q : Nat, k ≤ ls.length ∧ i = .int .i64 (k : Int) ∧ wr = w.drewN q) (fun i _ => ls.length - (intOf i).toNat)
  case atStart => exact ⟨0, 0, Nat.zero_le _, rfl, rfl⟩
  case round =>
    obtain ⟨k, q, hk, rfl, rfl⟩ := hrel
    by_cases hlt : k < ls.length
    · obtain ⟨b, off, rfl, hb, hc0, hc1⟩ := hA k hlt
      obtain ⟨b', off', rfl, hb', hc0', hc1'⟩ := hB k hlt
      obtain ⟨x, hx⟩ : ∃ x, x = ls[k].1 := ⟨_, rfl⟩
      obtain ⟨y, hy⟩ : ∃ y, y = ls[k].2 := ⟨_, rfl⟩
      rw [← hx] at hc0 hc0'
      rw [← hy] at hc1 hc1'
      have i1 : (k : Int) < (ls.length : Int) := by omega
      have i3 : (0 : Int) ≤ (k : Int) := by omega
      have i5 : wrap64 ((k : Int) + 1) = (k : Int) + 1 := by unfold wrap64; omega
      clear hx hy
      go_wp2
      go_quiet (fail)
      go_wp2
      go_roundw
      case rel => exact ⟨k + 1, _, by omega, by first | rfl | (rw [i5]; rfl), rfl⟩
      case measure => first | (rw [i5]; clear i5; simp [intOf]; omega) | (simp only [intOf]; clear i5; omega)
    · obtain rfl : k = ls.length := by omega
      go_wp2
      go_ret
      exact ⟨rfl, _, rfl⟩

end Go.Proofs.YtndpcnimebedcaaDoor
