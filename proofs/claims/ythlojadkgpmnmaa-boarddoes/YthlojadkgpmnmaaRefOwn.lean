/-
  The references' helper Own: a row of numbers in memory of its own.
-/
import Derived.Test.YthlojadkgpmnmaaChecked
import Derived.Test.YthlojadkgpmnmaaAid
import Derived.Laws.AppendOwnNone
namespace Go.Proofs.Ythlojadkgpmnmaa
open Go.RowKit

theorem Try.infoI : (Try.prog.info? 3).map (fun i => (i.zero, i.size, i.bytes)) = some (some (.int .i64 0), 1, 8) := by kernel_rfl

set_option maxHeartbeats 400000 in
theorem Own_any (A : Option Addr) (cap : Nat) (zs : List Int) (w : World) (hA : IntsAt w w.heap.size A zs) (hnil : A = none → cap = 0) (hl : zs.length ≤ 1000000000) :
    Calls Try.prog 24 #[.slice A zs.length cap] w fun e w' => ∃ A' cap', e = .returned (.slice A' zs.length cap') ∧ w'.ownsRow w.heap.size 3 1 (.slice A' zs.length cap') zs.length (zs.map (Value.int .i64)) ∧ Below w.heap.size w w' := by
  obtain ⟨i0, hi, hz0, hz1, hz2⟩ := info_parts Try.infoI
  have hown0 := World.ownsRow_nil w w.heap.size 3 1
  cases A with
  | none =>
    obtain rfl : cap = 0 := hnil rfl
    obtain rfl : zs = [] := by
      cases zs with
      | nil => rfl
      | cons z zs => obtain ⟨b, off, h, _⟩ := hA 0 (by simp); cases h
    go_enter Try.func24, Try.ntmps24
    go_wp2_with (at_builtin; refine wpList_append_own_none _ rfl _ _ 29 rfl w.heap.size 3 i0 1 Try.underlying29 hi _ _ _ rfl hown0 rfl ?_)
    go_ret
    exact ⟨none, 0, rfl, World.ownsRow_nil _ _ _ _, Below.refl _ _⟩
  | some a =>
    have hcells : ∀ j u, (zs.map (Value.int .i64))[j]? = some u → w.cell? (a.add j) = some u := by
      intro j u hu
      have hj : j < zs.length := by
        have := (List.getElem?_eq_some_iff.1 hu).1
        simpa using this
      obtain ⟨b, off, ha, _, hc⟩ := hA j hj
      cases ha
      rw [Go.WideShapes.add_plain, hc]
      simpa [List.getElem?_eq_getElem hj] using hu
    obtain ⟨m, hm⟩ : ∃ m, m = zs.length := ⟨_, rfl⟩
    rw [← hm] at hl ⊢
    obtain ⟨xs, hxs⟩ : ∃ xs, xs = zs.map (Value.int .i64) := ⟨_, rfl⟩
    rw [← hxs] at hcells ⊢
    have hlen : xs.length = m * 1 := by rw [hxs, hm]; simp
    have hone : ∀ u ∈ xs, u.oneCell' = true := by rw [hxs]; simp [Value.oneCell']
    have Hm := Lib.hid hm; have Hxs := Lib.hid hxs; have Hlen := Lib.hid hlen; have Hone := Lib.hid hone; have Hc := Lib.hid hcells
    clear hm hxs hlen hone hcells hA hnil
    go_enter Try.func24, Try.ntmps24
    go_wp2_with (at_builtin; refine wpList_append_own _ rfl _ _ 29 rfl w.heap.size 3 i0 (.int .i64 0) 1 8 Try.underlying29 hi hz0 hz1 hz2 rfl (by decide) _ _ _ rfl hown0 a m cap xs rfl Hlen.out Hc.out Hone.out (by unfold maxLen; omega) (by omega) (Nat.le_refl _) ?_; intro v' w1 hown' hgrow _; rw [Nat.zero_add, List.nil_append] at hown'; have hB1 : Below w.heap.size w w1 := (Below.refl _ w).grown hgrow (Nat.le_refl _) (fun k hk => (hown0.lt k hk).1); clear hgrow; obtain ⟨A', cap', rfl⟩ := ownsRow_slice hown')
    go_ret
    exact ⟨A', cap', rfl, hown', hB1⟩

end Go.Proofs.Ythlojadkgpmnmaa
