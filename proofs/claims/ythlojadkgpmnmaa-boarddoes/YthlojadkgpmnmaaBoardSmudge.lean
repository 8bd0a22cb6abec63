/-
  Layer 8 (board): smudge.
-/
import Derived.Test.YthlojadkgpmnmaaBoardH
namespace Go.Proofs.Ythlojadkgpmnmaa
open Go.RowKit

theorem grown_set {w wr : World} {g j : Nat} {v : Value} (h : w.grownBy wr (some g)) : w.grownBy (wr.setCell ⟨g, j, none⟩ v) (some g) :=
  ⟨h.os, h.tape, h.output, by simp [World.setCell]; exact h.size, fun k hk hne => (heap_setCell_other wr ⟨g, j, none⟩ k v (fun e => hne (by rw [e]))).trans (h.block k hk hne)⟩
/-- What holds ahead of each round of smudge. -/
def SmRel (w : World) (g c n : Nat) (i : Value) (wr : World) : Prop :=
  ∃ k : Nat, k ≤ n ∧ i = .int .i64 (k : Int) ∧ w.grownBy wr (some g) ∧ ∃ cur t, wr.heap[g]? = some (.cells cur t (0, 0)) ∧ cur.size = c
set_option maxHeartbeats 1000000 in
theorem smudge_some (g n cap c : Nat) (cur : Array Value) (t : TypeId) (w : World) (hg : w.heap[g]? = some (.cells cur t (0, 0))) (hc : cur.size = c) (hn : n * 6 ≤ c) (hl : n ≤ 1000) :
    Calls Try.prog 25 #[.slice (some ⟨g, 0, none⟩) n cap] w fun e w' => e = .returned (.tuple #[]) ∧ w.grownBy w' (some g) := by
  have Hn := Lib.hid hn
  have Hl := Lib.hid hl
  have H0 : Hid (SmRel w g c n (.int .i64 0) w) := Lib.hid ⟨0, Nat.zero_le _, rfl, grown_refl _ _, cur, t, hg, hc⟩
  clear hn hl hg hc
  go_enter Try.func25, Try.ntmps25
  go_wp2_with fail
  go_loopw [2] (fun i wr => SmRel w g c n i wr) (fun i _ => n - (intOf i).toNat)
  case atStart => exact H0.out
  case round =>
    clear H0
    obtain ⟨k, hk, rfl, hgr, cur', t', hb, hcs⟩ := hrel
    by_cases hlt : k < n
    · have Hk := Lib.hid hlt
      have i1 : (k : Int) < (n : Int) := by omega
      have i0 : (0 : Int) ≤ (k : Int) := by omega
      have Iw : Hid (wrap64 ((k : Int) + 1) = (k : Int) + 1) := Lib.hid (by have := Hl.out; unfold wrap64; omega)
      have hlt2 : k * 6 + 3 < cur'.size := by have := Hn.out; omega
      have c3 : wr.cell? ⟨g, k * 6 + 3, none⟩ = some cur'[k * 6 + 3] := by simp only [World.cell?, hb]; exact Array.getElem?_eq_getElem hlt2
      have f3 : wr.frozen? ⟨g, k * 6 + 3, none⟩ = false := frozen_of_row wr g _ _ _ hb
      obtain ⟨x, hx⟩ : ∃ x, x = cur'[k * 6 + 3] := ⟨_, rfl⟩
      rw [← hx] at c3
      have HG := Lib.hid (grown_set (j := k * 6 + 3) (v := .int .i64 77) hgr)
      have HS : Hid ((wr.setCell ⟨g, k * 6 + 3, none⟩ (.int .i64 77)).heap[g]? = some (.cells (cur'.setIfInBounds (k * 6 + 3) (.int .i64 77)) t' (0, 0))) := Lib.hid (heap_setCell_same wr g (k * 6 + 3) _ _ _ hb)
      have Hcs : Hid ((cur'.setIfInBounds (k * 6 + 3) (.int .i64 77)).size = c) := Lib.hid (by simp; exact hcs)
      clear hx hlt2 hb hcs hgr hk hlt
      go_wp2
      go_roundw
      case rel => exact ⟨k + 1, Hk.out, by first | rfl | (rw [Iw.out]; rfl), HG.out, _, _, HS.out, Hcs.out⟩
      case measure => have := Hk.out; (try rw [Iw.out]); simp [intOf]; omega
    · have ik : ((k : Int) < (n : Int)) = False := eq_false (by omega)
      have HG := Lib.hid hgr
      clear hb hcs hgr hk hlt
      go_wp2
      go_end0
      exact ⟨rfl, HG.out⟩

set_option maxHeartbeats 1000000 in
theorem smudge_nil (w : World) :
    Calls Try.prog 25 #[.slice none 0 0] w fun e w' => e = .returned (.tuple #[]) ∧ w' = w := by
  go_enter Try.func25, Try.ntmps25
  go_wp2_with fail
  go_loopw [2] (fun i wr => i = .int .i64 0 ∧ wr = w) (fun _ _ => 0)
  case atStart => exact ⟨rfl, rfl⟩
  case round =>
    obtain ⟨rfl, rfl⟩ := hrel
    go_wp2
    go_end0
    exact ⟨rfl, rfl⟩
theorem smudge_any (v : Value) (base : Nat) (ls : List Alm) (w : World) (h : OwnA w base v ls) (hl : ls.length ≤ 1000) :
    Calls Try.prog 25 #[v] w fun e w' => e = .returned (.tuple #[]) ∧ w.grownBy w' v.ownBlock := by
  rcases h.2 with ⟨rfl, _⟩ | ⟨g, cap, cur, rfl, _, hg, hc, _, hs, _⟩
  · refine (smudge_nil w).mono ?_
    rintro e w' ⟨rfl, rfl⟩
    exact ⟨rfl, grown_refl _ _⟩
  · exact smudge_some g ls.length cap (cap * 6) cur _ w hg hs (Nat.mul_le_mul_right 6 hc) hl
end Go.Proofs.Ythlojadkgpmnmaa
