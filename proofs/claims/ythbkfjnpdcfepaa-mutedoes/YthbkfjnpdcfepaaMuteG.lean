/-
  Layer 10 (mute): the library's slices.Grow of no slice, and slices.Concat of rows of windows.
-/
import Derived.Test.YthbkfjnpdcfepaaMuteK
import Derived.Lib.SliceRun
import Derived.Lib.AppendZerosOnto
import Derived.Lib.Walk
import Derived.IntWalk
namespace Go.Proofs.Ythbkfjnpdcfepaa
set_option maxRecDepth 10000
open Go.RowKit

theorem zeroCells_own (z : List Value) (G : Nat) : (Builtin.zeroCells z.toArray G).size = G * z.length := by
  unfold Builtin.zeroCells
  first
    | simp
    | (induction G <;> simp_all)

set_option maxHeartbeats 2000000 in
set_option maxRecDepth 100000 in
theorem grow_any (n : Nat) (w : World) (hn : n ≤ 10000) :
    Calls Try.prog 41 #[.slice none 0 0, .int .i64 (n : Int)] w fun e w' => ∃ v, e = .returned v ∧ OwnW w' w.heap.size v [] ∧ Below w.heap.size w w' := by
  rcases Nat.eq_zero_or_pos n with h0 | hp
  · subst h0
    go_enter Try.func41, Try.ntmps41
    go_wp2
    go_ret
    exact ⟨_, rfl, OwnW.nil _ _, Below.refl _ _⟩
  · obtain ⟨i0, hi0, hz0, hz1, hz6⟩ := info_parts Try.infoWi
    have h1 : ((n : Int) < 0) = False := eq_false (by omega)
    have h2 : wrap64 ((n : Int) - 0) = (n : Int) := by unfold wrap64; omega
    have h3 : wrap64 (n : Int) = (n : Int) := by unfold wrap64; omega
    have h4 : (0 : Int) < (n : Int) := by omega
    have h5 : 0 < n := hp
    obtain ⟨G, hG⟩ : ∃ G, G = grownCap w n 0 32 := ⟨_, rfl⟩
    obtain ⟨ROW, hROW⟩ : ∃ ROW : Array Value, ROW = #[] ++ Builtin.zeroCells (Value.agg #[.int .i64 0, .int .i64 0, .int .i64 0]).cells n ++ Builtin.zeroCells (Value.agg #[.int .i64 0, .int .i64 0, .int .i64 0]).cells (G - n) := ⟨_, rfl⟩
    have hold : (Builtin.firstCells i0.size 0 (.slice none 0 0)).run Try.prog w.drew = .ok ([] : List Value).toArray w.drew := run_firstCells_none w.drew i0.size 0 0 0
    have hrz : ∀ ty, (Builtin.append_ #[22, 3] ty #[.slice none 0 0, .int .i64 (n : Int)]).run Try.prog w = .ok (.slice (some ⟨w.heap.size, 0, none⟩) n G) (w.drew.alloc (.cells ROW 32)) := fun ty => by
      have h := Lib.run_append_grow_zeros w 22 3 ty 32 i0 _ .i64 .i64 Try.underlying22 Try.underlying3 hi0 hz0 none 0 0 [] hold n (by omega) (by rw [hz1]; omega) (by omega) (by omega) (by rw [hz6]; omega) (by rw [hz6, Nat.zero_add]; exact growslice_fits (by omega) (by omega))
      rw [Nat.zero_add, ← hG] at h
      rw [hROW]
      exact h
    have hGn : n ≤ G := by rw [hG]; exact grownCap_ge w _ _ _
    have hGm : G ≤ maxLen := by rw [hG]; exact grownCap_le_maxLen w n 0 32 (by unfold maxLen; omega)
    have hG63 : (G : Int) ≤ 9223372036854775807 := by unfold maxLen at hGm; omega
    have hsz : ROW.size = G * 3 := by
      rw [hROW]
      have e : (Value.agg #[.int .i64 0, .int .i64 0, .int .i64 0]).cells = [Value.int .i64 0, .int .i64 0, .int .i64 0].toArray := rfl
      rw [e, Array.size_append, Array.size_append, zeroCells_own, zeroCells_own]
      simp only [List.size_toArray, List.length_nil, List.length_cons, List.length_nil]
      have : n * (0 + 1 + 1 + 1) + (G - n) * (0 + 1 + 1 + 1) = G * (0 + 1 + 1 + 1) := by rw [← Nat.add_mul]; congr 1; omega
      simp at this ⊢
      omega
    have HO : Hid (OwnW (w.drew.alloc (.cells ROW 32)) w.heap.size (.slice (some ⟨w.heap.size, 0, none⟩) 0 G) []) := Lib.hid (by
      refine ⟨rfl, .inr ⟨w.heap.size, G, ROW, rfl, Nat.le_refl _, ?_, Nat.zero_le _, hGm, hsz, ?_⟩⟩
      · exact heap_alloc_new w.drew _
      · simp [flat3])
    have HB : Hid (Below w.heap.size w (w.drew.alloc (.cells ROW 32))) := Lib.hid ((below_drew (Below.refl _ w) 1).alloc (Nat.le_refl _) _)
    clear hold hROW hG hsz hz0 hz1 hz6 hi0 hGm hp
    go_enter Try.func41, Try.ntmps41
    go_wp2_with (at_builtin; refine Lib.wpList_append_run _ rfl _ _ _ _ rfl _ _ rfl rfl _ _ (hrz _) ?_)
    all_goals (go_ret; exact ⟨_, rfl, HO.out, HB.out⟩)
end Go.Proofs.Ythbkfjnpdcfepaa
