/-
  Layer 11 (show): Line.
-/
import Derived.Test.YtpgichlaghhdeaaGreatDoorXShowW4
import Derived.Laws.Pointers
namespace Go.Proofs.YtpgichlaghhdeaaGreatDoor
set_option maxRecDepth 10000
open Go.RowKit

set_option maxHeartbeats 4000000 in
theorem Line_any (x0 x1 x2 x3 x4 x5 : Int) (w : World) (hE : Libs w) : Calls Tryz.prog 9 #[.agg #[.int .i64 x0, .int .i64 x1, .int .i64 x2, .int .i64 x3, .int .i64 x4, .int .i64 x5]] w fun e w' => e = .returned (.tuple #[.string (strOf (Sh.line ⟨x0, x1, x2, x3, x4, x5⟩)), .int .i64 (Sh.lineE ⟨x0, x1, x2, x3, x4, x5⟩)]) ∧ Below w.heap.size w w' := by
  have hmf : ∀ (fn : Fn) (first cap : Array Value) (w : World), (Instr.makeFunc fn first cap).run Tryz.prog w = .ok (.func fn first cap) w := fun _ _ _ _ => rfl
  have S0 := Lib.hid (((St.start w).more libF hE).box2 #[.int .i64 x0, .int .i64 x1, .int .i64 x2, .int .i64 x3, .int .i64 x4, .int .i64 x5] #[.int .i64 0] 25 31)
  cases hr : Am.right ⟨x0, x1, x2, x3, x4, x5⟩
  · have g := fun W => line_no x0 x1 x2 x3 x4 x5 hr W
    have e1 : strOf (Sh.line ⟨x0, x1, x2, x3, x4, x5⟩) = ByteArray.empty := by unfold Sh.line; rw [hr]; rfl
    have e2 : Sh.lineE ⟨x0, x1, x2, x3, x4, x5⟩ = 1 := by unfold Sh.lineE; rw [hr]; rfl
    rw [e1, e2]
    clear hr e1 e2 hE
    go_enter_defers Tryz.func9, Tryz.ntmps9
    go_wp2_with (refine wpList_load_st rfl 25 _ rfl S0.out 1 _ _ rfl rfl _ Tryz.underlying25 rfl (by rfl) ?_)
    refine (g _).mono ?_
    rintro e w1 ⟨rfl, hB⟩
    have S1 := Lib.hid (S0.out.on hB)
    clear hB g S0
    refine leaves_cons (f := 28) (args := #[.pointer (some ⟨w.heap.size + 1, 0, none⟩)]) (by simp) (by simp [go_sem]) ?_
    refine (Line1_thr ⟨w.heap.size + 1, 0, none⟩ 0 1 _ (S1.out.cell 0 rfl 0 rfl) (S1.out.free 0 rfl 0)).mono ?_
    rintro e u' w2 ⟨rfl, rfl, rfl⟩
    have hc1 : (w1.setCell ⟨w.heap.size + 1, 0, none⟩ (.int .i64 1)).cell? ⟨w.heap.size + 1, 0, none⟩ = some (.int .i64 1) := World.cell?_setCell_same _ _ _ (S1.out.cell 0 rfl 0 rfl)
    simp [Leaves, settle, results, Tryz.results9, go_sem, hc1]
    exact ⟨rfl, below_setCell S1.out.below (Nat.le_succ _) 0 _⟩
  · have g := fun W h => line_ok x0 x1 x2 x3 x4 x5 hr W h
    have e1 : Sh.line ⟨x0, x1, x2, x3, x4, x5⟩ = Sh.lineL ⟨x0, x1, x2, x3, x4, x5⟩ := by unfold Sh.line; rw [hr]; rfl
    have e2 : Sh.lineE ⟨x0, x1, x2, x3, x4, x5⟩ = 0 := by unfold Sh.lineE; rw [hr]; rfl
    rw [e1, e2]
    obtain ⟨s, hs⟩ : ∃ s, s = strOf (Sh.lineL ⟨x0, x1, x2, x3, x4, x5⟩) := ⟨_, rfl⟩
    simp only [← hs] at g
    rw [← hs]
    clear hr e1 e2 hE hs
    go_enter_defers Tryz.func9, Tryz.ntmps9
    go_wp2_with (refine wpList_load_st rfl 25 _ rfl S0.out 1 _ _ rfl rfl _ Tryz.underlying25 rfl (by rfl) ?_)
    refine (g _ (S0.out.fact 0 rfl)).mono ?_
    rintro e w1 ⟨rfl, hB⟩
    have S1 := Lib.hid (S0.out.on hB)
    clear hB g S0
    have c0 := S1.out.cell 0 rfl 0 rfl
    have f0 := S1.out.free 0 rfl 0
    go_wp2
    refine leaves_cons (f := 28) (args := #[.pointer (some ⟨w.heap.size + 1, 0, none⟩)]) (by simp) (by simp [go_sem]) ?_
    have hc1 : (w1.setCell ⟨w.heap.size + 1, 0, none⟩ (.int .i64 0)).cell? ⟨w.heap.size + 1, 0, none⟩ = some (.int .i64 0) := World.cell?_setCell_same _ _ _ c0
    have hf1 : (w1.setCell ⟨w.heap.size + 1, 0, none⟩ (.int .i64 0)).frozen? ⟨w.heap.size + 1, 0, none⟩ = false := (World.frozen?_setCell _ _ _ _).trans f0
    have hB1 := below_setCell S1.out.below (Nat.le_succ _) 0 (.int .i64 0)
    obtain ⟨W, hW⟩ : ∃ W, W = w1.setCell ⟨w.heap.size + 1, 0, none⟩ (.int .i64 0) := ⟨_, rfl⟩
    rw [← hW] at hc1 hf1 hB1 ⊢
    refine (Line1_idle ⟨w.heap.size + 1, 0, none⟩ 0 W hc1 hf1).mono ?_
    rintro e u' w2 ⟨rfl, rfl, rfl⟩
    have hc2 : (W.setCell ⟨w.heap.size + 1, 0, none⟩ (.int .i64 0)).cell? ⟨w.heap.size + 1, 0, none⟩ = some (.int .i64 0) := World.cell?_setCell_same _ _ _ hc1
    simp [Leaves, settle, results, Tryz.results9, go_sem, hc2]
    exact below_setCell hB1 (Nat.le_succ _) 0 _
end Go.Proofs.YtpgichlaghhdeaaGreatDoor
