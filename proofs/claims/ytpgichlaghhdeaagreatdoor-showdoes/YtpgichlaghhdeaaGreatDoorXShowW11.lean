/-
  Layer 11 (show): Parse; show's five functions.
-/
import Derived.Test.YtpgichlaghhdeaaGreatDoorXShowW6
import Derived.Test.YtpgichlaghhdeaaGreatDoorXShowW7
import Derived.Test.YtpgichlaghhdeaaGreatDoorXShowW8
import Derived.Test.YtpgichlaghhdeaaGreatDoorXShowW10
import Derived.Test.YtpgichlaghhdeaaGreatDoorXShowK
import Derived.Laws.Pointers
namespace Go.Proofs.YtpgichlaghhdeaaGreatDoor
set_option maxRecDepth 10000
open Go.RowKit

/-- A whole block of two is written. -/
theorem wpList_setblk2 {P : Program} {ops : Array Oper} {rest : List Oper} {o : Oper} {a : Act} {w : World} {Q : Exit → Act → World → Prop} (hgd : o.guard = none) (ty : TypeId) (x y : Operand) (ho : o.op = .store ty x y)
    {w0 : World} {M : List Fact} (ke k : Nat) (ce old cs : Array Value) (hS : St w0 w [(ke, ce), (k, old)] M) (hne : ke ≠ k) (hk : w0.heap.size ≤ k)
    (hx : a.eval x = .pointer (some ⟨k, 0, none⟩)) (hy : a.eval y = .agg cs) (hz : (P.info? ty).map (·.size) = some cs.size) (hsz : old.size = cs.size) (h1 : cs.all (·.oneCell') = true)
    (h : ∀ w', St w0 w' [(ke, ce), (k, cs)] [] → wpList P ops Q rest (a.put o.dst undef) w') : wpList P ops Q (o :: rest) a w := by
  obtain ⟨t, ht⟩ := hS.live (k, old) (by simp)
  obtain ⟨te, hte⟩ := hS.live (ke, ce) (by simp)
  refine wpList_store_row hgd ty x y ho k cs hx hy t old ht hz hsz h1 ?_
  refine h _ ⟨fun y hy => ?_, (fun _ h => nomatch h), below_setRow hS.below hk cs⟩
  rcases List.mem_cons.1 hy with rfl | hy
  · refine ⟨te, ?_⟩
    obtain ⟨_, _, _, _, h5⟩ := grown_setRow w k cs
    exact (h5 ke (Array.getElem?_eq_some_iff.1 hte).1 (fun e => hne (by first | exact Option.some.inj e | exact (Option.some.inj e).symm))).trans hte
  · obtain rfl : y = (k, cs) := by simpa using hy
    exact ⟨t, setRow_heap _ _ _ _ _ _ ht⟩

set_option maxHeartbeats 4000000 in
theorem ParseS_any (s : ByteArray) (hs : s.size ≤ 400) (w : World) (hE : Libs w) :
    Calls Tryz.prog 11 #[.string s] w fun e w' => e = .returned (.tuple #[.agg (sixV (Sh.parA (bl s))), .int .i64 (Sh.parE (bl s))]) ∧ Below w.heap.size w w' := by
  have hmf : ∀ (fn : Fn) (first cap : Array Value) (w : World), (Instr.makeFunc fn first cap).run Tryz.prog w = .ok (.func fn first cap) w := fun _ _ _ _ => rfl
  have S0 := Lib.hid (((St.start w).more libF hE).box2 #[.int .i64 0, .int .i64 0, .int .i64 0, .int .i64 0, .int .i64 0, .int .i64 0] #[.int .i64 0] 25 31)
  have g := fun W h => parsed_any s hs W h
  cases hok : Sh.ok (bl s) with
  | false =>
    have e1 : Sh.readO (bl s) = none := Sh.readO_no hok
    simp only [e1] at g
    rw [(Sh.not_ok hok).1, (Sh.not_ok hok).2]
    clear hok e1 hE
    go_enter_defers Tryz.func11, Tryz.ntmps11
    go_wp2_with fail
    refine (g _ (S0.out.fact 0 rfl)).mono ?_
    rintro e w1 ⟨rfl, hB⟩
    have S1 := Lib.hid (S0.out.on hB)
    clear hB g S0
    refine leaves_cons (f := 35) (args := #[.pointer (some ⟨w.heap.size + 1, 0, none⟩)]) (by simp) (by simp [go_sem]) ?_
    refine (Parse1_thr ⟨w.heap.size + 1, 0, none⟩ 0 20 _ (S1.out.cell 0 rfl 0 rfl) (S1.out.free 0 rfl 0)).mono ?_
    rintro e u' w2 ⟨rfl, rfl, rfl⟩
    have hc1 : (w1.setCell ⟨w.heap.size + 1, 0, none⟩ (.int .i64 20)).cell? ⟨w.heap.size + 1, 0, none⟩ = some (.int .i64 20) := World.cell?_setCell_same _ _ _ (S1.out.cell 0 rfl 0 rfl)
    obtain ⟨ta, hta⟩ := S1.out.live (w.heap.size, #[.int .i64 0, .int .i64 0, .int .i64 0, .int .i64 0, .int .i64 0, .int .i64 0]) (by simp)
    have hta2 : (w1.setCell ⟨w.heap.size + 1, 0, none⟩ (.int .i64 20)).heap[w.heap.size]? = some (.cells #[.int .i64 0, .int .i64 0, .int .i64 0, .int .i64 0, .int .i64 0, .int .i64 0] ta (0, 0)) := (heap_setCell_other w1 ⟨w.heap.size + 1, 0, none⟩ w.heap.size _ (fun e => by have e' : w.heap.size = w.heap.size + 1 := e; omega)).trans hta
    have a0 : (w1.setCell ⟨w.heap.size + 1, 0, none⟩ (.int .i64 20)).cell? ⟨w.heap.size, 0, none⟩ = some (.int .i64 0) := by simp [World.cell?, hta2]
    have a1 : (w1.setCell ⟨w.heap.size + 1, 0, none⟩ (.int .i64 20)).cell? ⟨w.heap.size, 1, none⟩ = some (.int .i64 0) := by simp [World.cell?, hta2]
    have a2 : (w1.setCell ⟨w.heap.size + 1, 0, none⟩ (.int .i64 20)).cell? ⟨w.heap.size, 2, none⟩ = some (.int .i64 0) := by simp [World.cell?, hta2]
    have a3 : (w1.setCell ⟨w.heap.size + 1, 0, none⟩ (.int .i64 20)).cell? ⟨w.heap.size, 3, none⟩ = some (.int .i64 0) := by simp [World.cell?, hta2]
    have a4 : (w1.setCell ⟨w.heap.size + 1, 0, none⟩ (.int .i64 20)).cell? ⟨w.heap.size, 4, none⟩ = some (.int .i64 0) := by simp [World.cell?, hta2]
    have a5 : (w1.setCell ⟨w.heap.size + 1, 0, none⟩ (.int .i64 20)).cell? ⟨w.heap.size, 5, none⟩ = some (.int .i64 0) := by simp [World.cell?, hta2]
    have hBz := below_setCell S1.out.below (Nat.le_succ _) 0 (.int .i64 20)
    obtain ⟨W, hW⟩ : ∃ W, W = w1.setCell ⟨w.heap.size + 1, 0, none⟩ (.int .i64 20) := ⟨_, rfl⟩
    rw [← hW] at hc1 hBz a0 a1 a2 a3 a4 a5 ⊢
    clear hta2 hta hW
    simp [Leaves, settle, results, Tryz.results11, go_sem, hc1, a0, a1, a2, a3, a4, a5]
    exact ⟨rfl, hBz⟩
  | true =>
    obtain ⟨a, ha⟩ : ∃ a, a = Sh.parA (bl s) := ⟨_, rfl⟩
    have e1 : Sh.readO (bl s) = some a := by unfold Sh.readO; rw [if_pos hok, ha]
    have e2 : Sh.parE (bl s) = 0 := by unfold Sh.parE; rw [if_pos hok]
    simp only [e1] at g
    rw [← ha, e2]
    clear hok e1 e2 hE ha
    go_enter_defers Tryz.func11, Tryz.ntmps11
    go_wp2_with fail
    refine (g _ (S0.out.fact 0 rfl)).mono ?_
    rintro e w1 ⟨rfl, hB⟩
    have S1 := Lib.hid (S0.out.on hB)
    clear hB g S0
    go_wp2_with (refine wpList_setblk2 rfl 25 _ _ rfl (w.heap.size + 1) w.heap.size _ _ (sixV a) S1.out (Nat.succ_ne_self _) (Nat.le_refl _) rfl rfl (by rfl) rfl (six_one a) ?_; intro w2 hS2; have S2 := Lib.hid hS2; clear hS2; have c0 := S2.out.cell 0 rfl 0 rfl; have f0 := S2.out.free 0 rfl 0)
    refine leaves_cons (f := 35) (args := #[.pointer (some ⟨w.heap.size + 1, 0, none⟩)]) (by simp) (by simp [go_sem]) ?_
    have hc1 : (w2.setCell ⟨w.heap.size + 1, 0, none⟩ (.int .i64 0)).cell? ⟨w.heap.size + 1, 0, none⟩ = some (.int .i64 0) := World.cell?_setCell_same _ _ _ c0
    have hf1 : (w2.setCell ⟨w.heap.size + 1, 0, none⟩ (.int .i64 0)).frozen? ⟨w.heap.size + 1, 0, none⟩ = false := (World.frozen?_setCell _ _ _ _).trans f0
    have hB1 := below_setCell S2.out.below (Nat.le_succ _) 0 (.int .i64 0)
    obtain ⟨ta, hta⟩ := S2.out.live (w.heap.size, sixV a) (by simp)
    have hne : ∀ W : World, ∀ u, (W.setCell ⟨w.heap.size + 1, 0, none⟩ u).heap[w.heap.size]? = W.heap[w.heap.size]? := fun W u => heap_setCell_other W ⟨w.heap.size + 1, 0, none⟩ w.heap.size u (fun e => by have e' : w.heap.size = w.heap.size + 1 := e; omega)
    have hta2 := (hne w2 (.int .i64 0)).trans hta
    obtain ⟨W, hW⟩ : ∃ W, W = w2.setCell ⟨w.heap.size + 1, 0, none⟩ (.int .i64 0) := ⟨_, rfl⟩
    rw [← hW] at hc1 hf1 hB1 hta2 ⊢
    refine (Parse1_idle ⟨w.heap.size + 1, 0, none⟩ 0 W hc1 hf1).mono ?_
    rintro e u' w3 ⟨rfl, rfl, rfl⟩
    have hc2 : (W.setCell ⟨w.heap.size + 1, 0, none⟩ (.int .i64 0)).cell? ⟨w.heap.size + 1, 0, none⟩ = some (.int .i64 0) := World.cell?_setCell_same _ _ _ hc1
    have hta3 := (hne W (.int .i64 0)).trans hta2
    have hBz := below_setCell hB1 (Nat.le_succ _) 0 (.int .i64 0)
    obtain ⟨x0, x1, x2, x3, x4, x5⟩ := a
    have a0 : (W.setCell ⟨w.heap.size + 1, 0, none⟩ (.int .i64 0)).cell? ⟨w.heap.size, 0, none⟩ = some (.int .i64 x0) := by simp [World.cell?, hta3, sixV]
    have a1 : (W.setCell ⟨w.heap.size + 1, 0, none⟩ (.int .i64 0)).cell? ⟨w.heap.size, 1, none⟩ = some (.int .i64 x1) := by simp [World.cell?, hta3, sixV]
    have a2 : (W.setCell ⟨w.heap.size + 1, 0, none⟩ (.int .i64 0)).cell? ⟨w.heap.size, 2, none⟩ = some (.int .i64 x2) := by simp [World.cell?, hta3, sixV]
    have a3 : (W.setCell ⟨w.heap.size + 1, 0, none⟩ (.int .i64 0)).cell? ⟨w.heap.size, 3, none⟩ = some (.int .i64 x3) := by simp [World.cell?, hta3, sixV]
    have a4 : (W.setCell ⟨w.heap.size + 1, 0, none⟩ (.int .i64 0)).cell? ⟨w.heap.size, 4, none⟩ = some (.int .i64 x4) := by simp [World.cell?, hta3, sixV]
    have a5 : (W.setCell ⟨w.heap.size + 1, 0, none⟩ (.int .i64 0)).cell? ⟨w.heap.size, 5, none⟩ = some (.int .i64 x5) := by simp [World.cell?, hta3, sixV]
    obtain ⟨V, hV⟩ : ∃ V, V = W.setCell ⟨w.heap.size + 1, 0, none⟩ (.int .i64 0) := ⟨_, rfl⟩
    rw [← hV] at hc2 hBz a0 a1 a2 a3 a4 a5 ⊢
    clear hta2 hta3 hta hW hV hne c0 f0
    simp [Leaves, settle, results, Tryz.results11, go_sem, hc2, a0, a1, a2, a3, a4, a5]
    exact ⟨rfl, hBz⟩

/-- Show's five functions. -/
theorem showK : ShowK Libs := by
  refine ⟨fun w w' h hB => h.below hB, fun x0 x1 x2 x3 x4 x5 w hE => Line_any x0 x1 x2 x3 x4 x5 w hE, fun s hs w hE => ParseS_any s hs w hE, fun m n A l c ls B k0 d ws w _ h1 h2 => Heard_any m n A l c ls B k0 d ws w h1 h2, fun m n A l c ls B k0 d ws t w hE h1 h2 => Lines_any m n A l c ls B k0 d ws t w hE h1 h2, fun m n A l c ls w _ h1 => Count_any m n A l c ls w h1⟩
end Go.Proofs.YtpgichlaghhdeaaGreatDoor
