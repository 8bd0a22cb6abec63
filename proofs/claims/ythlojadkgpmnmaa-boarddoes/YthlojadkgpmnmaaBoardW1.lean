/-
  Layer 8 (board): the walks of isTime, tooMany, hold, board, takes.
-/
import Derived.Test.YthlojadkgpmnmaaRefBoard1
import Derived.Test.YthlojadkgpmnmaaAlarmIs
namespace Go.Proofs.Ythlojadkgpmnmaa
open Go.RowKit

theorem bIsTime_any (n : Int) (w : World) :
    Calls Try.prog 41 #[.int .i64 n] w fun e w' => e = .returned (.bool (Am.isT n)) ∧ w' = w := by
  go_enter Try.func41, Try.ntmps41
  go_wp2
  all_goals go_ret
  all_goals (refine ⟨?_, rfl⟩; congr 2; unfold Am.isT; simp [*] <;> omega)

theorem tooMany_any (m n : Int) (A : Option Addr) (l c : Nat) (w : World) :
    Calls Try.prog 35 #[.agg #[.int .i64 m, .int .i64 n, .slice A l c]] w fun e w' => e = .returned (.bool (decide (m < (l : Int)))) ∧ Below w.heap.size w w' := by
  go_enter Try.func35, Try.ntmps35
  go_wp2
  go_ret
  exact ⟨rfl, below_new _ _⟩

theorem ret_held8 {fn : Func} {p : Tmp} {k : Nat} {cs : Array Value} {tmps : Array Value} {w w0 : World} {L : List (Nat × Array Value)} {M : List Fact} (h : fn.results = #[.cell p 56]) (hp : tmps.getD p undef = .pointer (some ⟨k, 0, none⟩)) (hS : St w0 w L M) (i : Nat) (hi : L[i]? = some (k, cs)) (hz : some cs.size = some 3) :
    (results fn tmps).run Try.prog w = .ok (.agg cs) w := by
  obtain ⟨t, hb⟩ := hS.live (k, cs) (List.mem_of_getElem? hi)
  exact results_cell_row h tmps w k t cs (0, 0) _ hp hb Try.underlying56 rfl (by rw [hz]; rfl)

theorem ret_board8 {fn : Func} {p : Tmp} {k : Nat} {cs : Array Value} {tmps : Array Value} {w w0 : World} {L : List (Nat × Array Value)} {M : List Fact} (h : fn.results = #[.cell p 24]) (hp : tmps.getD p undef = .pointer (some ⟨k, 0, none⟩)) (hS : St w0 w L M) (i : Nat) (hi : L[i]? = some (k, cs)) (hz : some cs.size = some 3) :
    (results fn tmps).run Try.prog w = .ok (.agg cs) w := by
  obtain ⟨t, hb⟩ := hS.live (k, cs) (List.mem_of_getElem? hi)
  exact results_cell_row h tmps w k t cs (0, 0) _ hp hb Try.underlying24 rfl (by rw [hz]; rfl)

theorem hold_any (m n : Int) (A : Option Addr) (l c : Nat) (w : World) :
    Calls Try.prog 31 #[.agg #[.int .i64 m, .int .i64 n, .slice A l c]] w fun e w' => e = .returned (.agg #[.int .i64 m, .int .i64 n, .slice A l c]) ∧ Below w.heap.size w w' := by
  have HS := Lib.hid ((St.start w).box2 #[.int .i64 m, .int .i64 n, .slice A l c] #[.int .i64 m, .int .i64 n, .slice A l c] 24 56)
  go_enter Try.func31, Try.ntmps31
  go_wp2
  (try simp only [Exit.inBlock, Exit.then]); refine bodyPost_ret (ret_held8 rfl rfl HS.out 0 rfl rfl) rfl ?_
  exact ⟨rfl, HS.out.below⟩

theorem board_any (m n : Int) (A : Option Addr) (l c : Nat) (w : World) :
    Calls Try.prog 36 #[.agg #[.int .i64 m, .int .i64 n, .slice A l c]] w fun e w' => e = .returned (.agg #[.int .i64 m, .int .i64 n, .slice A l c]) ∧ Below w.heap.size w w' := by
  have HS := Lib.hid ((St.start w).box2 #[.int .i64 m, .int .i64 n, .slice A l c] #[.int .i64 m, .int .i64 n, .slice A l c] 56 24)
  go_enter Try.func36, Try.ntmps36
  go_wp2
  (try simp only [Exit.inBlock, Exit.then]); refine bodyPost_ret (ret_board8 rfl rfl HS.out 0 rfl rfl) rfl ?_
  exact ⟨rfl, HS.out.below⟩

set_option maxHeartbeats 1000000 in
theorem takes_any (m n : Int) (A : Option Addr) (l c : Nat) (x0 x1 x2 x3 x4 x5 : Int) (w : World) :
    Calls Try.prog 33 #[.agg #[.int .i64 m, .int .i64 n, .slice A l c], .agg #[.int .i64 x0, .int .i64 x1, .int .i64 x2, .int .i64 x3, .int .i64 x4, .int .i64 x5]] w fun e w' => e = .returned (.bool (Bd.may n ⟨x0, x1, x2, x3, x4, x5⟩)) ∧ Below w.heap.size w w' := by
  have HS0 := Lib.hid ((St.start w).box2 #[.int .i64 m, .int .i64 n, .slice A l c] #[.int .i64 x0, .int .i64 x1, .int .i64 x2, .int .i64 x3, .int .i64 x4, .int .i64 x5] 56 28)
  have g := fun W => AIs_any x0 x1 x2 x3 x4 x5 W
  unfold Bd.may
  obtain ⟨r, hr⟩ : ∃ r, r = Am.right ⟨x0, x1, x2, x3, x4, x5⟩ := ⟨_, rfl⟩
  rw [← hr]
  simp only [← hr] at g
  clear hr
  cases r
  · go_enter Try.func33, Try.ntmps33
    go_wp2_with (refine wpList_load_st rfl 28 _ rfl HS0.out 0 _ _ rfl rfl _ Try.underlying28 rfl (by rfl) ?_)
    refine (g _).mono ?_
    rintro e w1 ⟨rfl, hB⟩
    have HS := Lib.hid (HS0.out.on hB)
    clear hB HS0 g
    go_wp2
    go_ret
    exact ⟨rfl, HS.out.below⟩
  · go_enter Try.func33, Try.ntmps33
    go_wp2_with (refine wpList_load_st rfl 28 _ rfl HS0.out 0 _ _ rfl rfl _ Try.underlying28 rfl (by rfl) ?_)
    refine (g _).mono ?_
    rintro e w1 ⟨rfl, hB⟩
    have HS := Lib.hid (HS0.out.on hB)
    clear hB HS0 g
    have s1 := HS.out.cell 0 rfl 4 rfl
    have s2 := HS.out.cell 1 rfl 1 rfl
    go_wp2
    go_ret
    exact ⟨rfl, HS.out.below⟩
end Go.Proofs.Ythlojadkgpmnmaa
