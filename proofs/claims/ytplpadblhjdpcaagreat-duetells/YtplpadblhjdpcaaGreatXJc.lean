/-
  Words for walks over boards.
  Words for walks over boards: a board and an alarm handed back out of their blocks; a block written whole.
  More words on what is known of the memory along a walk.
  Layer 8 (board): the walks of isTime, tooMany, hold, board, takes.
  Layer 8 (board): the walks of rise and right.
  Layer 8 (board): the walk of right.
  Layer 8 (board): blocks written while rows of one's own stand; the walks of New, Is, Get, Of.
  Layer 8 (board): the walk of Is.
  One alarm in a new block.
  Layer 8 (board): the walks of find, without, passed.
  Layer 8 (board): the walk of Get.
-/
import Derived.Test.YtplpadblhjdpcaaGreatXJa
import Derived.Laws.ResultCell
import Derived.BigQuiet
import Derived.Deep.QuietTactic
import Derived.Test.YtplpadblhjdpcaaGreatXJb
import Derived.Deep.RegionHeld3
namespace Go.Proofs.YtplpadblhjdpcaaGreat
set_option maxRecDepth 10000
set_option maxRecDepth 10000
open Go.RowKit

/-- A block that came earlier is written whole; rows that came later stay, for they lie behind it. -/
theorem wpList_restore_st {P : Program} {ops : Array Oper} {rest : List Oper} {o : Oper} {a : Act} {w : World} {Q : Exit → Act → World → Prop} (hgd : o.guard = none) (ty : TypeId) (x y : Operand) (ho : o.op = .store ty x y)
    {w0 u : World} {k : Nat} {old : Array Value} {L : List (Nat × Array Value)} {M : List Fact} (h0 : St w0 u L M) (hS : St w0 w ((k, old) :: L) M) (hb : Below u.heap.size u w) (hk : u.heap.size ≤ k) (cs : Array Value) (base : Nat) (v : Value) (ls : List Alm) (hO : OwnA w base v ls) (hkb : k < base)
    (hx : a.eval x = .pointer (some ⟨k, 0, none⟩)) (hy : a.eval y = .agg cs) (hz : (P.info? ty).map (·.size) = some cs.size) (hsz : old.size = cs.size) (h1 : cs.all (·.oneCell') = true)
    (h : ∀ w', St w0 w' ((k, cs) :: L) M → OwnA w' base v ls → wpList P ops Q rest (a.put o.dst undef) w') : wpList P ops Q (o :: rest) a w := by
  obtain ⟨t, ht⟩ := hS.live (k, old) (by simp)
  refine wpList_store_row hgd ty x y ho k cs hx hy t old ht hz hsz h1 ?_
  refine h _ ((h0.on (below_setRow hb hk cs)).add ⟨t, setRow_heap _ _ _ _ _ _ ht⟩) ?_
  exact World.ownsRow.kept (row := some k) hO (grown_setRow w k cs) (Or.inr (fun e => by
    have := (World.ownsRow.lt hO k e).1
    omega))
theorem St.lt {w0 w : World} {L : List (Nat × Array Value)} {M : List Fact} (h : St w0 w L M) (i : Nat) {k : Nat} {cs : Array Value} (hi : L[i]? = some (k, cs)) : k < w.heap.size := by
  obtain ⟨t, ht⟩ := h.live (k, cs) (List.mem_of_getElem? hi)
  exact (Array.getElem?_eq_some_iff.1 ht).1
theorem run_eql_sp (x0 x1 y0 y1 : Int) (z : Bool) (hz : z = decide (x0 = y0 ∧ x1 = y1)) (w : World) :
    (binOp .eql 26 (.agg #[.int .i64 x0, .int .i64 x1]) (.agg #[.int .i64 y0, .int .i64 y1])).run Tryz.prog w = .ok (.bool z) w := by
  subst hz
  go_simp
  repeat' split
  all_goals simp [*]
theorem run_neq_sp (x0 x1 y0 y1 : Int) (z : Bool) (hz : z = !decide (x0 = y0 ∧ x1 = y1)) (w : World) :
    (binOp .neq 26 (.agg #[.int .i64 x0, .int .i64 x1]) (.agg #[.int .i64 y0, .int .i64 y1])).run Tryz.prog w = .ok (.bool z) w := by
  subst hz
  go_simp
  repeat' split
  all_goals simp [*]
/-- An operation that is not wanted, by the slot that it would write. -/
theorem wpList_skipAt {P : Program} {ops : Array Oper} {rest : List Oper} {o : Oper} {a : Act} {w : World} {Q : Exit → Act → World → Prop} (d : Tmp) (hd : o.dst = some d) (hw : Region.wanted o (yielded ops a.tmps) = false) (h : wpList P ops Q rest (a.put (some d) undef) w) : wpList P ops Q (o :: rest) a w :=
  wpList_skip hw (by rw [hd]; exact h)
/-- A pick that takes the second one, by the slot that it writes. -/
theorem wpList_pickF {P : Program} {ops : Array Oper} {rest : List Oper} {o : Oper} {a : Act} {w : World} {Q : Exit → Act → World → Prop} (d : Tmp) (hd : o.dst = some d) (c x y : Operand) (ho : o.op = .pick c x y) (hw : Region.wanted o (yielded ops a.tmps) = true) (hc : a.eval c = .bool false) (v : Value) (hv : a.eval y = v) (h : wpList P ops Q rest (a.put (some d) v) w) : wpList P ops Q (o :: rest) a w := by
  refine wpList_step fun K hK => ?_
  rw [if_pos hw]
  unfold Oper.wp execOp
  simp [ho, hc, hv, asBool]
  exact hK _ _ (by rw [hd]; exact h)
end Go.Proofs.YtplpadblhjdpcaaGreat

namespace Go.Proofs.YtplpadblhjdpcaaGreat
set_option maxRecDepth 10000
open Go.RowKit

set_option maxRecDepth 10000 in
theorem ret_board {fn : Func} {p u : Tmp} {k : Nat} {cs : Array Value} {tmps : Array Value} {w w0 : World} {L : List (Nat × Array Value)} {M : List Fact} (h : fn.results = #[.cell p 24, .tmp u]) (hp : tmps.getD p undef = .pointer (some ⟨k, 0, none⟩)) (hS : St w0 w L M) (i : Nat) (hi : L[i]? = some (k, cs)) (hz : some cs.size = some 3) :
    (results fn tmps).run Tryz.prog w = .ok (.tuple #[.agg cs, tmps.getD u undef]) w := by
  rw [results_cell_tmp h, hp]
  obtain ⟨t, hb⟩ := hS.live (k, cs) (List.mem_of_getElem? hi)
  have hl := run_loadVar_row (P := Tryz.prog) w k t 24 cs (0, 0) _ hb Tryz.underlying24 rfl (by rw [hz]; rfl)
  simp [asAddr, Result.andThen, hl]

theorem Bd.get_drop {b c : Int} {ls : List Alm} {k : Nat} (h : k < ls.length) : Bd.getA b c (ls.drop k) = if Bd.atS b c ls[k] then (ls[k], true) else Bd.getA b c (ls.drop (k + 1)) := by
  rw [List.drop_eq_getElem_cons h]; rfl
set_option maxRecDepth 10000 in
theorem ret_alarm8 {fn : Func} {p u : Tmp} {k : Nat} {cs : Array Value} {tmps : Array Value} {w w0 : World} {L : List (Nat × Array Value)} {M : List Fact} (h : fn.results = #[.cell p 38, .tmp u]) (hp : tmps.getD p undef = .pointer (some ⟨k, 0, none⟩)) (hS : St w0 w L M) (i : Nat) (hi : L[i]? = some (k, cs)) (hz : some cs.size = some 6) :
    (results fn tmps).run Tryz.prog w = .ok (.tuple #[.agg cs, tmps.getD u undef]) w := by
  rw [results_cell_tmp h, hp]
  obtain ⟨t, hb⟩ := hS.live (k, cs) (List.mem_of_getElem? hi)
  have hl := run_loadVar_row (P := Tryz.prog) w k t 38 cs (0, 0) _ hb Tryz.underlying38 rfl (by rw [hz]; rfl)
  simp [asAddr, Result.andThen, hl]
/-- A whole block that stands there is written, and nothing is known of facts any more but what was there ahead of it. -/
theorem St.rowSet {w0 u w : World} {L : List (Nat × Array Value)} {M : List Fact} (h0 : St w0 u L M) {k : Nat} {old cs : Array Value} (hS : St w0 w ((k, old) :: L) M) (hb : Below u.heap.size u w) (hk : u.heap.size ≤ k) : St w0 (w.setRow k cs) ((k, cs) :: L) M := by
  obtain ⟨t, ht⟩ := hS.live (k, old) (by simp)
  exact (h0.on (below_setRow hb hk cs)).add ⟨t, setRow_heap _ _ _ _ _ _ ht⟩
theorem wpList_reset_st {P : Program} {ops : Array Oper} {rest : List Oper} {o : Oper} {a : Act} {w : World} {Q : Exit → Act → World → Prop} (hgd : o.guard = none) (ty : TypeId) (x y : Operand) (ho : o.op = .store ty x y)
    {w0 u : World} {k : Nat} {old : Array Value} {L : List (Nat × Array Value)} {M : List Fact} (h0 : St w0 u L M) (hS : St w0 w ((k, old) :: L) M) (hb : Below u.heap.size u w) (hk : u.heap.size ≤ k) (cs : Array Value)
    (hx : a.eval x = .pointer (some ⟨k, 0, none⟩)) (hy : a.eval y = .agg cs) (hz : (P.info? ty).map (·.size) = some cs.size) (hsz : old.size = cs.size) (h1 : cs.all (·.oneCell') = true)
    (h : ∀ w', St w0 w' ((k, cs) :: L) M → wpList P ops Q rest (a.put o.dst undef) w') : wpList P ops Q (o :: rest) a w := by
  obtain ⟨t, ht⟩ := hS.live (k, old) (by simp)
  exact wpList_store_row hgd ty x y ho k cs hx hy t old ht hz hsz h1 (h _ (h0.rowSet hS hb hk))
end Go.Proofs.YtplpadblhjdpcaaGreat

namespace Go.Proofs.YtplpadblhjdpcaaGreat
set_option maxRecDepth 10000
open Go.RowKit

theorem exec_load_st8 {o : Oper} {a : Act} {w : World} (ty : TypeId) (x : Operand) (ho : o.op = .load ty x) {w0 : World} {L : List (Nat × Array Value)} {M : List Fact} (hS : St w0 w L M) (i k : Nat) (cs : Array Value) (hi : L[i]? = some (k, cs)) (hx : a.eval x = .pointer (some ⟨k, 0, none⟩)) (d : TypeDesc)
    (hu : Tryz.prog.underlying ty = some d) (hd : (match d with | .struct _ | .array _ _ => true | _ => false) = true) (hz : (Tryz.prog.info? ty).map (·.size) = some cs.size) :
    (execOp a.eval o).run Tryz.prog w = .ok (.value (.agg cs)) w := by
  obtain ⟨t, ht⟩ := hS.live (k, cs) (List.mem_of_getElem? hi)
  have hl := run_loadVar_row (P := Tryz.prog) w k t ty cs (0, 0) d ht hu (by cases d <;> first | rfl | exact hd) hz
  unfold execOp
  simp only [ho, hx, Instr.loadAt, Instr.sureAddr, Sem.run_bind, Sem.run_pure, Result.andThen_ok, hl]
theorem St.pick8 {w0 w : World} {L : List (Nat × Array Value)} {M : List Fact} (h : St w0 w L M) (L' : List (Nat × Array Value)) (hL : ∀ x ∈ L', x ∈ L) : St w0 w L' [] := ⟨fun x hx => h.live x (hL x hx), (fun _ h => nomatch h), h.below⟩
theorem St.set8 {w0 w : World} {L : List (Nat × Array Value)} {M : List Fact} (h : St w0 w L M) (cs : Array Value) {k i : Nat} {old : Array Value} (hi : L[i]? = some (k, old)) (hk : w0.heap.size ≤ k) : St w0 (w.setRow k cs) [(k, cs)] [] := by
  obtain ⟨t, ht⟩ := h.live (k, old) (List.mem_of_getElem? hi)
  refine ⟨fun y hy => ?_, (fun _ h => nomatch h), below_setRow h.below hk cs⟩
  obtain rfl : y = (k, cs) := by simpa using hy
  exact ⟨t, setRow_heap _ _ _ _ _ _ ht⟩
theorem St.after8 {w0 w : World} {L : List (Nat × Array Value)} {M : List Fact} (h : St w0 w L M) (cs : Array Value) (L' : List (Nat × Array Value)) (hL : ∀ x ∈ L', x ∈ L) {k : Nat} (hne : ∀ x ∈ L', x.1 ≠ k) (hk : w0.heap.size ≤ k) : St w0 (w.setRow k cs) L' [] :=
  ⟨fun x hx => by
    obtain ⟨t, ht⟩ := h.live x (hL x hx)
    exact ⟨t, (setRow_other w k x.1 cs (hne x hx)).trans ht⟩, (fun _ h => nomatch h), below_setRow h.below hk cs⟩
theorem OwnA.after {w : World} {base : Nat} {v : Value} {ls : List Alm} (h : OwnA w base v ls) {k : Nat} (cs : Array Value) (hk : k < base) : OwnA (w.setRow k cs) base v ls :=
  World.ownsRow.kept (row := some k) h (grown_setRow w k cs) (Or.inr (fun e => by
    have := (World.ownsRow.lt h k e).1
    omega))
theorem ret_board9 {fn : Func} {p : Tmp} {k : Nat} {cs : Array Value} {tmps : Array Value} {w w0 : World} {L : List (Nat × Array Value)} {M : List Fact} (h : fn.results = #[.cell p 24]) (hp : tmps.getD p undef = .pointer (some ⟨k, 0, none⟩)) (hS : St w0 w L M) (i : Nat) (hi : L[i]? = some (k, cs)) (hz : some cs.size = some 3) :
    (results fn tmps).run Tryz.prog w = .ok (.agg cs) w := by
  obtain ⟨t, hb⟩ := hS.live (k, cs) (List.mem_of_getElem? hi)
  exact results_cell_row h tmps w k t cs (0, 0) _ hp hb Tryz.underlying24 rfl (by rw [hz]; rfl)
theorem Al6.drew {w : World} {b o : Nat} {a : Alm} (h : Al6 w b o a) : Al6 w.drew b o a := ⟨h.c0, h.c1, h.c2, h.c3, h.c4, h.c5⟩
theorem Al6.row {w : World} {b o k : Nat} {a : Alm} (h : Al6 w b o a) (cs : Array Value) (hne : b ≠ k) : Al6 (w.setRow k cs) b o a := by
  have f : ∀ j, (w.setRow k cs).cell? ⟨b, j, none⟩ = w.cell? ⟨b, j, none⟩ := fun j => World.cell?_of_block (setRow_other w k b cs hne)
  exact ⟨(f _).trans h.c0, (f _).trans h.c1, (f _).trans h.c2, (f _).trans h.c3, (f _).trans h.c4, (f _).trans h.c5⟩
theorem run_neq_same (x0 x1 x2 x3 x4 x5 : Int) (w : World) :
    (binOp .neq 38 (.agg #[.int .i64 x0, .int .i64 x1, .int .i64 x2, .int .i64 x3, .int .i64 x4, .int .i64 x5]) (.agg #[.int .i64 x0, .int .i64 x1, .int .i64 x2, .int .i64 x3, .int .i64 x4, .int .i64 x5])).run Tryz.prog w = .ok (.bool false) w := by
  go_simp
end Go.Proofs.YtplpadblhjdpcaaGreat

namespace Go.Proofs.YtplpadblhjdpcaaGreat
set_option maxRecDepth 10000
open Go.RowKit

theorem bIsTime_any (n : Int) (w : World) :
    Calls Tryz.prog 68 #[.int .i64 n] w fun e w' => e = .returned (.bool (Am.isT n)) ∧ w' = w := by
  go_enter Tryz.func68, Tryz.ntmps68
  go_wp2
  all_goals go_ret
  all_goals (refine ⟨?_, rfl⟩; congr 2; unfold Am.isT; simp [*] <;> omega)

theorem tooMany_any (m n : Int) (A : Option Addr) (l c : Nat) (w : World) :
    Calls Tryz.prog 62 #[.agg #[.int .i64 m, .int .i64 n, .slice A l c]] w fun e w' => e = .returned (.bool (decide (m < (l : Int)))) ∧ Below w.heap.size w w' := by
  go_enter Tryz.func62, Tryz.ntmps62
  go_wp2
  go_ret
  exact ⟨rfl, below_new _ _⟩

theorem ret_held8 {fn : Func} {p : Tmp} {k : Nat} {cs : Array Value} {tmps : Array Value} {w w0 : World} {L : List (Nat × Array Value)} {M : List Fact} (h : fn.results = #[.cell p 75]) (hp : tmps.getD p undef = .pointer (some ⟨k, 0, none⟩)) (hS : St w0 w L M) (i : Nat) (hi : L[i]? = some (k, cs)) (hz : some cs.size = some 3) :
    (results fn tmps).run Tryz.prog w = .ok (.agg cs) w := by
  obtain ⟨t, hb⟩ := hS.live (k, cs) (List.mem_of_getElem? hi)
  exact results_cell_row h tmps w k t cs (0, 0) _ hp hb Tryz.underlying75 rfl (by rw [hz]; rfl)

theorem ret_board8 {fn : Func} {p : Tmp} {k : Nat} {cs : Array Value} {tmps : Array Value} {w w0 : World} {L : List (Nat × Array Value)} {M : List Fact} (h : fn.results = #[.cell p 24]) (hp : tmps.getD p undef = .pointer (some ⟨k, 0, none⟩)) (hS : St w0 w L M) (i : Nat) (hi : L[i]? = some (k, cs)) (hz : some cs.size = some 3) :
    (results fn tmps).run Tryz.prog w = .ok (.agg cs) w := by
  obtain ⟨t, hb⟩ := hS.live (k, cs) (List.mem_of_getElem? hi)
  exact results_cell_row h tmps w k t cs (0, 0) _ hp hb Tryz.underlying24 rfl (by rw [hz]; rfl)

theorem hold_any (m n : Int) (A : Option Addr) (l c : Nat) (w : World) :
    Calls Tryz.prog 42 #[.agg #[.int .i64 m, .int .i64 n, .slice A l c]] w fun e w' => e = .returned (.agg #[.int .i64 m, .int .i64 n, .slice A l c]) ∧ Below w.heap.size w w' := by
  have HS := Lib.hid ((St.start w).box2 #[.int .i64 m, .int .i64 n, .slice A l c] #[.int .i64 m, .int .i64 n, .slice A l c] 24 75)
  go_enter Tryz.func42, Tryz.ntmps42
  go_wp2
  (try simp only [Exit.inBlock, Exit.then]); refine bodyPost_ret (ret_held8 rfl rfl HS.out 0 rfl rfl) rfl ?_
  exact ⟨rfl, HS.out.below⟩

theorem board_any (m n : Int) (A : Option Addr) (l c : Nat) (w : World) :
    Calls Tryz.prog 53 #[.agg #[.int .i64 m, .int .i64 n, .slice A l c]] w fun e w' => e = .returned (.agg #[.int .i64 m, .int .i64 n, .slice A l c]) ∧ Below w.heap.size w w' := by
  have HS := Lib.hid ((St.start w).box2 #[.int .i64 m, .int .i64 n, .slice A l c] #[.int .i64 m, .int .i64 n, .slice A l c] 75 24)
  go_enter Tryz.func53, Tryz.ntmps53
  go_wp2
  (try simp only [Exit.inBlock, Exit.then]); refine bodyPost_ret (ret_board8 rfl rfl HS.out 0 rfl rfl) rfl ?_
  exact ⟨rfl, HS.out.below⟩

set_option maxHeartbeats 1000000 in
theorem takes_any (m n : Int) (A : Option Addr) (l c : Nat) (x0 x1 x2 x3 x4 x5 : Int) (w : World) :
    Calls Tryz.prog 60 #[.agg #[.int .i64 m, .int .i64 n, .slice A l c], .agg #[.int .i64 x0, .int .i64 x1, .int .i64 x2, .int .i64 x3, .int .i64 x4, .int .i64 x5]] w fun e w' => e = .returned (.bool (Bd.may n ⟨x0, x1, x2, x3, x4, x5⟩)) ∧ Below w.heap.size w w' := by
  have HS0 := Lib.hid ((St.start w).box2 #[.int .i64 m, .int .i64 n, .slice A l c] #[.int .i64 x0, .int .i64 x1, .int .i64 x2, .int .i64 x3, .int .i64 x4, .int .i64 x5] 75 38)
  have g := fun W => AIs_any x0 x1 x2 x3 x4 x5 W
  unfold Bd.may
  obtain ⟨r, hr⟩ : ∃ r, r = Am.right ⟨x0, x1, x2, x3, x4, x5⟩ := ⟨_, rfl⟩
  rw [← hr]
  simp only [← hr] at g
  clear hr
  cases r
  · go_enter Tryz.func60, Tryz.ntmps60
    go_wp2_with (refine wpList_load_st rfl 38 _ rfl HS0.out 0 _ _ rfl rfl _ Tryz.underlying38 rfl (by rfl) ?_)
    refine (g _).mono ?_
    rintro e w1 ⟨rfl, hB⟩
    have HS := Lib.hid (HS0.out.on hB)
    clear hB HS0 g
    go_wp2
    go_ret
    exact ⟨rfl, HS.out.below⟩
  · go_enter Tryz.func60, Tryz.ntmps60
    go_wp2_with (refine wpList_load_st rfl 38 _ rfl HS0.out 0 _ _ rfl rfl _ Tryz.underlying38 rfl (by rfl) ?_)
    refine (g _).mono ?_
    rintro e w1 ⟨rfl, hB⟩
    have HS := Lib.hid (HS0.out.on hB)
    clear hB HS0 g
    have s1 := HS.out.cell 0 rfl 4 rfl
    have s2 := HS.out.cell 1 rfl 1 rfl
    go_wp2
    go_ret
    exact ⟨rfl, HS.out.below⟩
end Go.Proofs.YtplpadblhjdpcaaGreat

namespace Go.Proofs.YtplpadblhjdpcaaGreat
set_option maxRecDepth 10000
open Go.RowKit

theorem Bd.rise_step {ls : List Alm} {j : Nat} (h : j + 1 < ls.length) : Bd.rising (ls.drop j) = (Bd.lessA (ls[j]'(by omega)) (ls[j + 1]'h) && Bd.rising (ls.drop (j + 1))) := by
  rw [List.drop_eq_getElem_cons (by omega : j < ls.length), List.drop_eq_getElem_cons h]
  rfl
theorem Bd.rise_end {ls : List Alm} {j : Nat} (h : ls.length ≤ j + 1) : Bd.rising (ls.drop j) = true := by
  have h1 : (ls.drop j).length ≤ 1 := by rw [List.length_drop]; omega
  rcases hd : ls.drop j with _ | ⟨x, _ | ⟨y, l⟩⟩
  · rfl
  · rfl
  · rw [hd] at h1; simp at h1
theorem Bd.all_step {n : Int} {ls : List Alm} {k : Nat} (h : k < ls.length) : (ls.drop k).all (Bd.may n) = (Bd.may n ls[k] && (ls.drop (k + 1)).all (Bd.may n)) := by
  rw [List.drop_eq_getElem_cons h]; rfl

set_option maxRecDepth 10000 in
set_option maxHeartbeats 2000000 in
theorem rise_any (A : Option Addr) (l c : Nat) (ls : List Alm) (w : World) (h : Told w A l c ls) :
    Calls Tryz.prog 69 #[.slice A l c] w fun e w' => e = .returned (.bool (Bd.rising ls)) ∧ Below w.heap.size w w' := by
  obtain ⟨hl, hA, _, hf⟩ := h
  have Hl := Lib.hid hl
  have Hf := Lib.hid hf
  have HA0 := Lib.hid hA
  obtain ⟨r, hr⟩ : ∃ r, r = Bd.rising ls := ⟨_, rfl⟩
  have Hr := Lib.hid hr
  rw [← hr]
  clear hl hf hA hr
  go_enter Tryz.func69, Tryz.ntmps69
  go_wp2_with fail
  go_loopw [3] (fun i wr => ∃ j : Nat, i = .int .i64 ((j : Int) + 1) ∧ Hid (Bd.rising (ls.drop j) = r) ∧ Hid (Below w.heap.size w wr)) (fun i _ => l - (intOf i).toNat)
  case atStart => exact ⟨0, rfl, Lib.hid (by rw [Hr.out]; rfl), Lib.hid (Below.refl _ _)⟩
  case round =>
    obtain ⟨j, rfl, Hg, HB⟩ := hrel
    by_cases hlt : j + 1 < l
    · have kl : j + 1 < ls.length := by rw [← Hl.out]; exact hlt
      have HA := Lib.hid (HA0.out.on HB.out)
      obtain ⟨b0, o0, rfl, hb0, h6⟩ := HA.out j (by omega)
      obtain ⟨b1, o1, e1, hb1, h7⟩ := HA.out (j + 1) kl
      cases e1
      have Hs := Lib.hid (Bd.rise_step kl)
      obtain ⟨x, hx⟩ : ∃ x, x = ls[j]'(by omega) := ⟨_, rfl⟩
      obtain ⟨y, hy⟩ : ∃ y, y = ls[j + 1]'kl := ⟨_, rfl⟩
      rw [← hx] at h6 Hs
      rw [← hy] at h7 Hs
      clear hx hy
      obtain ⟨x0, x1, x2, x3, x4, x5⟩ := x
      obtain ⟨y0, y1, y2, y3, y4, y5⟩ := y
      have d0 := h6.c0
      have d1 := h6.c1
      have f0 := h7.c0
      have f1 := h7.c1
      simp only at d0 d1 f0 f1
      have i1 : (j : Int) + 1 < (l : Int) := by omega
      have i2 : (j : Int) < (l : Int) := by omega
      have i3 : (0 : Int) ≤ (j : Int) := by omega
      have i4 : (0 : Int) ≤ (j : Int) + 1 := by omega
      have i5 : ((j : Int) + 1).toNat = j + 1 := by omega
      have i6 : wrap64 ((j : Int) + 1 - 1) = (j : Int) := by have := Hf.out; unfold wrap64; omega
      have i7 : IntKind.i64.wrap ((j : Int) + 1 - 1) = (j : Int) := by have := Hf.out; rw [IntKind.wrap_i64]; omega
      have i8 : wrap64 (j : Int) = (j : Int) := by have := Hf.out; clear i6 i7; unfold wrap64; omega
      have i9 : IntKind.i64.wrap (j : Int) = (j : Int) := by have := Hf.out; clear i6 i7 i8; rw [IntKind.wrap_i64]; omega
      have Ik : Hid (wrap64 ((j : Int) + 1 + 1) = (j : Int) + 1 + 1) := Lib.hid (by have := Hf.out; clear i6 i7 i8 i9; unfold wrap64; omega)
      have Hk := Lib.hid hlt
      have g := fun W => Less_any x0 x1 y0 y1 W
      obtain ⟨z, hz⟩ : ∃ z, z = Sp.less x0 x1 y0 y1 := ⟨_, rfl⟩
      simp only [← hz] at g
      have Ha : Hid (Bd.lessA ⟨x0, x1, x2, x3, x4, x5⟩ ⟨y0, y1, y2, y3, y4, y5⟩ = z) := Lib.hid (by rw [hz]; rfl)
      clear h6 h7 kl hlt hz hb1
      cases z
      · have He : Hid (r = false) := Lib.hid (by rw [← Hg.out, Hs.out, Ha.out]; rfl)
        clear Hs Hg Ha
        go_wp2_with fail
        go_region_held3 (fun W => W.cell? ⟨b0, o0 + j * 6, none⟩ = some (.int .i64 x0) ∧ W.cell? ⟨b0, o0 + j * 6 + 1, none⟩ = some (.int .i64 x1) ∧ W.cell? ⟨b0, o0 + (j + 1) * 6, none⟩ = some (.int .i64 y0) ∧ W.cell? ⟨b0, o0 + (j + 1) * 6 + 1, none⟩ = some (.int .i64 y1)) (exact ⟨d0, d1, f0, f1⟩) ((go_at_call 52; refine (g _).mono ?_; rintro e w' ⟨rfl, hB'⟩; have hB2 : Below wr.heap.size wr w' := (by first | exact hB' | exact below_undrew hB'); replace d0 := (hB2.cell (p := ⟨b0, o0 + j * 6, none⟩) hb0).trans d0; replace d1 := (hB2.cell (p := ⟨b0, o0 + j * 6 + 1, none⟩) hb0).trans d1; replace f0 := (hB2.cell (p := ⟨b0, o0 + (j + 1) * 6, none⟩) hb0).trans f0; replace f1 := (hB2.cell (p := ⟨b0, o0 + (j + 1) * 6 + 1, none⟩) hb0).trans f1; have HB2 : Hid (Below w.heap.size w w') := Lib.hid (below2 HB.out hB2); clear hB' hB2))
        go_wp2
        go_ret
        exact ⟨by rw [He.out]; rfl, HB2.out⟩
      · have He : Hid (Bd.rising (ls.drop (j + 1)) = r) := Lib.hid (by rw [← Hg.out, Hs.out, Ha.out]; rfl)
        clear Hs Hg Ha
        go_wp2_with fail
        go_region_held3 (fun W => W.cell? ⟨b0, o0 + j * 6, none⟩ = some (.int .i64 x0) ∧ W.cell? ⟨b0, o0 + j * 6 + 1, none⟩ = some (.int .i64 x1) ∧ W.cell? ⟨b0, o0 + (j + 1) * 6, none⟩ = some (.int .i64 y0) ∧ W.cell? ⟨b0, o0 + (j + 1) * 6 + 1, none⟩ = some (.int .i64 y1)) (exact ⟨d0, d1, f0, f1⟩) ((go_at_call 52; refine (g _).mono ?_; rintro e w' ⟨rfl, hB'⟩; have hB2 : Below wr.heap.size wr w' := (by first | exact hB' | exact below_undrew hB'); replace d0 := (hB2.cell (p := ⟨b0, o0 + j * 6, none⟩) hb0).trans d0; replace d1 := (hB2.cell (p := ⟨b0, o0 + j * 6 + 1, none⟩) hb0).trans d1; replace f0 := (hB2.cell (p := ⟨b0, o0 + (j + 1) * 6, none⟩) hb0).trans f0; replace f1 := (hB2.cell (p := ⟨b0, o0 + (j + 1) * 6 + 1, none⟩) hb0).trans f1; have HB2 : Hid (Below w.heap.size w w') := Lib.hid (below2 HB.out hB2); clear hB' hB2))
        go_wp2
        go_roundw
        case rel => exact ⟨j + 1, by first | rfl | (rw [Ik.out]; rfl), He, HB2⟩
        case measure => have := Hk.out; (try rw [Ik.out]); simp [intOf]; omega
    · have ik : ((j : Int) + 1 < (l : Int)) = False := eq_false (by omega)
      have He : Hid (r = true) := Lib.hid (by rw [← Hg.out, Bd.rise_end (by have := Hl.out; omega)])
      clear hlt Hg
      go_wp2
      go_ret
      exact ⟨by rw [He.out]; rfl, HB.out⟩
end Go.Proofs.YtplpadblhjdpcaaGreat

namespace Go.Proofs.YtplpadblhjdpcaaGreat
set_option maxRecDepth 10000
open Go.RowKit

/-- A board that is wrong ahead of its alarms. -/
theorem Bd.isB_lt {m n : Int} {ls : List Alm} (h : m < 1) : Bd.isB m n ls = false := by
  unfold Bd.isB; rw [decide_eq_false (by omega : ¬ 1 ≤ m)]; rfl
theorem Bd.isB_gt {m n : Int} {ls : List Alm} (h : 200 < m) : Bd.isB m n ls = false := by
  unfold Bd.isB; rw [decide_eq_false (by omega : ¬ m ≤ 200)]; simp
theorem Bd.isB_t {m n : Int} {ls : List Alm} (h : Am.isT n = false) : Bd.isB m n ls = false := by
  unfold Bd.isB; rw [h]; simp
theorem Bd.isB_many {m n : Int} {ls : List Alm} (h : m < (ls.length : Int)) : Bd.isB m n ls = false := by
  unfold Bd.isB; rw [decide_eq_false (by omega : ¬ (ls.length : Int) ≤ m)]; simp
theorem Bd.isB_rise {m n : Int} {ls : List Alm} (h : Bd.rising ls = false) : Bd.isB m n ls = false := by
  unfold Bd.isB Bd.rows; rw [h]; simp
theorem Bd.isB_rest {m n : Int} {ls : List Alm} (h1 : ¬ m < 1) (h2 : ¬ 200 < m) (h3 : Am.isT n = true) (h4 : ¬ m < (ls.length : Int)) (h5 : Bd.rising ls = true) : Bd.isB m n ls = ls.all (Bd.may n) := by
  unfold Bd.isB Bd.rows; rw [h3, h5, decide_eq_true (by omega : 1 ≤ m), decide_eq_true (by omega : m ≤ 200), decide_eq_true (by omega : (ls.length : Int) ≤ m)]; simp

set_option maxRecDepth 10000 in
set_option maxHeartbeats 2000000 in
theorem right_any (m n : Int) (A : Option Addr) (l c : Nat) (ls : List Alm) (w : World) (h : Told w A l c ls) :
    Calls Tryz.prog 43 #[.agg #[.int .i64 m, .int .i64 n, .slice A l c]] w fun e w' => e = .returned (.bool (Bd.isB m n ls)) ∧ Below w.heap.size w w' := by
  obtain ⟨hl, hA, hn0, hf⟩ := h
  have HS := Lib.hid (((St.start w).more (rowF A ls) hA).new #[.int .i64 m, .int .i64 n, .slice A l c] 75)
  have Hl := Lib.hid hl
  have Hf := Lib.hid hf
  have Hn0 := Lib.hid hn0
  clear hA hn0 hf
  by_cases h1 : m < 1
  · rw [Bd.isB_lt h1]
    clear hl
    go_enter Tryz.func43, Tryz.ntmps43
    go_wp2
    go_ret
    exact ⟨rfl, below_new _ _⟩
  have i1 : (m < 1) = False := eq_false h1
  by_cases h2 : 200 < m
  · rw [Bd.isB_gt h2]
    clear hl h1
    go_enter Tryz.func43, Tryz.ntmps43
    go_wp2
    go_ret
    exact ⟨rfl, below_new _ _⟩
  have i2 : (200 < m) = False := eq_false h2
  have g1 := fun W => bIsTime_any n W
  cases h3 : Am.isT n
  · rw [Bd.isB_t h3]
    simp only [h3] at g1
    clear hl h1 h2 h3
    go_enter Tryz.func43, Tryz.ntmps43
    go_wp2_with fail
    refine (g1 _).mono ?_
    rintro e w1 ⟨rfl, rfl⟩
    go_wp2
    go_ret
    exact ⟨rfl, below_new _ _⟩
  simp only [h3] at g1
  have g2 := fun W => tooMany_any m n A l c W
  by_cases h4 : m < (l : Int)
  · rw [Bd.isB_many (by rw [← hl]; exact h4)]
    simp only [decide_eq_true h4] at g2
    clear hl h1 h2 h3 h4
    go_enter Tryz.func43, Tryz.ntmps43
    go_wp2_with fail
    refine (g1 _).mono ?_
    rintro e w1 ⟨rfl, rfl⟩
    go_wp2_with fail
    refine (g2 _).mono ?_
    rintro e w1 ⟨rfl, hB⟩
    have HB := Lib.hid (below2 (below_new w _) hB)
    clear hB
    go_wp2
    go_ret
    exact ⟨rfl, HB.out⟩
  simp only [decide_eq_false h4] at g2
  have g3 := fun W (hA : AlmsAt W W.heap.size A ls) => Lib.hid (rise_any A l c ls W ⟨Hl.out, hA, Hn0.out, Hf.out⟩)
  cases h5 : Bd.rising ls
  · rw [Bd.isB_rise h5]
    simp only [h5] at g3
    clear hl h1 h2 h3 h4 h5
    go_enter Tryz.func43, Tryz.ntmps43
    go_wp2_with fail
    refine (g1 _).mono ?_
    rintro e w1 ⟨rfl, rfl⟩
    go_wp2_with fail
    refine (g2 _).mono ?_
    rintro e w1 ⟨rfl, hB⟩
    replace HS := Lib.hid (HS.out.on hB)
    clear hB
    have s2 := HS.out.cell 0 rfl 2 rfl
    go_wp2_with fail
    refine (g3 _ (HS.out.fact 0 rfl)).out.mono ?_
    rintro e w2 ⟨rfl, hB⟩
    replace HS := Lib.hid (HS.out.on hB)
    clear hB s2
    go_wp2
    go_ret
    exact ⟨rfl, HS.out.below⟩
  simp only [h5] at g3
  rw [Bd.isB_rest h1 h2 h3 (by rw [← hl]; exact h4) h5]
  obtain ⟨r, hr⟩ : ∃ r, r = ls.all (Bd.may n) := ⟨_, rfl⟩
  have Hr := Lib.hid hr
  rw [← hr]
  clear hl h1 h2 h3 h4 h5 hr
  go_enter Tryz.func43, Tryz.ntmps43
  go_wp2_with fail
  refine (g1 _).mono ?_
  rintro e w1 ⟨rfl, rfl⟩
  go_wp2_with fail
  refine (g2 _).mono ?_
  rintro e w1 ⟨rfl, hB⟩
  replace HS := Lib.hid (HS.out.on hB)
  clear hB
  have s2 := HS.out.cell 0 rfl 2 rfl
  go_wp2_with fail
  refine (g3 _ (HS.out.fact 0 rfl)).out.mono ?_
  rintro e w2 ⟨rfl, hB⟩
  replace HS := Lib.hid (HS.out.on hB)
  clear hB s2 g1 g2 g3 i1 i2
  have s2 := HS.out.cell 0 rfl 2 rfl
  obtain ⟨p1, hp1⟩ : ∃ p, p = w.heap.size := ⟨_, rfl⟩
  rw [← hp1] at HS s2 ⊢
  clear hp1
  go_wp2_with fail
  go_loopw [32] (fun i wr => ∃ k : Nat, i = .int .i64 (k : Int) ∧ Hid ((ls.drop k).all (Bd.may n) = r) ∧ Hid (Below w2.heap.size w2 wr)) (fun i _ => l - (intOf i).toNat)
  case atStart => exact ⟨0, rfl, Lib.hid (by rw [Hr.out]; rfl), Lib.hid (Below.refl _ _)⟩
  case round =>
    obtain ⟨k, rfl, Hg, HB⟩ := hrel
    have HSr := Lib.hid (HS.out.on HB.out)
    by_cases hlt : k < l
    · have kl : k < ls.length := by rw [← Hl.out]; exact hlt
      have HA : Hid (AlmsAt wr wr.heap.size A ls) := Lib.hid (HSr.out.fact 0 rfl)
      obtain ⟨b0, o0, rfl, hb0, h6⟩ := HA.out k kl
      have Hs := Lib.hid (Bd.all_step (n := n) kl)
      obtain ⟨x, hx⟩ : ∃ x, x = ls[k]'kl := ⟨_, rfl⟩
      rw [← hx] at h6 Hs
      clear hx
      obtain ⟨x0, x1, x2, x3, x4, x5⟩ := x
      have d0 := h6.c0
      have d1 := h6.c1
      have d2 := h6.c2
      have d3 := h6.c3
      have d4 := h6.c4
      have d5 := h6.c5
      simp only at d0 d1 d2 d3 d4 d5
      have i1 : (k : Int) < (l : Int) := by omega
      have i3 : (0 : Int) ≤ (k : Int) := by omega
      have Ik : Hid (wrap64 ((k : Int) + 1) = (k : Int) + 1) := Lib.hid (by have := Hf.out; unfold wrap64; omega)
      have Hk := Lib.hid hlt
      have g := fun W => takes_any m n (some ⟨b0, o0, none⟩) l c x0 x1 x2 x3 x4 x5 W
      obtain ⟨z, hz⟩ : ∃ z, z = Bd.may n ⟨x0, x1, x2, x3, x4, x5⟩ := ⟨_, rfl⟩
      simp only [← hz] at g
      rw [← hz] at Hs
      have HSn := Lib.hid (HSr.out.new #[.int .i64 x0, .int .i64 x1, .int .i64 x2, .int .i64 x3, .int .i64 x4, .int .i64 x5] 38)
      have HBn := Lib.hid (below2 HB.out (below_new wr (.cells #[.int .i64 x0, .int .i64 x1, .int .i64 x2, .int .i64 x3, .int .i64 x4, .int .i64 x5] 38)))
      clear h6 kl hlt hz hb0 HB HSr HA
      cases z
      · have He : Hid (r = false) := Lib.hid (by rw [← Hg.out, Hs.out]; rfl)
        clear Hs Hg
        go_wp2_with (refine wpList_load_st rfl 75 _ rfl HSn.out 1 _ _ rfl rfl _ Tryz.underlying75 rfl (by rfl) ?_)
        refine (g _).mono ?_
        rintro e w3 ⟨rfl, hB⟩
        have HS3 := Lib.hid (HSn.out.on hB)
        clear hB d0 d1 d2 d3 d4 d5 s2
        go_wp2
        go_ret
        exact ⟨by rw [He.out]; rfl, HS3.out.below⟩
      · have He : Hid ((ls.drop (k + 1)).all (Bd.may n) = r) := Lib.hid (by rw [← Hg.out, Hs.out]; rfl)
        clear Hs Hg
        go_wp2_with (refine wpList_load_st rfl 75 _ rfl HSn.out 1 _ _ rfl rfl _ Tryz.underlying75 rfl (by rfl) ?_)
        refine (g _).mono ?_
        rintro e w3 ⟨rfl, hB⟩
        have HB3 := Lib.hid (below2 HBn.out hB)
        clear hB d0 d1 d2 d3 d4 d5 s2
        go_wp2
        go_roundw
        case rel => exact ⟨k + 1, by first | rfl | (rw [Ik.out]; rfl), He, HB3⟩
        case measure => have := Hk.out; (try rw [Ik.out]); simp [intOf]; omega
    · have ik : ((k : Int) < (l : Int)) = False := eq_false (by omega)
      have He : Hid (r = true) := Lib.hid (by rw [← Hg.out, List.drop_eq_nil_of_le (by have := Hl.out; omega)]; rfl)
      clear hlt Hg
      go_wp2
      go_ret
      exact ⟨by rw [He.out]; rfl, HSr.out.below⟩
end Go.Proofs.YtplpadblhjdpcaaGreat

namespace Go.Proofs.YtplpadblhjdpcaaGreat
set_option maxRecDepth 10000
open Go.RowKit

theorem grown_setCell (w : World) (k j : Nat) (v : Value) : w.grownBy (w.setCell ⟨k, j, none⟩ v) (some k) :=
  ⟨rfl, rfl, rfl, by simp [World.setCell], fun i _ hne => heap_setCell_other w ⟨k, j, none⟩ i v (fun e => hne (by rw [show i = k from e]))⟩
/-- A block of one's own is written whole: rows behind it stay. -/
theorem wpList_setres {P : Program} {ops : Array Oper} {rest : List Oper} {o : Oper} {a : Act} {w : World} {Q : Exit → Act → World → Prop} (hgd : o.guard = none) (ty : TypeId) (x y : Operand) (ho : o.op = .store ty x y)
    {w0 : World} {L : List (Nat × Array Value)} {M : List Fact} (hS : St w0 w L M) (i k : Nat) (old cs : Array Value) (hi : L[i]? = some (k, old)) (hk : w0.heap.size ≤ k) (base : Nat) (v : Value) (ls : List Alm) (hO : OwnA w base v ls) (hkb : k < base)
    (hx : a.eval x = .pointer (some ⟨k, 0, none⟩)) (hy : a.eval y = .agg cs) (hz : (P.info? ty).map (·.size) = some cs.size) (hsz : old.size = cs.size) (h1 : cs.all (·.oneCell') = true)
    (h : ∀ w', St w0 w' [(k, cs)] [] → OwnA w' base v ls → wpList P ops Q rest (a.put o.dst undef) w') : wpList P ops Q (o :: rest) a w := by
  obtain ⟨t, ht⟩ := hS.live (k, old) (List.mem_of_getElem? hi)
  refine wpList_store_row hgd ty x y ho k cs hx hy t old ht hz hsz h1 ?_
  refine h _ ⟨fun y hy => ?_, (fun _ h => nomatch h), below_setRow hS.below hk cs⟩ ?_
  · obtain rfl : y = (k, cs) := by simpa using hy
    exact ⟨t, setRow_heap _ _ _ _ _ _ ht⟩
  · exact World.ownsRow.kept (row := some k) hO (grown_setRow w k cs) (Or.inr (fun e => by
      have := (World.ownsRow.lt hO k e).1
      omega))
/-- One cell of the block that came last is written: rows behind it stay. -/
theorem wpList_setcell {P : Program} {ops : Array Oper} {rest : List Oper} {o : Oper} {a : Act} {w : World} {Q : Exit → Act → World → Prop} (hgd : o.guard = none) (ty : TypeId) (x y : Operand) (ho : o.op = .store ty x y)
    {w0 : World} {k : Nat} {cs : Array Value} {L : List (Nat × Array Value)} {M : List Fact} (hS : St w0 w ((k, cs) :: L) M) (hne : ∀ y ∈ L, y.1 ≠ k) (hk : w0.heap.size ≤ k) (j : Nat) (v old : Value) (base : Nat) (u : Value) (ls : List Alm) (hO : OwnA w base u ls) (hkb : k < base)
    (hx : a.eval x = .pointer (some ⟨k, j, none⟩)) (hy : a.eval y = v) (hj : cs[j]? = some old) (hi : (P.info? ty).map (·.size) = some 1) (h1 : v.oneCell' = true)
    (h : ∀ w', St w0 w' ((k, cs.setIfInBounds j v) :: L) [] → OwnA w' base u ls → wpList P ops Q rest (a.put o.dst undef) w') : wpList P ops Q (o :: rest) a w := by
  refine wpList_plain hgd fun K hK => ?_
  have hc := hS.cell 0 rfl j hj
  have hf := hS.free 0 rfl j
  unfold Oper.wp execOp
  simp only [ho, hx, hy, Instr.storeAt, Instr.sureAddr, Sem.run_bind, Sem.run_pure, Result.andThen_ok, run_storeVar_cell w k j ty v (by rw [hc]; rfl) hf hi h1]
  refine hK _ _ (h _ ⟨fun y hy => ?_, (fun _ h => nomatch h), below_setCell hS.below hk j v⟩ ?_)
  · rcases List.mem_cons.1 hy with rfl | hy
    · obtain ⟨t, ht⟩ := hS.live (k, cs) (by simp)
      exact ⟨t, heap_setCell_same w k j cs t v ht⟩
    · obtain ⟨t, ht⟩ := hS.live y (List.mem_cons_of_mem _ hy)
      exact ⟨t, (heap_setCell_other w ⟨k, j, none⟩ y.1 v (hne y hy)).trans ht⟩
  · exact World.ownsRow.kept (row := some k) hO (grown_setCell w k j v) (Or.inr (fun e => by
      have := (World.ownsRow.lt hO k e).1
      omega))

theorem run_field_als (m n : Int) (A : Option Addr) (l c : Nat) (w : World) : (Instr.field 75 (.agg #[.int .i64 m, .int .i64 n, .slice A l c]) 2).run Tryz.prog w = .ok (.slice A l c) w := by
  kernel_rfl

theorem kk_new (m : Int) (l : Nat) (w : World) (h : l = (Bd.new m).als.length) : Calls Tryz.prog 34 #[.int .i64 m] w (GivesB w (Bd.new m) l (Bd.newE m)) := by
  have g := fun W => right_any m 0 none 0 0 [] W ⟨rfl, AlmsAt.nil _ _ _, fun _ => rfl, Nat.zero_le _⟩
  have HS := Lib.hid ((St.start w).box2 #[.int .i64 0, .int .i64 0, .slice none 0 0] #[.int .i64 m, .int .i64 0, .slice none 0 0] 24 75)
  obtain ⟨r, hr⟩ : ∃ r, r = Bd.isB m 0 [] := ⟨_, rfl⟩
  simp only [← hr] at g
  have hz : Am.isT 0 = true := rfl
  cases r
  · have e : Bd.newE m = 1 := by
      unfold Bd.newE
      rw [if_pos ?_]
      have h1 : ¬ Bd.isB m 0 [] = true := by rw [← hr]; simp
      rw [Bd.isB_iff] at h1
      by_cases a1 : m < 1
      · exact Or.inl a1
      · refine Or.inr ?_
        rcases Int.lt_or_le 200 m with a2 | a2
        · exact a2
        · exact absurd ⟨⟨by omega, a2⟩, ⟨by omega, by omega⟩, by simp; omega, rfl⟩ h1
    have e2 : Bd.new m = ⟨0, 0, []⟩ := by unfold Bd.new; rw [e]; rfl
    rw [e2] at h ⊢
    rw [e]
    obtain rfl : l = 0 := h
    clear e e2 hr hz
    go_enter Tryz.func34, Tryz.ntmps34
    go_wp2_with fail
    refine (g _).mono ?_
    rintro e w1 ⟨rfl, hB⟩
    replace HS := Lib.hid (HS.out.on hB)
    clear hB g
    go_wp2_with (refine wpList_setres rfl 24 _ _ rfl HS.out 1 w.heap.size _ #[.int .i64 0, .int .i64 0, .slice none 0 0] rfl (Nat.le_refl _) w1.heap.size _ [] (OwnA.nil w1 w1.heap.size) (HS.out.lt 1 rfl) rfl rfl (by rfl) rfl (bd_one 0 0 none 0 0) ?_; intro w9 hS9 hO9; have HS9 := Lib.hid hS9; clear hS9 hO9)
    (try simp only [Exit.inBlock, Exit.then]); refine bodyPost_ret (ret_board rfl rfl HS9.out 0 rfl rfl) rfl ?_
    exact ⟨none, 0, rfl, OwnA.nil _ _, HS9.out.below⟩
  · have e : Bd.newE m = 0 := by
      unfold Bd.newE
      rw [if_neg ?_]
      have h1 := Bd.isB_iff.1 hr.symm
      omega
    have e2 : Bd.new m = ⟨m, 0, []⟩ := by unfold Bd.new; rw [e]; rfl
    rw [e2] at h ⊢
    rw [e]
    obtain rfl : l = 0 := h
    clear e e2 hr hz
    go_enter Tryz.func34, Tryz.ntmps34
    go_wp2_with fail
    refine (g _).mono ?_
    rintro e w1 ⟨rfl, hB⟩
    replace HS := Lib.hid (HS.out.on hB)
    clear hB g
    go_wp2_with (refine wpList_load_st rfl 75 _ rfl HS.out 0 _ _ rfl rfl _ Tryz.underlying75 rfl (by rfl) ?_)
    refine (board_any m 0 none 0 0 _).mono ?_
    rintro e w2 ⟨rfl, hB⟩
    replace HS := Lib.hid (HS.out.on hB)
    clear hB
    go_wp2_with (refine wpList_setres rfl 24 _ _ rfl HS.out 1 w.heap.size _ #[.int .i64 m, .int .i64 0, .slice none 0 0] rfl (Nat.le_refl _) w2.heap.size _ [] (OwnA.nil w2 w2.heap.size) (HS.out.lt 1 rfl) rfl rfl (by rfl) rfl (bd_one m 0 none 0 0) ?_; intro w9 hS9 hO9; have HS9 := Lib.hid hS9; clear hS9 hO9)
    (try simp only [Exit.inBlock, Exit.then]); refine bodyPost_ret (ret_board rfl rfl HS9.out 0 rfl rfl) rfl ?_
    exact ⟨none, 0, rfl, OwnA.nil _ _, HS9.out.below⟩
end Go.Proofs.YtplpadblhjdpcaaGreat

namespace Go.Proofs.YtplpadblhjdpcaaGreat
set_option maxRecDepth 10000
open Go.RowKit

theorem kk_is (m n : Int) (A : Option Addr) (l c : Nat) (ls : List Alm) (w : World) (h : Told w A l c ls) :
    Calls Tryz.prog 21 #[.agg #[.int .i64 m, .int .i64 n, .slice A l c]] w fun e w' => e = .returned (.bool (Bd.isB m n ls)) ∧ Below w.heap.size w w' := by
  have HS := Lib.hid (((St.start w).more (rowF A ls) h.2.1).new #[.int .i64 m, .int .i64 n, .slice A l c] 24)
  have g := fun W (hA : AlmsAt W W.heap.size A ls) => Lib.hid (right_any m n A l c ls W ⟨h.1, hA, h.2.2⟩)
  obtain ⟨r, hr⟩ : ∃ r, r = Bd.isB m n ls := ⟨_, rfl⟩
  simp only [← hr] at g ⊢
  clear hr h
  go_enter Tryz.func21, Tryz.ntmps21
  go_wp2_with (refine wpList_load_st rfl 24 _ rfl HS.out 0 _ _ rfl rfl _ Tryz.underlying24 rfl (by rfl) ?_)
  refine (hold_any m n A l c _).mono ?_
  rintro e w1 ⟨rfl, hB⟩
  replace HS := Lib.hid (HS.out.on hB)
  clear hB
  go_wp2_with fail
  refine (g _ (HS.out.fact 0 rfl)).out.mono ?_
  rintro e w2 ⟨rfl, hB⟩
  replace HS := Lib.hid (HS.out.on hB)
  clear hB g
  go_wp2
  go_ret
  exact ⟨rfl, HS.out.below⟩
end Go.Proofs.YtplpadblhjdpcaaGreat

namespace Go.Proofs.YtplpadblhjdpcaaGreat
set_option maxRecDepth 10000
open Go.RowKit


theorem OwnA.ge8 {w : World} {base : Nat} {v : Value} {ls : List Alm} (h : OwnA w base v ls) : ∀ k, v.ownBlock = some k → base ≤ k := fun k hk => (World.ownsRow.lt h k hk).1
theorem AlmsAt.one8 (w : World) (x0 x1 x2 x3 x4 x5 : Int) (t : TypeId) : AlmsAt (w.alloc (.cells #[.int .i64 x0, .int .i64 x1, .int .i64 x2, .int .i64 x3, .int .i64 x4, .int .i64 x5] t)) (w.alloc (.cells #[.int .i64 x0, .int .i64 x1, .int .i64 x2, .int .i64 x3, .int .i64 x4, .int .i64 x5] t)).heap.size (some ⟨w.heap.size, 0, none⟩) [⟨x0, x1, x2, x3, x4, x5⟩] := fun i hi => by
  obtain rfl : i = 0 := by simpa using hi
  have h := Six.new w x0 x1 x2 x3 x4 x5 t
  exact ⟨w.heap.size, 0, rfl, h.lt, ⟨h.c0, h.c1, h.c2, h.c3, h.c4, h.c5⟩⟩

end Go.Proofs.YtplpadblhjdpcaaGreat

namespace Go.Proofs.YtplpadblhjdpcaaGreat
set_option maxRecDepth 10000
open Go.RowKit

/-- Alarms of one's own, with those of whatever slice behind them; the slices may have another type. -/
theorem wpList_append_almsT {ops : Array Oper} {rest : List Oper} {o : Oper} {a : Act} {w : World} {Q : Exit → Act → World → Prop} (hgd : o.guard = none) (s x : Operand) (t1 : TypeId)
    (ho : o.op = .call { callee := .builtin .append, args := #[s, x], argTypes := #[t1, t1] }) (hu : Tryz.prog.underlying t1 = some (.slice 38))
    (base : Nat) (v : Value) (zs ms : List Alm) (hs : a.eval s = v) (hown : OwnA w base v zs)
    (A : Option Addr) (n cap : Nat) (hx : a.eval x = .slice A n cap) (hn : n = ms.length) (hA : AlmsAt w w.heap.size A ms) (hnil : A ≠ none) (hb : base ≤ w.heap.size) (hl : zs.length + ms.length ≤ 100000)
    (h : ∀ v' w', OwnA w' base v' (zs ++ ms) → w.grownBy w' v.ownBlock → wpList Tryz.prog ops Q rest (a.put o.dst v') w') : wpList Tryz.prog ops Q (o :: rest) a w := by
  obtain ⟨i0, hi, hz0, hz1, hz2⟩ := info_parts Tryz.infoAl
  subst hn
  cases A with
  | none => exact absurd rfl hnil
  | some ad =>
    refine wpList_append_own _ hgd s x t1 ho base 38 i0 _ 6 48 hu hi hz0 hz1 hz2 rfl (by decide) v _ _ hs hown ad ms.length cap (flat6 ms) hx (flat6_len ms) hA.flat_cells (flat6_one ms) (by unfold maxLen; omega) (by omega) hb ?_
    intro v' w' ho' hg _
    exact h v' w' (by unfold OwnA; rw [List.length_append, flat6_app]; exact ho') hg
/-- An alarm in a new block behind another one. -/
theorem AlmsAt.one9 (w : World) (o : Obj) (x0 x1 x2 x3 x4 x5 : Int) (t : TypeId) : AlmsAt ((w.alloc o).alloc (.cells #[.int .i64 x0, .int .i64 x1, .int .i64 x2, .int .i64 x3, .int .i64 x4, .int .i64 x5] t)) ((w.alloc o).alloc (.cells #[.int .i64 x0, .int .i64 x1, .int .i64 x2, .int .i64 x3, .int .i64 x4, .int .i64 x5] t)).heap.size (some ⟨w.heap.size + 1, 0, none⟩) [⟨x0, x1, x2, x3, x4, x5⟩] := by
  have k := AlmsAt.one8 (w.alloc o) x0 x1 x2 x3 x4 x5 t
  rw [show (w.alloc o).heap.size = w.heap.size + 1 by simp] at k
  exact k
theorem Bd.drop_take {b c : Int} {ls : List Alm} {k : Nat} (h : k < ls.length) : Bd.dropL b c (ls.take (k + 1)) = Bd.dropL b c (ls.take k) ++ (if Bd.atS b c ls[k] then [] else [ls[k]]) := by
  unfold Bd.dropL
  rw [List.take_add_one, List.filter_append, List.getElem?_eq_getElem h]
  congr 1
  cases hz : Bd.atS b c ls[k] <;> simp [hz]
theorem Bd.pass_take {t : Int} {ls : List Alm} {k : Nat} (h : k < ls.length) : Bd.passL t (ls.take (k + 1)) = Bd.passL t (ls.take k) ++ [Am.pass ls[k] t] := by
  unfold Bd.passL
  rw [List.take_add_one, List.map_append, List.getElem?_eq_getElem h]
  rfl

set_option maxRecDepth 10000 in
set_option maxHeartbeats 2000000 in
theorem find_any (A : Option Addr) (l c : Nat) (ls : List Alm) (b ch : Int) (w : World) (h : Told w A l c ls) :
    Calls Tryz.prog 47 #[.slice A l c, .agg #[.int .i64 b, .int .i64 ch]] w fun e w' => e = .returned (.tuple #[.agg (sixV (Bd.getA b ch ls).1), .bool (Bd.getA b ch ls).2]) ∧ Below w.heap.size w w' := by
  obtain ⟨hl, hA, _, hf⟩ := h
  have HU := Lib.hid (((St.start w).more (rowF A ls) hA).new #[.int .i64 b, .int .i64 ch] 26)
  obtain ⟨r, hr⟩ : ∃ r, r = Bd.getA b ch ls := ⟨_, rfl⟩
  have Hr := Lib.hid hr
  rw [← hr]
  have Hl := Lib.hid hl
  have Hf := Lib.hid hf
  clear hl hA hf hr
  go_enter Tryz.func47, Tryz.ntmps47
  go_wp2_with fail
  obtain ⟨u, hu⟩ : ∃ W, W = w.alloc (.cells #[.int .i64 b, .int .i64 ch] 26) := ⟨_, rfl⟩
  have hus : u.heap.size = w.heap.size + 1 := by rw [hu]; simp
  rw [← hu] at HU ⊢
  have HS : Hid (St w (u.alloc (.cells #[.int .i64 0, .int .i64 0, .int .i64 0, .int .i64 0, .int .i64 0, .int .i64 0] 38)) ((w.heap.size + 1, #[.int .i64 0, .int .i64 0, .int .i64 0, .int .i64 0, .int .i64 0, .int .i64 0]) :: [(w.heap.size, #[.int .i64 b, .int .i64 ch])]) [rowF A ls]) := Lib.hid (by rw [← hus]; exact HU.out.new _ _)
  have HBu := Lib.hid (below_new u (.cells #[.int .i64 0, .int .i64 0, .int .i64 0, .int .i64 0, .int .i64 0, .int .i64 0] 38))
  have Hus := Lib.hid hus
  obtain ⟨w1, hw1⟩ : ∃ W, W = u.alloc (.cells #[.int .i64 0, .int .i64 0, .int .i64 0, .int .i64 0, .int .i64 0, .int .i64 0] 38) := ⟨_, rfl⟩
  rw [← hw1] at HS HBu ⊢
  clear hu hus hw1
  obtain ⟨p2, hp2⟩ : ∃ p, p = w.heap.size + 1 := ⟨_, rfl⟩
  rw [← hp2] at HS Hus ⊢
  obtain ⟨p1, hp1⟩ : ∃ p, p = w.heap.size := ⟨_, rfl⟩
  rw [← hp1] at HS HU ⊢
  clear hp1 hp2
  go_wp2_with fail
  go_loopw [10] (fun i wr => ∃ k : Nat, i = .int .i64 (k : Int) ∧ Hid (Below w1.heap.size w1 wr) ∧ Hid (Bd.getA b ch (ls.drop k) = r)) (fun i _ => l - (intOf i).toNat)
  case atStart => exact ⟨0, rfl, Lib.hid (Below.refl _ _), Lib.hid (by rw [Hr.out]; rfl)⟩
  case round =>
    obtain ⟨k, rfl, HB, Hg⟩ := hrel
    have HSq := Lib.hid (HS.out.on HB.out)
    have HBq := Lib.hid (below2 HBu.out HB.out)
    by_cases hlt : k < l
    · have kl : k < ls.length := by rw [← Hl.out]; exact hlt
      have HA : Hid (AlmsAt wr wr.heap.size A ls) := Lib.hid (HSq.out.fact 0 rfl)
      obtain ⟨b0, o0, rfl, hb0, h6⟩ := HA.out k kl
      have Hs := Lib.hid (Bd.get_drop (b := b) (c := ch) kl)
      obtain ⟨x, hx⟩ : ∃ x, x = ls[k] := ⟨_, rfl⟩
      rw [← hx] at h6 Hs
      clear hx
      obtain ⟨x0, x1, x2, x3, x4, x5⟩ := x
      have d0 := h6.c0
      have d1 := h6.c1
      have d2 := h6.c2
      have d3 := h6.c3
      have d4 := h6.c4
      have d5 := h6.c5
      simp only at d0 d1 d2 d3 d4 d5
      have i1 : (k : Int) < (l : Int) := by omega
      have i3 : (0 : Int) ≤ (k : Int) := by omega
      have Ik : Hid (wrap64 ((k : Int) + 1) = (k : Int) + 1) := Lib.hid (by have := Hf.out; unfold wrap64; omega)
      have Hk := Lib.hid hlt
      obtain ⟨z, hz⟩ : ∃ z, z = decide (x0 = b ∧ x1 = ch) := ⟨_, rfl⟩
      have hq := fun W => run_eql_sp x0 x1 b ch z hz W
      have Ha : Hid (Bd.atS b ch ⟨x0, x1, x2, x3, x4, x5⟩ = z) := Lib.hid (by rw [hz]; unfold Bd.atS; by_cases h1 : x0 = b <;> by_cases h2 : x1 = ch <;> simp [h1, h2])
      have HBn := Lib.hid (below_new wr (.cells #[.int .i64 x0, .int .i64 x1, .int .i64 x2, .int .i64 x3, .int .i64 x4, .int .i64 x5] 38))
      have HSn := Lib.hid (HSq.out.on HBn.out)
      have HBm := Lib.hid (below2 HBq.out HBn.out)
      have HBl := Lib.hid (below2 HB.out HBn.out)
      clear h6 kl hlt hz hb0
      cases z
      · have He : Hid (Bd.getA b ch (ls.drop (k + 1)) = r) := Lib.hid (by rw [← Hg.out, Hs.out, Ha.out]; rfl)
        clear Hs Hg Ha HSq HBq
        go_wp2_with (refine wpList_load_st rfl 26 _ rfl HSn.out 1 _ _ rfl rfl _ Tryz.underlying26 rfl (by rfl) ?_)
        go_roundw
        case rel => exact ⟨k + 1, by first | rfl | (rw [Ik.out]; rfl), HBl, He⟩
        case measure => have := Hk.out; (try rw [Ik.out]); simp [intOf]; omega
      · have He : Hid (r = (⟨x0, x1, x2, x3, x4, x5⟩, true)) := Lib.hid (by rw [← Hg.out, Hs.out, Ha.out]; rfl)
        clear Hs Hg Ha HSq HBq
        go_wp2_with (first
          | (refine wpList_load_st rfl 26 _ rfl HSn.out 1 _ _ rfl rfl _ Tryz.underlying26 rfl (by rfl) ?_)
          | (refine wpList_reset_st rfl 38 _ _ rfl HU.out HSn.out HBm.out (by rw [Hus.out]; exact Nat.le_refl _) #[.int .i64 x0, .int .i64 x1, .int .i64 x2, .int .i64 x3, .int .i64 x4, .int .i64 x5] rfl rfl (by rfl) rfl (six_one ⟨x0, x1, x2, x3, x4, x5⟩) ?_; intro w9 hS9; have HS9 := Lib.hid hS9; clear hS9))
        (try simp only [Exit.inBlock, Exit.then]); refine bodyPost_ret (ret_alarm8 rfl rfl HS9.out 0 rfl rfl) rfl ?_
        exact ⟨by rw [He.out]; rfl, HS9.out.below⟩
    · have ik : ((k : Int) < (l : Int)) = False := eq_false (by omega)
      have He : Hid (r = (Am.zero, false)) := Lib.hid (by rw [← Hg.out, List.drop_eq_nil_of_le (by have := Hl.out; omega)]; rfl)
      clear hlt Hg
      go_wp2_with (refine wpList_reset_st rfl 38 _ _ rfl HU.out HSq.out HBq.out (by rw [Hus.out]; exact Nat.le_refl _) #[.int .i64 0, .int .i64 0, .int .i64 0, .int .i64 0, .int .i64 0, .int .i64 0] rfl rfl (by rfl) rfl (six_one Am.zero) ?_; intro w9 hS9; have HS9 := Lib.hid hS9; clear hS9)
      (try simp only [Exit.inBlock, Exit.then]); refine bodyPost_ret (ret_alarm8 rfl rfl HS9.out 0 rfl rfl) rfl ?_
      exact ⟨by rw [He.out]; rfl, HS9.out.below⟩
end Go.Proofs.YtplpadblhjdpcaaGreat

namespace Go.Proofs.YtplpadblhjdpcaaGreat
set_option maxRecDepth 10000
open Go.RowKit

theorem exec_load_st {o : Oper} {a : Act} {w : World} (ty : TypeId) (x : Operand) (ho : o.op = .load ty x) {w0 : World} {L : List (Nat × Array Value)} {M : List Fact} (hS : St w0 w L M) (i k : Nat) (cs : Array Value) (hi : L[i]? = some (k, cs)) (hx : a.eval x = .pointer (some ⟨k, 0, none⟩)) (d : TypeDesc)
    (hu : Tryz.prog.underlying ty = some d) (hd : (match d with | .struct _ | .array _ _ => true | _ => false) = true) (hz : (Tryz.prog.info? ty).map (·.size) = some cs.size) :
    (execOp a.eval o).run Tryz.prog w = .ok (.value (.agg cs)) w := by
  obtain ⟨t, ht⟩ := hS.live (k, cs) (List.mem_of_getElem? hi)
  have hl := run_loadVar_row (P := Tryz.prog) w k t ty cs (0, 0) d ht hu (by cases d <;> first | rfl | exact hd) hz
  unfold execOp
  simp only [ho, hx, Instr.loadAt, Instr.sureAddr, Sem.run_bind, Sem.run_pure, Result.andThen_ok, hl]

theorem St.pick {w0 w : World} {L : List (Nat × Array Value)} {M : List Fact} (h : St w0 w L M) (L' : List (Nat × Array Value)) (hL : ∀ x ∈ L', x ∈ L) : St w0 w L' [] := ⟨fun x hx => h.live x (hL x hx), (fun _ h => nomatch h), h.below⟩
theorem St.pickSet {w0 w : World} {L : List (Nat × Array Value)} {M : List Fact} (h : St w0 w L M) (cs : Array Value) {k i : Nat} {old : Array Value} (hi : L[i]? = some (k, old)) (hk : w0.heap.size ≤ k) : St w0 (w.setRow k cs) [(k, cs)] [] := by
  obtain ⟨t, ht⟩ := h.live (k, old) (List.mem_of_getElem? hi)
  refine ⟨fun y hy => ?_, (fun _ h => nomatch h), below_setRow h.below hk cs⟩
  obtain rfl : y = (k, cs) := by simpa using hy
  exact ⟨t, setRow_heap _ _ _ _ _ _ ht⟩
theorem St.afterRow {w0 w : World} {L : List (Nat × Array Value)} {M : List Fact} (h : St w0 w L M) (cs : Array Value) (L' : List (Nat × Array Value)) (hL : ∀ x ∈ L', x ∈ L) {k : Nat} (hne : ∀ x ∈ L', x.1 ≠ k) (hk : w0.heap.size ≤ k) : St w0 (w.setRow k cs) L' [] :=
  ⟨fun x hx => by
    obtain ⟨t, ht⟩ := h.live x (hL x hx)
    exact ⟨t, (setRow_other w k x.1 cs (hne x hx)).trans ht⟩, (fun _ h => nomatch h), below_setRow h.below hk cs⟩

set_option maxRecDepth 10000 in
set_option maxHeartbeats 2000000 in
theorem kk_get (m n : Int) (A : Option Addr) (l c : Nat) (ls : List Alm) (b ch : Int) (w : World) (h : Told w A l c ls) :
    Calls Tryz.prog 27 #[.agg #[.int .i64 m, .int .i64 n, .slice A l c], .agg #[.int .i64 b, .int .i64 ch]] w fun e w' => e = .returned (.tuple #[.agg (sixV (Bd.getA b ch ls).1), .bool (Bd.getA b ch ls).2]) ∧ Below w.heap.size w w' := by
  have HS := Lib.hid (((St.start w).more (rowF A ls) h.2.1).box3 #[.int .i64 m, .int .i64 n, .slice A l c] #[.int .i64 b, .int .i64 ch] #[.int .i64 0, .int .i64 0, .int .i64 0, .int .i64 0, .int .i64 0, .int .i64 0] 24 26 38)
  have g := fun W (hA : AlmsAt W W.heap.size A ls) => Lib.hid (find_any A l c ls b ch W ⟨h.1, hA, h.2.2⟩)
  obtain ⟨⟨X, ok⟩, hr⟩ : ∃ r, r = Bd.getA b ch ls := ⟨_, rfl⟩
  simp only [← hr] at g ⊢
  clear hr h
  go_enter Tryz.func27, Tryz.ntmps27
  go_wp2_with fail
  have hS := HS.out
  clear HS
  refine wp_region_held_drew (S := (fun W : World => St w W [(w.heap.size + 1, #[.int .i64 b, .int .i64 ch]), (w.heap.size, #[.int .i64 m, .int .i64 n, .slice A l c])] [])) (by kernel_rfl) (by first | exact hS.pick _ (by simp) | exact hS.drew.pick _ (by simp)) (fun hHeld => ?_)
  refine wpAnyH_take (i := 0) (oi := { dst := some 6, op := Op.load 24 (Operand.tmp 2), type := 24, pos := _, after := #[], guard := none }) (v := ?_) rfl (by kernel_rfl) (by kernel_rfl) (by kernel_rfl) (fun _ _ _ h => h) (Or.inl ⟨by rfl, ?hy⟩) hHeld ?_
  case hy => intro w0 hSw; refine exec_load_st 24 (Operand.tmp 2) ?_ hSw 1 _ _ rfl ?_ _ Tryz.underlying24 rfl (by rfl) <;> rfl
  (try simp only [Act.put, List.setIfInBounds_toArray, List.set_cons_zero, List.set_cons_succ])
  refine wpAnyH_take (i := 3) (oi := { dst := some 9, op := Op.load 26 (Operand.tmp 3), type := 26, pos := _, after := #[], guard := none }) (v := ?_) rfl (by kernel_rfl) (by kernel_rfl) (by kernel_rfl) (fun _ _ _ h => h) (Or.inl ⟨by rfl, ?hy⟩) hHeld ?_
  case hy => intro w0 hSw; refine exec_load_st 26 (Operand.tmp 3) ?_ hSw 0 _ _ rfl ?_ _ Tryz.underlying26 rfl (by rfl) <;> rfl
  (try simp only [Act.put, List.setIfInBounds_toArray, List.set_cons_zero, List.set_cons_succ])
  refine wpAnyH_ready (rs := [1]) (by kernel_rfl) (by simp) ?_
  refine AllReadyH.cons (o := { dst := some 7, op := Op.call { callee := Callee.value (Operand.func 42), args := #[Operand.tmp 6], argTypes := #[24] }, type := 75, pos := _, after := #[{ on := 0, ground := Ground.data }], guard := none }) rfl (fun K hK => ?_) AllReadyH.nil
  go_simp
  refine (hold_any m n A l c _).mono ?_
  rintro e w1 ⟨rfl, hB'⟩
  replace hS : St w w1 [(w.heap.size + 1 + 1, #[.int .i64 0, .int .i64 0, .int .i64 0, .int .i64 0, .int .i64 0, .int .i64 0]), (w.heap.size + 1, #[.int .i64 b, .int .i64 ch]), (w.heap.size, #[.int .i64 m, .int .i64 n, .slice A l c])] [rowF A ls] := (by first | exact hS.on hB' | exact hS.drew.on hB')
  clear hB'
  go_wp2_with fail
  refine hK.out _ _ (by first | exact hS.pick _ (by simp) | exact hS.drew.pick _ (by simp)) (fun hHeld => ?_)
  clear hK K
  (try simp only [Act.put, List.setIfInBounds_toArray, List.set_cons_zero, List.set_cons_succ])
  refine wpAnyH_take (i := 2) (oi := { dst := some 8, op := Op.field 75 (Operand.tmp 7) 2, type := 73, pos := _, after := #[{ on := 1, ground := Ground.data }], guard := none }) (v := ?_) rfl (by kernel_rfl) (by kernel_rfl) (by kernel_rfl) (fun _ _ _ h => h) (Or.inl ⟨by rfl, ?hy⟩) hHeld ?_
  case hy => intro w0 hSw; clear hSw; have hfd := run_field_als m n A l c w0; go_simp; (try with_reducible rfl)
  (try simp only [Act.put, List.setIfInBounds_toArray, List.set_cons_zero, List.set_cons_succ])
  refine wpAnyH_ready (rs := [4]) (by kernel_rfl) (by simp) ?_
  refine AllReadyH.cons (o := { dst := some 10, op := Op.call { callee := Callee.value (Operand.func 47), args := #[Operand.tmp 8, Operand.tmp 9], argTypes := #[73, 26] }, type := 39, pos := _, after := #[{ on := 2, ground := Ground.data }, { on := 3, ground := Ground.data }, { on := 1, ground := Ground.chain }], guard := none }) rfl (fun K hK => ?_) AllReadyH.nil
  go_simp
  refine (g _ (by first | exact hS.fact 0 rfl | exact hS.drew.fact 0 rfl)).out.mono ?_
  rintro e w2 ⟨rfl, hB'⟩
  replace hS : St w w2 [(w.heap.size + 1 + 1, #[.int .i64 0, .int .i64 0, .int .i64 0, .int .i64 0, .int .i64 0, .int .i64 0]), (w.heap.size + 1, #[.int .i64 b, .int .i64 ch]), (w.heap.size, #[.int .i64 m, .int .i64 n, .slice A l c])] [rowF A ls] := (by first | exact hS.on hB' | exact hS.drew.on hB')
  clear hB' g
  go_wp2_with fail
  refine hK.out _ _ (by first | exact hS.pick _ (by simp) | exact hS.drew.pick _ (by simp)) (fun hHeld => ?_)
  clear hK K
  (try simp only [Act.put, List.setIfInBounds_toArray, List.set_cons_zero, List.set_cons_succ])
  refine wpAnyH_take (i := 5) (oi := { dst := some 11, op := Op.extract (Operand.tmp 10) 0, type := 38, pos := _, after := #[{ on := 4, ground := Ground.data }], guard := none }) (v := ?_) rfl (by kernel_rfl) (by kernel_rfl) (by kernel_rfl) (fun _ _ _ h => h) (Or.inl ⟨by rfl, ?hy⟩) hHeld ?_
  case hy => intro w0 hSw; clear hSw; go_simp; (try with_reducible rfl)
  (try simp only [Act.put, List.setIfInBounds_toArray, List.set_cons_zero, List.set_cons_succ])
  refine wpAnyH_take (i := 6) (oi := { dst := some 12, op := Op.extract (Operand.tmp 10) 1, type := 4, pos := _, after := #[{ on := 4, ground := Ground.data }], guard := none }) (v := ?_) rfl (by kernel_rfl) (by kernel_rfl) (by kernel_rfl) (fun _ _ _ h => h) (Or.inl ⟨by rfl, ?hy⟩) hHeld ?_
  case hy => intro w0 hSw; clear hSw; go_simp; (try with_reducible rfl)
  (try simp only [Act.put, List.setIfInBounds_toArray, List.set_cons_zero, List.set_cons_succ])
  refine wpAnyH_ready (rs := [7]) (by kernel_rfl) (by simp) ?_
  refine AllReadyH.cons (o := { dst := none, op := Op.store 38 (Operand.tmp 4) (Operand.tmp 11), type := 0, pos := _, after := #[{ on := 5, ground := Ground.data }, { on := 4, ground := Ground.chain }, { on := 0, ground := Ground.phase }, { on := 1, ground := Ground.phase }, { on := 2, ground := Ground.phase }, { on := 3, ground := Ground.phase }, { on := 4, ground := Ground.phase }, { on := 5, ground := Ground.phase }, { on := 6, ground := Ground.phase }], guard := none }) rfl (fun K hK => ?_) AllReadyH.nil
  rw [if_pos (by rfl)]
  obtain ⟨tz, hz⟩ := hS.live (w.heap.size + 1 + 1, #[.int .i64 0, .int .i64 0, .int .i64 0, .int .i64 0, .int .i64 0, .int .i64 0]) (by simp)
  refine wp_store_row 38 _ _ rfl (w.heap.size + 1 + 1) (sixV X) rfl rfl tz _ hz (by rfl) rfl (six_one X) ?_
  have hR := hS.pickSet (sixV X) (k := w.heap.size + 1 + 1) (i := 0) rfl (by omega)
  have hQ := hS.afterRow (sixV X) [(w.heap.size + 1, #[.int .i64 b, .int .i64 ch]), (w.heap.size, #[.int .i64 m, .int .i64 n, .slice A l c])] (by simp) (k := w.heap.size + 1 + 1) (by simp; omega) (by omega)
  clear hz hS
  refine hK.out _ _ hQ (fun hHeld => ?_)
  clear hK K
  (try simp only [Act.put])
  refine wpAnyH_take (i := 8) (oi := { dst := some 5, op := Op.assign (Operand.tmp 12), type := 4, pos := _, after := #[{ on := 6, ground := Ground.data }, { on := 7, ground := Ground.chain }, { on := 0, ground := Ground.phase }, { on := 1, ground := Ground.phase }, { on := 2, ground := Ground.phase }, { on := 3, ground := Ground.phase }, { on := 4, ground := Ground.phase }, { on := 5, ground := Ground.phase }, { on := 6, ground := Ground.phase }, { on := 7, ground := Ground.phase }], guard := none }) (v := ?_) rfl (by kernel_rfl) (by kernel_rfl) (by kernel_rfl) (fun _ _ _ h => h) (Or.inl ⟨by rfl, ?hy⟩) hHeld ?_
  case hy => intro w0 hSw; clear hSw; go_simp; (try with_reducible rfl)
  (try simp only [Act.put, List.setIfInBounds_toArray, List.set_cons_zero, List.set_cons_succ])
  refine wpAnyH_done (by kernel_rfl) ?_ _
  clear hHeld
  have HR := Lib.hid hR
  clear hR hQ
  go_wp2
  (try simp only [Exit.inBlock, Exit.then]); refine bodyPost_ret (ret_alarm8 rfl rfl HR.out 0 rfl rfl) rfl ?_
  exact ⟨rfl, HR.out.below⟩
end Go.Proofs.YtplpadblhjdpcaaGreat
