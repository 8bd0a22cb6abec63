/-
  Blocks written while rows of one's own stand.
-/
import Derived.Test.YthlojadkgpmnmaaState2
namespace Go.Proofs.Ythlojadkgpmnmaa
open Go.RowKit

theorem grown_setCell8 (w : World) (k j : Nat) (v : Value) : w.grownBy (w.setCell ⟨k, j, none⟩ v) (some k) :=
  ⟨rfl, rfl, rfl, by simp [World.setCell], fun i _ hne => heap_setCell_other w ⟨k, j, none⟩ i v (fun e => hne (by rw [show i = k from e]))⟩
/-- A block of one's own is written whole: rows behind it stay. -/
theorem wpList_setres8 {P : Program} {ops : Array Oper} {rest : List Oper} {o : Oper} {a : Act} {w : World} {Q : Exit → Act → World → Prop} (hgd : o.guard = none) (ty : TypeId) (x y : Operand) (ho : o.op = .store ty x y)
    {w0 : World} {L : List (Nat × Array Value)} {M : List Fact} (hS : St w0 w L M) (i k : Nat) (old cs : Array Value) (hi : L[i]? = some (k, old)) (hk : w0.heap.size ≤ k) (base : Nat) (v : Value) (ls : List Alm) (hO : OwnA w base v ls) (hkb : k < base)
    (hx : a.eval x = .pointer (some ⟨k, 0, none⟩)) (hy : a.eval y = .agg cs) (hz : (P.info? ty).map (·.size) = some cs.size) (hsz : old.size = cs.size) (h1 : cs.all (·.oneCell') = true)
    (h : ∀ w', St w0 w' [(k, cs)] [] → OwnA w' base v ls → wpList P ops Q rest (a.put o.dst undef) w') : wpList P ops Q (o :: rest) a w := by
  obtain ⟨t, ht⟩ := hS.live (k, old) (List.mem_of_getElem? hi)
  refine wpList_store_row hgd ty x y ho k cs hx hy t old ht hz hsz h1 ?_
  exact h _ (hS.set8 cs hi hk) (hO.after cs hkb)
/-- One cell of a block of one's own is written: rows behind it stay. -/
theorem wpList_setcell8 {P : Program} {ops : Array Oper} {rest : List Oper} {o : Oper} {a : Act} {w : World} {Q : Exit → Act → World → Prop} (hgd : o.guard = none) (ty : TypeId) (x y : Operand) (ho : o.op = .store ty x y)
    {w0 : World} {k : Nat} {cs : Array Value} {L : List (Nat × Array Value)} {M : List Fact} (hS : St w0 w ((k, cs) :: L) M) (hk : w0.heap.size ≤ k) (j : Nat) (v old : Value) (base : Nat) (u : Value) (ls : List Alm) (hO : OwnA w base u ls) (hkb : k < base)
    (hx : a.eval x = .pointer (some ⟨k, j, none⟩)) (hy : a.eval y = v) (hj : cs[j]? = some old) (hi : (P.info? ty).map (·.size) = some 1) (h1 : v.oneCell' = true)
    (h : ∀ w', w' = w.setCell ⟨k, j, none⟩ v → St w0 w' [(k, cs.setIfInBounds j v)] [] → OwnA w' base u ls → wpList P ops Q rest (a.put o.dst undef) w') : wpList P ops Q (o :: rest) a w := by
  refine wpList_plain hgd fun K hK => ?_
  have hc := hS.cell 0 rfl j hj
  have hf := hS.free 0 rfl j
  unfold Oper.wp execOp
  simp only [ho, hx, hy, Instr.storeAt, Instr.sureAddr, Sem.run_bind, Sem.run_pure, Result.andThen_ok, run_storeVar_cell w k j ty v (by rw [hc]; rfl) hf hi h1]
  refine hK _ _ (h _ rfl ⟨fun y hy => ?_, (fun _ h => nomatch h), below_setCell hS.below hk j v⟩ ?_)
  · obtain rfl : y = (k, cs.setIfInBounds j v) := by simpa using hy
    obtain ⟨t, ht⟩ := hS.live (k, cs) (by simp)
    exact ⟨t, heap_setCell_same w k j cs t v ht⟩
  · exact World.ownsRow.kept (row := some k) hO (grown_setCell8 w k j v) (Or.inr (fun e => by
      have := (World.ownsRow.lt hO k e).1
      omega))
/-- One cell of a block is read. -/
theorem wpList_loadc8 {P : Program} {ops : Array Oper} {rest : List Oper} {o : Oper} {a : Act} {w : World} {Q : Exit → Act → World → Prop} (hgd : o.guard = none) (ty : TypeId) (x : Operand) (ho : o.op = .load ty x)
    {w0 : World} {L : List (Nat × Array Value)} {M : List Fact} (hS : St w0 w L M) (i k : Nat) (cs : Array Value) (hi : L[i]? = some (k, cs)) (j : Nat) (v : Value) (hj : cs[j]? = some v) (hx : a.eval x = .pointer (some ⟨k, j, none⟩)) (ha : ∀ w, (isAgg ty).run P w = .ok false w)
    (h : wpList P ops Q rest (a.put o.dst v) w) : wpList P ops Q (o :: rest) a w := by
  refine wpList_plain hgd fun K hK => ?_
  have hc := hS.cell i hi j hj
  unfold Oper.wp execOp
  simp [ho, hx, Instr.loadAt, Instr.sureAddr, loadVar, ha, hc]
  exact hK _ _ h
/-- An alarm in a new block behind another one. -/
theorem AlmsAt.one10 (w : World) (o : Obj) (x0 x1 x2 x3 x4 x5 : Int) (t : TypeId) : AlmsAt ((w.alloc o).alloc (.cells #[.int .i64 x0, .int .i64 x1, .int .i64 x2, .int .i64 x3, .int .i64 x4, .int .i64 x5] t)) ((w.alloc o).alloc (.cells #[.int .i64 x0, .int .i64 x1, .int .i64 x2, .int .i64 x3, .int .i64 x4, .int .i64 x5] t)).heap.size (some ⟨w.heap.size + 1, 0, none⟩) [⟨x0, x1, x2, x3, x4, x5⟩] := by
  intro i hi
  obtain rfl : i = 0 := by simpa using hi
  have h := Six.new (w.alloc o) x0 x1 x2 x3 x4 x5 t
  rw [show (w.alloc o).heap.size = w.heap.size + 1 by simp] at h
  exact ⟨w.heap.size + 1, 0, rfl, h.lt, ⟨h.c0, h.c1, h.c2, h.c3, h.c4, h.c5⟩⟩
theorem AlmsAt.one11 (w : World) (x0 x1 x2 x3 x4 x5 : Int) (t : TypeId) : AlmsAt (w.alloc (.cells #[.int .i64 x0, .int .i64 x1, .int .i64 x2, .int .i64 x3, .int .i64 x4, .int .i64 x5] t)) (w.alloc (.cells #[.int .i64 x0, .int .i64 x1, .int .i64 x2, .int .i64 x3, .int .i64 x4, .int .i64 x5] t)).heap.size (some ⟨w.heap.size, 0, none⟩) [⟨x0, x1, x2, x3, x4, x5⟩] := by
  intro i hi
  obtain rfl : i = 0 := by simpa using hi
  have h := Six.new w x0 x1 x2 x3 x4 x5 t
  exact ⟨w.heap.size, 0, rfl, h.lt, ⟨h.c0, h.c1, h.c2, h.c3, h.c4, h.c5⟩⟩
theorem OwnA.ge9 {w : World} {base : Nat} {v : Value} {ls : List Alm} (h : OwnA w base v ls) : ∀ k, v.ownBlock = some k → base ≤ k := fun k hk => (World.ownsRow.lt h k hk).1

theorem Bd.drop_take8 {b c : Int} {ls : List Alm} {k : Nat} (h : k < ls.length) : Bd.dropL b c (ls.take (k + 1)) = Bd.dropL b c (ls.take k) ++ (if Bd.atS b c ls[k] then [] else [ls[k]]) := by
  unfold Bd.dropL
  rw [List.take_add_one, List.filter_append, List.getElem?_eq_getElem h]
  congr 1
  cases hz : Bd.atS b c ls[k] <;> simp [hz]
theorem Bd.pass_take8 {t : Int} {ls : List Alm} {k : Nat} (h : k < ls.length) : Bd.passL t (ls.take (k + 1)) = Bd.passL t (ls.take k) ++ [Am.pass ls[k] t] := by
  unfold Bd.passL
  rw [List.take_add_one, List.map_append, List.getElem?_eq_getElem h]
  rfl
/-- Where an alarm is put: ahead of the first one that is not less. -/
def Bd.plc8 (a : Alm) : List Alm → Nat
  | [] => 0
  | x :: l => if Bd.lessA x a then Bd.plc8 a l + 1 else 0
theorem Bd.plc8_le (a : Alm) : ∀ ls : List Alm, Bd.plc8 a ls ≤ ls.length
  | [] => Nat.le_refl _
  | x :: l => by
    unfold Bd.plc8
    split
    · have := Bd.plc8_le a l; simp; omega
    · exact Nat.zero_le _
theorem Bd.plc8_drop {a : Alm} {ls : List Alm} {k : Nat} (h : k < ls.length) : Bd.plc8 a (ls.drop k) = if Bd.lessA ls[k] a then Bd.plc8 a (ls.drop (k + 1)) + 1 else 0 := by
  rw [List.drop_eq_getElem_cons h]; rfl
theorem Bd.has_lt {a : Alm} {ls : List Alm} (h : Bd.has a.b a.c ls = true) : ls.Pairwise (fun a b => Bd.lessA a b = true) → Bd.plc8 a ls < ls.length := by
  induction ls with
  | nil => cases h
  | cons x l ih =>
    intro hp
    unfold Bd.plc8
    split
    · rename_i hx
      have h2 : Bd.has a.b a.c l = true := by
        unfold Bd.has Bd.getA at h
        rw [Bd.at_less hx] at h
        exact h
      have := ih h2 (List.pairwise_cons.1 hp).2
      simp; omega
    · simp
/-- Put, by what the reference does. -/
theorem Bd.put_eq8 {a : Alm} : ∀ {ls : List Alm}, ls.Pairwise (fun a b => Bd.lessA a b = true) → Bd.putL a ls = ls.take (Bd.plc8 a ls) ++ a :: ls.drop (Bd.plc8 a ls + (if Bd.has a.b a.c ls then 1 else 0))
  | [], _ => rfl
  | x :: l, hp => by
    have ih := Bd.put_eq8 (a := a) (List.pairwise_cons.1 hp).2
    have hh := (List.pairwise_cons.1 hp).1
    by_cases hx : Bd.lessA x a = true
    · have h1 : Bd.plc8 a (x :: l) = Bd.plc8 a l + 1 := by show (if Bd.lessA x a then _ else _) = _; rw [if_pos hx]
      have h2 : Bd.has a.b a.c (x :: l) = Bd.has a.b a.c l := by unfold Bd.has; rw [show Bd.getA a.b a.c (x :: l) = (if Bd.atS a.b a.c x then (x, true) else Bd.getA a.b a.c l) from rfl, Bd.at_less hx]; rfl
      have h3 : Bd.putL a (x :: l) = x :: Bd.putL a l := by show (if Bd.lessA x a then _ else _) = _; rw [if_pos hx]
      rw [h1, h2, h3, ih, List.take_succ_cons, Nat.add_right_comm, List.drop_succ_cons]
      rfl
    · have h1 : Bd.plc8 a (x :: l) = 0 := by show (if Bd.lessA x a then _ else _) = _; rw [if_neg hx]
      by_cases hat : Bd.atS a.b a.c x = true
      · have h2 : Bd.has a.b a.c (x :: l) = true := by unfold Bd.has; rw [show Bd.getA a.b a.c (x :: l) = (if Bd.atS a.b a.c x then (x, true) else Bd.getA a.b a.c l) from rfl, if_pos hat]
        have h3 : Bd.putL a (x :: l) = a :: l := by show (if Bd.lessA x a then _ else if Bd.atS a.b a.c x then _ else _) = _; rw [if_neg hx, if_pos hat]
        rw [h1, h2, h3]
        rfl
      · have h2 : Bd.has a.b a.c (x :: l) = false := by
          refine Bd.has_none fun y hy => ?_
          rcases List.mem_cons.1 hy with rfl | hy
          · simpa using hat
          · exact Bd.at_less' (Bd.less_trans (Bd.less_of hx hat) (hh y hy))
        have h3 : Bd.putL a (x :: l) = a :: x :: l := by show (if Bd.lessA x a then _ else if Bd.atS a.b a.c x then _ else _) = _; rw [if_neg hx, if_neg hat]
        rw [h1, h2, h3]
        rfl
end Go.Proofs.Ythlojadkgpmnmaa
