/-
  Layer 8 (board): the contracts, case by case.
-/
import Derived.Test.YthlojadkgpmnmaaBoardFar
namespace Go.Proofs.Ythlojadkgpmnmaa
open Go.RowKit

theorem kPut0 (HK : Hid BoardK) (m n : Int) (A : Option Addr) (l c : Nat) (ls : List Alm) (x : Alm) (C : List Alm) (q : Nat) (hE : Bd.putE m n ls x = 0) (hC : C = Bd.putL x ls) (hq : q = C.length) (W : World) (h : Told W A l c ls) :
    Calls Try.prog 10 #[.agg #[.int .i64 m, .int .i64 n, .slice A l c], .agg #[.int .i64 x.b, .int .i64 x.c, .int .i64 x.ph, .int .i64 x.pr, .int .i64 x.si, .int .i64 x.un]] W (GivesB W ⟨m, n, C⟩ q 0) := by
  have e : Bd.put m n ls x = ⟨m, n, C⟩ := by unfold Bd.put; rw [if_pos hE, hC]
  have k := HK.out.put m n A l c ls x q W h (by rw [e]; exact hq)
  rw [e, hE] at k
  exact k
theorem kPutE (HK : Hid BoardK) (m n : Int) (A : Option Addr) (l c : Nat) (ls : List Alm) (x : Alm) (er : Int) (hE : Bd.putE m n ls x ≠ 0) (her : er = Bd.putE m n ls x) (W : World) (h : Told W A l c ls) :
    Calls Try.prog 10 #[.agg #[.int .i64 m, .int .i64 n, .slice A l c], .agg #[.int .i64 x.b, .int .i64 x.c, .int .i64 x.ph, .int .i64 x.pr, .int .i64 x.si, .int .i64 x.un]] W (GivesB W ⟨0, 0, []⟩ 0 er) := by
  have e : Bd.put m n ls x = ⟨0, 0, []⟩ := by unfold Bd.put; rw [if_neg hE]
  have k := HK.out.put m n A l c ls x 0 W h (by rw [e]; rfl)
  rw [e, ← her] at k
  exact k
theorem kDrop0 (HK : Hid BoardK) (m n : Int) (A : Option Addr) (l c : Nat) (ls : List Alm) (b ch : Int) (C : List Alm) (q : Nat) (hE : Bd.dropE m n ls b ch = 0) (hC : C = Bd.dropL b ch ls) (hq : q = C.length) (W : World) (h : Told W A l c ls) :
    Calls Try.prog 12 #[.agg #[.int .i64 m, .int .i64 n, .slice A l c], .agg #[.int .i64 b, .int .i64 ch]] W (GivesB W ⟨m, n, C⟩ q 0) := by
  have e : Bd.drop m n ls b ch = ⟨m, n, C⟩ := by unfold Bd.drop; rw [if_pos hE, hC]
  have k := HK.out.drop m n A l c ls b ch q W h (by rw [e]; exact hq)
  rw [e, hE] at k
  exact k
theorem kDropE (HK : Hid BoardK) (m n : Int) (A : Option Addr) (l c : Nat) (ls : List Alm) (b ch er : Int) (hE : Bd.dropE m n ls b ch = er) (her : er ≠ 0) (W : World) (h : Told W A l c ls) :
    Calls Try.prog 12 #[.agg #[.int .i64 m, .int .i64 n, .slice A l c], .agg #[.int .i64 b, .int .i64 ch]] W (GivesB W ⟨0, 0, []⟩ 0 er) := by
  have e : Bd.drop m n ls b ch = ⟨0, 0, []⟩ := by unfold Bd.drop; rw [if_neg (by rw [hE]; exact her)]
  have k := HK.out.drop m n A l c ls b ch 0 W h (by rw [e]; rfl)
  rw [e, hE] at k
  exact k
theorem kPass0 (HK : Hid BoardK) (m n : Int) (A : Option Addr) (l c : Nat) (ls : List Alm) (t : Int) (C : List Alm) (q : Nat) (hE : Bd.passE m n ls t = 0) (hC : C = Bd.passL t ls) (hq : q = C.length) (W : World) (h : Told W A l c ls) :
    Calls Try.prog 14 #[.agg #[.int .i64 m, .int .i64 n, .slice A l c], .int .i64 t] W (GivesB W ⟨m, t, C⟩ q 0) := by
  have e : Bd.pass m n ls t = ⟨m, t, C⟩ := by unfold Bd.pass; rw [if_pos hE, hC]
  have k := HK.out.pass m n A l c ls t q W h (by rw [e]; exact hq)
  rw [e, hE] at k
  exact k
theorem kPassE (HK : Hid BoardK) (m n : Int) (A : Option Addr) (l c : Nat) (ls : List Alm) (t er : Int) (hE : Bd.passE m n ls t = er) (her : er ≠ 0) (W : World) (h : Told W A l c ls) :
    Calls Try.prog 14 #[.agg #[.int .i64 m, .int .i64 n, .slice A l c], .int .i64 t] W (GivesB W ⟨0, 0, []⟩ 0 er) := by
  have e : Bd.pass m n ls t = ⟨0, 0, []⟩ := by unfold Bd.pass; rw [if_neg (by rw [hE]; exact her)]
  have k := HK.out.pass m n A l c ls t 0 W h (by rw [e]; rfl)
  rw [e, hE] at k
  exact k
theorem kGet (HK : Hid BoardK) (m n : Int) (A : Option Addr) (l c : Nat) (ls : List Alm) (b ch : Int) (x : Alm) (ok : Bool) (hx : Bd.getA b ch ls = (x, ok)) (W : World) (h : Told W A l c ls) :
    Calls Try.prog 16 #[.agg #[.int .i64 m, .int .i64 n, .slice A l c], .agg #[.int .i64 b, .int .i64 ch]] W fun e w' => e = .returned (.tuple #[.agg #[.int .i64 x.b, .int .i64 x.c, .int .i64 x.ph, .int .i64 x.pr, .int .i64 x.si, .int .i64 x.un], .bool ok]) ∧ Below W.heap.size W w' := by
  have k := HK.out.get m n A l c ls b ch W h
  rw [hx] at k
  exact k
theorem kIs (HK : Hid BoardK) (m n : Int) (A : Option Addr) (l c : Nat) (ls : List Alm) (r : Bool) (hr : Bd.isB m n ls = r) (W : World) (h : Told W A l c ls) :
    Calls Try.prog 27 #[.agg #[.int .i64 m, .int .i64 n, .slice A l c]] W fun e w' => e = .returned (.bool r) ∧ Below W.heap.size W w' := by
  have k := HK.out.is m n A l c ls W h
  rw [hr] at k
  exact k
theorem far_v (m n : Int) (A : Option Addr) (l c : Nat) (z : Bool) (hz : decide ((60 : Int) < (l : Int)) = z) (W : World) :
    Calls Try.prog 8 #[.agg #[.int .i64 m, .int .i64 n, .slice A l c]] W fun e w' => e = .returned (.bool z) ∧ Below W.heap.size W w' := by
  have k := far_any m n A l c W
  rw [hz] at k
  exact k

/-- A block that came earlier is written whole; rows that came later stay, for they lie behind it. -/
theorem wpList_restore_st {P : Program} {ops : Array Oper} {rest : List Oper} {o : Oper} {a : Act} {w : World} {Q : Exit → Act → World → Prop} (hgd : o.guard = none) (ty : TypeId) (x y : Operand) (ho : o.op = .store ty x y)
    {w0 u : World} {k : Nat} {old : Array Value} {L : List (Nat × Array Value)} {M : List Fact} (h0 : St w0 u L M) (hS : St w0 w ((k, old) :: L) M) (hb : Below u.heap.size u w) (hk : u.heap.size ≤ k) (cs : Array Value) (base : Nat) (v : Value) (ls : List Alm) (hO : OwnA w base v ls) (hkb : k < base)
    (hx : a.eval x = .pointer (some ⟨k, 0, none⟩)) (hy : a.eval y = .agg cs) (hz : (P.info? ty).map (·.size) = some cs.size) (hsz : old.size = cs.size) (h1 : cs.all (·.oneCell') = true)
    (h : ∀ w', St w0 w' ((k, cs) :: L) M → OwnA w' base v ls → wpList P ops Q rest (a.put o.dst undef) w') : wpList P ops Q (o :: rest) a w := by
  obtain ⟨t, ht⟩ := hS.live (k, old) (by simp)
  refine wpList_store_row hgd ty x y ho k cs hx hy t old ht hz hsz h1 ?_
  refine h _ ((h0.on (below_setRow hb hk cs)).add ⟨t, setRow_heap _ _ _ _ _ _ ht⟩) ?_
  exact World.ownsRow.kept (row := some k) hO (grown_setRow w k cs) (Or.inr (fun e => by
    have := (World.ownsRow.lt hO k e).1
    omega))
theorem St.lt {w0 w : World} {L : List (Nat × Array Value)} {M : List Fact} (h : St w0 w L M) (i : Nat) {k : Nat} {cs : Array Value} (hi : L[i]? = some (k, cs)) : k < w.heap.size := by
  obtain ⟨t, ht⟩ := h.live (k, cs) (List.mem_of_getElem? hi)
  exact (Array.getElem?_eq_some_iff.1 ht).1
theorem run_eql_sp (x0 x1 y0 y1 : Int) (z : Bool) (hz : z = decide (x0 = y0 ∧ x1 = y1)) (w : World) :
    (binOp .eql 26 (.agg #[.int .i64 x0, .int .i64 x1]) (.agg #[.int .i64 y0, .int .i64 y1])).run Try.prog w = .ok (.bool z) w := by
  subst hz
  go_simp
  repeat' split
  all_goals simp [*]
theorem run_neq_sp (x0 x1 y0 y1 : Int) (z : Bool) (hz : z = !decide (x0 = y0 ∧ x1 = y1)) (w : World) :
    (binOp .neq 26 (.agg #[.int .i64 x0, .int .i64 x1]) (.agg #[.int .i64 y0, .int .i64 y1])).run Try.prog w = .ok (.bool z) w := by
  subst hz
  go_simp
  repeat' split
  all_goals simp [*]
/-- An operation that is not wanted, by the slot that it would write. -/
theorem wpList_skipAt {P : Program} {ops : Array Oper} {rest : List Oper} {o : Oper} {a : Act} {w : World} {Q : Exit → Act → World → Prop} (d : Tmp) (hd : o.dst = some d) (hw : Region.wanted o (yielded ops a.tmps) = false) (h : wpList P ops Q rest (a.put (some d) undef) w) : wpList P ops Q (o :: rest) a w :=
  wpList_skip hw (by rw [hd]; exact h)
/-- A pick that takes the second one, by the slot that it writes. -/
theorem wpList_pickF {P : Program} {ops : Array Oper} {rest : List Oper} {o : Oper} {a : Act} {w : World} {Q : Exit → Act → World → Prop} (d : Tmp) (hd : o.dst = some d) (c x y : Operand) (ho : o.op = .pick c x y) (hw : Region.wanted o (yielded ops a.tmps) = true) (hc : a.eval c = .bool false) (v : Value) (hv : a.eval y = v) (h : wpList P ops Q rest (a.put (some d) v) w) : wpList P ops Q (o :: rest) a w := by
  refine wpList_step fun K hK => ?_
  rw [if_pos hw]
  unfold Oper.wp execOp
  simp [ho, hc, hv, asBool]
  exact hK _ _ (by rw [hd]; exact h)
end Go.Proofs.Ythlojadkgpmnmaa
