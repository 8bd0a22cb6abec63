/-
  Layer 9 (due): the walk of First.
-/
import Derived.Test.YtplpadblhjdpcaaGreatXDueW4
import Derived.Test.YtplpadblhjdpcaaGreatXDueW2
namespace Go.Proofs.YtplpadblhjdpcaaGreat
set_option maxRecDepth 10000
open Go.RowKit Go.Shelf

attribute [local go_sem] Oper.semAt_some

namespace Du
def bet (o : Option Alm) (x : Alm) : Option Alm := match o with | none => some x | some y => if before x y then some x else some y
def fst (ls : List Alm) : Option Alm := ls.foldl bet none
theorem fst_snoc (pre : List Alm) (x : Alm) : fst (pre ++ [x]) = bet (fst pre) x := by unfold fst; rw [List.foldl_append]; rfl
theorem better_bet (o : Option Alm) (x : Alm) : better o x = if waits x then bet o x else o := by
  unfold better bet
  cases waits x
  · simp
  · cases o with
    | none => simp
    | some y => cases h : before x y <;> simp [h]
theorem fold_bet : ∀ (ls : List Alm) (o : Option Alm), ls.foldl better o = (wl ls).foldl bet o
  | [], _ => rfl
  | x :: ls, o => by
    simp only [List.foldl_cons]
    rw [fold_bet ls, better_bet]
    unfold wl
    cases h : waits x
    · simp [h]
    · simp [h]
theorem first_wl (ls : List Alm) : first ls = fst (wl ls) := fold_bet ls none
end Du

/-- What the variable of First holds. -/
def fv : Option Alm → Value
  | none => .nilIface
  | some y => .iface 78 (.agg (sixV y))

/-- A block of cells lies as it lies. -/
theorem cells_own {β : Type} (k : Nat) (t : TypeId) (cs : β → Array Value) : Own (fun s W => W.heap[k]? = some (.cells (cs s) t (0, 0))) := by
  intro s X Y row hs hg hr
  refine (hg.block k (Array.getElem?_eq_some_iff.1 hs).1 (fun e => ?_)).trans hs
  obtain ⟨o, ho, hc⟩ := hr k e.symm
  rw [hs] at ho
  cases ho
  cases hc

def zeroC : Array Value := #[.int .i64 0, .int .i64 0, .int .i64 0, .int .i64 0, .int .i64 0, .int .i64 0]

def FirstI (w : World) (pre : List Alm) (W : World) : Prop :=
  (W.heap[w.heap.size + 1]? = some (.cells #[fv (Du.fst pre)] 52 (0, 0)) ∧ W.heap[w.heap.size]? = some (.cells zeroC 38 (0, 0))) ∧ Below w.heap.size w W

theorem heap_alloc_old (w : World) (o : Obj) {k : Nat} {x : Obj} (h : w.heap[k]? = some x) : (w.alloc o).heap[k]? = some x :=
  ((below_new w o).block k (Array.getElem?_eq_some_iff.1 h).1).trans h

/-- The round has left the variable as it was. -/
theorem first_keep {w W W2 : World} {pre : List Alm} {x : Alm} {B : Nat} (h : FirstI w pre W) (hB : Below W.heap.size W W2) (he : Du.fst (pre ++ [x]) = Du.fst pre) :
    KeepsFrom B W W2 ∧ Below w.heap.size W W2 ∧ FirstI w (pre ++ [x]) W2 := by
  have hb := below_mono hB h.2.size
  refine ⟨(keeps_of_below hB).from _, hb, ⟨?_, ?_⟩, h.2.trans hb⟩
  · rw [he]; exact (hB.block _ (Array.getElem?_eq_some_iff.1 h.1.1).1).trans h.1.1
  · exact (hB.block _ (Array.getElem?_eq_some_iff.1 h.1.2).1).trans h.1.2
/-- It has written it. -/
theorem first_set {w W W2 : World} {pre : List Alm} {x : Alm} {B : Nat} (h : FirstI w pre W) (hB : Below W.heap.size W W2) (he : Du.fst (pre ++ [x]) = some x) :
    KeepsFrom B W (W2.setCell ⟨w.heap.size + 1, 0, none⟩ (.iface 78 (.agg (sixV x)))) ∧ Below w.heap.size W (W2.setCell ⟨w.heap.size + 1, 0, none⟩ (.iface 78 (.agg (sixV x)))) ∧ FirstI w (pre ++ [x]) (W2.setCell ⟨w.heap.size + 1, 0, none⟩ (.iface 78 (.agg (sixV x)))) := by
  have hb := (below_mono hB h.2.size).setCell (p := ⟨w.heap.size + 1, 0, none⟩) (Nat.le_succ _) (.iface 78 (.agg (sixV x)))
  have h1 : Boxed W2 (w.heap.size + 1) 52 (fv (Du.fst pre)) := (hB.block _ (Array.getElem?_eq_some_iff.1 h.1.1).1).trans h.1.1
  refine ⟨((keeps_of_below hB).trans (KeepsOthers.setCell _ _ _)).from _, hb, ⟨?_, ?_⟩, h.2.trans hb⟩
  · rw [he]; exact h1.set _
  · exact (heap_setCell_other W2 ⟨w.heap.size + 1, 0, none⟩ w.heap.size _ (fun e => by have : w.heap.size = w.heap.size + 1 := e; omega)).trans ((hB.block _ (Array.getElem?_eq_some_iff.1 h.1.2).1).trans h.1.2)

theorem run_told (x : Alm) : ∀ w : World, (method 250 78 (.agg (sixV x)) "watchman/due.told").run Tryz.prog w = .ok (122, .agg (sixV x)) w := fun _ => by kernel_rfl
theorem run_nil_nil (w : World) : (binOp .eql 52 .nilIface .nilIface).run Tryz.prog w = .ok (.bool true) w := by rfl
theorem run_if_nil (t : TypeId) (v : Value) (w : World) : (binOp .eql 52 (.iface t v) .nilIface).run Tryz.prog w = .ok (.bool false) w := by rfl

/-- An alarm's six cells, written one by one. -/
def set6 (W : World) (k : Nat) (a0 a1 a2 a3 a4 a5 : Int) : World :=
  (((((W.setCell ⟨k, 0, none⟩ (.int .i64 a0)).setCell ⟨k, 1, none⟩ (.int .i64 a1)).setCell ⟨k, 2, none⟩ (.int .i64 a2)).setCell ⟨k, 3, none⟩ (.int .i64 a3)).setCell ⟨k, 4, none⟩ (.int .i64 a4)).setCell ⟨k, 5, none⟩ (.int .i64 a5)
theorem set6_six {W : World} {k : Nat} {a : Alm} (h : Six W k a) (a0 a1 a2 a3 a4 a5 : Int) : Six (set6 W k a0 a1 a2 a3 a4 a5) k ⟨a0, a1, a2, a3, a4, a5⟩ := by
  obtain ⟨t, hb⟩ := h.blk
  have h1 := heap_setCell_same W k 0 _ _ (.int .i64 a0) hb
  have h2 := heap_setCell_same _ k 1 _ _ (.int .i64 a1) h1
  have h3 := heap_setCell_same _ k 2 _ _ (.int .i64 a2) h2
  have h4 := heap_setCell_same _ k 3 _ _ (.int .i64 a3) h3
  have h5 := heap_setCell_same _ k 4 _ _ (.int .i64 a4) h4
  have h6 := heap_setCell_same _ k 5 _ _ (.int .i64 a5) h5
  exact ⟨t, h6⟩
theorem set6_other (W : World) (k i : Nat) (hi : i ≠ k) (a0 a1 a2 a3 a4 a5 : Int) : (set6 W k a0 a1 a2 a3 a4 a5).heap[i]? = W.heap[i]? := by
  have f : ∀ (X : World) (j : Nat) (v : Value), (X.setCell ⟨k, j, none⟩ v).heap[i]? = X.heap[i]? := fun X j v => heap_setCell_other X ⟨k, j, none⟩ i v hi
  unfold set6
  rw [f, f, f, f, f, f]
theorem set6_below {B k : Nat} {w W : World} (h : Below B w W) (hk : B ≤ k) (a0 a1 a2 a3 a4 a5 : Int) : Below B w (set6 W k a0 a1 a2 a3 a4 a5) :=
  below_setCell (below_setCell (below_setCell (below_setCell (below_setCell (below_setCell h hk _ _) hk _ _) hk _ _) hk _ _) hk _ _) hk _ _

/-- How First ends: an alarm in its block, the block of the rounds' deferred calls emptied. -/
theorem first_end {w W : World} {D : Nat} {a b : Alm} {z : Bool} {a0 a1 a2 a3 a4 a5 : Int} (ha : a = ⟨a0, a1, a2, a3, a4, a5⟩) (tm : Array Value) (hp : tm.getD 2 undef = .pointer (some ⟨w.heap.size, 0, none⟩)) (hz : tm.getD 3 undef = .bool z)
    (h6 : Six W w.heap.size b) (hB : Below w.heap.size w W) (hD : w.heap.size ≤ D) (hK : W.heap[D]? = some (.deferred (some []))) :
    bodyPostM Fence.wide 9 Tryz.prog Tryz.f13 (fun e w' => e = .returned (.tuple #[.agg (sixV a), .bool z]) ∧ Below w.heap.size w w') .ret { tmps := tm, defers := [{ target := .collected D, args := #[] }] } (set6 W w.heap.size a0 a1 a2 a3 a4 a5) := by
  have hne : D ≠ w.heap.size := by
    rintro rfl
    obtain ⟨t, hb⟩ := h6.blk
    rw [hb] at hK
    cases hK
  have hK' : (set6 W w.heap.size a0 a1 a2 a3 a4 a5).heap[D]? = some (.deferred (some [])) := (set6_other W _ D hne a0 a1 a2 a3 a4 a5).trans hK
  have s6 := set6_six h6 a0 a1 a2 a3 a4 a5
  have s6' : Six ((set6 W w.heap.size a0 a1 a2 a3 a4 a5).putObj D (.deferred none)) w.heap.size a := by
    obtain ⟨t, hb⟩ := s6.blk
    rw [ha]
    exact ⟨t, (World.putObj_heap_other (fun e => hne e.symm)).trans hb⟩
  refine ⟨by simp, .inl ⟨_, _, rfl, run_takeDeferred hK', ?_⟩⟩
  refine ⟨_, ret_alarm rfl hp s6', ?_, ?_⟩
  · rw [hz]
  · exact (set6_below hB (Nat.le_refl _) a0 a1 a2 a3 a4 a5).trans (belowK_b (w := w) (Nat.le_refl _) _ D _ _ hD hK' rfl rfl)

set_option maxHeartbeats 4000000 in
theorem dfirst_any (A : Option Addr) (l c : Nat) (ls : List Alm) (w : World) (h : Told w A l c ls) :
    Calls Tryz.prog 13 #[.slice A l c] w fun e w' => e = .returned (.tuple #[.agg (sixV (Du.firstA ls)), .bool (Du.firstB ls)]) ∧ Below w.heap.size w w' := by
  have HT := Lib.hid h
  clear h
  have hb3 : Below w.heap.size w (((w.alloc (.cells zeroC 38)).alloc (.cells #[.nilIface] 52)).alloc (.cells #[.slice A l c] 22)) := ((below_new w _).alloc (by simp) _).alloc (by simp; omega) _
  have q0 := heap_alloc_new w (.cells zeroC 38)
  have q1 := heap_alloc_new (w.alloc (.cells zeroC 38)) (.cells #[.nilIface] 52)
  have q2 := heap_alloc_new ((w.alloc (.cells zeroC 38)).alloc (.cells #[.nilIface] 52)) (.cells #[.slice A l c] 22)
  simp only [World.size_alloc] at q1 q2
  replace q0 := heap_alloc_old _ (.cells #[.slice A l c] 22) (heap_alloc_old _ (.cells #[.nilIface] 52) q0)
  replace q1 := heap_alloc_old _ (.cells #[.slice A l c] 22) q1
  have Q0 := Lib.hid q0
  have Q1 := Lib.hid q1
  have Q2 := Lib.hid q2
  have HB3 := Lib.hid hb3
  clear q0 q1 q2 hb3
  refine (callsIn_wide (n := 9)).1 ?_
  refine callsIn_of_wp_marks Tryz.func13 rfl trivial ?_ rfl
  simp only [Tryz.ntmps13, List.size_toArray, List.length_cons, List.length_nil, Nat.reduceAdd, Nat.reduceSub, Array.replicate_succ, Array.replicate_zero, List.push_toArray, List.append_toArray, List.nil_append, List.cons_append]
  gi_wp2_with fail
  refine ⟨trivial, (dwaiting_in _ A l c _).mono ?_⟩
  rintro e w' ⟨rfl, rfl⟩
  gi_wp2_with fail
  refine wpIn_rangeFunc_ownG (F := Fence.wide) (n := 9) rfl (by omega) (gf := 44) (lb := #[.pointer (some ⟨w.heap.size + 1 + 1, 0, none⟩)]) rfl trivial (enters_of Tryz.func44 (by kernel_rfl) rfl)
    (dwaiting_stops _ (w.heap.size + 1 + 1) w.heap.size A l c ls HT.out.1 HT.out.2.2.2 _ HB3.out.size (by simp) (by have q := Q2.out; simp only [World.cell?, q]; rfl) (HT.out.2.1.below HB3.out (Nat.le_refl _))) belowK_t (belowK_b (by simp; omega)) (Below.refl _ _) (fun _ => rfl)
    (FirstI w) (fun _ _ _ => False)
    (OwnFrom.and (OwnFrom.and (Own.from (cells_own _ _ (fun pre => #[fv (Du.fst pre)])) _) (Own.from (cells_own _ _ (fun _ => zeroC)) _)) (ownFrom_below (Nat.le_refl _) (by simp; omega)))
    (fun _ _ _ _ _ hs _ _ => hs)
    ⟨⟨Q1.out, Q0.out⟩, HB3.out⟩
    ?a1 ?assign ?body ?done ?stop
  case assign =>
    intro l x W K hK
    gi_wp2
    exact hK
  case body =>
    rintro lp pre x W ⟨⟨hC, hZ⟩, hB0⟩ hlt
    clear hlt
    have HI : Hid (FirstI w pre W) := Lib.hid ⟨⟨hC, hZ⟩, hB0⟩
    obtain ⟨x0, x1, x2, x3, x4, x5⟩ := x
    have Hs := Lib.hid (Du.fst_snoc pre ⟨x0, x1, x2, x3, x4, x5⟩)
    obtain ⟨o, ho⟩ : ∃ o, o = Du.fst pre := ⟨_, rfl⟩
    have Ho := Lib.hid ho
    rw [← ho] at hC Hs
    clear ho hZ hB0 Q0 Q1 Q2 HB3
    have hB : Below W.heap.size W W := Below.refl _ _
    cases o with
    | none =>
      dsimp only [fv] at hC
      gi_wp2_with fail
      refine wpIn_region_heldR (S := (fun W1 : World => W1.heap[w.heap.size + 1]? = some (.cells #[.nilIface] 52 (0, 0)))) (by kernel_rfl) (fun h => by obtain ⟨_, _, h⟩ := h; exact h) (by kernel_rfl) (by first | exact hC | exact hC) (fun hHeld => ?_)
      refine wpAnyH_take (i := 0) (oi := { dst := some 9, op := Op.load 52 (Operand.tmp 4), type := 52, pos := _, after := #[], guard := none }) (v := ?_) rfl (by kernel_rfl) (by kernel_rfl) (by kernel_rfl) (fun _ _ _ h => h) (Or.inl ⟨by rfl, ?hy⟩) hHeld ?_
      case hy => intro w0 hSw; have hc : w0.cell? ⟨w.heap.size + 1, 0, none⟩ = some .nilIface := (by simp only [World.cell?, hSw]; rfl); clear hSw; go_simp; (try with_reducible rfl)
      (try simp only [Act.put, List.setIfInBounds_toArray, List.set_cons_zero, List.set_cons_succ])
      refine wpAnyH_take (i := 1) (oi := { dst := some 10, op := Op.binOp BinOp.eql 52 (Operand.tmp 9) (Operand.const Value.nilIface) 52, type := 4, pos := _, after := #[{ on := 0, ground := Ground.data }], guard := none }) (v := ?_) rfl (by kernel_rfl) (by kernel_rfl) (by kernel_rfl) (fun _ _ _ h => h) (Or.inl ⟨by rfl, ?hy⟩) hHeld ?_
      case hy => intro w0 hSw; have hq := run_nil_nil w0; clear hSw; go_simp; (try with_reducible rfl)
      (try simp only [Act.put, List.setIfInBounds_toArray, List.set_cons_zero, List.set_cons_succ])
      refine wpAnyH_take (i := 2) (oi := { dst := some 11, op := Op.move (Operand.tmp 10), type := 4, pos := _, after := #[{ on := 1, ground := Ground.data }], guard := none }) (v := ?_) rfl (by kernel_rfl) (by kernel_rfl) (by kernel_rfl) (fun _ _ _ h => h) (Or.inl ⟨by rfl, ?hy⟩) hHeld ?_
      case hy => intro w0 hSw; (try dsimp only at hSw); go_simp; (try with_reducible rfl)
      (try simp only [Act.put, List.setIfInBounds_toArray, List.set_cons_zero, List.set_cons_succ])
      refine wpAnyH_take (i := 3) (oi := { dst := some 12, op := Op.move (Operand.tmp 5), type := 52, pos := _, after := #[{ on := 2, ground := Ground.guard }], guard := some (2, false) }) (v := undef) rfl (by kernel_rfl) (by kernel_rfl) (by kernel_rfl) (fun _ _ _ h => h) (Or.inr ⟨by rfl, rfl⟩) hHeld ?_
      (try simp only [Act.put, List.setIfInBounds_toArray, List.set_cons_zero, List.set_cons_succ])
      refine wpAnyH_take (i := 4) (oi := { dst := some 13, op := Op.call { callee := Callee.invoke (Operand.tmp 12) "watchman/due.told", args := #[], argTypes := #[] }, type := 38, pos := _, after := #[{ on := 3, ground := Ground.data }, { on := 2, ground := Ground.chain }, { on := 2, ground := Ground.guard }], guard := some (2, false) }) (v := undef) rfl (by kernel_rfl) (by kernel_rfl) (by kernel_rfl) (fun _ _ _ h => h) (Or.inr ⟨by rfl, rfl⟩) hHeld ?_
      (try simp only [Act.put, List.setIfInBounds_toArray, List.set_cons_zero, List.set_cons_succ])
      refine wpAnyH_take (i := 5) (oi := { dst := some 14, op := Op.load 52 (Operand.tmp 4), type := 52, pos := _, after := #[{ on := 2, ground := Ground.guard }], guard := some (2, false) }) (v := undef) rfl (by kernel_rfl) (by kernel_rfl) (by kernel_rfl) (fun _ _ _ h => h) (Or.inr ⟨by rfl, rfl⟩) hHeld ?_
      (try simp only [Act.put, List.setIfInBounds_toArray, List.set_cons_zero, List.set_cons_succ])
      refine wpAnyH_take (i := 6) (oi := { dst := some 15, op := Op.call { callee := Callee.invoke (Operand.tmp 14) "watchman/due.told", args := #[], argTypes := #[] }, type := 38, pos := _, after := #[{ on := 5, ground := Ground.data }, { on := 4, ground := Ground.chain }, { on := 2, ground := Ground.guard }], guard := some (2, false) }) (v := undef) rfl (by kernel_rfl) (by kernel_rfl) (by kernel_rfl) (fun _ _ _ h => h) (Or.inr ⟨by rfl, rfl⟩) hHeld ?_
      (try simp only [Act.put, List.setIfInBounds_toArray, List.set_cons_zero, List.set_cons_succ])
      refine wpAnyH_take (i := 7) (oi := { dst := some 16, op := Op.call { callee := Callee.value (Operand.func 31), args := #[Operand.tmp 13, Operand.tmp 15], argTypes := #[38, 38] }, type := 4, pos := _, after := #[{ on := 4, ground := Ground.data }, { on := 6, ground := Ground.data }, { on := 6, ground := Ground.chain }, { on := 2, ground := Ground.guard }], guard := some (2, false) }) (v := undef) rfl (by kernel_rfl) (by kernel_rfl) (by kernel_rfl) (fun _ _ _ h => h) (Or.inr ⟨by rfl, rfl⟩) hHeld ?_
      (try simp only [Act.put, List.setIfInBounds_toArray, List.set_cons_zero, List.set_cons_succ])
      refine wpAnyH_take (i := 8) (oi := { dst := some 17, op := Op.pick (Operand.tmp 11) (Operand.const (Value.bool true)) (Operand.tmp 16), type := 4, pos := _, after := #[{ on := 2, ground := Ground.data }, { on := 7, ground := Ground.data }], guard := none }) (v := ?_) rfl (by kernel_rfl) (by kernel_rfl) (by kernel_rfl) (fun _ _ _ h => h) (Or.inl ⟨by rfl, ?hy⟩) hHeld ?_
      case hy => intro w0 hSw; (try dsimp only at hSw); go_simp; (try with_reducible rfl)
      (try simp only [Act.put, List.setIfInBounds_toArray, List.set_cons_zero, List.set_cons_succ])
      refine wpAnyH_done (by kernel_rfl) ?_ _
      clear hHeld
      have hc : W.drew.cell? ⟨w.heap.size + 1, 0, none⟩ = some .nilIface := Boxed.cell hC
      have hfz : W.drew.frozen? ⟨w.heap.size + 1, 0, none⟩ = false := Boxed.frozen hC
      clear hC hB
      gi_wp2
      exact first_set HI.out (below_drew (Below.refl _ _) 1) (by rw [Hs.out]; rfl)
    | some y =>
      obtain ⟨y0, y1, y2, y3, y4, y5⟩ := y
      dsimp only [fv, sixV] at hC
      have hm1 := run_told ⟨x0, x1, x2, x3, x4, x5⟩
      have hm2 : ∀ w : World, (method 250 78 (.agg #[.int .i64 y0, .int .i64 y1, .int .i64 y2, .int .i64 y3, .int .i64 y4, .int .i64 y5]) "watchman/due.told").run Tryz.prog w = .ok (122, .agg #[.int .i64 y0, .int .i64 y1, .int .i64 y2, .int .i64 y3, .int .i64 y4, .int .i64 y5]) w := run_told ⟨y0, y1, y2, y3, y4, y5⟩
      have g1 := fun W => dtold_any x0 x1 x2 x3 x4 x5 W
      have g2 := fun W => dtold_any y0 y1 y2 y3 y4 y5 W
      have g3 := fun W => dahead_any x0 x1 x2 x3 x4 x5 y0 y1 y2 y3 y4 y5 W
      gi_wp2_with fail
      refine wpIn_region_heldR (S := (fun W1 : World => W1.heap[w.heap.size + 1]? = some (.cells #[(.iface 78 (.agg #[.int .i64 y0, .int .i64 y1, .int .i64 y2, .int .i64 y3, .int .i64 y4, .int .i64 y5]))] 52 (0, 0)))) (by kernel_rfl) (fun h => by obtain ⟨_, _, h⟩ := h; exact h) (by kernel_rfl) (by first | exact hC | exact hC) (fun hHeld => ?_)
      refine wpAnyH_take (i := 0) (oi := { dst := some 9, op := Op.load 52 (Operand.tmp 4), type := 52, pos := _, after := #[], guard := none }) (v := ?_) rfl (by kernel_rfl) (by kernel_rfl) (by kernel_rfl) (fun _ _ _ h => h) (Or.inl ⟨by rfl, ?hy⟩) hHeld ?_
      case hy => intro w0 hSw; have hc : w0.cell? ⟨w.heap.size + 1, 0, none⟩ = some (.iface 78 (.agg #[.int .i64 y0, .int .i64 y1, .int .i64 y2, .int .i64 y3, .int .i64 y4, .int .i64 y5])) := (by simp only [World.cell?, hSw]; rfl); clear hSw; go_simp; (try with_reducible rfl)
      (try simp only [Act.put, List.setIfInBounds_toArray, List.set_cons_zero, List.set_cons_succ])
      refine wpAnyH_take (i := 1) (oi := { dst := some 10, op := Op.binOp BinOp.eql 52 (Operand.tmp 9) (Operand.const Value.nilIface) 52, type := 4, pos := _, after := #[{ on := 0, ground := Ground.data }], guard := none }) (v := ?_) rfl (by kernel_rfl) (by kernel_rfl) (by kernel_rfl) (fun _ _ _ h => h) (Or.inl ⟨by rfl, ?hy⟩) hHeld ?_
      case hy => intro w0 hSw; have hq := run_if_nil 78 (.agg #[.int .i64 y0, .int .i64 y1, .int .i64 y2, .int .i64 y3, .int .i64 y4, .int .i64 y5]) w0; clear hSw; go_simp; (try with_reducible rfl)
      (try simp only [Act.put, List.setIfInBounds_toArray, List.set_cons_zero, List.set_cons_succ])
      refine wpAnyH_take (i := 2) (oi := { dst := some 11, op := Op.move (Operand.tmp 10), type := 4, pos := _, after := #[{ on := 1, ground := Ground.data }], guard := none }) (v := ?_) rfl (by kernel_rfl) (by kernel_rfl) (by kernel_rfl) (fun _ _ _ h => h) (Or.inl ⟨by rfl, ?hy⟩) hHeld ?_
      case hy => intro w0 hSw; (try dsimp only at hSw); go_simp; (try with_reducible rfl)
      (try simp only [Act.put, List.setIfInBounds_toArray, List.set_cons_zero, List.set_cons_succ])
      refine wpAnyH_take (i := 3) (oi := { dst := some 12, op := Op.move (Operand.tmp 5), type := 52, pos := _, after := #[{ on := 2, ground := Ground.guard }], guard := some (2, false) }) (v := ?_) rfl (by kernel_rfl) (by kernel_rfl) (by kernel_rfl) (fun _ _ _ h => h) (Or.inl ⟨by rfl, ?hy⟩) hHeld ?_
      case hy => intro w0 hSw; (try dsimp only at hSw); go_simp; (try with_reducible rfl)
      (try simp only [Act.put, List.setIfInBounds_toArray, List.set_cons_zero, List.set_cons_succ])
      refine wpAnyH_take (i := 5) (oi := { dst := some 14, op := Op.load 52 (Operand.tmp 4), type := 52, pos := _, after := #[{ on := 2, ground := Ground.guard }], guard := some (2, false) }) (v := ?_) rfl (by kernel_rfl) (by kernel_rfl) (by kernel_rfl) (fun _ _ _ h => h) (Or.inl ⟨by rfl, ?hy⟩) hHeld ?_
      case hy => intro w0 hSw; have hc : w0.cell? ⟨w.heap.size + 1, 0, none⟩ = some (.iface 78 (.agg #[.int .i64 y0, .int .i64 y1, .int .i64 y2, .int .i64 y3, .int .i64 y4, .int .i64 y5])) := (by simp only [World.cell?, hSw]; rfl); clear hSw; go_simp; (try with_reducible rfl)
      (try simp only [Act.put, List.setIfInBounds_toArray, List.set_cons_zero, List.set_cons_succ])
      refine wpAnyH_ready (rs := [4]) (by kernel_rfl) (by simp) ?_
      refine AllReadyH.cons (o := { dst := some 13, op := Op.call { callee := Callee.invoke (Operand.tmp 12) "watchman/due.told", args := #[], argTypes := #[] }, type := 38, pos := _, after := #[{ on := 3, ground := Ground.data }, { on := 2, ground := Ground.chain }, { on := 2, ground := Ground.guard }], guard := some (2, false) }) rfl (fun K hK => ?_) AllReadyH.nil
      go_simp
      refine (g1 _).mono ?_
      rintro e w1 ⟨rfl, hB'⟩
      replace hC := (hB'.block _ (Array.getElem?_eq_some_iff.1 hC).1).trans hC
      replace hB := below2 (by first | exact hB | exact below_drew hB 1) hB'
      clear hB'
      go_wp2_with fail
      refine hK.out _ _ (by first | exact hC | exact hC) (fun hHeld => ?_)
      clear hK K
      (try simp only [Act.put, List.setIfInBounds_toArray, List.set_cons_zero, List.set_cons_succ])
      refine wpAnyH_ready (rs := [6]) (by kernel_rfl) (by simp) ?_
      refine AllReadyH.cons (o := { dst := some 15, op := Op.call { callee := Callee.invoke (Operand.tmp 14) "watchman/due.told", args := #[], argTypes := #[] }, type := 38, pos := _, after := #[{ on := 5, ground := Ground.data }, { on := 4, ground := Ground.chain }, { on := 2, ground := Ground.guard }], guard := some (2, false) }) rfl (fun K hK => ?_) AllReadyH.nil
      go_simp
      refine (g2 _).mono ?_
      rintro e w1 ⟨rfl, hB'⟩
      replace hC := (hB'.block _ (Array.getElem?_eq_some_iff.1 hC).1).trans hC
      replace hB := below2 (by first | exact hB | exact below_drew hB 1) hB'
      clear hB'
      go_wp2_with fail
      refine hK.out _ _ (by first | exact hC | exact hC) (fun hHeld => ?_)
      clear hK K
      (try simp only [Act.put, List.setIfInBounds_toArray, List.set_cons_zero, List.set_cons_succ])
      refine wpAnyH_ready (rs := [7]) (by kernel_rfl) (by simp) ?_
      refine AllReadyH.cons (o := { dst := some 16, op := Op.call { callee := Callee.value (Operand.func 31), args := #[Operand.tmp 13, Operand.tmp 15], argTypes := #[38, 38] }, type := 4, pos := _, after := #[{ on := 4, ground := Ground.data }, { on := 6, ground := Ground.data }, { on := 6, ground := Ground.chain }, { on := 2, ground := Ground.guard }], guard := some (2, false) }) rfl (fun K hK => ?_) AllReadyH.nil
      go_simp
      refine (g3 _).mono ?_
      rintro e w1 ⟨rfl, hB'⟩
      replace hC := (hB'.block _ (Array.getElem?_eq_some_iff.1 hC).1).trans hC
      replace hB := below2 (by first | exact hB | exact below_drew hB 1) hB'
      clear hB'
      go_wp2_with fail
      refine hK.out _ _ (by first | exact hC | exact hC) (fun hHeld => ?_)
      clear hK K
      (try simp only [Act.put, List.setIfInBounds_toArray, List.set_cons_zero, List.set_cons_succ])
      refine wpAnyH_take (i := 8) (oi := { dst := some 17, op := Op.pick (Operand.tmp 11) (Operand.const (Value.bool true)) (Operand.tmp 16), type := 4, pos := _, after := #[{ on := 2, ground := Ground.data }, { on := 7, ground := Ground.data }], guard := none }) (v := ?_) rfl (by kernel_rfl) (by kernel_rfl) (by kernel_rfl) (fun _ _ _ h => h) (Or.inl ⟨by rfl, ?hy⟩) hHeld ?_
      case hy => intro w0 hSw; (try dsimp only at hSw); go_simp; (try with_reducible rfl)
      (try simp only [Act.put, List.setIfInBounds_toArray, List.set_cons_zero, List.set_cons_succ])
      refine wpAnyH_done (by kernel_rfl) ?_ _
      clear hHeld hm1 hm2 g1 g2 g3
      have HB := Lib.hid hB
      have hc := Boxed.cell hC
      have hfz := Boxed.frozen hC
      obtain ⟨z, hz⟩ : ∃ z, z = Du.before ⟨x0, x1, x2, x3, x4, x5⟩ ⟨y0, y1, y2, y3, y4, y5⟩ := ⟨_, rfl⟩
      rw [← hz]
      have Hz := Lib.hid hz
      clear hz
      cases z
      · gi_wp2
        exact first_keep HI.out HB.out (by rw [Hs.out, ← Ho.out]; simp [Du.bet, ← Hz.out])
      · gi_wp2
        exact first_set HI.out HB.out (by rw [Hs.out]; simp [Du.bet, ← Hz.out])
  case done =>
    rintro D ys W hD rfl ⟨⟨hC, hZ⟩, hB⟩ hK
    clear Q0 Q1 Q2 HB3
    have HD : Hid (w.heap.size ≤ D) := Lib.hid (by simp at hD; omega)
    have HB := Lib.hid hB
    have HK := Lib.hid hK
    have KZ : Hid (Six W w.heap.size Am.zero) := Lib.hid ⟨_, hZ⟩
    have Hz := Lib.hid hZ
    have Hf := Lib.hid (Du.first_wl ls)
    obtain ⟨o, ho⟩ : ∃ o, o = Du.fst (Du.wl ls) := ⟨_, rfl⟩
    rw [← ho] at hC Hf
    clear ho hZ hB hK hD
    have c0 := KZ.out.c0
    have c1 := KZ.out.c1
    have c2 := KZ.out.c2
    have c3 := KZ.out.c3
    have c4 := KZ.out.c4
    have c5 := KZ.out.c5
    have f0 := KZ.out.f 0
    have f1 := KZ.out.f 1
    have f2 := KZ.out.f 2
    have f3 := KZ.out.f 3
    have f4 := KZ.out.f 4
    have f5 := KZ.out.f 5
    dsimp only [Am.zero] at c0 c1 c2 c3 c4 c5
    cases o with
    | none =>
      have e1 : Hid (Du.firstA ls = Am.zero) := Lib.hid (by unfold Du.firstA; rw [Hf.out]; rfl)
      have e2 : Hid (Du.firstB ls = false) := Lib.hid (by unfold Du.firstB; rw [Hf.out]; rfl)
      dsimp only [fv] at hC
      have hc := Boxed.cell hC
      have hq := run_nil_nil W
      clear hC Hf
      gi_wp2
      rw [e2.out]
      exact first_end (a := Du.firstA ls) (z := false) (a0 := 0) (a1 := 0) (a2 := 0) (a3 := 0) (a4 := 0) (a5 := 0) e1.out _ rfl rfl KZ.out HB.out HD.out HK.out
    | some y =>
      obtain ⟨y0, y1, y2, y3, y4, y5⟩ := y
      have e1 : Hid (Du.firstA ls = ⟨y0, y1, y2, y3, y4, y5⟩) := Lib.hid (by unfold Du.firstA; rw [Hf.out]; rfl)
      have e2 : Hid (Du.firstB ls = true) := Lib.hid (by unfold Du.firstB; rw [Hf.out]; rfl)
      have hm2 : ∀ w : World, (method 250 78 (.agg #[.int .i64 y0, .int .i64 y1, .int .i64 y2, .int .i64 y3, .int .i64 y4, .int .i64 y5]) "watchman/due.told").run Tryz.prog w = .ok (122, .agg #[.int .i64 y0, .int .i64 y1, .int .i64 y2, .int .i64 y3, .int .i64 y4, .int .i64 y5]) w := run_told ⟨y0, y1, y2, y3, y4, y5⟩
      have g2 := fun W => dtold_any y0 y1 y2 y3 y4 y5 W
      dsimp only [fv, sixV] at hC
      have hc := Boxed.cell hC
      have hq := run_if_nil 78 (.agg #[.int .i64 y0, .int .i64 y1, .int .i64 y2, .int .i64 y3, .int .i64 y4, .int .i64 y5]) W
      clear hC Hf c0 c1 c2 c3 c4 c5 f0 f1 f2 f3 f4 f5
      gi_wp2_with fail
      refine ⟨trivial, callsIn_wide.2 ((g2 _).mono ?_)⟩
      rintro e W2 ⟨rfl, hB'⟩
      have K2 := Lib.hid (KZ.out.below hB')
      have HB2 := Lib.hid (HB.out.trans (below_mono hB' HB.out.size))
      have HK2 : Hid (W2.heap[D]? = some (Obj.deferred (some []))) := Lib.hid ((hB'.block _ (Array.getElem?_eq_some_iff.1 HK.out).1).trans HK.out)
      clear hB' g2 hm2 hq hc
      have c0 := K2.out.c0
      have c1 := K2.out.c1
      have c2 := K2.out.c2
      have c3 := K2.out.c3
      have c4 := K2.out.c4
      have c5 := K2.out.c5
      have f0 := K2.out.f 0
      have f1 := K2.out.f 1
      have f2 := K2.out.f 2
      have f3 := K2.out.f 3
      have f4 := K2.out.f 4
      have f5 := K2.out.f 5
      dsimp only [Am.zero] at c0 c1 c2 c3 c4 c5
      gi_wp2
      rw [e2.out]
      exact first_end (a := Du.firstA ls) (z := true) (a0 := y0) (a1 := y1) (a2 := y2) (a3 := y3) (a4 := y4) (a5 := y5) e1.out _ rfl rfl K2.out HB2.out HD.out HK2.out
  case stop =>
    rintro D c pre W _ _ h _
    exact h.elim
end Go.Proofs.YtplpadblhjdpcaaGreat
