/-
  Layer 8 (board): slices.Insert of one alarm into a row of one's own.
-/
import Derived.Test.YthlojadkgpmnmaaBoardW4
import Derived.Laws.CopyOwn
import Derived.Lib.AppendZerosOnto
import Derived.Lib.Overlaps
import Derived.Laws.NewBlocks
import Derived.Deep.RegionLaw
import Derived.Laws.Externs
namespace Go.Proofs.Ythlojadkgpmnmaa
open Go.RowKit

theorem run_copy_row6 (w : World) (dT sT ty : TypeId) (g o dLen dCap : Nat) (a : Addr) (sLen sCap : Nat) (cur : Array Value) (t : TypeId) (cs : List Value) (hu : Try.prog.underlying dT = some (.slice 28))
    (hg : w.heap[g]? = some (.cells cur t (0, 0))) (k : Nat) (hk : Nat.min sLen dLen = k) (hn : cs.length = k * 6) (hsrc : ∀ j v, cs[j]? = some v → w.cell? (a.add j) = some v) (hfit : o + cs.length ≤ cur.size) (h1 : ∀ v ∈ cs, v.oneCell' = true) :
    (Builtin.copy_ #[dT, sT] ty #[.slice (some ⟨g, o, none⟩) dLen dCap, .slice (some a) sLen sCap]).run Try.prog w = .ok (goInt k) (w.setRow g (splice cur.toList o cs).toArray) := by
  have hl := run_loadCells_list (P := Try.prog) w a cs hsrc
  have hst := run_storeCells_at Try.prog g o t cs 0 cur w hg (by simpa using hfit) h1
  obtain ⟨i0, hi, hz0, hz1, hz2⟩ := info_parts Try.infoAl
  simp only [Nat.add_zero, List.append_assoc] at hst
  unfold splice
  simp [Builtin.copy_, run_underlying hu, Builtin.lenOf, Builtin.firstCells, sizeOf, typeInfo, hi, hz1, hk, ← hn, hl, hst]

theorem wpList_copy6 {ops : Array Oper} {rest : List Oper} {o : Oper} {a : Act} {w : World} {Q : Exit → Act → World → Prop} (hgd : o.guard = none) (d s : Operand) (dT sT : TypeId)
    (ho : o.op = .call { callee := .builtin .copy, args := #[d, s], argTypes := #[dT, sT] }) (v u : Value) (hd : a.eval d = v) (hs : a.eval s = u) {v' : Value} {w' : World}
    (hr : ∀ ty, (Builtin.copy_ #[dT, sT] ty #[v, u]).run Try.prog w = .ok v' w') (h : wpList Try.prog ops Q rest (a.put o.dst v') w') : wpList Try.prog ops Q (o :: rest) a w := by
  refine wpList_plain hgd fun K hK => ?_
  unfold Oper.wp
  simp only [execOp, ho, resolve, invoke, builtin, Sem.run_bind, Sem.run_pure, Result.andThen_ok, List.map_toArray, List.map_cons, List.map_nil, hd, hs, hr]
  exact hK _ _ h
theorem step_copy6 {ops : Array Oper} {o : Oper} {a : Act} {w : World} {K : Act → World → Prop} {Q : Exit → Act → World → Prop} {E : Prop} (hg : o.guard = none) (d x : Operand) (dT sT : TypeId)
    (hop : o.op = Op.call { callee := Callee.builtin Builtin.copy, args := #[d, x], argTypes := #[dT, sT] }) (v u : Value) (hd : a.eval d = v) (hx : a.eval x = u) {v' : Value} {w' : World}
    (hr : ∀ ty, (Builtin.copy_ #[dT, sT] ty #[v, u]).run Try.prog w = .ok v' w') (hK : K (a.put o.dst v') w') : if Region.wanted o (yielded ops a.tmps) = true then Oper.wp Try.prog o a w K Q else E := by
  rw [if_pos (by simp [Region.wanted, hg])]
  unfold Oper.wp
  simp only [execOp, hop, resolve, invoke, builtin, Sem.run_bind, Sem.run_pure, Result.andThen_ok, List.map_toArray, List.map_cons, List.map_nil, hd, hx, hr]
  exact hK

/-- Cells laid into a row: what is from place k on goes six cells on, and six others come between. -/
theorem ins_cells (F V R : List Value) (k : Nat) (hk : k ≤ F.length) (hV : V.length = 6) (hR : F.length + 6 ≤ R.length) (h : R.take k = F.take k) :
    (splice (splice R (k + 6) (F.drop k)) k V).take (F.length + 6) = F.take k ++ (V ++ F.drop k) := by
  unfold splice
  have e1 : (R.take (k + 6) ++ (F.drop k ++ R.drop (k + 6 + (F.drop k).length))).take k = F.take k := by
    rw [List.take_append_of_le_length (by rw [List.length_take]; omega), List.take_take, Nat.min_eq_left (by omega), h]
  have e2 : (R.take (k + 6) ++ (F.drop k ++ R.drop (k + 6 + (F.drop k).length))).drop (k + V.length) = F.drop k ++ R.drop (k + 6 + (F.drop k).length) := by
    rw [hV]
    exact List.drop_left' (by rw [List.length_take]; omega)
  rw [e1, e2, ← List.append_assoc, ← List.append_assoc]
  rw [List.take_append_of_le_length (by simp only [List.length_append, List.length_take, List.length_drop, hV]; omega)]
  rw [List.take_of_length_le (by simp only [List.length_append, List.length_take, List.length_drop, hV]; omega), List.append_assoc]
theorem ins_cells2 (F V R : List Value) (k : Nat) (hk : k ≤ F.length) (hV : V.length = 6) (h : R.take k = F.take k) :
    (splice (splice R k V) (k + 6) (F.drop k)).take (F.length + 6) = F.take k ++ (V ++ F.drop k) := by
  have hl : (F.take k).length = k := by rw [List.length_take]; omega
  have e0 : splice R k V = (F.take k ++ V) ++ R.drop (k + 6) := by unfold splice; rw [h, hV, List.append_assoc]
  rw [e0]
  unfold splice
  have e1 : ((F.take k ++ V) ++ R.drop (k + 6)).take (k + 6) = F.take k ++ V := List.take_left' (by rw [List.length_append, hl, hV])
  rw [e1, ← List.append_assoc]
  rw [List.take_append_of_le_length (by simp only [List.length_append, hl, List.length_drop, hV]; omega)]
  rw [List.take_of_length_le (by simp only [List.length_append, hl, List.length_drop, hV]; omega), List.append_assoc]

set_option maxRecDepth 10000 in
set_option maxHeartbeats 2000000 in
theorem insert_shift (g cap n i vb : Nat) (cur : Array Value) (F V : List Value) (w : World) (hin : i < n) (hroom : n + 1 ≤ cap) (hcm : cap ≤ 9223372036854775807) (hg : w.heap[g]? = some (.cells cur 28 (0, 0))) (hcs : cur.size = cap * 6)
    (hF : F.length = n * 6) (hcF : cur.toList.take (n * 6) = F) (hF1 : ∀ v ∈ F, v.oneCell' = true) (hne : vb ≠ g) (hv : w.heap[vb]? = some (.cells V.toArray 28 (0, 0))) (hV : V.length = 6) (hV1 : ∀ v ∈ V, v.oneCell' = true) :
    Calls Try.prog 51 #[.slice (some ⟨g, 0, none⟩) n cap, .int .i64 (i : Int), .slice (some ⟨vb, 0, none⟩) 1 1] w fun e w' =>
      e = .returned (.slice (some ⟨g, 0, none⟩) (n + 1) cap) ∧ w' = (w.drew.setRow g (splice cur.toList ((i + 1) * 6) (F.drop (i * 6))).toArray).setRow g (splice (splice cur.toList ((i + 1) * 6) (F.drop (i * 6))) (i * 6) V).toArray := by
  have hz2 : ((i : Int) = (n : Int)) = False := eq_false (by omega)
  have hw0 : IntKind.i64.wrap ((n : Int) + 1) = (n : Int) + 1 := by rw [IntKind.wrap_i64]; omega
  have hw1 : IntKind.i64.wrap ((i : Int) + 1) = (i : Int) + 1 := by rw [IntKind.wrap_i64]; omega
  have hw2 : wrap64 ((n : Int) + 1) = (n : Int) + 1 := by unfold wrap64; omega
  have hw3 : wrap64 ((i : Int) + 1) = (i : Int) + 1 := by unfold wrap64; omega
  have hb0 : ((cap : Int) < (n : Int) + 1) = False := eq_false (by omega)
  have hb1 : (0 : Int) ≤ (i : Int) + 1 := by omega
  have hb1' : (0 : Int) ≤ (n : Int) + 1 := by omega
  have hb2 : (i : Int) ≤ (n : Int) := by omega
  have hb3 : (i : Int) ≤ (n : Int) + 1 := by omega
  have hb4 : (i : Int) + 1 ≤ (n : Int) + 1 := by omega
  have hb5 : (n : Int) + 1 ≤ (cap : Int) := by omega
  have htn : ((i : Int) + 1).toNat = i + 1 := by omega
  have htm : ((n : Int) + 1).toNat = n + 1 := by omega
  have hn1 : ¬ (cap = i + 1) := by omega
  have hn2 : ¬ (cap = i) := by omega
  have hn3 : ¬ (cap = 0) := by omega
  obtain ⟨i0, hi0, hz0, hz1, hz6⟩ := info_parts Try.infoAl
  have hov : ∀ lb cb, (callFunc 62 #[.slice (some ⟨vb, 0, none⟩) 1 1, .slice (some ⟨g, (i + 1) * 6, none⟩) lb cb]).run Try.prog w = .ok (.value (.bool false)) w := fun lb cb => by
    rw [run_callFunc_extern Try.func62 (by kernel_rfl) (by kernel_rfl) (by kernel_rfl) (e := Extern.SlicesOverlaps.overlaps #[22, 22] #[4]) (by kernel_rfl),
      Lib.run_overlaps_apart w 22 4 28 Try.underlying22 6 (fun W => by simp [sizeOf, typeInfo, hi0, hz1]) ⟨vb, 0, none⟩ ⟨g, (i + 1) * 6, none⟩ 1 1 lb cb hne 28 28 6 cur.size (by simp [World.shape?, hv, hV]) (by simp [World.shape?, hg]) (by omega) (frozen_of_row w vb 0 _ _ hv) (frozen_of_row w vb 6 _ _ hv)]
    rfl
  have hdl : (F.drop (i * 6)).length = (n - i) * 6 := by rw [List.length_drop, hF]; omega
  have hcp1 : ∀ dc sc ty, (Builtin.copy_ #[54, 54] ty #[.slice (some ⟨g, (i + 1) * 6, none⟩) (n - i) dc, .slice (some ⟨g, i * 6, none⟩) (n + 1 - i) sc]).run Try.prog w.drew = .ok (goInt ((n - i : Nat) : Int)) (w.drew.setRow g (splice cur.toList ((i + 1) * 6) (F.drop (i * 6))).toArray) := fun dc sc ty => by
    refine run_copy_row6 w.drew _ _ ty g ((i + 1) * 6) (n - i) dc ⟨g, i * 6, none⟩ (n + 1 - i) sc cur 28 (F.drop (i * 6)) Try.underlying54 hg (n - i) (Nat.min_eq_right (by omega)) hdl (fun j v hj => ?_) (by rw [hdl, hcs]; omega) (fun v hv => hF1 v (List.mem_of_mem_drop hv))
    rw [Addr.add_lit]
    rw [List.getElem?_drop, ← hcF, List.getElem?_take] at hj
    split at hj
    · have hgd : w.drew.heap[g]? = some (.cells cur 28 (0, 0)) := hg
      have e : w.drew.cell? ⟨g, i * 6 + j, none⟩ = cur[i * 6 + j]? := cell_of_row w.drew g (i * 6 + j) cur _ (0, 0) hgd
      rw [e, ← Array.getElem?_toList]
      exact hj
    · cases hj
  obtain ⟨W1, hW1⟩ : ∃ W1, W1 = w.drew.setRow g (splice cur.toList ((i + 1) * 6) (F.drop (i * 6))).toArray := ⟨_, rfl⟩
  have hsz : (splice cur.toList ((i + 1) * 6) (F.drop (i * 6))).length = cap * 6 := by rw [length_splice _ _ _ (by rw [hdl, Array.length_toList, hcs]; omega), Array.length_toList, hcs]
  have hg1 : W1.heap[g]? = some (.cells (splice cur.toList ((i + 1) * 6) (F.drop (i * 6))).toArray 28 (0, 0)) := by rw [hW1]; exact setRow_heap _ _ _ _ _ _ hg
  have hv1 : W1.heap[vb]? = some (.cells V.toArray 28 (0, 0)) := by rw [hW1, setRow_other _ _ _ _ hne]; exact hv
  have hcp2 : ∀ dc ty, (Builtin.copy_ #[54, 22] ty #[.slice (some ⟨g, i * 6, none⟩) (n + 1 - i) dc, .slice (some ⟨vb, 0, none⟩) 1 1]).run Try.prog W1 = .ok (goInt 1) (W1.setRow g (splice (splice cur.toList ((i + 1) * 6) (F.drop (i * 6))) (i * 6) V).toArray) := fun dc ty => by
    refine run_copy_row6 W1 _ _ ty g (i * 6) (n + 1 - i) dc ⟨vb, 0, none⟩ 1 1 _ 28 V Try.underlying54 hg1 1 (Nat.min_eq_left (by omega)) hV (fun j v hj => ?_) (by rw [List.size_toArray, hsz, hV]; omega) hV1
    rw [Addr.add_lit, Nat.zero_add]
    rw [cell_of_row W1 vb j _ _ (0, 0) hv1]
    simpa using hj
  rw [← hW1] at hcp1 ⊢
  clear hg hv hW1 hcF hF1 hV1 hdl hsz hg1 hv1 hz0 hz1 hz6 hi0
  go_enter Try.func51, Try.ntmps51
  go_wp2_with (simp only [hov])
  go_region_law (refine step_copy6 rfl _ _ 54 54 rfl _ _ (by simp [Act.eval, Act.put]) (by simp [Act.eval, Act.put]) (hcp1 _ _) ?_)
  go_wp2_with (at_builtin; refine wpList_copy6 rfl _ _ 54 22 rfl _ _ rfl rfl (hcp2 _) ?_)
  go_ret
  exact ⟨rfl, rfl⟩

def InsG (w : World) (n i : Nat) (F V : List Value) (e : Ending) (w' : World) : Prop :=
  ∃ G ROW, e = .returned (.slice (some ⟨w.heap.size, 0, none⟩) (n + 1) G) ∧ n + 1 ≤ G ∧ G ≤ maxLen ∧ ROW.length = G * 6 ∧ ROW.take (i * 6) = F.take (i * 6) ∧
    w' = ((w.drew.alloc (.cells ROW.toArray 28)).setRow w.heap.size (splice ROW (i * 6) V).toArray).drew.setRow w.heap.size (splice (splice ROW (i * 6) V) ((i + 1) * 6) (F.drop (i * 6))).toArray

set_option maxRecDepth 10000 in
set_option maxHeartbeats 2000000 in
theorem insert_grow (g cap n i vb : Nat) (cur : Array Value) (F V : List Value) (w : World) (hin : i < n) (hnc : n ≤ cap) (hroom : cap < n + 1) (hn1000 : n ≤ 1000) (hg : w.heap[g]? = some (.cells cur 28 (0, 0)))
    (hF : F.length = n * 6) (hcF : cur.toList.take (n * 6) = F) (hF1 : ∀ v ∈ F, v.oneCell' = true) (hv : w.heap[vb]? = some (.cells V.toArray 28 (0, 0))) (hV : V.length = 6) (hV1 : ∀ v ∈ V, v.oneCell' = true) :
    Calls Try.prog 51 #[.slice (some ⟨g, 0, none⟩) n cap, .int .i64 (i : Int), .slice (some ⟨vb, 0, none⟩) 1 1] w (InsG w n i F V) := by
  have hz2 : ((i : Int) = (n : Int)) = False := eq_false (by omega)
  have hw0 : IntKind.i64.wrap ((n : Int) + 1) = (n : Int) + 1 := by rw [IntKind.wrap_i64]; omega
  have hw1 : IntKind.i64.wrap ((i : Int) + 1) = (i : Int) + 1 := by rw [IntKind.wrap_i64]; omega
  have hw2 : wrap64 ((n : Int) + 1) = (n : Int) + 1 := by unfold wrap64; omega
  have hw3 : wrap64 ((i : Int) + 1) = (i : Int) + 1 := by unfold wrap64; omega
  have hw4 : IntKind.i64.wrap ((n : Int) + 1 - (i : Int)) = (n : Int) + 1 - (i : Int) := by rw [IntKind.wrap_i64]; omega
  have hw5 : wrap64 ((n : Int) + 1 - (i : Int)) = (n : Int) + 1 - (i : Int) := by unfold wrap64; omega
  have hb0 : (cap : Int) < (n : Int) + 1 := by omega
  have hb1 : (0 : Int) ≤ (i : Int) + 1 := by omega
  have hb2 : (i : Int) ≤ (n : Int) := by omega
  have hb3 : (i : Int) ≤ (n : Int) + 1 := by omega
  have hb4 : (i : Int) + 1 ≤ (n : Int) + 1 := by omega
  have hb6 : (i : Int) ≤ (cap : Int) := by omega
  have htn : ((i : Int) + 1).toNat = i + 1 := by omega
  have hn2 : ¬ (cap = i) := by omega
  have hn3 : ¬ (cap = 0) := by omega
  obtain ⟨i0, hi0, hz0, hz1, hz6⟩ := info_parts Try.infoAl
  have hold : (Builtin.firstCells i0.size i (.slice (some ⟨g, 0, none⟩) i cap)).run Try.prog w.drew = .ok (F.take (i * 6)).toArray w.drew := by
    rw [hz1]
    refine run_firstCells_some w.drew 6 i ⟨g, 0, none⟩ i cap (F.take (i * 6)) (by rw [List.length_take, hF]; omega) (fun j v hj => ?_)
    rw [Addr.add_lit, Nat.zero_add]
    have hgd : w.drew.heap[g]? = some (.cells cur 28 (0, 0)) := hg
    rw [cell_of_row w.drew g j cur _ (0, 0) hgd]
    rw [List.getElem?_take] at hj
    split at hj
    · rw [← hcF, List.getElem?_take] at hj
      split at hj
      · rw [← Array.getElem?_toList]; exact hj
      · cases hj
    · cases hj
  have hik : i + (n + 1 - i) = n + 1 := by omega
  have hkk : (n : Int) + 1 - (i : Int) = ((n + 1 - i : Nat) : Int) := by omega
  obtain ⟨G, hG⟩ : ∃ G, G = grownCap w (n + 1) cap 28 := ⟨_, rfl⟩
  obtain ⟨ROW, hROW⟩ : ∃ ROW : List Value, ROW = ((F.take (i * 6)).toArray ++ Builtin.zeroCells (Value.agg #[.int .i64 0, .int .i64 0, .int .i64 0, .int .i64 0, .int .i64 0, .int .i64 0]).cells (n + 1 - i) ++ Builtin.zeroCells (Value.agg #[.int .i64 0, .int .i64 0, .int .i64 0, .int .i64 0, .int .i64 0, .int .i64 0]).cells (G - (n + 1))).toList := ⟨_, rfl⟩
  have hrz : ∀ ty, (Builtin.append_ #[54, 3] ty #[.slice (some ⟨g, 0, none⟩) i cap, .int .i64 ((n : Int) + 1 - (i : Int))]).run Try.prog w = .ok (.slice (some ⟨w.heap.size, 0, none⟩) (n + 1) G) (w.drew.alloc (.cells ROW.toArray 28)) := fun ty => by
    have h := Lib.run_append_grow_zeros w 54 3 ty 28 i0 _ .i64 .i64 Try.underlying54 Try.underlying3 hi0 hz0 (some ⟨g, 0, none⟩) i cap (F.take (i * 6)) hold (n + 1 - i) (by omega) (by rw [hz1]; omega) (by omega) (by omega) (by rw [hz6]; omega) (by rw [hz6, hik]; exact growslice_fits hroom (by omega))
    rw [hik, ← hG] at h
    rw [hkk, hROW, Array.toArray_toList]
    exact h
  have hGn : n + 1 ≤ G := by rw [hG]; exact grownCap_ge w _ _ _
  have hGm : G ≤ maxLen := by rw [hG]; exact grownCap_le_maxLen w (n + 1) cap _ (by unfold maxLen; omega)
  have hG63 : G ≤ 9223372036854775807 := by unfold maxLen at hGm; omega
  have hRl : ROW.length = G * 6 := by
    rw [hROW]
    simp only [Array.toList_append, List.length_append, Array.length_toList, size_zeroCells, List.length_take, hF]
    have e6 : (Value.agg #[.int .i64 0, .int .i64 0, .int .i64 0, .int .i64 0, .int .i64 0, .int .i64 0]).cells.size = 6 := rfl
    rw [e6]
    omega
  have hRt : ROW.take (i * 6) = F.take (i * 6) := by
    rw [hROW]
    simp only [Array.toList_append, List.append_assoc]
    exact List.take_left' (by rw [List.length_take, hF]; omega)
  obtain ⟨W1, hW1⟩ : ∃ W1, W1 = w.drew.alloc (.cells ROW.toArray 28) := ⟨_, rfl⟩
  obtain ⟨N, hN⟩ : ∃ N, N = w.heap.size := ⟨_, rfl⟩
  rw [← hW1, ← hN] at hrz
  have HW1 := Lib.hid hW1
  have HN := Lib.hid hN
  have hgl : g < w.heap.size := (Array.getElem?_eq_some_iff.1 hg).1
  have hvl : vb < w.heap.size := (Array.getElem?_eq_some_iff.1 hv).1
  have hg1 : W1.heap[N]? = some (.cells ROW.toArray 28 (0, 0)) := by rw [hW1, hN]; exact heap_alloc_new w.drew _
  have ho1 : W1.heap[g]? = some (.cells cur 28 (0, 0)) := by rw [hW1, heap_alloc_old w.drew _ hgl]; exact hg
  have hv1 : W1.heap[vb]? = some (.cells V.toArray 28 (0, 0)) := by rw [hW1, heap_alloc_old w.drew _ hvl]; exact hv
  have hcp2 : ∀ dc ty, (Builtin.copy_ #[54, 22] ty #[.slice (some ⟨N, i * 6, none⟩) (n + 1 - i) dc, .slice (some ⟨vb, 0, none⟩) 1 1]).run Try.prog W1 = .ok (goInt 1) (W1.setRow N (splice ROW (i * 6) V).toArray) := fun dc ty => by
    refine run_copy_row6 W1 _ _ ty N (i * 6) (n + 1 - i) dc ⟨vb, 0, none⟩ 1 1 _ 28 V Try.underlying54 hg1 1 (Nat.min_eq_left (by omega)) hV (fun j v hj => ?_) (by rw [List.size_toArray, hRl, hV]; omega) hV1
    rw [Addr.add_lit, Nat.zero_add]
    rw [cell_of_row W1 vb j _ _ (0, 0) hv1]
    simpa using hj
  obtain ⟨W2, hW2⟩ : ∃ W2, W2 = W1.setRow N (splice ROW (i * 6) V).toArray := ⟨_, rfl⟩
  rw [← hW2] at hcp2
  have HW2 := Lib.hid hW2
  have hg2 : W2.drew.heap[N]? = some (.cells (splice ROW (i * 6) V).toArray 28 (0, 0)) := by rw [hW2]; exact setRow_heap _ _ _ _ _ _ hg1
  have ho2 : W2.drew.heap[g]? = some (.cells cur 28 (0, 0)) := by
    have e : W2.heap[g]? = W1.heap[g]? := by rw [hW2]; exact setRow_other _ _ _ _ (by omega)
    exact e.trans ho1
  have hs2 : (splice ROW (i * 6) V).length = G * 6 := by rw [length_splice _ _ _ (by rw [hRl, hV]; omega), hRl]
  have hdl : (F.drop (i * 6)).length = (n - i) * 6 := by rw [List.length_drop, hF]; omega
  have hcp1 : ∀ dc sc ty, (Builtin.copy_ #[54, 54] ty #[.slice (some ⟨N, (i + 1) * 6, none⟩) (n - i) dc, .slice (some ⟨g, i * 6, none⟩) (n - i) sc]).run Try.prog W2.drew = .ok (goInt ((n - i : Nat) : Int)) (W2.drew.setRow N (splice (splice ROW (i * 6) V) ((i + 1) * 6) (F.drop (i * 6))).toArray) := fun dc sc ty => by
    refine run_copy_row6 W2.drew _ _ ty N ((i + 1) * 6) (n - i) dc ⟨g, i * 6, none⟩ (n - i) sc _ 28 (F.drop (i * 6)) Try.underlying54 hg2 (n - i) (Nat.min_self _) hdl (fun j v hj => ?_) (by rw [List.size_toArray, hs2, hdl]; omega) (fun v hv => hF1 v (List.mem_of_mem_drop hv))
    rw [Addr.add_lit]
    rw [List.getElem?_drop, ← hcF, List.getElem?_take] at hj
    split at hj
    · have e : W2.drew.cell? ⟨g, i * 6 + j, none⟩ = cur[i * 6 + j]? := cell_of_row W2.drew g (i * 6 + j) cur _ (0, 0) ho2
      rw [e, ← Array.getElem?_toList]
      exact hj
    · cases hj
  have hm1 : ¬ (G = i) := by omega
  have hm2 : ¬ (G = i + 1) := by omega
  have HE := Lib.hid (And.intro hGn (And.intro hGm (And.intro hRl hRt)))
  clear hg hv hW1 hcF hF1 hV1 hdl hg1 hv1 hz0 hz1 hz6 hi0 hold hik hkk hG hROW hGn hGm hRl hRt hN hgl hvl ho1 hW2 hg2 ho2 hs2 hF hV
  go_enter Try.func51, Try.ntmps51
  go_wp2_with (first
    | (at_builtin; refine Lib.wpList_append_run _ rfl _ _ _ _ rfl _ _ rfl rfl _ _ (hrz _) ?_)
    | (at_builtin; refine wpList_copy6 rfl _ _ 54 22 rfl _ _ rfl rfl (hcp2 _) ?_))
  go_region_law (refine step_copy6 rfl _ _ 54 54 rfl _ _ (by simp [Act.eval, Act.put]) (by simp [Act.eval, Act.put]) (hcp1 _ _) ?_)
  go_wp2
  go_ret
  exact ⟨G, ROW, by rw [← HN.out]; rfl, HE.out.1, HE.out.2.1, HE.out.2.2.1, HE.out.2.2.2, by rw [← HN.out, ← HW1.out, ← HW2.out]⟩

/-- What an insertion ends with. -/
def InsA (w : World) (base : Nat) (row : Option Nat) (ls : List Alm) (e : Ending) (w' : World) : Prop := ∃ v, e = .returned v ∧ OwnA w' base v ls ∧ w.grownBy w' row
theorem run_append_two (w : World) (ty : TypeId) (A : Option Addr) (n c : Nat) (u : Value) : (Builtin.append_ #[54, 22] ty #[.slice A n c, u]).run Try.prog w = (Builtin.append_ #[54, 54] ty #[.slice A n c, u]).run Try.prog w := by
  obtain ⟨i0, hi, hz0, hz1, hz2⟩ := info_parts Try.infoAl
  simp [Builtin.append_, run_underlying Try.underlying54, run_underlying Try.underlying22, sizeOf, typeInfo, hi]
theorem grown_trans {a b c : World} {r : Option Nat} (h : a.grownBy b r) (k : b.grownBy c r) : a.grownBy c r :=
  ⟨k.os.trans h.os, k.tape.trans h.tape, k.output.trans h.output, Nat.le_trans h.size k.size, fun j hj hne => (k.block j (Nat.lt_of_lt_of_le hj h.size) hne).trans (h.block j hj hne)⟩
theorem flat6_take (ls : List Alm) (i : Nat) (hi : i ≤ ls.length) : flat6 (ls.take i) = (flat6 ls).take (i * 6) := by
  have e := flat6_app (ls.take i) (ls.drop i)
  rw [List.take_append_drop] at e
  rw [e, List.take_left' (by rw [flat6_len, List.length_take]; omega)]
theorem flat6_drop (ls : List Alm) (i : Nat) (hi : i ≤ ls.length) : flat6 (ls.drop i) = (flat6 ls).drop (i * 6) := by
  have e := flat6_app (ls.take i) (ls.drop i)
  rw [List.take_append_drop] at e
  rw [e, List.drop_left' (by rw [flat6_len, List.length_take]; omega)]
theorem flat6_ins (ls : List Alm) (i : Nat) (hi : i ≤ ls.length) (x : Alm) : flat6 (ls.take i ++ x :: ls.drop i) = (flat6 ls).take (i * 6) ++ (flat6 [x] ++ (flat6 ls).drop (i * 6)) := by
  rw [flat6_app, ← List.singleton_append, flat6_app, flat6_take ls i hi, flat6_drop ls i hi]

set_option maxRecDepth 10000 in
set_option maxHeartbeats 2000000 in
theorem insert_end (base : Nat) (v : Value) (ls : List Alm) (n : Nat) (hn : n = ls.length) (x : Alm) (vb : Nat) (w : World) (hown : OwnA w base v ls) (hl : ls.length ≤ 1000) (hb : base ≤ w.heap.size) (hx : w.heap[vb]? = some (.cells (sixV x) 28 (0, 0))) :
    Calls Try.prog 51 #[v, .int .i64 (n : Int), .slice (some ⟨vb, 0, none⟩) 1 1] w (InsA w base v.ownBlock (ls ++ [x])) := by
  obtain ⟨i0, hi, hz0, hz1, hz2⟩ := info_parts Try.infoAl
  have hcell : ∀ j u, (flat6 [x])[j]? = some u → w.cell? ((⟨vb, 0, none⟩ : Addr).add j) = some u := fun j u hj => by
    have hx' : w.heap[vb]? = some (.cells (flat6 [x]).toArray 28 (0, 0)) := hx
    rw [Addr.add_lit, Nat.zero_add, cell_of_row w vb j _ _ (0, 0) hx']
    simpa using hj
  obtain ⟨v', w', hr, h2, h3, _⟩ := run_append_own (P := Try.prog) w base 54 54 28 i0 _ 6 48 Try.underlying54 hi hz0 hz1 hz2 rfl (by decide) v _ _ hown ⟨vb, 0, none⟩ 1 1 (flat6 [x]) (flat6_len [x]) hcell (flat6_one [x]) (by unfold maxLen; omega) (by omega) hb
  have hrun : ∀ ty, (Builtin.append_ #[54, 22] ty #[v, .slice (some ⟨vb, 0, none⟩) 1 1]).run Try.prog w = .ok v' w' := fun ty => by
    obtain ⟨A, c, rfl, _⟩ := hown.slice
    exact (run_append_two w ty _ _ _ _).trans hr
  have HE : Hid (OwnA w' base v' (ls ++ [x]) ∧ w.grownBy w' v.ownBlock) := Lib.hid ⟨by unfold OwnA; rw [List.length_append, flat6_app]; exact h2, h3⟩
  have hn2 : (n : Int) ≤ (n : Int) := Int.le_refl _
  rcases hown.2 with ⟨rfl, h0⟩ | ⟨g, cap, cur, rfl, hbg, hg, hnc, hcm, hcs, htake⟩
  · obtain rfl : n = 0 := hn.trans h0
    clear hr h2 h3 hcell hx hz0 hz1 hz2 hi h0 hn hl hb hown
    go_enter Try.func51, Try.ntmps51
    go_wp2_with (at_builtin; refine Lib.wpList_append_run _ rfl _ _ _ _ rfl _ _ rfl rfl _ _ (hrun _) ?_)
    go_ret
    exact ⟨v', rfl, HE.out.1, HE.out.2⟩
  · rw [← hn] at hrun ⊢
    clear hr h2 h3 hcell hx hz0 hz1 hz2 hi hn hl hb hown hg hnc hcm hcs htake
    go_enter Try.func51, Try.ntmps51
    go_wp2_with (at_builtin; refine Lib.wpList_append_run _ rfl _ _ _ _ rfl _ _ rfl rfl _ _ (hrun _) ?_)
    all_goals
      go_ret
      exact ⟨v', rfl, HE.out.1, HE.out.2⟩

theorem insert_any (base : Nat) (v : Value) (ls : List Alm) (i : Nat) (x : Alm) (vb : Nat) (w : World) (hown : OwnA w base v ls) (hi : i ≤ ls.length) (hl : ls.length ≤ 1000) (hb : base ≤ w.heap.size) (hx : w.heap[vb]? = some (.cells (sixV x) 28 (0, 0))) (hvb : v.ownBlock ≠ some vb) :
    Calls Try.prog 51 #[v, .int .i64 (i : Int), .slice (some ⟨vb, 0, none⟩) 1 1] w (InsA w base v.ownBlock (ls.take i ++ x :: ls.drop i)) := by
  rcases Nat.lt_or_ge i ls.length with hlt | hge
  · rcases hown.2 with ⟨rfl, h0⟩ | ⟨g, cap, cur, rfl, hbg, hg, hnc, hcm, hcs, htake⟩
    · omega
    · have hne : vb ≠ g := fun e => hvb (by rw [e]; rfl)
      have hll : (ls.take i ++ x :: ls.drop i).length = ls.length + 1 := by simp; omega
      have hflat := flat6_ins ls i hi x
      have hv : w.heap[vb]? = some (.cells (flat6 [x]).toArray 28 (0, 0)) := hx
      have e6 : i * 6 + 6 = (i + 1) * 6 := by omega
      have hcl : cur.toList.length = cap * 6 := by rw [Array.length_toList, hcs]
      rcases Nat.lt_or_ge cap (ls.length + 1) with hc | hc
      · refine (insert_grow g cap ls.length i vb cur (flat6 ls) (flat6 [x]) w hlt hnc hc hl hg (flat6_len ls) htake (flat6_one ls) hv (flat6_len [x]) (flat6_one [x])).mono ?_
        rintro e w' ⟨G, ROW, rfl, h1, h2, h3, h4, rfl⟩
        refine ⟨_, rfl, ?_, ?_⟩
        · refine ⟨by rw [flat6_len], .inr ⟨w.heap.size, G, (splice (splice ROW (i * 6) (flat6 [x])) ((i + 1) * 6) ((flat6 ls).drop (i * 6))).toArray, by rw [hll], hb, ?_, by rw [hll]; exact h1, h2, ?_, ?_⟩⟩
          · exact setRow_heap _ _ _ _ _ _ (setRow_heap (w.drew.alloc (.cells ROW.toArray 28)) w.heap.size _ (splice ROW (i * 6) (flat6 [x])).toArray _ _ (heap_alloc_new w.drew (.cells ROW.toArray 28)))
          · have hs1 : (splice ROW (i * 6) (flat6 [x])).length = G * 6 := by rw [length_splice _ _ _ (by rw [flat6_len, h3]; simp; omega), h3]
            rw [List.size_toArray, length_splice _ _ _ (by rw [hs1, List.length_drop, flat6_len]; omega), hs1]
          · have hi2 := ins_cells2 (flat6 ls) (flat6 [x]) ROW (i * 6) (by rw [flat6_len]; omega) (flat6_len [x]) h4
            rw [hll, hflat, ← hi2, e6, flat6_len, Nat.add_mul]
        · refine ⟨rfl, rfl, rfl, by simp [World.setRow], fun k hk _ => ?_⟩
          have hk2 : k ≠ w.heap.size := by omega
          have e1 := setRow_other (((w.drew.alloc (.cells ROW.toArray 28)).setRow w.heap.size (splice ROW (i * 6) (flat6 [x])).toArray).drew) w.heap.size k (splice (splice ROW (i * 6) (flat6 [x])) ((i + 1) * 6) ((flat6 ls).drop (i * 6))).toArray hk2
          have e2 := setRow_other (w.drew.alloc (.cells ROW.toArray 28)) w.heap.size k (splice ROW (i * 6) (flat6 [x])).toArray hk2
          exact e1.trans (e2.trans (heap_alloc_old w.drew _ hk))
      · have hcm2 : cap ≤ 9223372036854775807 := by unfold maxLen at hcm; omega
        refine (insert_shift g cap ls.length i vb cur (flat6 ls) (flat6 [x]) w hlt hc hcm2 hg hcs (flat6_len ls) htake (flat6_one ls) hne hv (flat6_len [x]) (flat6_one [x])).mono ?_
        rintro e w' ⟨rfl, rfl⟩
        refine ⟨_, rfl, ?_, ?_⟩
        · refine ⟨by rw [flat6_len], .inr ⟨g, cap, (splice (splice cur.toList ((i + 1) * 6) ((flat6 ls).drop (i * 6))) (i * 6) (flat6 [x])).toArray, by rw [hll], hbg, ?_, by rw [hll]; exact hc, hcm, ?_, ?_⟩⟩
          · exact setRow_heap _ _ _ _ _ _ (setRow_heap w.drew g cur (splice cur.toList ((i + 1) * 6) ((flat6 ls).drop (i * 6))).toArray _ _ hg)
          · have hs1 : (splice cur.toList ((i + 1) * 6) ((flat6 ls).drop (i * 6))).length = cap * 6 := by rw [length_splice _ _ _ (by rw [List.length_drop, flat6_len, hcl]; omega), hcl]
            rw [List.size_toArray, length_splice _ _ _ (by rw [hs1, flat6_len]; simp; omega), hs1]
          · have hi2 := ins_cells (flat6 ls) (flat6 [x]) cur.toList (i * 6) (by rw [flat6_len]; omega) (flat6_len [x]) (by rw [flat6_len, hcl]; omega) (by rw [← htake, List.take_take, Nat.min_eq_left (by omega)])
            rw [hll, hflat, ← hi2, e6, flat6_len, Nat.add_mul]
        · exact ⟨rfl, rfl, rfl, by simp [World.setRow], fun k _ hk => (setRow_other _ g k _ (fun e => hk (by rw [e]; rfl))).trans (setRow_other _ g k _ (fun e => hk (by rw [e]; rfl)))⟩
  · obtain rfl : i = ls.length := by omega
    rw [List.take_length, List.drop_length]
    exact insert_end base v ls ls.length rfl x vb w hown hl hb hx
end Go.Proofs.Ythlojadkgpmnmaa
