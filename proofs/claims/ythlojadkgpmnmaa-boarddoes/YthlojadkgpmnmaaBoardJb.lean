/-
  Layer 8 (board): slices.Insert of one alarm into a row of one's own.
  Layer 8 (board): the walk of with.
  Layer 8 (board): blocks written while rows of one's own stand; the walks of New, Is, Get, Of.
  Layer 8 (board): the walk of Get.
  Layer 8 (board): the walks of Put, Drop, Pass.
  Layer 8 (board): the walks of Drop and Pass.
  Layer 8 (board): all contracts of the program.
-/
import Derived.Test.YthlojadkgpmnmaaBoardW4
import Derived.Laws.CopyOwn
import Derived.Lib.AppendZerosOnto
import Derived.Lib.Overlaps
import Derived.Laws.NewBlocks
import Derived.Deep.RegionLaw
import Derived.Laws.Externs
import Derived.Test.YthlojadkgpmnmaaBoardW5
import Derived.Test.YthlojadkgpmnmaaSpotLess
import Derived.Deep.RegionHeld3
import Derived.Test.YthlojadkgpmnmaaBoardW3
import Derived.Test.YthlojadkgpmnmaaBoardW6
import Derived.Test.YthlojadkgpmnmaaAlarmOp
namespace Go.Proofs.Ythlojadkgpmnmaa
open Go.RowKit

theorem run_copy_row6 (w : World) (dT sT ty : TypeId) (g o dLen dCap : Nat) (a : Addr) (sLen sCap : Nat) (cur : Array Value) (t : TypeId) (cs : List Value) (hu : Try.prog.underlying dT = some (.slice 28))
    (hg : w.heap[g]? = some (.cells cur t (0, 0))) (k : Nat) (hk : Nat.min sLen dLen = k) (hn : cs.length = k * 6) (hsrc : ∀ j v, cs[j]? = some v → w.cell? (a.add j) = some v) (hfit : o + cs.length ≤ cur.size) (h1 : ∀ v ∈ cs, v.oneCell' = true) :
    (Builtin.copy_ #[dT, sT] ty #[.slice (some ⟨g, o, none⟩) dLen dCap, .slice (some a) sLen sCap]).run Try.prog w = .ok (goInt k) (w.setRow g (splice cur.toList o cs).toArray) := by
  have hl := run_loadCells_list (P := Try.prog) w a cs hsrc
  have hst := run_storeCells_at Try.prog g o t cs 0 cur w hg (by simpa using hfit) h1
  obtain ⟨i0, hi, hz0, hz1, hz2⟩ := info_parts Try.infoAl
  simp only [Nat.add_zero, List.append_assoc] at hst
  unfold splice
  simp [Builtin.copy_, run_underlying hu, Builtin.lenOf, Builtin.firstCells, sizeOf, typeInfo, hi, hz1, hk, ← hn, hl, hst]

theorem wpList_copy6 {ops : Array Oper} {rest : List Oper} {o : Oper} {a : Act} {w : World} {Q : Exit → Act → World → Prop} (hgd : o.guard = none) (d s : Operand) (dT sT : TypeId)
    (ho : o.op = .call { callee := .builtin .copy, args := #[d, s], argTypes := #[dT, sT] }) (v u : Value) (hd : a.eval d = v) (hs : a.eval s = u) {v' : Value} {w' : World}
    (hr : ∀ ty, (Builtin.copy_ #[dT, sT] ty #[v, u]).run Try.prog w = .ok v' w') (h : wpList Try.prog ops Q rest (a.put o.dst v') w') : wpList Try.prog ops Q (o :: rest) a w := by
  refine wpList_plain hgd fun K hK => ?_
  unfold Oper.wp
  simp only [execOp, ho, resolve, invoke, builtin, Sem.run_bind, Sem.run_pure, Result.andThen_ok, List.map_toArray, List.map_cons, List.map_nil, hd, hs, hr]
  exact hK _ _ h
theorem step_copy6 {ops : Array Oper} {o : Oper} {a : Act} {w : World} {K : Act → World → Prop} {Q : Exit → Act → World → Prop} {E : Prop} (hg : o.guard = none) (d x : Operand) (dT sT : TypeId)
    (hop : o.op = Op.call { callee := Callee.builtin Builtin.copy, args := #[d, x], argTypes := #[dT, sT] }) (v u : Value) (hd : a.eval d = v) (hx : a.eval x = u) {v' : Value} {w' : World}
    (hr : ∀ ty, (Builtin.copy_ #[dT, sT] ty #[v, u]).run Try.prog w = .ok v' w') (hK : K (a.put o.dst v') w') : if Region.wanted o (yielded ops a.tmps) = true then Oper.wp Try.prog o a w K Q else E := by
  rw [if_pos (by simp [Region.wanted, hg])]
  unfold Oper.wp
  simp only [execOp, hop, resolve, invoke, builtin, Sem.run_bind, Sem.run_pure, Result.andThen_ok, List.map_toArray, List.map_cons, List.map_nil, hd, hx, hr]
  exact hK

/-- Cells laid into a row: what is from place k on goes six cells on, and six others come between. -/
theorem ins_cells (F V R : List Value) (k : Nat) (hk : k ≤ F.length) (hV : V.length = 6) (hR : F.length + 6 ≤ R.length) (h : R.take k = F.take k) :
    (splice (splice R (k + 6) (F.drop k)) k V).take (F.length + 6) = F.take k ++ (V ++ F.drop k) := by
  unfold splice
  have e1 : (R.take (k + 6) ++ (F.drop k ++ R.drop (k + 6 + (F.drop k).length))).take k = F.take k := by
    rw [List.take_append_of_le_length (by rw [List.length_take]; omega), List.take_take, Nat.min_eq_left (by omega), h]
  have e2 : (R.take (k + 6) ++ (F.drop k ++ R.drop (k + 6 + (F.drop k).length))).drop (k + V.length) = F.drop k ++ R.drop (k + 6 + (F.drop k).length) := by
    rw [hV]
    exact List.drop_left' (by rw [List.length_take]; omega)
  rw [e1, e2, ← List.append_assoc, ← List.append_assoc]
  rw [List.take_append_of_le_length (by simp only [List.length_append, List.length_take, List.length_drop, hV]; omega)]
  rw [List.take_of_length_le (by simp only [List.length_append, List.length_take, List.length_drop, hV]; omega), List.append_assoc]
theorem ins_cells2 (F V R : List Value) (k : Nat) (hk : k ≤ F.length) (hV : V.length = 6) (h : R.take k = F.take k) :
    (splice (splice R k V) (k + 6) (F.drop k)).take (F.length + 6) = F.take k ++ (V ++ F.drop k) := by
  have hl : (F.take k).length = k := by rw [List.length_take]; omega
  have e0 : splice R k V = (F.take k ++ V) ++ R.drop (k + 6) := by unfold splice; rw [h, hV, List.append_assoc]
  rw [e0]
  unfold splice
  have e1 : ((F.take k ++ V) ++ R.drop (k + 6)).take (k + 6) = F.take k ++ V := List.take_left' (by rw [List.length_append, hl, hV])
  rw [e1, ← List.append_assoc]
  rw [List.take_append_of_le_length (by simp only [List.length_append, hl, List.length_drop, hV]; omega)]
  rw [List.take_of_length_le (by simp only [List.length_append, hl, List.length_drop, hV]; omega), List.append_assoc]

set_option maxRecDepth 10000 in
set_option maxHeartbeats 2000000 in
theorem insert_shift (g cap n i vb : Nat) (cur : Array Value) (F V : List Value) (w : World) (hin : i < n) (hroom : n + 1 ≤ cap) (hcm : cap ≤ 9223372036854775807) (hg : w.heap[g]? = some (.cells cur 28 (0, 0))) (hcs : cur.size = cap * 6)
    (hF : F.length = n * 6) (hcF : cur.toList.take (n * 6) = F) (hF1 : ∀ v ∈ F, v.oneCell' = true) (hne : vb ≠ g) (hv : w.heap[vb]? = some (.cells V.toArray 28 (0, 0))) (hV : V.length = 6) (hV1 : ∀ v ∈ V, v.oneCell' = true) :
    Calls Try.prog 51 #[.slice (some ⟨g, 0, none⟩) n cap, .int .i64 (i : Int), .slice (some ⟨vb, 0, none⟩) 1 1] w fun e w' =>
      e = .returned (.slice (some ⟨g, 0, none⟩) (n + 1) cap) ∧ w' = (w.drew.setRow g (splice cur.toList ((i + 1) * 6) (F.drop (i * 6))).toArray).setRow g (splice (splice cur.toList ((i + 1) * 6) (F.drop (i * 6))) (i * 6) V).toArray := by
  have hz2 : ((i : Int) = (n : Int)) = False := eq_false (by omega)
  have hw0 : IntKind.i64.wrap ((n : Int) + 1) = (n : Int) + 1 := by rw [IntKind.wrap_i64]; omega
  have hw1 : IntKind.i64.wrap ((i : Int) + 1) = (i : Int) + 1 := by rw [IntKind.wrap_i64]; omega
  have hw2 : wrap64 ((n : Int) + 1) = (n : Int) + 1 := by unfold wrap64; omega
  have hw3 : wrap64 ((i : Int) + 1) = (i : Int) + 1 := by unfold wrap64; omega
  have hb0 : ((cap : Int) < (n : Int) + 1) = False := eq_false (by omega)
  have hb1 : (0 : Int) ≤ (i : Int) + 1 := by omega
  have hb1' : (0 : Int) ≤ (n : Int) + 1 := by omega
  have hb2 : (i : Int) ≤ (n : Int) := by omega
  have hb3 : (i : Int) ≤ (n : Int) + 1 := by omega
  have hb4 : (i : Int) + 1 ≤ (n : Int) + 1 := by omega
  have hb5 : (n : Int) + 1 ≤ (cap : Int) := by omega
  have htn : ((i : Int) + 1).toNat = i + 1 := by omega
  have htm : ((n : Int) + 1).toNat = n + 1 := by omega
  have hn1 : ¬ (cap = i + 1) := by omega
  have hn2 : ¬ (cap = i) := by omega
  have hn3 : ¬ (cap = 0) := by omega
  obtain ⟨i0, hi0, hz0, hz1, hz6⟩ := info_parts Try.infoAl
  have hov : ∀ lb cb, (callFunc 62 #[.slice (some ⟨vb, 0, none⟩) 1 1, .slice (some ⟨g, (i + 1) * 6, none⟩) lb cb]).run Try.prog w = .ok (.value (.bool false)) w := fun lb cb => by
    rw [run_callFunc_extern Try.func62 (by kernel_rfl) (by kernel_rfl) (by kernel_rfl) (e := Extern.SlicesOverlaps.overlaps #[22, 22] #[4]) (by kernel_rfl),
      Lib.run_overlaps_apart w 22 4 28 Try.underlying22 6 (fun W => by simp [sizeOf, typeInfo, hi0, hz1]) ⟨vb, 0, none⟩ ⟨g, (i + 1) * 6, none⟩ 1 1 lb cb hne 28 28 6 cur.size (by simp [World.shape?, hv, hV]) (by simp [World.shape?, hg]) (by omega) (frozen_of_row w vb 0 _ _ hv) (frozen_of_row w vb 6 _ _ hv)]
    rfl
  have hdl : (F.drop (i * 6)).length = (n - i) * 6 := by rw [List.length_drop, hF]; omega
  have hcp1 : ∀ dc sc ty, (Builtin.copy_ #[54, 54] ty #[.slice (some ⟨g, (i + 1) * 6, none⟩) (n - i) dc, .slice (some ⟨g, i * 6, none⟩) (n + 1 - i) sc]).run Try.prog w.drew = .ok (goInt ((n - i : Nat) : Int)) (w.drew.setRow g (splice cur.toList ((i + 1) * 6) (F.drop (i * 6))).toArray) := fun dc sc ty => by
    refine run_copy_row6 w.drew _ _ ty g ((i + 1) * 6) (n - i) dc ⟨g, i * 6, none⟩ (n + 1 - i) sc cur 28 (F.drop (i * 6)) Try.underlying54 hg (n - i) (Nat.min_eq_right (by omega)) hdl (fun j v hj => ?_) (by rw [hdl, hcs]; omega) (fun v hv => hF1 v (List.mem_of_mem_drop hv))
    rw [Addr.add_lit]
    rw [List.getElem?_drop, ← hcF, List.getElem?_take] at hj
    split at hj
    · have hgd : w.drew.heap[g]? = some (.cells cur 28 (0, 0)) := hg
      have e : w.drew.cell? ⟨g, i * 6 + j, none⟩ = cur[i * 6 + j]? := cell_of_row w.drew g (i * 6 + j) cur _ (0, 0) hgd
      rw [e, ← Array.getElem?_toList]
      exact hj
    · cases hj
  obtain ⟨W1, hW1⟩ : ∃ W1, W1 = w.drew.setRow g (splice cur.toList ((i + 1) * 6) (F.drop (i * 6))).toArray := ⟨_, rfl⟩
  have hsz : (splice cur.toList ((i + 1) * 6) (F.drop (i * 6))).length = cap * 6 := by rw [length_splice _ _ _ (by rw [hdl, Array.length_toList, hcs]; omega), Array.length_toList, hcs]
  have hg1 : W1.heap[g]? = some (.cells (splice cur.toList ((i + 1) * 6) (F.drop (i * 6))).toArray 28 (0, 0)) := by rw [hW1]; exact setRow_heap _ _ _ _ _ _ hg
  have hv1 : W1.heap[vb]? = some (.cells V.toArray 28 (0, 0)) := by rw [hW1, setRow_other _ _ _ _ hne]; exact hv
  have hcp2 : ∀ dc ty, (Builtin.copy_ #[54, 22] ty #[.slice (some ⟨g, i * 6, none⟩) (n + 1 - i) dc, .slice (some ⟨vb, 0, none⟩) 1 1]).run Try.prog W1 = .ok (goInt 1) (W1.setRow g (splice (splice cur.toList ((i + 1) * 6) (F.drop (i * 6))) (i * 6) V).toArray) := fun dc ty => by
    refine run_copy_row6 W1 _ _ ty g (i * 6) (n + 1 - i) dc ⟨vb, 0, none⟩ 1 1 _ 28 V Try.underlying54 hg1 1 (Nat.min_eq_left (by omega)) hV (fun j v hj => ?_) (by rw [List.size_toArray, hsz, hV]; omega) hV1
    rw [Addr.add_lit, Nat.zero_add]
    rw [cell_of_row W1 vb j _ _ (0, 0) hv1]
    simpa using hj
  rw [← hW1] at hcp1 ⊢
  clear hg hv hW1 hcF hF1 hV1 hdl hsz hg1 hv1 hz0 hz1 hz6 hi0
  go_enter Try.func51, Try.ntmps51
  go_wp2_with (simp only [hov])
  go_region_law (refine step_copy6 rfl _ _ 54 54 rfl _ _ (by simp [Act.eval, Act.put]) (by simp [Act.eval, Act.put]) (hcp1 _ _) ?_)
  go_wp2_with (at_builtin; refine wpList_copy6 rfl _ _ 54 22 rfl _ _ rfl rfl (hcp2 _) ?_)
  go_ret
  exact ⟨rfl, rfl⟩

def InsG (w : World) (n i : Nat) (F V : List Value) (e : Ending) (w' : World) : Prop :=
  ∃ G ROW, e = .returned (.slice (some ⟨w.heap.size, 0, none⟩) (n + 1) G) ∧ n + 1 ≤ G ∧ G ≤ maxLen ∧ ROW.length = G * 6 ∧ ROW.take (i * 6) = F.take (i * 6) ∧
    w' = ((w.drew.alloc (.cells ROW.toArray 28)).setRow w.heap.size (splice ROW (i * 6) V).toArray).drew.setRow w.heap.size (splice (splice ROW (i * 6) V) ((i + 1) * 6) (F.drop (i * 6))).toArray

set_option maxRecDepth 10000 in
set_option maxHeartbeats 2000000 in
theorem insert_grow (g cap n i vb : Nat) (cur : Array Value) (F V : List Value) (w : World) (hin : i < n) (hnc : n ≤ cap) (hroom : cap < n + 1) (hn1000 : n ≤ 1000) (hg : w.heap[g]? = some (.cells cur 28 (0, 0)))
    (hF : F.length = n * 6) (hcF : cur.toList.take (n * 6) = F) (hF1 : ∀ v ∈ F, v.oneCell' = true) (hv : w.heap[vb]? = some (.cells V.toArray 28 (0, 0))) (hV : V.length = 6) (hV1 : ∀ v ∈ V, v.oneCell' = true) :
    Calls Try.prog 51 #[.slice (some ⟨g, 0, none⟩) n cap, .int .i64 (i : Int), .slice (some ⟨vb, 0, none⟩) 1 1] w (InsG w n i F V) := by
  have hz2 : ((i : Int) = (n : Int)) = False := eq_false (by omega)
  have hw0 : IntKind.i64.wrap ((n : Int) + 1) = (n : Int) + 1 := by rw [IntKind.wrap_i64]; omega
  have hw1 : IntKind.i64.wrap ((i : Int) + 1) = (i : Int) + 1 := by rw [IntKind.wrap_i64]; omega
  have hw2 : wrap64 ((n : Int) + 1) = (n : Int) + 1 := by unfold wrap64; omega
  have hw3 : wrap64 ((i : Int) + 1) = (i : Int) + 1 := by unfold wrap64; omega
  have hw4 : IntKind.i64.wrap ((n : Int) + 1 - (i : Int)) = (n : Int) + 1 - (i : Int) := by rw [IntKind.wrap_i64]; omega
  have hw5 : wrap64 ((n : Int) + 1 - (i : Int)) = (n : Int) + 1 - (i : Int) := by unfold wrap64; omega
  have hb0 : (cap : Int) < (n : Int) + 1 := by omega
  have hb1 : (0 : Int) ≤ (i : Int) + 1 := by omega
  have hb2 : (i : Int) ≤ (n : Int) := by omega
  have hb3 : (i : Int) ≤ (n : Int) + 1 := by omega
  have hb4 : (i : Int) + 1 ≤ (n : Int) + 1 := by omega
  have hb6 : (i : Int) ≤ (cap : Int) := by omega
  have htn : ((i : Int) + 1).toNat = i + 1 := by omega
  have hn2 : ¬ (cap = i) := by omega
  have hn3 : ¬ (cap = 0) := by omega
  obtain ⟨i0, hi0, hz0, hz1, hz6⟩ := info_parts Try.infoAl
  have hold : (Builtin.firstCells i0.size i (.slice (some ⟨g, 0, none⟩) i cap)).run Try.prog w.drew = .ok (F.take (i * 6)).toArray w.drew := by
    rw [hz1]
    refine run_firstCells_some w.drew 6 i ⟨g, 0, none⟩ i cap (F.take (i * 6)) (by rw [List.length_take, hF]; omega) (fun j v hj => ?_)
    rw [Addr.add_lit, Nat.zero_add]
    have hgd : w.drew.heap[g]? = some (.cells cur 28 (0, 0)) := hg
    rw [cell_of_row w.drew g j cur _ (0, 0) hgd]
    rw [List.getElem?_take] at hj
    split at hj
    · rw [← hcF, List.getElem?_take] at hj
      split at hj
      · rw [← Array.getElem?_toList]; exact hj
      · cases hj
    · cases hj
  have hik : i + (n + 1 - i) = n + 1 := by omega
  have hkk : (n : Int) + 1 - (i : Int) = ((n + 1 - i : Nat) : Int) := by omega
  obtain ⟨G, hG⟩ : ∃ G, G = grownCap w (n + 1) cap 28 := ⟨_, rfl⟩
  obtain ⟨ROW, hROW⟩ : ∃ ROW : List Value, ROW = ((F.take (i * 6)).toArray ++ Builtin.zeroCells (Value.agg #[.int .i64 0, .int .i64 0, .int .i64 0, .int .i64 0, .int .i64 0, .int .i64 0]).cells (n + 1 - i) ++ Builtin.zeroCells (Value.agg #[.int .i64 0, .int .i64 0, .int .i64 0, .int .i64 0, .int .i64 0, .int .i64 0]).cells (G - (n + 1))).toList := ⟨_, rfl⟩
  have hrz : ∀ ty, (Builtin.append_ #[54, 3] ty #[.slice (some ⟨g, 0, none⟩) i cap, .int .i64 ((n : Int) + 1 - (i : Int))]).run Try.prog w = .ok (.slice (some ⟨w.heap.size, 0, none⟩) (n + 1) G) (w.drew.alloc (.cells ROW.toArray 28)) := fun ty => by
    have h := Lib.run_append_grow_zeros w 54 3 ty 28 i0 _ .i64 .i64 Try.underlying54 Try.underlying3 hi0 hz0 (some ⟨g, 0, none⟩) i cap (F.take (i * 6)) hold (n + 1 - i) (by omega) (by rw [hz1]; omega) (by omega) (by omega) (by rw [hz6]; omega) (by rw [hz6, hik]; exact growslice_fits hroom (by omega))
    rw [hik, ← hG] at h
    rw [hkk, hROW, Array.toArray_toList]
    exact h
  have hGn : n + 1 ≤ G := by rw [hG]; exact grownCap_ge w _ _ _
  have hGm : G ≤ maxLen := by rw [hG]; exact grownCap_le_maxLen w (n + 1) cap _ (by unfold maxLen; omega)
  have hG63 : G ≤ 9223372036854775807 := by unfold maxLen at hGm; omega
  have hRl : ROW.length = G * 6 := by
    rw [hROW]
    simp only [Array.toList_append, List.length_append, Array.length_toList, size_zeroCells, List.length_take, hF]
    have e6 : (Value.agg #[.int .i64 0, .int .i64 0, .int .i64 0, .int .i64 0, .int .i64 0, .int .i64 0]).cells.size = 6 := rfl
    rw [e6]
    omega
  have hRt : ROW.take (i * 6) = F.take (i * 6) := by
    rw [hROW]
    simp only [Array.toList_append, List.append_assoc]
    exact List.take_left' (by rw [List.length_take, hF]; omega)
  obtain ⟨W1, hW1⟩ : ∃ W1, W1 = w.drew.alloc (.cells ROW.toArray 28) := ⟨_, rfl⟩
  obtain ⟨N, hN⟩ : ∃ N, N = w.heap.size := ⟨_, rfl⟩
  rw [← hW1, ← hN] at hrz
  have HW1 := Lib.hid hW1
  have HN := Lib.hid hN
  have hgl : g < w.heap.size := (Array.getElem?_eq_some_iff.1 hg).1
  have hvl : vb < w.heap.size := (Array.getElem?_eq_some_iff.1 hv).1
  have hg1 : W1.heap[N]? = some (.cells ROW.toArray 28 (0, 0)) := by rw [hW1, hN]; exact heap_alloc_new w.drew _
  have ho1 : W1.heap[g]? = some (.cells cur 28 (0, 0)) := by rw [hW1, heap_alloc_old w.drew _ hgl]; exact hg
  have hv1 : W1.heap[vb]? = some (.cells V.toArray 28 (0, 0)) := by rw [hW1, heap_alloc_old w.drew _ hvl]; exact hv
  have hcp2 : ∀ dc ty, (Builtin.copy_ #[54, 22] ty #[.slice (some ⟨N, i * 6, none⟩) (n + 1 - i) dc, .slice (some ⟨vb, 0, none⟩) 1 1]).run Try.prog W1 = .ok (goInt 1) (W1.setRow N (splice ROW (i * 6) V).toArray) := fun dc ty => by
    refine run_copy_row6 W1 _ _ ty N (i * 6) (n + 1 - i) dc ⟨vb, 0, none⟩ 1 1 _ 28 V Try.underlying54 hg1 1 (Nat.min_eq_left (by omega)) hV (fun j v hj => ?_) (by rw [List.size_toArray, hRl, hV]; omega) hV1
    rw [Addr.add_lit, Nat.zero_add]
    rw [cell_of_row W1 vb j _ _ (0, 0) hv1]
    simpa using hj
  obtain ⟨W2, hW2⟩ : ∃ W2, W2 = W1.setRow N (splice ROW (i * 6) V).toArray := ⟨_, rfl⟩
  rw [← hW2] at hcp2
  have HW2 := Lib.hid hW2
  have hg2 : W2.drew.heap[N]? = some (.cells (splice ROW (i * 6) V).toArray 28 (0, 0)) := by rw [hW2]; exact setRow_heap _ _ _ _ _ _ hg1
  have ho2 : W2.drew.heap[g]? = some (.cells cur 28 (0, 0)) := by
    have e : W2.heap[g]? = W1.heap[g]? := by rw [hW2]; exact setRow_other _ _ _ _ (by omega)
    exact e.trans ho1
  have hs2 : (splice ROW (i * 6) V).length = G * 6 := by rw [length_splice _ _ _ (by rw [hRl, hV]; omega), hRl]
  have hdl : (F.drop (i * 6)).length = (n - i) * 6 := by rw [List.length_drop, hF]; omega
  have hcp1 : ∀ dc sc ty, (Builtin.copy_ #[54, 54] ty #[.slice (some ⟨N, (i + 1) * 6, none⟩) (n - i) dc, .slice (some ⟨g, i * 6, none⟩) (n - i) sc]).run Try.prog W2.drew = .ok (goInt ((n - i : Nat) : Int)) (W2.drew.setRow N (splice (splice ROW (i * 6) V) ((i + 1) * 6) (F.drop (i * 6))).toArray) := fun dc sc ty => by
    refine run_copy_row6 W2.drew _ _ ty N ((i + 1) * 6) (n - i) dc ⟨g, i * 6, none⟩ (n - i) sc _ 28 (F.drop (i * 6)) Try.underlying54 hg2 (n - i) (Nat.min_self _) hdl (fun j v hj => ?_) (by rw [List.size_toArray, hs2, hdl]; omega) (fun v hv => hF1 v (List.mem_of_mem_drop hv))
    rw [Addr.add_lit]
    rw [List.getElem?_drop, ← hcF, List.getElem?_take] at hj
    split at hj
    · have e : W2.drew.cell? ⟨g, i * 6 + j, none⟩ = cur[i * 6 + j]? := cell_of_row W2.drew g (i * 6 + j) cur _ (0, 0) ho2
      rw [e, ← Array.getElem?_toList]
      exact hj
    · cases hj
  have hm1 : ¬ (G = i) := by omega
  have hm2 : ¬ (G = i + 1) := by omega
  have HE := Lib.hid (And.intro hGn (And.intro hGm (And.intro hRl hRt)))
  clear hg hv hW1 hcF hF1 hV1 hdl hg1 hv1 hz0 hz1 hz6 hi0 hold hik hkk hG hROW hGn hGm hRl hRt hN hgl hvl ho1 hW2 hg2 ho2 hs2 hF hV
  go_enter Try.func51, Try.ntmps51
  go_wp2_with (first
    | (at_builtin; refine Lib.wpList_append_run _ rfl _ _ _ _ rfl _ _ rfl rfl _ _ (hrz _) ?_)
    | (at_builtin; refine wpList_copy6 rfl _ _ 54 22 rfl _ _ rfl rfl (hcp2 _) ?_))
  go_region_law (refine step_copy6 rfl _ _ 54 54 rfl _ _ (by simp [Act.eval, Act.put]) (by simp [Act.eval, Act.put]) (hcp1 _ _) ?_)
  go_wp2
  go_ret
  exact ⟨G, ROW, by rw [← HN.out]; rfl, HE.out.1, HE.out.2.1, HE.out.2.2.1, HE.out.2.2.2, by rw [← HN.out, ← HW1.out, ← HW2.out]⟩

/-- What an insertion ends with. -/
def InsA (w : World) (base : Nat) (row : Option Nat) (ls : List Alm) (e : Ending) (w' : World) : Prop := ∃ v, e = .returned v ∧ OwnA w' base v ls ∧ w.grownBy w' row
theorem run_append_two (w : World) (ty : TypeId) (A : Option Addr) (n c : Nat) (u : Value) : (Builtin.append_ #[54, 22] ty #[.slice A n c, u]).run Try.prog w = (Builtin.append_ #[54, 54] ty #[.slice A n c, u]).run Try.prog w := by
  obtain ⟨i0, hi, hz0, hz1, hz2⟩ := info_parts Try.infoAl
  simp [Builtin.append_, run_underlying Try.underlying54, run_underlying Try.underlying22, sizeOf, typeInfo, hi]
theorem grown_trans {a b c : World} {r : Option Nat} (h : a.grownBy b r) (k : b.grownBy c r) : a.grownBy c r :=
  ⟨k.os.trans h.os, k.tape.trans h.tape, k.output.trans h.output, Nat.le_trans h.size k.size, fun j hj hne => (k.block j (Nat.lt_of_lt_of_le hj h.size) hne).trans (h.block j hj hne)⟩
theorem flat6_take (ls : List Alm) (i : Nat) (hi : i ≤ ls.length) : flat6 (ls.take i) = (flat6 ls).take (i * 6) := by
  have e := flat6_app (ls.take i) (ls.drop i)
  rw [List.take_append_drop] at e
  rw [e, List.take_left' (by rw [flat6_len, List.length_take]; omega)]
theorem flat6_drop (ls : List Alm) (i : Nat) (hi : i ≤ ls.length) : flat6 (ls.drop i) = (flat6 ls).drop (i * 6) := by
  have e := flat6_app (ls.take i) (ls.drop i)
  rw [List.take_append_drop] at e
  rw [e, List.drop_left' (by rw [flat6_len, List.length_take]; omega)]
theorem flat6_ins (ls : List Alm) (i : Nat) (hi : i ≤ ls.length) (x : Alm) : flat6 (ls.take i ++ x :: ls.drop i) = (flat6 ls).take (i * 6) ++ (flat6 [x] ++ (flat6 ls).drop (i * 6)) := by
  rw [flat6_app, ← List.singleton_append, flat6_app, flat6_take ls i hi, flat6_drop ls i hi]

set_option maxRecDepth 10000 in
set_option maxHeartbeats 2000000 in
theorem insert_end (base : Nat) (v : Value) (ls : List Alm) (n : Nat) (hn : n = ls.length) (x : Alm) (vb : Nat) (w : World) (hown : OwnA w base v ls) (hl : ls.length ≤ 1000) (hb : base ≤ w.heap.size) (hx : w.heap[vb]? = some (.cells (sixV x) 28 (0, 0))) :
    Calls Try.prog 51 #[v, .int .i64 (n : Int), .slice (some ⟨vb, 0, none⟩) 1 1] w (InsA w base v.ownBlock (ls ++ [x])) := by
  obtain ⟨i0, hi, hz0, hz1, hz2⟩ := info_parts Try.infoAl
  have hcell : ∀ j u, (flat6 [x])[j]? = some u → w.cell? ((⟨vb, 0, none⟩ : Addr).add j) = some u := fun j u hj => by
    have hx' : w.heap[vb]? = some (.cells (flat6 [x]).toArray 28 (0, 0)) := hx
    rw [Addr.add_lit, Nat.zero_add, cell_of_row w vb j _ _ (0, 0) hx']
    simpa using hj
  obtain ⟨v', w', hr, h2, h3, _⟩ := run_append_own (P := Try.prog) w base 54 54 28 i0 _ 6 48 Try.underlying54 hi hz0 hz1 hz2 rfl (by decide) v _ _ hown ⟨vb, 0, none⟩ 1 1 (flat6 [x]) (flat6_len [x]) hcell (flat6_one [x]) (by unfold maxLen; omega) (by omega) hb
  have hrun : ∀ ty, (Builtin.append_ #[54, 22] ty #[v, .slice (some ⟨vb, 0, none⟩) 1 1]).run Try.prog w = .ok v' w' := fun ty => by
    obtain ⟨A, c, rfl, _⟩ := hown.slice
    exact (run_append_two w ty _ _ _ _).trans hr
  have HE : Hid (OwnA w' base v' (ls ++ [x]) ∧ w.grownBy w' v.ownBlock) := Lib.hid ⟨by unfold OwnA; rw [List.length_append, flat6_app]; exact h2, h3⟩
  have hn2 : (n : Int) ≤ (n : Int) := Int.le_refl _
  rcases hown.2 with ⟨rfl, h0⟩ | ⟨g, cap, cur, rfl, hbg, hg, hnc, hcm, hcs, htake⟩
  · obtain rfl : n = 0 := hn.trans h0
    clear hr h2 h3 hcell hx hz0 hz1 hz2 hi h0 hn hl hb hown
    go_enter Try.func51, Try.ntmps51
    go_wp2_with (at_builtin; refine Lib.wpList_append_run _ rfl _ _ _ _ rfl _ _ rfl rfl _ _ (hrun _) ?_)
    go_ret
    exact ⟨v', rfl, HE.out.1, HE.out.2⟩
  · rw [← hn] at hrun ⊢
    clear hr h2 h3 hcell hx hz0 hz1 hz2 hi hn hl hb hown hg hnc hcm hcs htake
    go_enter Try.func51, Try.ntmps51
    go_wp2_with (at_builtin; refine Lib.wpList_append_run _ rfl _ _ _ _ rfl _ _ rfl rfl _ _ (hrun _) ?_)
    all_goals
      go_ret
      exact ⟨v', rfl, HE.out.1, HE.out.2⟩

theorem insert_any (base : Nat) (v : Value) (ls : List Alm) (i : Nat) (x : Alm) (vb : Nat) (w : World) (hown : OwnA w base v ls) (hi : i ≤ ls.length) (hl : ls.length ≤ 1000) (hb : base ≤ w.heap.size) (hx : w.heap[vb]? = some (.cells (sixV x) 28 (0, 0))) (hvb : v.ownBlock ≠ some vb) :
    Calls Try.prog 51 #[v, .int .i64 (i : Int), .slice (some ⟨vb, 0, none⟩) 1 1] w (InsA w base v.ownBlock (ls.take i ++ x :: ls.drop i)) := by
  rcases Nat.lt_or_ge i ls.length with hlt | hge
  · rcases hown.2 with ⟨rfl, h0⟩ | ⟨g, cap, cur, rfl, hbg, hg, hnc, hcm, hcs, htake⟩
    · omega
    · have hne : vb ≠ g := fun e => hvb (by rw [e]; rfl)
      have hll : (ls.take i ++ x :: ls.drop i).length = ls.length + 1 := by simp; omega
      have hflat := flat6_ins ls i hi x
      have hv : w.heap[vb]? = some (.cells (flat6 [x]).toArray 28 (0, 0)) := hx
      have e6 : i * 6 + 6 = (i + 1) * 6 := by omega
      have hcl : cur.toList.length = cap * 6 := by rw [Array.length_toList, hcs]
      rcases Nat.lt_or_ge cap (ls.length + 1) with hc | hc
      · refine (insert_grow g cap ls.length i vb cur (flat6 ls) (flat6 [x]) w hlt hnc hc hl hg (flat6_len ls) htake (flat6_one ls) hv (flat6_len [x]) (flat6_one [x])).mono ?_
        rintro e w' ⟨G, ROW, rfl, h1, h2, h3, h4, rfl⟩
        refine ⟨_, rfl, ?_, ?_⟩
        · refine ⟨by rw [flat6_len], .inr ⟨w.heap.size, G, (splice (splice ROW (i * 6) (flat6 [x])) ((i + 1) * 6) ((flat6 ls).drop (i * 6))).toArray, by rw [hll], hb, ?_, by rw [hll]; exact h1, h2, ?_, ?_⟩⟩
          · exact setRow_heap _ _ _ _ _ _ (setRow_heap (w.drew.alloc (.cells ROW.toArray 28)) w.heap.size _ (splice ROW (i * 6) (flat6 [x])).toArray _ _ (heap_alloc_new w.drew (.cells ROW.toArray 28)))
          · have hs1 : (splice ROW (i * 6) (flat6 [x])).length = G * 6 := by rw [length_splice _ _ _ (by rw [flat6_len, h3]; simp; omega), h3]
            rw [List.size_toArray, length_splice _ _ _ (by rw [hs1, List.length_drop, flat6_len]; omega), hs1]
          · have hi2 := ins_cells2 (flat6 ls) (flat6 [x]) ROW (i * 6) (by rw [flat6_len]; omega) (flat6_len [x]) h4
            rw [hll, hflat, ← hi2, e6, flat6_len, Nat.add_mul]
        · refine ⟨rfl, rfl, rfl, by simp [World.setRow], fun k hk _ => ?_⟩
          have hk2 : k ≠ w.heap.size := by omega
          have e1 := setRow_other (((w.drew.alloc (.cells ROW.toArray 28)).setRow w.heap.size (splice ROW (i * 6) (flat6 [x])).toArray).drew) w.heap.size k (splice (splice ROW (i * 6) (flat6 [x])) ((i + 1) * 6) ((flat6 ls).drop (i * 6))).toArray hk2
          have e2 := setRow_other (w.drew.alloc (.cells ROW.toArray 28)) w.heap.size k (splice ROW (i * 6) (flat6 [x])).toArray hk2
          exact e1.trans (e2.trans (heap_alloc_old w.drew _ hk))
      · have hcm2 : cap ≤ 9223372036854775807 := by unfold maxLen at hcm; omega
        refine (insert_shift g cap ls.length i vb cur (flat6 ls) (flat6 [x]) w hlt hc hcm2 hg hcs (flat6_len ls) htake (flat6_one ls) hne hv (flat6_len [x]) (flat6_one [x])).mono ?_
        rintro e w' ⟨rfl, rfl⟩
        refine ⟨_, rfl, ?_, ?_⟩
        · refine ⟨by rw [flat6_len], .inr ⟨g, cap, (splice (splice cur.toList ((i + 1) * 6) ((flat6 ls).drop (i * 6))) (i * 6) (flat6 [x])).toArray, by rw [hll], hbg, ?_, by rw [hll]; exact hc, hcm, ?_, ?_⟩⟩
          · exact setRow_heap _ _ _ _ _ _ (setRow_heap w.drew g cur (splice cur.toList ((i + 1) * 6) ((flat6 ls).drop (i * 6))).toArray _ _ hg)
          · have hs1 : (splice cur.toList ((i + 1) * 6) ((flat6 ls).drop (i * 6))).length = cap * 6 := by rw [length_splice _ _ _ (by rw [List.length_drop, flat6_len, hcl]; omega), hcl]
            rw [List.size_toArray, length_splice _ _ _ (by rw [hs1, flat6_len]; simp; omega), hs1]
          · have hi2 := ins_cells (flat6 ls) (flat6 [x]) cur.toList (i * 6) (by rw [flat6_len]; omega) (flat6_len [x]) (by rw [flat6_len, hcl]; omega) (by rw [← htake, List.take_take, Nat.min_eq_left (by omega)])
            rw [hll, hflat, ← hi2, e6, flat6_len, Nat.add_mul]
        · exact ⟨rfl, rfl, rfl, by simp [World.setRow], fun k _ hk => (setRow_other _ g k _ (fun e => hk (by rw [e]; rfl))).trans (setRow_other _ g k _ (fun e => hk (by rw [e]; rfl)))⟩
  · obtain rfl : i = ls.length := by omega
    rw [List.take_length, List.drop_length]
    exact insert_end base v ls ls.length rfl x vb w hown hl hb hx
end Go.Proofs.Ythlojadkgpmnmaa

namespace Go.Proofs.Ythlojadkgpmnmaa
open Go.RowKit

/-- Where an alarm is put: ahead of the first one that is not less. -/
def Bd.plc (a : Alm) : List Alm → Nat
  | [] => 0
  | x :: l => if Bd.lessA x a then Bd.plc a l + 1 else 0
theorem Bd.plc_le (a : Alm) : ∀ ls : List Alm, Bd.plc a ls ≤ ls.length
  | [] => Nat.le_refl _
  | x :: l => by
    unfold Bd.plc
    split
    · have := Bd.plc_le a l; simp; omega
    · exact Nat.zero_le _
theorem Bd.plc_drop {a : Alm} {ls : List Alm} {k : Nat} (h : k < ls.length) : Bd.plc a (ls.drop k) = if Bd.lessA ls[k] a then Bd.plc a (ls.drop (k + 1)) + 1 else 0 := by
  rw [List.drop_eq_getElem_cons h]; rfl
/-- Put, by what with does. -/
theorem Bd.put_eq {a : Alm} : ∀ {ls : List Alm}, Bd.rising ls = true → Bd.putL a ls = (Bd.dropL a.b a.c ls).take (Bd.plc a (Bd.dropL a.b a.c ls)) ++ a :: (Bd.dropL a.b a.c ls).drop (Bd.plc a (Bd.dropL a.b a.c ls))
  | [], _ => rfl
  | x :: l, h => by
    have hp := (Bd.rising_iff _).1 h
    rw [List.pairwise_cons] at hp
    have ih := Bd.put_eq (a := a) ((Bd.rising_iff l).2 hp.2)
    unfold Bd.putL
    by_cases hx : Bd.lessA x a = true
    · have hd : Bd.dropL a.b a.c (x :: l) = x :: Bd.dropL a.b a.c l := by unfold Bd.dropL; rw [List.filter_cons, Bd.at_less hx]; rfl
      rw [if_pos hx, hd, ih]
      have hc : Bd.plc a (x :: Bd.dropL a.b a.c l) = Bd.plc a (Bd.dropL a.b a.c l) + 1 := by show (if Bd.lessA x a then _ else _) = _; rw [if_pos hx]
      rw [hc]
      rfl
    · rw [if_neg hx]
      have hrest : ∀ y ∈ l, Bd.lessA a y = true := fun y hy => by
        by_cases hat : Bd.atS a.b a.c x = true
        · exact Bd.less_at hat (hp.1 y hy)
        · exact Bd.less_trans (Bd.less_of hx hat) (hp.1 y hy)
      have hdl : Bd.dropL a.b a.c l = l := by
        unfold Bd.dropL
        rw [List.filter_eq_self]
        intro y hy
        rw [Bd.at_less' (hrest y hy)]
        rfl
      have hpl : Bd.plc a l = 0 := by
        cases l with
        | nil => rfl
        | cons y l => show (if Bd.lessA y a then _ else _) = _; rw [if_neg (by rw [Bd.less_not (hrest y (by simp))]; simp)]
      by_cases hat : Bd.atS a.b a.c x = true
      · rw [if_pos hat]
        have hd : Bd.dropL a.b a.c (x :: l) = l := by
          have e : Bd.dropL a.b a.c (x :: l) = Bd.dropL a.b a.c l := by unfold Bd.dropL; rw [List.filter_cons, hat]; rfl
          rw [e, hdl]
        rw [hd, hpl]
        rfl
      · rw [if_neg hat]
        have hd : Bd.dropL a.b a.c (x :: l) = x :: l := by
          have e : Bd.dropL a.b a.c (x :: l) = x :: Bd.dropL a.b a.c l := by unfold Bd.dropL; rw [List.filter_cons, Bool.not_eq_true _ |>.mp hat]; rfl
          rw [e, hdl]
        have hc : Bd.plc a (x :: l) = 0 := by show (if Bd.lessA x a then _ else _) = _; rw [if_neg hx]
        rw [hd, hc]
        rfl

def InsB (W : World) (base : Nat) (ls : List Alm) (e : Ending) (w' : World) : Prop := ∃ v, e = .returned v ∧ OwnA w' base v ls ∧ Below base W w'
theorem insert_new (base : Nat) (A2 : Option Addr) (n c2 : Nat) (D : List Alm) (k : Nat) (x0 x1 x2 x3 x4 x5 : Int) (W : World) (hn : n = D.length) (hown : OwnA W base (.slice A2 n c2) D) (hk : k ≤ n) (hl : n ≤ 1000) (hb : base ≤ W.heap.size) :
    Calls Try.prog 51 #[.slice A2 n c2, .int .i64 (k : Int), .slice (some ⟨W.heap.size, 0, none⟩) 1 1] (W.alloc (.cells #[.int .i64 x0, .int .i64 x1, .int .i64 x2, .int .i64 x3, .int .i64 x4, .int .i64 x5] 28)) (InsB W base (D.take k ++ ⟨x0, x1, x2, x3, x4, x5⟩ :: D.drop k)) := by
  have hB := below_new W (.cells #[.int .i64 x0, .int .i64 x1, .int .i64 x2, .int .i64 x3, .int .i64 x4, .int .i64 x5] 28)
  refine (insert_any base (.slice A2 n c2) D k ⟨x0, x1, x2, x3, x4, x5⟩ W.heap.size _ (hown.below hB) (by omega) (by omega) (Nat.le_trans hb hB.size) (heap_alloc_new _ _) (fun e => ?_)).mono ?_
  · have := (World.ownsRow.lt hown _ e).2
    omega
  · rintro e w' ⟨v, rfl, h1, h2⟩
    exact ⟨v, rfl, h1, (hB.mono hb).grown h2 (Nat.le_trans hb hB.size) hown.ge8⟩

set_option maxRecDepth 10000 in
set_option maxHeartbeats 4000000 in
theorem with_any (A : Option Addr) (l c : Nat) (ls : List Alm) (x0 x1 x2 x3 x4 x5 : Int) (w : World) (h : Told w A l c ls) (hr : Bd.rising ls = true) :
    Calls Try.prog 34 #[.slice A l c, .agg #[.int .i64 x0, .int .i64 x1, .int .i64 x2, .int .i64 x3, .int .i64 x4, .int .i64 x5]] w (OwnedA w (Bd.putL ⟨x0, x1, x2, x3, x4, x5⟩ ls)) := by
  rw [Bd.put_eq hr]
  have HS := Lib.hid (((St.start w).more (rowF A ls) h.2.1).new #[.int .i64 x0, .int .i64 x1, .int .i64 x2, .int .i64 x3, .int .i64 x4, .int .i64 x5] 28)
  have HZ : Hid (w.heap.size ≤ (w.alloc (.cells #[.int .i64 x0, .int .i64 x1, .int .i64 x2, .int .i64 x3, .int .i64 x4, .int .i64 x5] 28)).heap.size) := Lib.hid (by simp)
  have g1 := fun W (hA : AlmsAt W W.heap.size A ls) => Lib.hid (without_any A l c ls x0 x1 W ⟨h.1, hA, h.2.2⟩)
  have Hle : Hid ((Bd.dropL x0 x1 ls).length ≤ 1000) := Lib.hid (by have h1 : (Bd.dropL x0 x1 ls).length ≤ ls.length := List.length_filter_le _ _; have := h.1; have := h.2.2.2; omega)
  obtain ⟨D, hD⟩ : ∃ D, D = Bd.dropL x0 x1 ls := ⟨_, rfl⟩
  rw [← hD] at Hle ⊢
  simp only [← hD] at g1
  clear hD hr h
  go_enter Try.func34, Try.ntmps34
  go_wp2_with fail
  refine (g1 _ (HS.out.fact 0 rfl)).out.mono ?_
  rintro e w2 ⟨v, rfl, hown, hB⟩
  clear g1
  obtain ⟨A2, c2, rfl, hA2, _, hc2⟩ := hown.slice
  have HO := Lib.hid hown
  replace HS := Lib.hid ((HS.out.on hB).more (rowF A2 D) hA2)
  obtain ⟨w1, hw1⟩ : ∃ W, W = w.alloc (.cells #[.int .i64 x0, .int .i64 x1, .int .i64 x2, .int .i64 x3, .int .i64 x4, .int .i64 x5] 28) := ⟨_, rfl⟩
  rw [← hw1] at HO HZ hB
  have HB0 := Lib.hid hB
  clear hw1 hown hA2 hc2 hB
  obtain ⟨p1, hp1⟩ : ∃ p, p = w.heap.size := ⟨_, rfl⟩
  rw [← hp1] at HS ⊢
  obtain ⟨q, hq⟩ : ∃ q, q = D.length := ⟨_, rfl⟩
  have Hq := Lib.hid hq
  rw [← hq] at HO ⊢
  clear hp1 hq
  obtain ⟨P, hP⟩ : ∃ P, P = Bd.plc ⟨x0, x1, x2, x3, x4, x5⟩ D := ⟨_, rfl⟩
  have HP := Lib.hid hP
  rw [← hP]
  clear hP
  go_wp2_with fail
  go_loopw [6] (fun i wr => ∃ k : Nat, i = .int .i64 (k : Int) ∧ Hid (k ≤ q ∧ Bd.plc ⟨x0, x1, x2, x3, x4, x5⟩ (D.drop k) + k = P) ∧ Hid (Below w2.heap.size w2 wr)) (fun i _ => q - (intOf i).toNat)
  case atStart => exact ⟨0, rfl, Lib.hid ⟨Nat.zero_le _, by rw [HP.out]; rfl⟩, Lib.hid (Below.refl _ _)⟩
  case round =>
    obtain ⟨k, rfl, Hg, HB⟩ := hrel
    have HSr := Lib.hid (HS.out.on HB.out)
    by_cases hlt : k < q
    · have kl : k < D.length := by rw [← Hq.out]; exact hlt
      have HA : Hid (AlmsAt wr wr.heap.size A2 D) := Lib.hid (HSr.out.fact 0 rfl)
      obtain ⟨b0, o0, rfl, hb0, h6⟩ := HA.out k kl
      have Hs := Lib.hid (Bd.plc_drop (a := ⟨x0, x1, x2, x3, x4, x5⟩) kl)
      obtain ⟨y, hy⟩ : ∃ y, y = D[k]'kl := ⟨_, rfl⟩
      rw [← hy] at h6 Hs
      clear hy
      obtain ⟨y0, y1, y2, y3, y4, y5⟩ := y
      have d0 := h6.c0
      have d1 := h6.c1
      simp only at d0 d1
      have t0 := HSr.out.cell 0 rfl 0 rfl
      have t1 := HSr.out.cell 0 rfl 1 rfl
      have hp : p1 < wr.heap.size := HSr.out.lt 0 rfl
      have i1 : (k : Int) < (q : Int) := by omega
      have i3 : (0 : Int) ≤ (k : Int) := by omega
      have i4 : decide ((k : Int) < (q : Int)) = true := decide_eq_true i1
      have Ik : Hid (wrap64 ((k : Int) + 1) = (k : Int) + 1) := Lib.hid (by have := Hle.out; have := Hq.out; unfold wrap64; omega)
      have Hk := Lib.hid hlt
      have g := fun W => Less_any y0 y1 x0 x1 W
      obtain ⟨z, hz⟩ : ∃ z, z = Sp.less y0 y1 x0 x1 := ⟨_, rfl⟩
      simp only [← hz] at g
      have Ha : Hid (Bd.lessA ⟨y0, y1, y2, y3, y4, y5⟩ ⟨x0, x1, x2, x3, x4, x5⟩ = z) := Lib.hid (by rw [hz]; rfl)
      clear h6 kl hlt hz
      cases z
      · have He : Hid (P = k) := Lib.hid (by have := Hg.out.2; rw [Hs.out, Ha.out] at this; simp at this; omega)
        clear Hs Hg Ha
        go_wp2_with fail
        go_region_held3 (fun W => W.cell? ⟨b0, o0 + k * 6, none⟩ = some (.int .i64 y0) ∧ W.cell? ⟨b0, o0 + k * 6 + 1, none⟩ = some (.int .i64 y1) ∧ W.cell? ⟨p1, 0, none⟩ = some (.int .i64 x0) ∧ W.cell? ⟨p1, 1, none⟩ = some (.int .i64 x1)) (exact ⟨d0, d1, t0, t1⟩) ((go_at_call 50; refine (g _).mono ?_; rintro e w' ⟨rfl, hB'⟩; have hB2 : Below wr.heap.size wr w' := (by first | exact hB' | exact below_undrew hB'); replace d0 := (hB2.cell (p := ⟨b0, o0 + k * 6, none⟩) hb0).trans d0; replace d1 := (hB2.cell (p := ⟨b0, o0 + k * 6 + 1, none⟩) hb0).trans d1; replace t0 := (hB2.cell (p := ⟨p1, 0, none⟩) hp).trans t0; replace t1 := (hB2.cell (p := ⟨p1, 1, none⟩) hp).trans t1; have HB2 : Hid (Below w2.heap.size w2 w') := Lib.hid (below2 HB.out hB2); clear hB' hB2))
        have HK : Hid (k ≤ q) := Lib.hid (Nat.le_of_lt Hk.out)
        clear d0 d1 t0 t1 g
        have HS2 := Lib.hid (HS.out.on HB2.out)
        have HO2 := Lib.hid (HO.out.below HB2.out)
        have gI := Lib.hid (insert_new w1.heap.size _ q c2 D k x0 x1 x2 x3 x4 x5 w' Hq.out HO2.out HK.out (by rw [Hq.out]; exact Hle.out) (Nat.le_trans HB0.out.size HB2.out.size))
        go_wp2_with (refine wpList_load_st rfl 28 _ rfl HS2.out 0 _ _ rfl rfl _ Try.underlying28 rfl (by rfl) ?_)
        refine gI.out.mono ?_
        rintro e w9 ⟨v, rfl, hO9, hB9⟩
        have H9 := Lib.hid (hO9.lower HZ.out)
        have HB9 := Lib.hid (HS2.out.below.trans (hB9.mono HZ.out))
        clear hO9 hB9 gI
        go_wp2
        go_ret
        exact ⟨v, rfl, by rw [← HP.out, He.out]; exact H9.out, HB9.out⟩
      · have He : Hid (k + 1 ≤ q ∧ Bd.plc ⟨x0, x1, x2, x3, x4, x5⟩ (D.drop (k + 1)) + (k + 1) = P) := Lib.hid (by have := Hg.out.2; rw [Hs.out, Ha.out] at this; simp at this; exact ⟨Hk.out, by omega⟩)
        clear Hs Hg Ha
        go_wp2_with fail
        go_region_held3 (fun W => W.cell? ⟨b0, o0 + k * 6, none⟩ = some (.int .i64 y0) ∧ W.cell? ⟨b0, o0 + k * 6 + 1, none⟩ = some (.int .i64 y1) ∧ W.cell? ⟨p1, 0, none⟩ = some (.int .i64 x0) ∧ W.cell? ⟨p1, 1, none⟩ = some (.int .i64 x1)) (exact ⟨d0, d1, t0, t1⟩) ((go_at_call 50; refine (g _).mono ?_; rintro e w' ⟨rfl, hB'⟩; have hB2 : Below wr.heap.size wr w' := (by first | exact hB' | exact below_undrew hB'); replace d0 := (hB2.cell (p := ⟨b0, o0 + k * 6, none⟩) hb0).trans d0; replace d1 := (hB2.cell (p := ⟨b0, o0 + k * 6 + 1, none⟩) hb0).trans d1; replace t0 := (hB2.cell (p := ⟨p1, 0, none⟩) hp).trans t0; replace t1 := (hB2.cell (p := ⟨p1, 1, none⟩) hp).trans t1; have HB2 : Hid (Below w2.heap.size w2 w') := Lib.hid (below2 HB.out hB2); clear hB' hB2))
        go_wp2
        go_roundw
        case rel => exact ⟨k + 1, by first | rfl | (rw [Ik.out]; rfl), He, HB2⟩
        case measure => have := Hk.out; (try rw [Ik.out]); simp [intOf]; omega
    · have ik : ((k : Int) < (q : Int)) = False := eq_false (by omega)
      have i4 : decide ((k : Int) < (q : Int)) = false := decide_eq_false (by omega)
      have He : Hid (P = k) := Lib.hid (by have := Hg.out.2; rw [List.drop_eq_nil_of_le (by have := Hq.out; omega)] at this; simpa [Bd.plc] using this.symm)
      clear hlt Hg
      go_wp2_with fail
      go_quiet (fail)
      have HB2 : Hid (Below w2.heap.size w2 (wr.drewN nq)) := Lib.hid (below_drew HB.out nq)
      have HK : Hid (k ≤ q) := Lib.hid (by rw [← He.out, HP.out, Hq.out]; exact Bd.plc_le _ _)
      have HS2 := Lib.hid (HS.out.on HB2.out)
      have HO2 := Lib.hid (HO.out.below HB2.out)
      have gI := Lib.hid (insert_new w1.heap.size _ q c2 D k x0 x1 x2 x3 x4 x5 (wr.drewN nq) Hq.out HO2.out HK.out (by rw [Hq.out]; exact Hle.out) (Nat.le_trans HB0.out.size HB2.out.size))
      go_wp2_with (refine wpList_load_st rfl 28 _ rfl HS2.out 0 _ _ rfl rfl _ Try.underlying28 rfl (by rfl) ?_)
      refine gI.out.mono ?_
      rintro e w9 ⟨v, rfl, hO9, hB9⟩
      have H9 := Lib.hid (hO9.lower HZ.out)
      have HB9 := Lib.hid (HS2.out.below.trans (hB9.mono HZ.out))
      clear hO9 hB9 gI
      go_wp2
      go_ret
      exact ⟨v, rfl, by rw [← HP.out, He.out]; exact H9.out, HB9.out⟩
end Go.Proofs.Ythlojadkgpmnmaa

namespace Go.Proofs.Ythlojadkgpmnmaa
open Go.RowKit

theorem grown_setCell (w : World) (k j : Nat) (v : Value) : w.grownBy (w.setCell ⟨k, j, none⟩ v) (some k) :=
  ⟨rfl, rfl, rfl, by simp [World.setCell], fun i _ hne => heap_setCell_other w ⟨k, j, none⟩ i v (fun e => hne (by rw [show i = k from e]))⟩
/-- A block of one's own is written whole: rows behind it stay. -/
theorem wpList_setres {P : Program} {ops : Array Oper} {rest : List Oper} {o : Oper} {a : Act} {w : World} {Q : Exit → Act → World → Prop} (hgd : o.guard = none) (ty : TypeId) (x y : Operand) (ho : o.op = .store ty x y)
    {w0 : World} {L : List (Nat × Array Value)} {M : List Fact} (hS : St w0 w L M) (i k : Nat) (old cs : Array Value) (hi : L[i]? = some (k, old)) (hk : w0.heap.size ≤ k) (base : Nat) (v : Value) (ls : List Alm) (hO : OwnA w base v ls) (hkb : k < base)
    (hx : a.eval x = .pointer (some ⟨k, 0, none⟩)) (hy : a.eval y = .agg cs) (hz : (P.info? ty).map (·.size) = some cs.size) (hsz : old.size = cs.size) (h1 : cs.all (·.oneCell') = true)
    (h : ∀ w', St w0 w' [(k, cs)] [] → OwnA w' base v ls → wpList P ops Q rest (a.put o.dst undef) w') : wpList P ops Q (o :: rest) a w := by
  obtain ⟨t, ht⟩ := hS.live (k, old) (List.mem_of_getElem? hi)
  refine wpList_store_row hgd ty x y ho k cs hx hy t old ht hz hsz h1 ?_
  refine h _ ⟨fun y hy => ?_, (fun _ h => nomatch h), below_setRow hS.below hk cs⟩ ?_
  · obtain rfl : y = (k, cs) := by simpa using hy
    exact ⟨t, setRow_heap _ _ _ _ _ _ ht⟩
  · exact World.ownsRow.kept (row := some k) hO (grown_setRow w k cs) (Or.inr (fun e => by
      have := (World.ownsRow.lt hO k e).1
      omega))
/-- One cell of the block that came last is written: rows behind it stay. -/
theorem wpList_setcell {P : Program} {ops : Array Oper} {rest : List Oper} {o : Oper} {a : Act} {w : World} {Q : Exit → Act → World → Prop} (hgd : o.guard = none) (ty : TypeId) (x y : Operand) (ho : o.op = .store ty x y)
    {w0 : World} {k : Nat} {cs : Array Value} {L : List (Nat × Array Value)} {M : List Fact} (hS : St w0 w ((k, cs) :: L) M) (hne : ∀ y ∈ L, y.1 ≠ k) (hk : w0.heap.size ≤ k) (j : Nat) (v old : Value) (base : Nat) (u : Value) (ls : List Alm) (hO : OwnA w base u ls) (hkb : k < base)
    (hx : a.eval x = .pointer (some ⟨k, j, none⟩)) (hy : a.eval y = v) (hj : cs[j]? = some old) (hi : (P.info? ty).map (·.size) = some 1) (h1 : v.oneCell' = true)
    (h : ∀ w', St w0 w' ((k, cs.setIfInBounds j v) :: L) [] → OwnA w' base u ls → wpList P ops Q rest (a.put o.dst undef) w') : wpList P ops Q (o :: rest) a w := by
  refine wpList_plain hgd fun K hK => ?_
  have hc := hS.cell 0 rfl j hj
  have hf := hS.free 0 rfl j
  unfold Oper.wp execOp
  simp only [ho, hx, hy, Instr.storeAt, Instr.sureAddr, Sem.run_bind, Sem.run_pure, Result.andThen_ok, run_storeVar_cell w k j ty v (by rw [hc]; rfl) hf hi h1]
  refine hK _ _ (h _ ⟨fun y hy => ?_, (fun _ h => nomatch h), below_setCell hS.below hk j v⟩ ?_)
  · rcases List.mem_cons.1 hy with rfl | hy
    · obtain ⟨t, ht⟩ := hS.live (k, cs) (by simp)
      exact ⟨t, heap_setCell_same w k j cs t v ht⟩
    · obtain ⟨t, ht⟩ := hS.live y (List.mem_cons_of_mem _ hy)
      exact ⟨t, (heap_setCell_other w ⟨k, j, none⟩ y.1 v (hne y hy)).trans ht⟩
  · exact World.ownsRow.kept (row := some k) hO (grown_setCell w k j v) (Or.inr (fun e => by
      have := (World.ownsRow.lt hO k e).1
      omega))

theorem run_field_als (m n : Int) (A : Option Addr) (l c : Nat) (w : World) : (Instr.field 56 (.agg #[.int .i64 m, .int .i64 n, .slice A l c]) 2).run Try.prog w = .ok (.slice A l c) w := by
  kernel_rfl

theorem kk_is (m n : Int) (A : Option Addr) (l c : Nat) (ls : List Alm) (w : World) (h : Told w A l c ls) :
    Calls Try.prog 27 #[.agg #[.int .i64 m, .int .i64 n, .slice A l c]] w fun e w' => e = .returned (.bool (Bd.isB m n ls)) ∧ Below w.heap.size w w' := by
  have HS := Lib.hid (((St.start w).more (rowF A ls) h.2.1).new #[.int .i64 m, .int .i64 n, .slice A l c] 24)
  have g := fun W (hA : AlmsAt W W.heap.size A ls) => Lib.hid (right_any m n A l c ls W ⟨h.1, hA, h.2.2⟩)
  obtain ⟨r, hr⟩ : ∃ r, r = Bd.isB m n ls := ⟨_, rfl⟩
  simp only [← hr] at g ⊢
  clear hr h
  go_enter Try.func27, Try.ntmps27
  go_wp2_with (refine wpList_load_st rfl 24 _ rfl HS.out 0 _ _ rfl rfl _ Try.underlying24 rfl (by rfl) ?_)
  refine (hold_any m n A l c _).mono ?_
  rintro e w1 ⟨rfl, hB⟩
  replace HS := Lib.hid (HS.out.on hB)
  clear hB
  go_wp2_with fail
  refine (g _ (HS.out.fact 0 rfl)).out.mono ?_
  rintro e w2 ⟨rfl, hB⟩
  replace HS := Lib.hid (HS.out.on hB)
  clear hB g
  go_wp2
  go_ret
  exact ⟨rfl, HS.out.below⟩

theorem kk_of (m n : Int) (A : Option Addr) (l c : Nat) (ls : List Alm) (B : Option Addr) (k cb : Nat) (zs : List Int) (w : World) (h : Told w A l c ls) (hk : k = zs.length) (hB : IntsAt w w.heap.size B zs) (hk2 : k ≤ 1000) :
    Calls Try.prog 21 #[.agg #[.int .i64 m, .int .i64 n, .slice A l c], .slice B k cb] w (OwnedA w (Bd.ofL zs ls)) := by
  have HS := Lib.hid ((((St.start w).more (rowF A ls) h.2.1).more (numF B zs) hB).new #[.int .i64 m, .int .i64 n, .slice A l c] 24)
  have g := fun W (hA : AlmsAt W W.heap.size A ls) (hB : IntsAt W W.heap.size B zs) => Lib.hid (of_any A l c ls B k cb zs W ⟨h.1, hA, h.2.2⟩ hk hB hk2)
  clear h hk hB hk2
  go_enter Try.func21, Try.ntmps21
  go_wp2_with (refine wpList_load_st rfl 24 _ rfl HS.out 0 _ _ rfl rfl _ Try.underlying24 rfl (by rfl) ?_)
  refine (hold_any m n A l c _).mono ?_
  rintro e w1 ⟨rfl, hB⟩
  replace HS := Lib.hid (HS.out.on hB)
  clear hB
  have hfd := fun W => run_field_als m n A l c W
  go_wp2_with fail
  refine (g _ (HS.out.fact 1 rfl) (HS.out.fact 0 rfl)).out.mono ?_
  rintro e w2 ⟨v, rfl, hO, hB⟩
  have HO := Lib.hid (hO.lower HS.out.below.size)
  replace HS := Lib.hid (HS.out.on hB)
  clear hB g hO
  go_wp2
  go_ret
  exact ⟨v, rfl, HO.out, HS.out.below⟩

theorem kk_new (m : Int) (l : Nat) (w : World) (h : l = (Bd.new m).als.length) : Calls Try.prog 18 #[.int .i64 m] w (GivesB w (Bd.new m) l (Bd.newE m)) := by
  have g := fun W => right_any m 0 none 0 0 [] W ⟨rfl, AlmsAt.nil _ _ _, fun _ => rfl, Nat.zero_le _⟩
  have HS := Lib.hid ((St.start w).box2 #[.int .i64 0, .int .i64 0, .slice none 0 0] #[.int .i64 m, .int .i64 0, .slice none 0 0] 24 56)
  obtain ⟨r, hr⟩ : ∃ r, r = Bd.isB m 0 [] := ⟨_, rfl⟩
  simp only [← hr] at g
  have hz : Am.isT 0 = true := rfl
  cases r
  · have e : Bd.newE m = 1 := by
      unfold Bd.newE
      rw [if_pos ?_]
      have h1 : ¬ Bd.isB m 0 [] = true := by rw [← hr]; simp
      rw [Bd.isB_iff] at h1
      by_cases a1 : m < 1
      · exact Or.inl a1
      · refine Or.inr ?_
        rcases Int.lt_or_le 200 m with a2 | a2
        · exact a2
        · exact absurd ⟨⟨by omega, a2⟩, ⟨by omega, by omega⟩, by simp; omega, rfl⟩ h1
    have e2 : Bd.new m = ⟨0, 0, []⟩ := by unfold Bd.new; rw [e]; rfl
    rw [e2] at h ⊢
    rw [e]
    obtain rfl : l = 0 := h
    clear e e2 hr hz
    go_enter Try.func18, Try.ntmps18
    go_wp2_with fail
    refine (g _).mono ?_
    rintro e w1 ⟨rfl, hB⟩
    replace HS := Lib.hid (HS.out.on hB)
    clear hB g
    go_wp2_with (refine wpList_setres rfl 24 _ _ rfl HS.out 1 w.heap.size _ #[.int .i64 0, .int .i64 0, .slice none 0 0] rfl (Nat.le_refl _) w1.heap.size _ [] (OwnA.nil w1 w1.heap.size) (HS.out.lt 1 rfl) rfl rfl (by rfl) rfl (bd_one 0 0 none 0 0) ?_; intro w9 hS9 hO9; have HS9 := Lib.hid hS9; clear hS9 hO9)
    (try simp only [Exit.inBlock, Exit.then]); refine bodyPost_ret (ret_board rfl rfl HS9.out 0 rfl rfl) rfl ?_
    exact ⟨none, 0, rfl, OwnA.nil _ _, HS9.out.below⟩
  · have e : Bd.newE m = 0 := by
      unfold Bd.newE
      rw [if_neg ?_]
      have h1 := Bd.isB_iff.1 hr.symm
      omega
    have e2 : Bd.new m = ⟨m, 0, []⟩ := by unfold Bd.new; rw [e]; rfl
    rw [e2] at h ⊢
    rw [e]
    obtain rfl : l = 0 := h
    clear e e2 hr hz
    go_enter Try.func18, Try.ntmps18
    go_wp2_with fail
    refine (g _).mono ?_
    rintro e w1 ⟨rfl, hB⟩
    replace HS := Lib.hid (HS.out.on hB)
    clear hB g
    go_wp2_with (refine wpList_load_st rfl 56 _ rfl HS.out 0 _ _ rfl rfl _ Try.underlying56 rfl (by rfl) ?_)
    refine (board_any m 0 none 0 0 _).mono ?_
    rintro e w2 ⟨rfl, hB⟩
    replace HS := Lib.hid (HS.out.on hB)
    clear hB
    go_wp2_with (refine wpList_setres rfl 24 _ _ rfl HS.out 1 w.heap.size _ #[.int .i64 m, .int .i64 0, .slice none 0 0] rfl (Nat.le_refl _) w2.heap.size _ [] (OwnA.nil w2 w2.heap.size) (HS.out.lt 1 rfl) rfl rfl (by rfl) rfl (bd_one m 0 none 0 0) ?_; intro w9 hS9 hO9; have HS9 := Lib.hid hS9; clear hS9 hO9)
    (try simp only [Exit.inBlock, Exit.then]); refine bodyPost_ret (ret_board rfl rfl HS9.out 0 rfl rfl) rfl ?_
    exact ⟨none, 0, rfl, OwnA.nil _ _, HS9.out.below⟩
end Go.Proofs.Ythlojadkgpmnmaa

namespace Go.Proofs.Ythlojadkgpmnmaa
open Go.RowKit

theorem exec_load_st {o : Oper} {a : Act} {w : World} (ty : TypeId) (x : Operand) (ho : o.op = .load ty x) {w0 : World} {L : List (Nat × Array Value)} {M : List Fact} (hS : St w0 w L M) (i k : Nat) (cs : Array Value) (hi : L[i]? = some (k, cs)) (hx : a.eval x = .pointer (some ⟨k, 0, none⟩)) (d : TypeDesc)
    (hu : Try.prog.underlying ty = some d) (hd : (match d with | .struct _ | .array _ _ => true | _ => false) = true) (hz : (Try.prog.info? ty).map (·.size) = some cs.size) :
    (execOp a.eval o).run Try.prog w = .ok (.value (.agg cs)) w := by
  obtain ⟨t, ht⟩ := hS.live (k, cs) (List.mem_of_getElem? hi)
  have hl := run_loadVar_row (P := Try.prog) w k t ty cs (0, 0) d ht hu (by cases d <;> first | rfl | exact hd) hz
  unfold execOp
  simp only [ho, hx, Instr.loadAt, Instr.sureAddr, Sem.run_bind, Sem.run_pure, Result.andThen_ok, hl]

theorem St.pick {w0 w : World} {L : List (Nat × Array Value)} {M : List Fact} (h : St w0 w L M) (L' : List (Nat × Array Value)) (hL : ∀ x ∈ L', x ∈ L) : St w0 w L' [] := ⟨fun x hx => h.live x (hL x hx), (fun _ h => nomatch h), h.below⟩
theorem St.pickSet {w0 w : World} {L : List (Nat × Array Value)} {M : List Fact} (h : St w0 w L M) (cs : Array Value) {k i : Nat} {old : Array Value} (hi : L[i]? = some (k, old)) (hk : w0.heap.size ≤ k) : St w0 (w.setRow k cs) [(k, cs)] [] := by
  obtain ⟨t, ht⟩ := h.live (k, old) (List.mem_of_getElem? hi)
  refine ⟨fun y hy => ?_, (fun _ h => nomatch h), below_setRow h.below hk cs⟩
  obtain rfl : y = (k, cs) := by simpa using hy
  exact ⟨t, setRow_heap _ _ _ _ _ _ ht⟩
theorem St.afterRow {w0 w : World} {L : List (Nat × Array Value)} {M : List Fact} (h : St w0 w L M) (cs : Array Value) (L' : List (Nat × Array Value)) (hL : ∀ x ∈ L', x ∈ L) {k : Nat} (hne : ∀ x ∈ L', x.1 ≠ k) (hk : w0.heap.size ≤ k) : St w0 (w.setRow k cs) L' [] :=
  ⟨fun x hx => by
    obtain ⟨t, ht⟩ := h.live x (hL x hx)
    exact ⟨t, (setRow_other w k x.1 cs (hne x hx)).trans ht⟩, (fun _ h => nomatch h), below_setRow h.below hk cs⟩

set_option maxRecDepth 10000 in
set_option maxHeartbeats 2000000 in
theorem kk_get (m n : Int) (A : Option Addr) (l c : Nat) (ls : List Alm) (b ch : Int) (w : World) (h : Told w A l c ls) :
    Calls Try.prog 16 #[.agg #[.int .i64 m, .int .i64 n, .slice A l c], .agg #[.int .i64 b, .int .i64 ch]] w fun e w' => e = .returned (.tuple #[.agg (sixV (Bd.getA b ch ls).1), .bool (Bd.getA b ch ls).2]) ∧ Below w.heap.size w w' := by
  have HS := Lib.hid (((St.start w).more (rowF A ls) h.2.1).box3 #[.int .i64 m, .int .i64 n, .slice A l c] #[.int .i64 b, .int .i64 ch] #[.int .i64 0, .int .i64 0, .int .i64 0, .int .i64 0, .int .i64 0, .int .i64 0] 24 26 28)
  have g := fun W (hA : AlmsAt W W.heap.size A ls) => Lib.hid (find_any A l c ls b ch W ⟨h.1, hA, h.2.2⟩)
  obtain ⟨⟨X, ok⟩, hr⟩ : ∃ r, r = Bd.getA b ch ls := ⟨_, rfl⟩
  simp only [← hr] at g ⊢
  clear hr h
  go_enter Try.func16, Try.ntmps16
  go_wp2_with fail
  have hS := HS.out
  clear HS
  refine wp_region_held_drew (S := (fun W : World => St w W [(w.heap.size + 1, #[.int .i64 b, .int .i64 ch]), (w.heap.size, #[.int .i64 m, .int .i64 n, .slice A l c])] [])) (by kernel_rfl) (by first | exact hS.pick _ (by simp) | exact hS.drew.pick _ (by simp)) (fun hHeld => ?_)
  refine wpAnyH_take (i := 0) (oi := { dst := some 6, op := Op.load 24 (Operand.tmp 2), type := 24, pos := _, after := #[], guard := none }) (v := ?_) rfl (by kernel_rfl) (by kernel_rfl) (by kernel_rfl) (fun _ _ _ h => h) (Or.inl ⟨by rfl, ?hy⟩) hHeld ?_
  case hy => intro w0 hSw; refine exec_load_st 24 (Operand.tmp 2) ?_ hSw 1 _ _ rfl ?_ _ Try.underlying24 rfl (by rfl) <;> rfl
  (try simp only [Act.put, List.setIfInBounds_toArray, List.set_cons_zero, List.set_cons_succ])
  refine wpAnyH_take (i := 3) (oi := { dst := some 9, op := Op.load 26 (Operand.tmp 3), type := 26, pos := _, after := #[], guard := none }) (v := ?_) rfl (by kernel_rfl) (by kernel_rfl) (by kernel_rfl) (fun _ _ _ h => h) (Or.inl ⟨by rfl, ?hy⟩) hHeld ?_
  case hy => intro w0 hSw; refine exec_load_st 26 (Operand.tmp 3) ?_ hSw 0 _ _ rfl ?_ _ Try.underlying26 rfl (by rfl) <;> rfl
  (try simp only [Act.put, List.setIfInBounds_toArray, List.set_cons_zero, List.set_cons_succ])
  refine wpAnyH_ready (rs := [1]) (by kernel_rfl) (by simp) ?_
  refine AllReadyH.cons (o := { dst := some 7, op := Op.call { callee := Callee.value (Operand.func 31), args := #[Operand.tmp 6], argTypes := #[24] }, type := 56, pos := _, after := #[{ on := 0, ground := Ground.data }], guard := none }) rfl (fun K hK => ?_) AllReadyH.nil
  go_simp
  refine (hold_any m n A l c _).mono ?_
  rintro e w1 ⟨rfl, hB'⟩
  replace hS : St w w1 [(w.heap.size + 1 + 1, #[.int .i64 0, .int .i64 0, .int .i64 0, .int .i64 0, .int .i64 0, .int .i64 0]), (w.heap.size + 1, #[.int .i64 b, .int .i64 ch]), (w.heap.size, #[.int .i64 m, .int .i64 n, .slice A l c])] [rowF A ls] := (by first | exact hS.on hB' | exact hS.drew.on hB')
  clear hB'
  go_wp2_with fail
  refine hK.out _ _ (by first | exact hS.pick _ (by simp) | exact hS.drew.pick _ (by simp)) (fun hHeld => ?_)
  clear hK K
  (try simp only [Act.put, List.setIfInBounds_toArray, List.set_cons_zero, List.set_cons_succ])
  refine wpAnyH_take (i := 2) (oi := { dst := some 8, op := Op.field 56 (Operand.tmp 7) 2, type := 54, pos := _, after := #[{ on := 1, ground := Ground.data }], guard := none }) (v := ?_) rfl (by kernel_rfl) (by kernel_rfl) (by kernel_rfl) (fun _ _ _ h => h) (Or.inl ⟨by rfl, ?hy⟩) hHeld ?_
  case hy => intro w0 hSw; clear hSw; have hfd := run_field_als m n A l c w0; go_simp; (try with_reducible rfl)
  (try simp only [Act.put, List.setIfInBounds_toArray, List.set_cons_zero, List.set_cons_succ])
  refine wpAnyH_ready (rs := [4]) (by kernel_rfl) (by simp) ?_
  refine AllReadyH.cons (o := { dst := some 10, op := Op.call { callee := Callee.value (Operand.func 39), args := #[Operand.tmp 8, Operand.tmp 9], argTypes := #[54, 26] }, type := 37, pos := _, after := #[{ on := 2, ground := Ground.data }, { on := 3, ground := Ground.data }, { on := 1, ground := Ground.chain }], guard := none }) rfl (fun K hK => ?_) AllReadyH.nil
  go_simp
  refine (g _ (by first | exact hS.fact 0 rfl | exact hS.drew.fact 0 rfl)).out.mono ?_
  rintro e w2 ⟨rfl, hB'⟩
  replace hS : St w w2 [(w.heap.size + 1 + 1, #[.int .i64 0, .int .i64 0, .int .i64 0, .int .i64 0, .int .i64 0, .int .i64 0]), (w.heap.size + 1, #[.int .i64 b, .int .i64 ch]), (w.heap.size, #[.int .i64 m, .int .i64 n, .slice A l c])] [rowF A ls] := (by first | exact hS.on hB' | exact hS.drew.on hB')
  clear hB' g
  go_wp2_with fail
  refine hK.out _ _ (by first | exact hS.pick _ (by simp) | exact hS.drew.pick _ (by simp)) (fun hHeld => ?_)
  clear hK K
  (try simp only [Act.put, List.setIfInBounds_toArray, List.set_cons_zero, List.set_cons_succ])
  refine wpAnyH_take (i := 5) (oi := { dst := some 11, op := Op.extract (Operand.tmp 10) 0, type := 28, pos := _, after := #[{ on := 4, ground := Ground.data }], guard := none }) (v := ?_) rfl (by kernel_rfl) (by kernel_rfl) (by kernel_rfl) (fun _ _ _ h => h) (Or.inl ⟨by rfl, ?hy⟩) hHeld ?_
  case hy => intro w0 hSw; clear hSw; go_simp; (try with_reducible rfl)
  (try simp only [Act.put, List.setIfInBounds_toArray, List.set_cons_zero, List.set_cons_succ])
  refine wpAnyH_take (i := 6) (oi := { dst := some 12, op := Op.extract (Operand.tmp 10) 1, type := 4, pos := _, after := #[{ on := 4, ground := Ground.data }], guard := none }) (v := ?_) rfl (by kernel_rfl) (by kernel_rfl) (by kernel_rfl) (fun _ _ _ h => h) (Or.inl ⟨by rfl, ?hy⟩) hHeld ?_
  case hy => intro w0 hSw; clear hSw; go_simp; (try with_reducible rfl)
  (try simp only [Act.put, List.setIfInBounds_toArray, List.set_cons_zero, List.set_cons_succ])
  refine wpAnyH_ready (rs := [7]) (by kernel_rfl) (by simp) ?_
  refine AllReadyH.cons (o := { dst := none, op := Op.store 28 (Operand.tmp 4) (Operand.tmp 11), type := 0, pos := _, after := #[{ on := 5, ground := Ground.data }, { on := 4, ground := Ground.chain }, { on := 0, ground := Ground.phase }, { on := 1, ground := Ground.phase }, { on := 2, ground := Ground.phase }, { on := 3, ground := Ground.phase }, { on := 4, ground := Ground.phase }, { on := 5, ground := Ground.phase }, { on := 6, ground := Ground.phase }], guard := none }) rfl (fun K hK => ?_) AllReadyH.nil
  rw [if_pos (by rfl)]
  obtain ⟨tz, hz⟩ := hS.live (w.heap.size + 1 + 1, #[.int .i64 0, .int .i64 0, .int .i64 0, .int .i64 0, .int .i64 0, .int .i64 0]) (by simp)
  refine wp_store_row 28 _ _ rfl (w.heap.size + 1 + 1) (sixV X) rfl rfl tz _ hz (by rfl) rfl (six_one X) ?_
  have hR := hS.pickSet (sixV X) (k := w.heap.size + 1 + 1) (i := 0) rfl (by omega)
  have hQ := hS.afterRow (sixV X) [(w.heap.size + 1, #[.int .i64 b, .int .i64 ch]), (w.heap.size, #[.int .i64 m, .int .i64 n, .slice A l c])] (by simp) (k := w.heap.size + 1 + 1) (by simp; omega) (by omega)
  clear hz hS
  refine hK.out _ _ hQ (fun hHeld => ?_)
  clear hK K
  (try simp only [Act.put])
  refine wpAnyH_take (i := 8) (oi := { dst := some 5, op := Op.assign (Operand.tmp 12), type := 4, pos := _, after := #[{ on := 6, ground := Ground.data }, { on := 7, ground := Ground.chain }, { on := 0, ground := Ground.phase }, { on := 1, ground := Ground.phase }, { on := 2, ground := Ground.phase }, { on := 3, ground := Ground.phase }, { on := 4, ground := Ground.phase }, { on := 5, ground := Ground.phase }, { on := 6, ground := Ground.phase }, { on := 7, ground := Ground.phase }], guard := none }) (v := ?_) rfl (by kernel_rfl) (by kernel_rfl) (by kernel_rfl) (fun _ _ _ h => h) (Or.inl ⟨by rfl, ?hy⟩) hHeld ?_
  case hy => intro w0 hSw; clear hSw; go_simp; (try with_reducible rfl)
  (try simp only [Act.put, List.setIfInBounds_toArray, List.set_cons_zero, List.set_cons_succ])
  refine wpAnyH_done (by kernel_rfl) ?_ _
  clear hHeld
  have HR := Lib.hid hR
  clear hR hQ
  go_wp2
  (try simp only [Exit.inBlock, Exit.then]); refine bodyPost_ret (ret_alarm8 rfl rfl HR.out 0 rfl rfl) rfl ?_
  exact ⟨rfl, HR.out.below⟩
end Go.Proofs.Ythlojadkgpmnmaa

namespace Go.Proofs.Ythlojadkgpmnmaa
open Go.RowKit

theorem Bd.full_iff {m n : Int} {ls : List Alm} {a : Alm} (h : Bd.isB m n ls = true) : decide (m < ((Bd.putL a ls).length : Int)) = (!Bd.has a.b a.c ls && decide (m ≤ (ls.length : Int))) := by
  have h2 := Bd.isB_iff.1 h
  have hl := Bd.put_len (a := a) (Bd.rows_iff.1 h2.2.2.2).2
  rw [hl]
  cases hh : Bd.has a.b a.c ls
  · simp only [Bool.false_eq_true, if_false, Bool.not_false, Bool.true_and]
    rw [Bool.eq_iff_iff, decide_eq_true_eq, decide_eq_true_eq]
    omega
  · simp only [if_true, Nat.add_zero, Bool.not_true, Bool.false_and]
    exact decide_eq_false (by omega)
theorem Bd.rise_of {m n : Int} {ls : List Alm} (h : Bd.isB m n ls = true) : Bd.rising ls = true := (Bd.rising_iff ls).2 (Bd.rows_iff.1 (Bd.isB_iff.1 h).2.2.2).2

set_option maxRecDepth 10000 in
set_option maxHeartbeats 2000000 in
theorem kk_put (m n : Int) (A : Option Addr) (l c : Nat) (ls : List Alm) (x : Alm) (q : Nat) (w : World) (h : Told w A l c ls) (hq : q = (Bd.put m n ls x).als.length) :
    Calls Try.prog 10 #[.agg #[.int .i64 m, .int .i64 n, .slice A l c], .agg (sixV x)] w (GivesB w (Bd.put m n ls x) q (Bd.putE m n ls x)) := by
  obtain ⟨x0, x1, x2, x3, x4, x5⟩ := x
  have HS := Lib.hid (((St.start w).more (rowF A ls) h.2.1).box3 #[.int .i64 m, .int .i64 n, .slice A l c] #[.int .i64 x0, .int .i64 x1, .int .i64 x2, .int .i64 x3, .int .i64 x4, .int .i64 x5] #[.int .i64 0, .int .i64 0, .slice none 0 0] 24 28 24)
  have g1 := fun W (hA : AlmsAt W W.heap.size A ls) => Lib.hid (right_any m n A l c ls W ⟨h.1, hA, h.2.2⟩)
  have g2 := fun W => takes_any m n A l c x0 x1 x2 x3 x4 x5 W
  unfold sixV
  simp only
  cases hb : Bd.isB m n ls
  · have e : Bd.putE m n ls ⟨x0, x1, x2, x3, x4, x5⟩ = 1 := by unfold Bd.putE; rw [hb]; rfl
    have e2 : Bd.put m n ls ⟨x0, x1, x2, x3, x4, x5⟩ = ⟨0, 0, []⟩ := by unfold Bd.put; rw [e]; rfl
    rw [e2] at hq ⊢
    rw [e]
    simp only [hb] at g1
    obtain rfl : q = 0 := hq
    clear e e2 hb h g2
    go_enter Try.func10, Try.ntmps10
    go_wp2_with (refine wpList_load_st rfl 24 _ rfl HS.out 2 _ _ rfl rfl _ Try.underlying24 rfl (by rfl) ?_)
    refine (hold_any m n A l c _).mono ?_
    rintro e w1 ⟨rfl, hB⟩
    replace HS := Lib.hid ((HS.out.on hB).new #[.int .i64 m, .int .i64 n, .slice A l c] 56)
    clear hB
    go_wp2_with fail
    refine (g1 _ (HS.out.fact 0 rfl)).out.mono ?_
    rintro e w2 ⟨rfl, hB⟩
    replace HS := Lib.hid (HS.out.on hB)
    clear hB g1
    go_wp2_with (refine wpList_setres rfl 24 _ _ rfl HS.out 1 (w.heap.size + 1 + 1) _ #[.int .i64 0, .int .i64 0, .slice none 0 0] rfl (by omega) w2.heap.size _ [] (OwnA.nil w2 w2.heap.size) (HS.out.lt 1 rfl) rfl rfl (by rfl) rfl (bd_one 0 0 none 0 0) ?_; intro w9 hS9 hO9; have HS9 := Lib.hid hS9; clear hS9 hO9)
    (try simp only [Exit.inBlock, Exit.then]); refine bodyPost_ret (ret_board rfl rfl HS9.out 0 rfl rfl) rfl ?_
    exact ⟨none, 0, rfl, OwnA.nil _ _, HS9.out.below⟩

  simp only [hb] at g1
  cases hm : Bd.may n ⟨x0, x1, x2, x3, x4, x5⟩
  · have e : Bd.putE m n ls ⟨x0, x1, x2, x3, x4, x5⟩ = 1 := by
      unfold Bd.putE
      rw [if_pos]
      unfold Bd.may at hm
      rw [Bool.and_eq_false_iff] at hm
      rcases hm with hm | hm
      · rw [hm]; simp
      · have := of_decide_eq_false hm
        rw [decide_eq_true (by simp only at this ⊢; omega)]; simp
    have e2 : Bd.put m n ls ⟨x0, x1, x2, x3, x4, x5⟩ = ⟨0, 0, []⟩ := by unfold Bd.put; rw [e]; rfl
    rw [e2] at hq ⊢
    rw [e]
    simp only [hm] at g2
    obtain rfl : q = 0 := hq
    clear e e2 hb h hm
    go_enter Try.func10, Try.ntmps10
    go_wp2_with (refine wpList_load_st rfl 24 _ rfl HS.out 2 _ _ rfl rfl _ Try.underlying24 rfl (by rfl) ?_)
    refine (hold_any m n A l c _).mono ?_
    rintro e w1 ⟨rfl, hB⟩
    replace HS := Lib.hid ((HS.out.on hB).new #[.int .i64 m, .int .i64 n, .slice A l c] 56)
    clear hB
    go_wp2_with fail
    refine (g1 _ (HS.out.fact 0 rfl)).out.mono ?_
    rintro e w2 ⟨rfl, hB⟩
    replace HS := Lib.hid (HS.out.on hB)
    clear hB g1
    have s0 := HS.out.cell 0 rfl 0 rfl
    have s1 := HS.out.cell 0 rfl 1 rfl
    have s2 := HS.out.cell 0 rfl 2 rfl
    have t0 := HS.out.cell 2 rfl 0 rfl
    have t1 := HS.out.cell 2 rfl 1 rfl
    have t2 := HS.out.cell 2 rfl 2 rfl
    have t3 := HS.out.cell 2 rfl 3 rfl
    have t4 := HS.out.cell 2 rfl 4 rfl
    have t5 := HS.out.cell 2 rfl 5 rfl
    go_wp2_with fail
    refine (g2 _).mono ?_
    rintro e w3 ⟨rfl, hB⟩
    replace HS := Lib.hid (HS.out.on hB)
    clear hB g2 s0 s1 s2 t0 t1 t2 t3 t4 t5
    go_wp2_with (refine wpList_setres rfl 24 _ _ rfl HS.out 1 (w.heap.size + 1 + 1) _ #[.int .i64 0, .int .i64 0, .slice none 0 0] rfl (by omega) w3.heap.size _ [] (OwnA.nil w3 w3.heap.size) (HS.out.lt 1 rfl) rfl rfl (by rfl) rfl (bd_one 0 0 none 0 0) ?_; intro w9 hS9 hO9; have HS9 := Lib.hid hS9; clear hS9 hO9)
    (try simp only [Exit.inBlock, Exit.then]); refine bodyPost_ret (ret_board rfl rfl HS9.out 0 rfl rfl) rfl ?_
    exact ⟨none, 0, rfl, OwnA.nil _ _, HS9.out.below⟩

  simp only [hm] at g2
  have hE : Bd.putE m n ls ⟨x0, x1, x2, x3, x4, x5⟩ = if decide (m < ((Bd.putL ⟨x0, x1, x2, x3, x4, x5⟩ ls).length : Int)) then 81 else 0 := by
    unfold Bd.putE
    unfold Bd.may at hm
    rw [Bool.and_eq_true] at hm
    rw [hb, hm.1, decide_eq_false (by have := of_decide_eq_true hm.2; simp only at this ⊢; omega), Bd.full_iff hb]
    rfl
  have g3 := fun W (hA : AlmsAt W W.heap.size A ls) => Lib.hid (with_any A l c ls x0 x1 x2 x3 x4 x5 W ⟨h.1, hA, h.2.2⟩ (Bd.rise_of hb))
  obtain ⟨C, hC⟩ : ∃ C, C = Bd.putL ⟨x0, x1, x2, x3, x4, x5⟩ ls := ⟨_, rfl⟩
  rw [← hC] at hE
  simp only [← hC] at g3
  have g4 := fun W A2 c2 => tooMany_any m n A2 C.length c2 W
  cases hf : decide (m < (C.length : Int))
  · rw [hf] at hE
    replace hE : Bd.putE m n ls ⟨x0, x1, x2, x3, x4, x5⟩ = 0 := hE
    have e2 : Bd.put m n ls ⟨x0, x1, x2, x3, x4, x5⟩ = ⟨m, n, C⟩ := by unfold Bd.put; rw [hE, hC]; rfl
    rw [e2] at hq ⊢
    rw [hE]
    simp only [hf] at g4
    replace hq : q = C.length := hq
    simp only [← hq] at g4
    have Hq := Lib.hid hq
    clear e2 hb h hm hE hC hf hq
    go_enter Try.func10, Try.ntmps10
    go_wp2_with (refine wpList_load_st rfl 24 _ rfl HS.out 2 _ _ rfl rfl _ Try.underlying24 rfl (by rfl) ?_)
    refine (hold_any m n A l c _).mono ?_
    rintro e w1 ⟨rfl, hB⟩
    have Hp3 := Lib.hid ((HS.out.on hB).lt 0 rfl)
    have Hp2 := Lib.hid ((HS.out.on hB).lt 1 rfl)
    have Hp1 := Lib.hid ((HS.out.on hB).lt 2 rfl)
    have Hle := Lib.hid (HS.out.on hB).below.size
    replace HS := Lib.hid ((HS.out.on hB).new #[.int .i64 m, .int .i64 n, .slice A l c] 56)
    clear hB
    go_wp2_with fail
    refine (g1 _ (HS.out.fact 0 rfl)).out.mono ?_
    rintro e w2 ⟨rfl, hB⟩
    replace HS := Lib.hid (HS.out.on hB)
    clear hB g1
    have s0 := HS.out.cell 0 rfl 0 rfl
    have s1 := HS.out.cell 0 rfl 1 rfl
    have s2 := HS.out.cell 0 rfl 2 rfl
    have t0 := HS.out.cell 2 rfl 0 rfl
    have t1 := HS.out.cell 2 rfl 1 rfl
    have t2 := HS.out.cell 2 rfl 2 rfl
    have t3 := HS.out.cell 2 rfl 3 rfl
    have t4 := HS.out.cell 2 rfl 4 rfl
    have t5 := HS.out.cell 2 rfl 5 rfl
    go_wp2_with fail
    refine (g2 _).mono ?_
    rintro e w3 ⟨rfl, hB⟩
    replace HS := Lib.hid (HS.out.on hB)
    clear hB g2 s0 s1 s2 t0 t1 t2 t3 t4 t5
    have s2 := HS.out.cell 0 rfl 2 rfl
    go_wp2_with (refine wpList_load_st rfl 28 _ rfl HS.out 2 _ _ rfl rfl _ Try.underlying28 rfl (by rfl) ?_)
    refine (g3 _ (HS.out.fact 0 rfl)).out.mono ?_
    rintro e w4 ⟨v, rfl, hO, hB⟩
    obtain ⟨A2, c2, rfl, hA2, hn2, _⟩ := hO.slice
    rw [← Hq.out] at hO ⊢
    have HO := Lib.hid hO
    have Hw1 : Hid (w1.heap.size < w3.heap.size) := Lib.hid (HS.out.lt 0 rfl)
    replace HS := Lib.hid (HS.out.on hB)
    clear hB g3 s2 hO hA2 hn2
    go_wp2_with (first
      | (refine wpList_setcell rfl 54 _ _ rfl HS.out (by have := Hp3.out; have := Hp2.out; have := Hp1.out; simp; omega) Hle.out 2 _ _ w3.heap.size _ C HO.out Hw1.out rfl rfl rfl (by rfl) rfl ?_; intro w5 hS5 hO5; have HS5 := Lib.hid hS5; have HO5 := Lib.hid hO5; clear hS5 hO5 HS HO)
      | (refine wpList_load_st rfl 56 _ rfl HS5.out 0 _ _ rfl rfl _ Try.underlying56 rfl (by rfl) ?_))
    refine (g4 _ A2 c2).mono ?_
    rintro e w6 ⟨rfl, hB⟩
    have HS := Lib.hid (HS5.out.on hB)
    have HO := Lib.hid (HO5.out.below hB)
    clear hB g4 HS5 HO5
    go_wp2_with (refine wpList_load_st rfl 56 _ rfl HS.out 0 _ _ rfl rfl _ Try.underlying56 rfl (by rfl) ?_)
    refine (board_any m n A2 q c2 _).mono ?_
    rintro e w7 ⟨rfl, hB⟩
    replace HS := Lib.hid (HS.out.on hB)
    replace HO := Lib.hid (HO.out.below hB)
    clear hB
    have Hk : Hid (w.heap.size + 1 + 1 < w3.heap.size) := Lib.hid (by have := Hp3.out; have := Hw1.out; omega)
    have Hl3 : Hid (w.heap.size ≤ w3.heap.size) := Lib.hid (by have := Hk.out; omega)
    go_wp2_with (refine wpList_setres rfl 24 _ _ rfl HS.out 1 (w.heap.size + 1 + 1) _ #[.int .i64 m, .int .i64 n, .slice A2 q c2] rfl (by omega) w3.heap.size _ C HO.out Hk.out rfl rfl (by rfl) rfl (bd_one m n A2 q c2) ?_; intro w9 hS9 hO9; have HS9 := Lib.hid hS9; have HO9 := Lib.hid (hO9.lower Hl3.out); clear hS9 hO9)
    (try simp only [Exit.inBlock, Exit.then]); refine bodyPost_ret (ret_board rfl rfl HS9.out 0 rfl rfl) rfl ?_
    exact ⟨A2, c2, rfl, HO9.out, HS9.out.below⟩
  · rw [hf] at hE
    replace hE : Bd.putE m n ls ⟨x0, x1, x2, x3, x4, x5⟩ = 81 := hE
    have e2 : Bd.put m n ls ⟨x0, x1, x2, x3, x4, x5⟩ = ⟨0, 0, []⟩ := by unfold Bd.put; rw [hE]; rfl
    rw [e2] at hq ⊢
    rw [hE]
    simp only [hf] at g4
    obtain rfl : q = 0 := hq
    obtain ⟨qc, hqc⟩ : ∃ q, q = C.length := ⟨_, rfl⟩
    simp only [← hqc] at g4
    have Hq := Lib.hid hqc
    clear e2 hb h hm hE hC hf hqc
    go_enter Try.func10, Try.ntmps10
    go_wp2_with (refine wpList_load_st rfl 24 _ rfl HS.out 2 _ _ rfl rfl _ Try.underlying24 rfl (by rfl) ?_)
    refine (hold_any m n A l c _).mono ?_
    rintro e w1 ⟨rfl, hB⟩
    have Hp3 := Lib.hid ((HS.out.on hB).lt 0 rfl)
    have Hp2 := Lib.hid ((HS.out.on hB).lt 1 rfl)
    have Hp1 := Lib.hid ((HS.out.on hB).lt 2 rfl)
    have Hle := Lib.hid (HS.out.on hB).below.size
    replace HS := Lib.hid ((HS.out.on hB).new #[.int .i64 m, .int .i64 n, .slice A l c] 56)
    clear hB
    go_wp2_with fail
    refine (g1 _ (HS.out.fact 0 rfl)).out.mono ?_
    rintro e w2 ⟨rfl, hB⟩
    replace HS := Lib.hid (HS.out.on hB)
    clear hB g1
    have s0 := HS.out.cell 0 rfl 0 rfl
    have s1 := HS.out.cell 0 rfl 1 rfl
    have s2 := HS.out.cell 0 rfl 2 rfl
    have t0 := HS.out.cell 2 rfl 0 rfl
    have t1 := HS.out.cell 2 rfl 1 rfl
    have t2 := HS.out.cell 2 rfl 2 rfl
    have t3 := HS.out.cell 2 rfl 3 rfl
    have t4 := HS.out.cell 2 rfl 4 rfl
    have t5 := HS.out.cell 2 rfl 5 rfl
    go_wp2_with fail
    refine (g2 _).mono ?_
    rintro e w3 ⟨rfl, hB⟩
    replace HS := Lib.hid (HS.out.on hB)
    clear hB g2 s0 s1 s2 t0 t1 t2 t3 t4 t5
    have s2 := HS.out.cell 0 rfl 2 rfl
    go_wp2_with (refine wpList_load_st rfl 28 _ rfl HS.out 2 _ _ rfl rfl _ Try.underlying28 rfl (by rfl) ?_)
    refine (g3 _ (HS.out.fact 0 rfl)).out.mono ?_
    rintro e w4 ⟨v, rfl, hO, hB⟩
    obtain ⟨A2, c2, rfl, hA2, hn2, _⟩ := hO.slice
    rw [← Hq.out] at hO ⊢
    have HO := Lib.hid hO
    have Hw1 : Hid (w1.heap.size < w3.heap.size) := Lib.hid (HS.out.lt 0 rfl)
    replace HS := Lib.hid (HS.out.on hB)
    clear hB g3 s2 hO hA2 hn2
    go_wp2_with (first
      | (refine wpList_setcell rfl 54 _ _ rfl HS.out (by have := Hp3.out; have := Hp2.out; have := Hp1.out; simp; omega) Hle.out 2 _ _ w3.heap.size _ C HO.out Hw1.out rfl rfl rfl (by rfl) rfl ?_; intro w5 hS5 hO5; have HS5 := Lib.hid hS5; have HO5 := Lib.hid hO5; clear hS5 hO5 HS HO)
      | (refine wpList_load_st rfl 56 _ rfl HS5.out 0 _ _ rfl rfl _ Try.underlying56 rfl (by rfl) ?_))
    refine (g4 _ A2 c2).mono ?_
    rintro e w6 ⟨rfl, hB⟩
    have HS := Lib.hid (HS5.out.on hB)
    have HO := Lib.hid (HO5.out.below hB)
    clear hB g4 HS5 HO5
    go_wp2_with (refine wpList_setres rfl 24 _ _ rfl HS.out 1 (w.heap.size + 1 + 1) _ #[.int .i64 0, .int .i64 0, .slice none 0 0] rfl (by omega) w6.heap.size _ [] (OwnA.nil w6 w6.heap.size) (HS.out.lt 1 rfl) rfl rfl (by rfl) rfl (bd_one 0 0 none 0 0) ?_; intro w9 hS9 hO9; have HS9 := Lib.hid hS9; clear hS9 hO9)
    (try simp only [Exit.inBlock, Exit.then]); refine bodyPost_ret (ret_board rfl rfl HS9.out 0 rfl rfl) rfl ?_
    exact ⟨none, 0, rfl, OwnA.nil _ _, HS9.out.below⟩
end Go.Proofs.Ythlojadkgpmnmaa

namespace Go.Proofs.Ythlojadkgpmnmaa
open Go.RowKit

/-- One cell of a block is read. -/
theorem wpList_loadc_st {P : Program} {ops : Array Oper} {rest : List Oper} {o : Oper} {a : Act} {w : World} {Q : Exit → Act → World → Prop} (hgd : o.guard = none) (ty : TypeId) (x : Operand) (ho : o.op = .load ty x)
    {w0 : World} {L : List (Nat × Array Value)} {M : List Fact} (hS : St w0 w L M) (i k : Nat) (cs : Array Value) (hi : L[i]? = some (k, cs)) (j : Nat) (v : Value) (hj : cs[j]? = some v) (hx : a.eval x = .pointer (some ⟨k, j, none⟩)) (ha : ∀ w, (isAgg ty).run P w = .ok false w)
    (h : wpList P ops Q rest (a.put o.dst v) w) : wpList P ops Q (o :: rest) a w := by
  refine wpList_plain hgd fun K hK => ?_
  have hc := hS.cell i hi j hj
  unfold Oper.wp execOp
  simp [ho, hx, Instr.loadAt, Instr.sureAddr, loadVar, ha, hc]
  exact hK _ _ h

set_option maxRecDepth 10000 in
set_option maxHeartbeats 2000000 in
theorem kk_drop (m n : Int) (A : Option Addr) (l c : Nat) (ls : List Alm) (b ch : Int) (q : Nat) (w : World) (h : Told w A l c ls) (hq : q = (Bd.drop m n ls b ch).als.length) :
    Calls Try.prog 12 #[.agg #[.int .i64 m, .int .i64 n, .slice A l c], .agg #[.int .i64 b, .int .i64 ch]] w (GivesB w (Bd.drop m n ls b ch) q (Bd.dropE m n ls b ch)) := by
  have HS := Lib.hid (((St.start w).more (rowF A ls) h.2.1).box3 #[.int .i64 m, .int .i64 n, .slice A l c] #[.int .i64 b, .int .i64 ch] #[.int .i64 0, .int .i64 0, .slice none 0 0] 24 26 24)
  have g1 := fun W (hA : AlmsAt W W.heap.size A ls) => Lib.hid (right_any m n A l c ls W ⟨h.1, hA, h.2.2⟩)
  have g2 := fun W (hA : AlmsAt W W.heap.size A ls) => Lib.hid (find_any A l c ls b ch W ⟨h.1, hA, h.2.2⟩)
  have g3 := fun W (hA : AlmsAt W W.heap.size A ls) => Lib.hid (without_any A l c ls b ch W ⟨h.1, hA, h.2.2⟩)
  cases hb : Bd.isB m n ls
  · have e : Bd.dropE m n ls b ch = 1 := by unfold Bd.dropE; rw [hb]; rfl
    have e2 : Bd.drop m n ls b ch = ⟨0, 0, []⟩ := by unfold Bd.drop; rw [e]; rfl
    rw [e2] at hq ⊢
    rw [e]
    simp only [hb] at g1
    obtain rfl : q = 0 := hq
    clear e e2 hb h g2 g3
    go_enter Try.func12, Try.ntmps12
    go_wp2_with (refine wpList_load_st rfl 24 _ rfl HS.out 2 _ _ rfl rfl _ Try.underlying24 rfl (by rfl) ?_)
    refine (hold_any m n A l c _).mono ?_
    rintro e w1 ⟨rfl, hB⟩
    have Hp1 := Lib.hid ((HS.out.on hB).lt 2 rfl)
    have Hp2 := Lib.hid ((HS.out.on hB).lt 1 rfl)
    have Hp3 := Lib.hid ((HS.out.on hB).lt 0 rfl)
    have Hle := Lib.hid (HS.out.on hB).below.size
    replace HS := Lib.hid ((HS.out.on hB).new #[.int .i64 m, .int .i64 n, .slice A l c] 56)
    clear hB
    go_wp2_with fail
    refine (g1 _ (HS.out.fact 0 rfl)).out.mono ?_
    rintro e w2 ⟨rfl, hB⟩
    replace HS := Lib.hid (HS.out.on hB)
    clear hB g1
    go_wp2_with (refine wpList_setres rfl 24 _ _ rfl HS.out 1 (w.heap.size + 1 + 1) _ #[.int .i64 0, .int .i64 0, .slice none 0 0] rfl (by omega) w2.heap.size _ [] (OwnA.nil w2 w2.heap.size) (HS.out.lt 1 rfl) rfl rfl (by rfl) rfl (bd_one 0 0 none 0 0) ?_; intro w9 hS9 hO9; have HS9 := Lib.hid hS9; clear hS9 hO9)
    (try simp only [Exit.inBlock, Exit.then]); refine bodyPost_ret (ret_board rfl rfl HS9.out 0 rfl rfl) rfl ?_
    exact ⟨none, 0, rfl, OwnA.nil _ _, HS9.out.below⟩

  simp only [hb] at g1
  obtain ⟨⟨⟨y0, y1, y2, y3, y4, y5⟩, ok⟩, hr⟩ : ∃ r, r = Bd.getA b ch ls := ⟨_, rfl⟩
  simp only [← hr, sixV] at g2
  have hh : Bd.has b ch ls = ok := by unfold Bd.has; rw [← hr]
  cases ok
  · have e : Bd.dropE m n ls b ch = 80 := by unfold Bd.dropE; rw [hb, hh]; rfl
    have e2 : Bd.drop m n ls b ch = ⟨0, 0, []⟩ := by unfold Bd.drop; rw [e]; rfl
    rw [e2] at hq ⊢
    rw [e]
    obtain rfl : q = 0 := hq
    clear e e2 hb h hh hr g3
    go_enter Try.func12, Try.ntmps12
    go_wp2_with (refine wpList_load_st rfl 24 _ rfl HS.out 2 _ _ rfl rfl _ Try.underlying24 rfl (by rfl) ?_)
    refine (hold_any m n A l c _).mono ?_
    rintro e w1 ⟨rfl, hB⟩
    have Hp1 := Lib.hid ((HS.out.on hB).lt 2 rfl)
    have Hp2 := Lib.hid ((HS.out.on hB).lt 1 rfl)
    have Hp3 := Lib.hid ((HS.out.on hB).lt 0 rfl)
    have Hle := Lib.hid (HS.out.on hB).below.size
    replace HS := Lib.hid ((HS.out.on hB).new #[.int .i64 m, .int .i64 n, .slice A l c] 56)
    clear hB
    go_wp2_with fail
    refine (g1 _ (HS.out.fact 0 rfl)).out.mono ?_
    rintro e w2 ⟨rfl, hB⟩
    replace HS := Lib.hid (HS.out.on hB)
    clear hB g1
    have s2 := HS.out.cell 0 rfl 2 rfl
    go_wp2_with (refine wpList_load_st rfl 26 _ rfl HS.out 2 _ _ rfl rfl _ Try.underlying26 rfl (by rfl) ?_)
    refine (g2 _ (HS.out.fact 0 rfl)).out.mono ?_
    rintro e w3 ⟨rfl, hB⟩
    replace HS := Lib.hid (HS.out.on hB)
    clear hB g2 s2
    have HN := Lib.hid (below_new w3 (.cells #[.int .i64 y0, .int .i64 y1, .int .i64 y2, .int .i64 y3, .int .i64 y4, .int .i64 y5] 28))
    replace HS := Lib.hid (HS.out.on HN.out)
    go_wp2_with (refine wpList_setres rfl 24 _ _ rfl HS.out 1 (w.heap.size + 1 + 1) _ #[.int .i64 0, .int .i64 0, .slice none 0 0] rfl (by omega) (w3.alloc (.cells #[.int .i64 y0, .int .i64 y1, .int .i64 y2, .int .i64 y3, .int .i64 y4, .int .i64 y5] 28)).heap.size _ [] (OwnA.nil (w3.alloc (.cells #[.int .i64 y0, .int .i64 y1, .int .i64 y2, .int .i64 y3, .int .i64 y4, .int .i64 y5] 28)) (w3.alloc (.cells #[.int .i64 y0, .int .i64 y1, .int .i64 y2, .int .i64 y3, .int .i64 y4, .int .i64 y5] 28)).heap.size) (HS.out.lt 1 rfl) rfl rfl (by rfl) rfl (bd_one 0 0 none 0 0) ?_; intro w9 hS9 hO9; have HS9 := Lib.hid hS9; clear hS9 hO9)
    (try simp only [Exit.inBlock, Exit.then]); refine bodyPost_ret (ret_board rfl rfl HS9.out 0 rfl rfl) rfl ?_
    exact ⟨none, 0, rfl, OwnA.nil _ _, HS9.out.below⟩

  · have e : Bd.dropE m n ls b ch = 0 := by unfold Bd.dropE; rw [hb, hh]; rfl
    have e2 : Bd.drop m n ls b ch = ⟨m, n, Bd.dropL b ch ls⟩ := by unfold Bd.drop; rw [e]; rfl
    rw [e2] at hq ⊢
    rw [e]
    obtain ⟨C, hC⟩ : ∃ C, C = Bd.dropL b ch ls := ⟨_, rfl⟩
    rw [← hC] at hq ⊢
    simp only [← hC] at g3
    replace hq : q = C.length := hq
    have Hq := Lib.hid hq
    clear e e2 hb h hh hr hC hq
    go_enter Try.func12, Try.ntmps12
    go_wp2_with (refine wpList_load_st rfl 24 _ rfl HS.out 2 _ _ rfl rfl _ Try.underlying24 rfl (by rfl) ?_)
    refine (hold_any m n A l c _).mono ?_
    rintro e w1 ⟨rfl, hB⟩
    have Hp1 := Lib.hid ((HS.out.on hB).lt 2 rfl)
    have Hp2 := Lib.hid ((HS.out.on hB).lt 1 rfl)
    have Hp3 := Lib.hid ((HS.out.on hB).lt 0 rfl)
    have Hle := Lib.hid (HS.out.on hB).below.size
    replace HS := Lib.hid ((HS.out.on hB).new #[.int .i64 m, .int .i64 n, .slice A l c] 56)
    clear hB
    go_wp2_with fail
    refine (g1 _ (HS.out.fact 0 rfl)).out.mono ?_
    rintro e w2 ⟨rfl, hB⟩
    replace HS := Lib.hid (HS.out.on hB)
    clear hB g1
    have s2 := HS.out.cell 0 rfl 2 rfl
    go_wp2_with (refine wpList_load_st rfl 26 _ rfl HS.out 2 _ _ rfl rfl _ Try.underlying26 rfl (by rfl) ?_)
    refine (g2 _ (HS.out.fact 0 rfl)).out.mono ?_
    rintro e w3 ⟨rfl, hB⟩
    replace HS := Lib.hid (HS.out.on hB)
    clear hB g2 s2
    have HN := Lib.hid (below_new w3 (.cells #[.int .i64 y0, .int .i64 y1, .int .i64 y2, .int .i64 y3, .int .i64 y4, .int .i64 y5] 28))
    replace HS := Lib.hid (HS.out.on HN.out)
    go_wp2_with (first
      | (refine wpList_loadc_st rfl 54 _ rfl HS.out 0 _ _ rfl 2 _ rfl rfl Try.isAgg54 ?_)
      | (refine wpList_load_st rfl 26 _ rfl HS.out 2 _ _ rfl rfl _ Try.underlying26 rfl (by rfl) ?_))
    refine (g3 _ (HS.out.fact 0 rfl)).out.mono ?_
    rintro e w4 ⟨v, rfl, hO, hB⟩
    obtain ⟨A2, c2, rfl, hA2, hn2, _⟩ := hO.slice
    rw [← Hq.out] at hO ⊢
    have HO := Lib.hid hO
    obtain ⟨B3, hB3⟩ : ∃ B3, B3 = (w3.alloc (.cells #[.int .i64 y0, .int .i64 y1, .int .i64 y2, .int .i64 y3, .int .i64 y4, .int .i64 y5] 28)).heap.size := ⟨_, rfl⟩
    have Hw1 : Hid (w1.heap.size < B3) := Lib.hid (by rw [hB3]; exact HS.out.lt 0 rfl)
    rw [← hB3] at HO
    replace HS := Lib.hid (HS.out.on hB)
    clear hB g3 hO hA2 hn2 hB3
    go_wp2_with (first
      | (refine wpList_setcell rfl 54 _ _ rfl HS.out (by have := Hp3.out; have := Hp2.out; have := Hp1.out; simp; omega) Hle.out 2 _ _ B3 _ C HO.out Hw1.out rfl rfl rfl (by rfl) rfl ?_; intro w5 hS5 hO5; have HS5 := Lib.hid hS5; have HO5 := Lib.hid hO5; clear hS5 hO5 HS HO)
      | (refine wpList_load_st rfl 56 _ rfl HS5.out 0 _ _ rfl rfl _ Try.underlying56 rfl (by rfl) ?_))
    refine (board_any m n A2 q c2 _).mono ?_
    rintro e w7 ⟨rfl, hB⟩
    have HS := Lib.hid (HS5.out.on hB)
    have HO := Lib.hid (HO5.out.below hB)
    clear hB HS5 HO5
    have Hk : Hid (w.heap.size + 1 + 1 < B3) := Lib.hid (by have := Hp3.out; have := Hw1.out; omega)
    have Hl3 : Hid (w.heap.size ≤ B3) := Lib.hid (by have := Hk.out; omega)
    go_wp2_with (refine wpList_setres rfl 24 _ _ rfl HS.out 1 (w.heap.size + 1 + 1) _ #[.int .i64 m, .int .i64 n, .slice A2 q c2] rfl (by omega) B3 _ C HO.out Hk.out rfl rfl (by rfl) rfl (bd_one m n A2 q c2) ?_; intro w9 hS9 hO9; have HS9 := Lib.hid hS9; have HO9 := Lib.hid (hO9.lower Hl3.out); clear hS9 hO9)
    (try simp only [Exit.inBlock, Exit.then]); refine bodyPost_ret (ret_board rfl rfl HS9.out 0 rfl rfl) rfl ?_
    exact ⟨A2, c2, rfl, HO9.out, HS9.out.below⟩

set_option maxRecDepth 10000 in
set_option maxHeartbeats 2000000 in
theorem kk_pass (m n : Int) (A : Option Addr) (l c : Nat) (ls : List Alm) (t : Int) (q : Nat) (w : World) (h : Told w A l c ls) (hq : q = (Bd.pass m n ls t).als.length) :
    Calls Try.prog 14 #[.agg #[.int .i64 m, .int .i64 n, .slice A l c], .int .i64 t] w (GivesB w (Bd.pass m n ls t) q (Bd.passE m n ls t)) := by
  have HS := Lib.hid (((St.start w).more (rowF A ls) h.2.1).box2 #[.int .i64 m, .int .i64 n, .slice A l c] #[.int .i64 0, .int .i64 0, .slice none 0 0] 24 24)
  have g1 := fun W (hA : AlmsAt W W.heap.size A ls) => Lib.hid (right_any m n A l c ls W ⟨h.1, hA, h.2.2⟩)
  have g2 := fun W => bIsTime_any t W
  have g3 := fun W (hA : AlmsAt W W.heap.size A ls) => Lib.hid (passed_any A l c ls t W ⟨h.1, hA, h.2.2⟩)
  cases hb : Bd.isB m n ls
  · have e : Bd.passE m n ls t = 1 := by unfold Bd.passE; rw [hb]; rfl
    have e2 : Bd.pass m n ls t = ⟨0, 0, []⟩ := by unfold Bd.pass; rw [e]; rfl
    rw [e2] at hq ⊢
    rw [e]
    simp only [hb] at g1
    obtain rfl : q = 0 := hq
    clear e e2 hb h g2 g3
    go_enter Try.func14, Try.ntmps14
    go_wp2_with (refine wpList_load_st rfl 24 _ rfl HS.out 1 _ _ rfl rfl _ Try.underlying24 rfl (by rfl) ?_)
    refine (hold_any m n A l c _).mono ?_
    rintro e w1 ⟨rfl, hB⟩
    have Hp1 := Lib.hid ((HS.out.on hB).lt 1 rfl)
    have Hp2 := Lib.hid ((HS.out.on hB).lt 0 rfl)
    have Hle := Lib.hid (HS.out.on hB).below.size
    replace HS := Lib.hid ((HS.out.on hB).new #[.int .i64 m, .int .i64 n, .slice A l c] 56)
    clear hB
    go_wp2_with fail
    refine (g1 _ (HS.out.fact 0 rfl)).out.mono ?_
    rintro e w2 ⟨rfl, hB⟩
    replace HS := Lib.hid (HS.out.on hB)
    clear hB g1
    go_wp2_with (refine wpList_setres rfl 24 _ _ rfl HS.out 1 (w.heap.size + 1) _ #[.int .i64 0, .int .i64 0, .slice none 0 0] rfl (by omega) w2.heap.size _ [] (OwnA.nil w2 w2.heap.size) (HS.out.lt 1 rfl) rfl rfl (by rfl) rfl (bd_one 0 0 none 0 0) ?_; intro w9 hS9 hO9; have HS9 := Lib.hid hS9; clear hS9 hO9)
    (try simp only [Exit.inBlock, Exit.then]); refine bodyPost_ret (ret_board rfl rfl HS9.out 0 rfl rfl) rfl ?_
    exact ⟨none, 0, rfl, OwnA.nil _ _, HS9.out.below⟩

  simp only [hb] at g1
  cases ht : Am.isT t
  · have e : Bd.passE m n ls t = 1 := by unfold Bd.passE; rw [hb, ht]; rfl
    have e2 : Bd.pass m n ls t = ⟨0, 0, []⟩ := by unfold Bd.pass; rw [e]; rfl
    rw [e2] at hq ⊢
    rw [e]
    simp only [ht] at g2
    obtain rfl : q = 0 := hq
    clear e e2 hb h ht g3
    go_enter Try.func14, Try.ntmps14
    go_wp2_with (refine wpList_load_st rfl 24 _ rfl HS.out 1 _ _ rfl rfl _ Try.underlying24 rfl (by rfl) ?_)
    refine (hold_any m n A l c _).mono ?_
    rintro e w1 ⟨rfl, hB⟩
    have Hp1 := Lib.hid ((HS.out.on hB).lt 1 rfl)
    have Hp2 := Lib.hid ((HS.out.on hB).lt 0 rfl)
    have Hle := Lib.hid (HS.out.on hB).below.size
    replace HS := Lib.hid ((HS.out.on hB).new #[.int .i64 m, .int .i64 n, .slice A l c] 56)
    clear hB
    go_wp2_with fail
    refine (g1 _ (HS.out.fact 0 rfl)).out.mono ?_
    rintro e w2 ⟨rfl, hB⟩
    replace HS := Lib.hid (HS.out.on hB)
    clear hB g1
    go_wp2_with fail
    refine (g2 _).mono ?_
    rintro e w3 ⟨rfl, rfl⟩
    clear g2
    go_wp2_with (refine wpList_setres rfl 24 _ _ rfl HS.out 1 (w.heap.size + 1) _ #[.int .i64 0, .int .i64 0, .slice none 0 0] rfl (by omega) w3.heap.size _ [] (OwnA.nil w3 w3.heap.size) (HS.out.lt 1 rfl) rfl rfl (by rfl) rfl (bd_one 0 0 none 0 0) ?_; intro w9 hS9 hO9; have HS9 := Lib.hid hS9; clear hS9 hO9)
    (try simp only [Exit.inBlock, Exit.then]); refine bodyPost_ret (ret_board rfl rfl HS9.out 0 rfl rfl) rfl ?_
    exact ⟨none, 0, rfl, OwnA.nil _ _, HS9.out.below⟩

  simp only [ht] at g2
  by_cases hp : t < n
  · have e : Bd.passE m n ls t = 62 := by unfold Bd.passE; rw [hb, ht, if_neg (by simp), if_pos hp]
    have e2 : Bd.pass m n ls t = ⟨0, 0, []⟩ := by unfold Bd.pass; rw [e]; rfl
    rw [e2] at hq ⊢
    rw [e]
    obtain rfl : q = 0 := hq
    clear e e2 hb h ht g3
    go_enter Try.func14, Try.ntmps14
    go_wp2_with (refine wpList_load_st rfl 24 _ rfl HS.out 1 _ _ rfl rfl _ Try.underlying24 rfl (by rfl) ?_)
    refine (hold_any m n A l c _).mono ?_
    rintro e w1 ⟨rfl, hB⟩
    have Hp1 := Lib.hid ((HS.out.on hB).lt 1 rfl)
    have Hp2 := Lib.hid ((HS.out.on hB).lt 0 rfl)
    have Hle := Lib.hid (HS.out.on hB).below.size
    replace HS := Lib.hid ((HS.out.on hB).new #[.int .i64 m, .int .i64 n, .slice A l c] 56)
    clear hB
    go_wp2_with fail
    refine (g1 _ (HS.out.fact 0 rfl)).out.mono ?_
    rintro e w2 ⟨rfl, hB⟩
    replace HS := Lib.hid (HS.out.on hB)
    clear hB g1
    go_wp2_with fail
    refine (g2 _).mono ?_
    rintro e w3 ⟨rfl, rfl⟩
    clear g2
    have s1 := HS.out.cell 0 rfl 1 rfl
    go_wp2_with (refine wpList_setres rfl 24 _ _ rfl HS.out 1 (w.heap.size + 1) _ #[.int .i64 0, .int .i64 0, .slice none 0 0] rfl (by omega) w3.heap.size _ [] (OwnA.nil w3 w3.heap.size) (HS.out.lt 1 rfl) rfl rfl (by rfl) rfl (bd_one 0 0 none 0 0) ?_; intro w9 hS9 hO9; have HS9 := Lib.hid hS9; clear hS9 hO9)
    (try simp only [Exit.inBlock, Exit.then]); refine bodyPost_ret (ret_board rfl rfl HS9.out 0 rfl rfl) rfl ?_
    exact ⟨none, 0, rfl, OwnA.nil _ _, HS9.out.below⟩

  have hE : Bd.passE m n ls t = if Bd.isB m t (Bd.passL t ls) then 0 else 1 := by unfold Bd.passE; rw [hb, ht, if_neg (by simp), if_neg hp]
  obtain ⟨C, hC⟩ : ∃ C, C = Bd.passL t ls := ⟨_, rfl⟩
  have hCl : C.length ≤ 1000 := by rw [hC]; unfold Bd.passL; rw [List.length_map, ← h.1]; exact h.2.2.2
  have g4 := fun W A2 c2 (hA : AlmsAt W W.heap.size A2 C) (h0 : A2 = none → c2 = 0) => Lib.hid (right_any m t A2 C.length c2 C W ⟨rfl, hA, h0, hCl⟩)
  rw [← hC] at hE
  simp only [← hC] at g3
  have ip : (t < n) = False := eq_false hp
  cases hr : Bd.isB m t C
  · rw [hr] at hE
    replace hE : Bd.passE m n ls t = 1 := hE
    have e2 : Bd.pass m n ls t = ⟨0, 0, []⟩ := by unfold Bd.pass; rw [hE]; rfl
    rw [e2] at hq ⊢
    rw [hE]
    simp only [hr] at g4
    obtain rfl : q = 0 := hq
    obtain ⟨qc, hqc⟩ : ∃ q, q = C.length := ⟨_, rfl⟩
    simp only [← hqc] at g4
    have Hq := Lib.hid hqc
    clear e2 hb h ht hE hC hr hp hqc hCl
    go_enter Try.func14, Try.ntmps14
    go_wp2_with (refine wpList_load_st rfl 24 _ rfl HS.out 1 _ _ rfl rfl _ Try.underlying24 rfl (by rfl) ?_)
    refine (hold_any m n A l c _).mono ?_
    rintro e w1 ⟨rfl, hB⟩
    have Hp1 := Lib.hid ((HS.out.on hB).lt 1 rfl)
    have Hp2 := Lib.hid ((HS.out.on hB).lt 0 rfl)
    have Hle := Lib.hid (HS.out.on hB).below.size
    replace HS := Lib.hid ((HS.out.on hB).new #[.int .i64 m, .int .i64 n, .slice A l c] 56)
    clear hB
    go_wp2_with fail
    refine (g1 _ (HS.out.fact 0 rfl)).out.mono ?_
    rintro e w2 ⟨rfl, hB⟩
    replace HS := Lib.hid (HS.out.on hB)
    clear hB g1
    go_wp2_with fail
    refine (g2 _).mono ?_
    rintro e w3 ⟨rfl, rfl⟩
    clear g2
    have s1 := HS.out.cell 0 rfl 1 rfl
    have s2 := HS.out.cell 0 rfl 2 rfl
    go_wp2_with fail
    refine (g3 _ (HS.out.fact 0 rfl)).out.mono ?_
    rintro e w4 ⟨v, rfl, hO, hB⟩
    obtain ⟨A2, c2, rfl, hA2, hn2, _⟩ := hO.slice
    rw [← Hq.out] at hO ⊢
    have HO := Lib.hid hO
    have Hw1 : Hid (w1.heap.size < w3.heap.size) := Lib.hid (HS.out.lt 0 rfl)
    replace HS := Lib.hid (HS.out.on hB)
    clear hB g3 s1 s2 hO hA2 hn2
    go_wp2_with (first
      | (refine wpList_setcell rfl 3 _ _ rfl HS.out (by have := Hp2.out; have := Hp1.out; simp; omega) Hle.out 1 _ _ w3.heap.size _ C HO.out Hw1.out rfl rfl rfl (by rfl) rfl ?_; intro w5 hS5 hO5; have HS5 := Lib.hid hS5; have HO5 := Lib.hid hO5; clear hS5 hO5 HS HO)
      | (refine wpList_setcell rfl 54 _ _ rfl HS5.out (by have := Hp2.out; have := Hp1.out; simp; omega) Hle.out 2 _ _ w3.heap.size _ C HO5.out Hw1.out rfl rfl rfl (by rfl) rfl ?_; intro w6 hS6 hO6; have HS6 := Lib.hid hS6; have HO6 := Lib.hid hO6; clear hS6 hO6 HS5 HO5)
      | (refine wpList_load_st rfl 56 _ rfl HS6.out 0 _ _ rfl rfl _ Try.underlying56 rfl (by rfl) ?_))
    refine (g4 _ A2 c2 HO6.out.alms.1 HO6.out.alms.2).out.mono ?_
    rintro e w7 ⟨rfl, hB⟩
    have HS := Lib.hid (HS6.out.on hB)
    have HO := Lib.hid (HO6.out.below hB)
    clear hB g4 HS6 HO6
    go_wp2_with (refine wpList_setres rfl 24 _ _ rfl HS.out 1 (w.heap.size + 1) _ #[.int .i64 0, .int .i64 0, .slice none 0 0] rfl (by omega) w7.heap.size _ [] (OwnA.nil w7 w7.heap.size) (HS.out.lt 1 rfl) rfl rfl (by rfl) rfl (bd_one 0 0 none 0 0) ?_; intro w9 hS9 hO9; have HS9 := Lib.hid hS9; clear hS9 hO9)
    (try simp only [Exit.inBlock, Exit.then]); refine bodyPost_ret (ret_board rfl rfl HS9.out 0 rfl rfl) rfl ?_
    exact ⟨none, 0, rfl, OwnA.nil _ _, HS9.out.below⟩

  · rw [hr] at hE
    replace hE : Bd.passE m n ls t = 0 := hE
    have e2 : Bd.pass m n ls t = ⟨m, t, C⟩ := by unfold Bd.pass; rw [hE, hC]; rfl
    rw [e2] at hq ⊢
    rw [hE]
    simp only [hr] at g4
    replace hq : q = C.length := hq
    simp only [← hq] at g4
    have Hq := Lib.hid hq
    clear e2 hb h ht hE hC hr hp hq hCl
    go_enter Try.func14, Try.ntmps14
    go_wp2_with (refine wpList_load_st rfl 24 _ rfl HS.out 1 _ _ rfl rfl _ Try.underlying24 rfl (by rfl) ?_)
    refine (hold_any m n A l c _).mono ?_
    rintro e w1 ⟨rfl, hB⟩
    have Hp1 := Lib.hid ((HS.out.on hB).lt 1 rfl)
    have Hp2 := Lib.hid ((HS.out.on hB).lt 0 rfl)
    have Hle := Lib.hid (HS.out.on hB).below.size
    replace HS := Lib.hid ((HS.out.on hB).new #[.int .i64 m, .int .i64 n, .slice A l c] 56)
    clear hB
    go_wp2_with fail
    refine (g1 _ (HS.out.fact 0 rfl)).out.mono ?_
    rintro e w2 ⟨rfl, hB⟩
    replace HS := Lib.hid (HS.out.on hB)
    clear hB g1
    go_wp2_with fail
    refine (g2 _).mono ?_
    rintro e w3 ⟨rfl, rfl⟩
    clear g2
    have s1 := HS.out.cell 0 rfl 1 rfl
    have s2 := HS.out.cell 0 rfl 2 rfl
    go_wp2_with fail
    refine (g3 _ (HS.out.fact 0 rfl)).out.mono ?_
    rintro e w4 ⟨v, rfl, hO, hB⟩
    obtain ⟨A2, c2, rfl, hA2, hn2, _⟩ := hO.slice
    rw [← Hq.out] at hO ⊢
    have HO := Lib.hid hO
    have Hw1 : Hid (w1.heap.size < w3.heap.size) := Lib.hid (HS.out.lt 0 rfl)
    replace HS := Lib.hid (HS.out.on hB)
    clear hB g3 s1 s2 hO hA2 hn2
    go_wp2_with (first
      | (refine wpList_setcell rfl 3 _ _ rfl HS.out (by have := Hp2.out; have := Hp1.out; simp; omega) Hle.out 1 _ _ w3.heap.size _ C HO.out Hw1.out rfl rfl rfl (by rfl) rfl ?_; intro w5 hS5 hO5; have HS5 := Lib.hid hS5; have HO5 := Lib.hid hO5; clear hS5 hO5 HS HO)
      | (refine wpList_setcell rfl 54 _ _ rfl HS5.out (by have := Hp2.out; have := Hp1.out; simp; omega) Hle.out 2 _ _ w3.heap.size _ C HO5.out Hw1.out rfl rfl rfl (by rfl) rfl ?_; intro w6 hS6 hO6; have HS6 := Lib.hid hS6; have HO6 := Lib.hid hO6; clear hS6 hO6 HS5 HO5)
      | (refine wpList_load_st rfl 56 _ rfl HS6.out 0 _ _ rfl rfl _ Try.underlying56 rfl (by rfl) ?_))
    refine (g4 _ A2 c2 HO6.out.alms.1 HO6.out.alms.2).out.mono ?_
    rintro e w7 ⟨rfl, hB⟩
    have HS := Lib.hid (HS6.out.on hB)
    have HO := Lib.hid (HO6.out.below hB)
    clear hB g4 HS6 HO6
    go_wp2_with (refine wpList_load_st rfl 56 _ rfl HS.out 0 _ _ rfl rfl _ Try.underlying56 rfl (by rfl) ?_)
    refine (board_any m t A2 q c2 _).mono ?_
    rintro e w8 ⟨rfl, hB⟩
    replace HS := Lib.hid (HS.out.on hB)
    replace HO := Lib.hid (HO.out.below hB)
    clear hB
    have Hk : Hid (w.heap.size + 1 < w3.heap.size) := Lib.hid (by have := Hp2.out; have := Hw1.out; omega)
    have Hl3 : Hid (w.heap.size ≤ w3.heap.size) := Lib.hid (by have := Hk.out; omega)
    go_wp2_with (refine wpList_setres rfl 24 _ _ rfl HS.out 1 (w.heap.size + 1) _ #[.int .i64 m, .int .i64 t, .slice A2 q c2] rfl (by omega) w3.heap.size _ C HO.out Hk.out rfl rfl (by rfl) rfl (bd_one m t A2 q c2) ?_; intro w9 hS9 hO9; have HS9 := Lib.hid hS9; have HO9 := Lib.hid (hO9.lower Hl3.out); clear hS9 hO9)
    (try simp only [Exit.inBlock, Exit.then]); refine bodyPost_ret (ret_board rfl rfl HS9.out 0 rfl rfl) rfl ?_
    exact ⟨A2, c2, rfl, HO9.out, HS9.out.below⟩
end Go.Proofs.Ythlojadkgpmnmaa

namespace Go.Proofs.Ythlojadkgpmnmaa
open Go.RowKit

theorem boardK : BoardK where
  new := kk_new
  is := kk_is
  get := kk_get
  put := kk_put
  drop := kk_drop
  pass := kk_pass
  gather := kk_of
  opn := AOpen_any
end Go.Proofs.Ythlojadkgpmnmaa
