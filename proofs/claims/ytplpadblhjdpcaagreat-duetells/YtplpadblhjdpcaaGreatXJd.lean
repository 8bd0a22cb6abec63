/-
  Layer 8 (board): slices.Insert of one alarm into a row of one's own.
  Layer 8 (board): the walks of without and passed.
  Layer 8 (board): the walk of with.
  Layer 8 (board): the walks of Put, Drop, Pass.
-/
import Derived.Test.YtplpadblhjdpcaaGreatXJc
import Derived.Laws.CopyOwn
import Derived.Lib.AppendZerosOnto
import Derived.Lib.Overlaps
import Derived.Laws.NewBlocks
import Derived.Deep.RegionLaw
import Derived.Laws.Externs
import Derived.Test.YtplpadblhjdpcaaGreatXJb
import Derived.Deep.RegionHeld3
namespace Go.Proofs.YtplpadblhjdpcaaGreat
set_option maxRecDepth 10000
set_option maxRecDepth 10000
open Go.RowKit

theorem run_copy_row6 (w : World) (dT sT ty : TypeId) (g o dLen dCap : Nat) (a : Addr) (sLen sCap : Nat) (cur : Array Value) (t : TypeId) (cs : List Value) (hu : Tryz.prog.underlying dT = some (.slice 38))
    (hg : w.heap[g]? = some (.cells cur t (0, 0))) (k : Nat) (hk : Nat.min sLen dLen = k) (hn : cs.length = k * 6) (hsrc : ∀ j v, cs[j]? = some v → w.cell? (a.add j) = some v) (hfit : o + cs.length ≤ cur.size) (h1 : ∀ v ∈ cs, v.oneCell' = true) :
    (Builtin.copy_ #[dT, sT] ty #[.slice (some ⟨g, o, none⟩) dLen dCap, .slice (some a) sLen sCap]).run Tryz.prog w = .ok (goInt k) (w.setRow g (splice cur.toList o cs).toArray) := by
  have hl := run_loadCells_list (P := Tryz.prog) w a cs hsrc
  have hst := run_storeCells_at Tryz.prog g o t cs 0 cur w hg (by simpa using hfit) h1
  obtain ⟨i0, hi, hz0, hz1, hz2⟩ := info_parts Tryz.infoAl
  simp only [Nat.add_zero, List.append_assoc] at hst
  unfold splice
  simp [Builtin.copy_, run_underlying hu, Builtin.lenOf, Builtin.firstCells, sizeOf, typeInfo, hi, hz1, hk, ← hn, hl, hst]

theorem wpList_copy6 {ops : Array Oper} {rest : List Oper} {o : Oper} {a : Act} {w : World} {Q : Exit → Act → World → Prop} (hgd : o.guard = none) (d s : Operand) (dT sT : TypeId)
    (ho : o.op = .call { callee := .builtin .copy, args := #[d, s], argTypes := #[dT, sT] }) (v u : Value) (hd : a.eval d = v) (hs : a.eval s = u) {v' : Value} {w' : World}
    (hr : ∀ ty, (Builtin.copy_ #[dT, sT] ty #[v, u]).run Tryz.prog w = .ok v' w') (h : wpList Tryz.prog ops Q rest (a.put o.dst v') w') : wpList Tryz.prog ops Q (o :: rest) a w := by
  refine wpList_plain hgd fun K hK => ?_
  unfold Oper.wp
  simp only [execOp, ho, resolve, invoke, builtin, Sem.run_bind, Sem.run_pure, Result.andThen_ok, List.map_toArray, List.map_cons, List.map_nil, hd, hs, hr]
  exact hK _ _ h
theorem step_copy6 {ops : Array Oper} {o : Oper} {a : Act} {w : World} {K : Act → World → Prop} {Q : Exit → Act → World → Prop} {E : Prop} (hg : o.guard = none) (d x : Operand) (dT sT : TypeId)
    (hop : o.op = Op.call { callee := Callee.builtin Builtin.copy, args := #[d, x], argTypes := #[dT, sT] }) (v u : Value) (hd : a.eval d = v) (hx : a.eval x = u) {v' : Value} {w' : World}
    (hr : ∀ ty, (Builtin.copy_ #[dT, sT] ty #[v, u]).run Tryz.prog w = .ok v' w') (hK : K (a.put o.dst v') w') : if Region.wanted o (yielded ops a.tmps) = true then Oper.wp Tryz.prog o a w K Q else E := by
  rw [if_pos (by simp [Region.wanted, hg])]
  unfold Oper.wp
  simp only [execOp, hop, resolve, invoke, builtin, Sem.run_bind, Sem.run_pure, Result.andThen_ok, List.map_toArray, List.map_cons, List.map_nil, hd, hx, hr]
  exact hK

/-- Cells laid into a row: what is from place k on goes six cells on, and six others come between. -/
theorem ins_cells (F V R : List Value) (k : Nat) (hk : k ≤ F.length) (hV : V.length = 6) (hR : F.length + 6 ≤ R.length) (h : R.take k = F.take k) :
    (splice (splice R (k + 6) (F.drop k)) k V).take (F.length + 6) = F.take k ++ (V ++ F.drop k) := by
  unfold splice
  have e1 : (R.take (k + 6) ++ (F.drop k ++ R.drop (k + 6 + (F.drop k).length))).take k = F.take k := by
    rw [List.take_append_of_le_length (by rw [List.length_take]; omega), List.take_take, Nat.min_eq_left (by omega), h]
  have e2 : (R.take (k + 6) ++ (F.drop k ++ R.drop (k + 6 + (F.drop k).length))).drop (k + V.length) = F.drop k ++ R.drop (k + 6 + (F.drop k).length) := by
    rw [hV]
    exact List.drop_left' (by rw [List.length_take]; omega)
  rw [e1, e2, ← List.append_assoc, ← List.append_assoc]
  rw [List.take_append_of_le_length (by simp only [List.length_append, List.length_take, List.length_drop, hV]; omega)]
  rw [List.take_of_length_le (by simp only [List.length_append, List.length_take, List.length_drop, hV]; omega), List.append_assoc]
theorem ins_cells2 (F V R : List Value) (k : Nat) (hk : k ≤ F.length) (hV : V.length = 6) (h : R.take k = F.take k) :
    (splice (splice R k V) (k + 6) (F.drop k)).take (F.length + 6) = F.take k ++ (V ++ F.drop k) := by
  have hl : (F.take k).length = k := by rw [List.length_take]; omega
  have e0 : splice R k V = (F.take k ++ V) ++ R.drop (k + 6) := by unfold splice; rw [h, hV, List.append_assoc]
  rw [e0]
  unfold splice
  have e1 : ((F.take k ++ V) ++ R.drop (k + 6)).take (k + 6) = F.take k ++ V := List.take_left' (by rw [List.length_append, hl, hV])
  rw [e1, ← List.append_assoc]
  rw [List.take_append_of_le_length (by simp only [List.length_append, hl, List.length_drop, hV]; omega)]
  rw [List.take_of_length_le (by simp only [List.length_append, hl, List.length_drop, hV]; omega), List.append_assoc]

set_option maxRecDepth 10000 in
set_option maxHeartbeats 2000000 in
theorem insert_shift (g cap n i vb : Nat) (cur : Array Value) (F V : List Value) (w : World) (hin : i < n) (hroom : n + 1 ≤ cap) (hcm : cap ≤ 9223372036854775807) (hg : w.heap[g]? = some (.cells cur 38 (0, 0))) (hcs : cur.size = cap * 6)
    (hF : F.length = n * 6) (hcF : cur.toList.take (n * 6) = F) (hF1 : ∀ v ∈ F, v.oneCell' = true) (hne : vb ≠ g) (hv : w.heap[vb]? = some (.cells V.toArray 38 (0, 0))) (hV : V.length = 6) (hV1 : ∀ v ∈ V, v.oneCell' = true) :
    Calls Tryz.prog 79 #[.slice (some ⟨g, 0, none⟩) n cap, .int .i64 (i : Int), .slice (some ⟨vb, 0, none⟩) 1 1] w fun e w' =>
      e = .returned (.slice (some ⟨g, 0, none⟩) (n + 1) cap) ∧ w' = (w.drew.setRow g (splice cur.toList ((i + 1) * 6) (F.drop (i * 6))).toArray).setRow g (splice (splice cur.toList ((i + 1) * 6) (F.drop (i * 6))) (i * 6) V).toArray := by
  have hz2 : ((i : Int) = (n : Int)) = False := eq_false (by omega)
  have hw0 : IntKind.i64.wrap ((n : Int) + 1) = (n : Int) + 1 := by rw [IntKind.wrap_i64]; omega
  have hw1 : IntKind.i64.wrap ((i : Int) + 1) = (i : Int) + 1 := by rw [IntKind.wrap_i64]; omega
  have hw2 : wrap64 ((n : Int) + 1) = (n : Int) + 1 := by unfold wrap64; omega
  have hw3 : wrap64 ((i : Int) + 1) = (i : Int) + 1 := by unfold wrap64; omega
  have hb0 : ((cap : Int) < (n : Int) + 1) = False := eq_false (by omega)
  have hb1 : (0 : Int) ≤ (i : Int) + 1 := by omega
  have hb1' : (0 : Int) ≤ (n : Int) + 1 := by omega
  have hb2 : (i : Int) ≤ (n : Int) := by omega
  have hb3 : (i : Int) ≤ (n : Int) + 1 := by omega
  have hb4 : (i : Int) + 1 ≤ (n : Int) + 1 := by omega
  have hb5 : (n : Int) + 1 ≤ (cap : Int) := by omega
  have htn : ((i : Int) + 1).toNat = i + 1 := by omega
  have htm : ((n : Int) + 1).toNat = n + 1 := by omega
  have hn1 : ¬ (cap = i + 1) := by omega
  have hn2 : ¬ (cap = i) := by omega
  have hn3 : ¬ (cap = 0) := by omega
  obtain ⟨i0, hi0, hz0, hz1, hz6⟩ := info_parts Tryz.infoAl
  have hov : ∀ lb cb, (callFunc 92 #[.slice (some ⟨vb, 0, none⟩) 1 1, .slice (some ⟨g, (i + 1) * 6, none⟩) lb cb]).run Tryz.prog w = .ok (.value (.bool false)) w := fun lb cb => by
    rw [run_callFunc_extern Tryz.func92 (by kernel_rfl) (by kernel_rfl) (by kernel_rfl) (e := Extern.SlicesOverlaps.overlaps #[22, 22] #[4]) (by kernel_rfl),
      Lib.run_overlaps_apart w 22 4 38 Tryz.underlying22 6 (fun W => by simp [sizeOf, typeInfo, hi0, hz1]) ⟨vb, 0, none⟩ ⟨g, (i + 1) * 6, none⟩ 1 1 lb cb hne 38 38 6 cur.size (by simp [World.shape?, hv, hV]) (by simp [World.shape?, hg]) (by omega) (frozen_of_row w vb 0 _ _ hv) (frozen_of_row w vb 6 _ _ hv)]
    rfl
  have hdl : (F.drop (i * 6)).length = (n - i) * 6 := by rw [List.length_drop, hF]; omega
  have hcp1 : ∀ dc sc ty, (Builtin.copy_ #[73, 73] ty #[.slice (some ⟨g, (i + 1) * 6, none⟩) (n - i) dc, .slice (some ⟨g, i * 6, none⟩) (n + 1 - i) sc]).run Tryz.prog w.drew = .ok (goInt ((n - i : Nat) : Int)) (w.drew.setRow g (splice cur.toList ((i + 1) * 6) (F.drop (i * 6))).toArray) := fun dc sc ty => by
    refine run_copy_row6 w.drew _ _ ty g ((i + 1) * 6) (n - i) dc ⟨g, i * 6, none⟩ (n + 1 - i) sc cur 38 (F.drop (i * 6)) Tryz.underlying73 hg (n - i) (Nat.min_eq_right (by omega)) hdl (fun j v hj => ?_) (by rw [hdl, hcs]; omega) (fun v hv => hF1 v (List.mem_of_mem_drop hv))
    rw [Addr.add_lit]
    rw [List.getElem?_drop, ← hcF, List.getElem?_take] at hj
    split at hj
    · have hgd : w.drew.heap[g]? = some (.cells cur 38 (0, 0)) := hg
      have e : w.drew.cell? ⟨g, i * 6 + j, none⟩ = cur[i * 6 + j]? := cell_of_row w.drew g (i * 6 + j) cur _ (0, 0) hgd
      rw [e, ← Array.getElem?_toList]
      exact hj
    · cases hj
  obtain ⟨W1, hW1⟩ : ∃ W1, W1 = w.drew.setRow g (splice cur.toList ((i + 1) * 6) (F.drop (i * 6))).toArray := ⟨_, rfl⟩
  have hsz : (splice cur.toList ((i + 1) * 6) (F.drop (i * 6))).length = cap * 6 := by rw [length_splice _ _ _ (by rw [hdl, Array.length_toList, hcs]; omega), Array.length_toList, hcs]
  have hg1 : W1.heap[g]? = some (.cells (splice cur.toList ((i + 1) * 6) (F.drop (i * 6))).toArray 38 (0, 0)) := by rw [hW1]; exact setRow_heap _ _ _ _ _ _ hg
  have hv1 : W1.heap[vb]? = some (.cells V.toArray 38 (0, 0)) := by rw [hW1, setRow_other _ _ _ _ hne]; exact hv
  have hcp2 : ∀ dc ty, (Builtin.copy_ #[73, 22] ty #[.slice (some ⟨g, i * 6, none⟩) (n + 1 - i) dc, .slice (some ⟨vb, 0, none⟩) 1 1]).run Tryz.prog W1 = .ok (goInt 1) (W1.setRow g (splice (splice cur.toList ((i + 1) * 6) (F.drop (i * 6))) (i * 6) V).toArray) := fun dc ty => by
    refine run_copy_row6 W1 _ _ ty g (i * 6) (n + 1 - i) dc ⟨vb, 0, none⟩ 1 1 _ 38 V Tryz.underlying73 hg1 1 (Nat.min_eq_left (by omega)) hV (fun j v hj => ?_) (by rw [List.size_toArray, hsz, hV]; omega) hV1
    rw [Addr.add_lit, Nat.zero_add]
    rw [cell_of_row W1 vb j _ _ (0, 0) hv1]
    simpa using hj
  rw [← hW1] at hcp1 ⊢
  clear hg hv hW1 hcF hF1 hV1 hdl hsz hg1 hv1 hz0 hz1 hz6 hi0
  go_enter Tryz.func79, Tryz.ntmps79
  go_wp2_with (simp only [hov])
  go_region_law (refine step_copy6 rfl _ _ 73 73 rfl _ _ (by simp [Act.eval, Act.put]) (by simp [Act.eval, Act.put]) (hcp1 _ _) ?_)
  go_wp2_with (at_builtin; refine wpList_copy6 rfl _ _ 73 22 rfl _ _ rfl rfl (hcp2 _) ?_)
  go_ret
  exact ⟨rfl, rfl⟩

def InsG (w : World) (n i : Nat) (F V : List Value) (e : Ending) (w' : World) : Prop :=
  ∃ G ROW, e = .returned (.slice (some ⟨w.heap.size, 0, none⟩) (n + 1) G) ∧ n + 1 ≤ G ∧ G ≤ maxLen ∧ ROW.length = G * 6 ∧ ROW.take (i * 6) = F.take (i * 6) ∧
    w' = ((w.drew.alloc (.cells ROW.toArray 38)).setRow w.heap.size (splice ROW (i * 6) V).toArray).drew.setRow w.heap.size (splice (splice ROW (i * 6) V) ((i + 1) * 6) (F.drop (i * 6))).toArray

set_option maxRecDepth 10000 in
set_option maxHeartbeats 2000000 in
theorem insert_grow (g cap n i vb : Nat) (cur : Array Value) (F V : List Value) (w : World) (hin : i < n) (hnc : n ≤ cap) (hroom : cap < n + 1) (hn1000 : n ≤ 1000) (hg : w.heap[g]? = some (.cells cur 38 (0, 0)))
    (hF : F.length = n * 6) (hcF : cur.toList.take (n * 6) = F) (hF1 : ∀ v ∈ F, v.oneCell' = true) (hv : w.heap[vb]? = some (.cells V.toArray 38 (0, 0))) (hV : V.length = 6) (hV1 : ∀ v ∈ V, v.oneCell' = true) :
    Calls Tryz.prog 79 #[.slice (some ⟨g, 0, none⟩) n cap, .int .i64 (i : Int), .slice (some ⟨vb, 0, none⟩) 1 1] w (InsG w n i F V) := by
  have hz2 : ((i : Int) = (n : Int)) = False := eq_false (by omega)
  have hw0 : IntKind.i64.wrap ((n : Int) + 1) = (n : Int) + 1 := by rw [IntKind.wrap_i64]; omega
  have hw1 : IntKind.i64.wrap ((i : Int) + 1) = (i : Int) + 1 := by rw [IntKind.wrap_i64]; omega
  have hw2 : wrap64 ((n : Int) + 1) = (n : Int) + 1 := by unfold wrap64; omega
  have hw3 : wrap64 ((i : Int) + 1) = (i : Int) + 1 := by unfold wrap64; omega
  have hw4 : IntKind.i64.wrap ((n : Int) + 1 - (i : Int)) = (n : Int) + 1 - (i : Int) := by rw [IntKind.wrap_i64]; omega
  have hw5 : wrap64 ((n : Int) + 1 - (i : Int)) = (n : Int) + 1 - (i : Int) := by unfold wrap64; omega
  have hb0 : (cap : Int) < (n : Int) + 1 := by omega
  have hb1 : (0 : Int) ≤ (i : Int) + 1 := by omega
  have hb2 : (i : Int) ≤ (n : Int) := by omega
  have hb3 : (i : Int) ≤ (n : Int) + 1 := by omega
  have hb4 : (i : Int) + 1 ≤ (n : Int) + 1 := by omega
  have hb6 : (i : Int) ≤ (cap : Int) := by omega
  have htn : ((i : Int) + 1).toNat = i + 1 := by omega
  have hn2 : ¬ (cap = i) := by omega
  have hn3 : ¬ (cap = 0) := by omega
  obtain ⟨i0, hi0, hz0, hz1, hz6⟩ := info_parts Tryz.infoAl
  have hold : (Builtin.firstCells i0.size i (.slice (some ⟨g, 0, none⟩) i cap)).run Tryz.prog w.drew = .ok (F.take (i * 6)).toArray w.drew := by
    rw [hz1]
    refine run_firstCells_some w.drew 6 i ⟨g, 0, none⟩ i cap (F.take (i * 6)) (by rw [List.length_take, hF]; omega) (fun j v hj => ?_)
    rw [Addr.add_lit, Nat.zero_add]
    have hgd : w.drew.heap[g]? = some (.cells cur 38 (0, 0)) := hg
    rw [cell_of_row w.drew g j cur _ (0, 0) hgd]
    rw [List.getElem?_take] at hj
    split at hj
    · rw [← hcF, List.getElem?_take] at hj
      split at hj
      · rw [← Array.getElem?_toList]; exact hj
      · cases hj
    · cases hj
  have hik : i + (n + 1 - i) = n + 1 := by omega
  have hkk : (n : Int) + 1 - (i : Int) = ((n + 1 - i : Nat) : Int) := by omega
  obtain ⟨G, hG⟩ : ∃ G, G = grownCap w (n + 1) cap 38 := ⟨_, rfl⟩
  obtain ⟨ROW, hROW⟩ : ∃ ROW : List Value, ROW = ((F.take (i * 6)).toArray ++ Builtin.zeroCells (Value.agg #[.int .i64 0, .int .i64 0, .int .i64 0, .int .i64 0, .int .i64 0, .int .i64 0]).cells (n + 1 - i) ++ Builtin.zeroCells (Value.agg #[.int .i64 0, .int .i64 0, .int .i64 0, .int .i64 0, .int .i64 0, .int .i64 0]).cells (G - (n + 1))).toList := ⟨_, rfl⟩
  have hrz : ∀ ty, (Builtin.append_ #[73, 3] ty #[.slice (some ⟨g, 0, none⟩) i cap, .int .i64 ((n : Int) + 1 - (i : Int))]).run Tryz.prog w = .ok (.slice (some ⟨w.heap.size, 0, none⟩) (n + 1) G) (w.drew.alloc (.cells ROW.toArray 38)) := fun ty => by
    have h := Lib.run_append_grow_zeros w 73 3 ty 38 i0 _ .i64 .i64 Tryz.underlying73 Tryz.underlying3 hi0 hz0 (some ⟨g, 0, none⟩) i cap (F.take (i * 6)) hold (n + 1 - i) (by omega) (by rw [hz1]; omega) (by omega) (by omega) (by rw [hz6]; omega) (by rw [hz6, hik]; exact growslice_fits hroom (by omega))
    rw [hik, ← hG] at h
    rw [hkk, hROW, Array.toArray_toList]
    exact h
  have hGn : n + 1 ≤ G := by rw [hG]; exact grownCap_ge w _ _ _
  have hGm : G ≤ maxLen := by rw [hG]; exact grownCap_le_maxLen w (n + 1) cap _ (by unfold maxLen; omega)
  have hG63 : G ≤ 9223372036854775807 := by unfold maxLen at hGm; omega
  have hRl : ROW.length = G * 6 := by
    rw [hROW]
    simp only [Array.toList_append, List.length_append, Array.length_toList, size_zeroCells, List.length_take, hF]
    have e6 : (Value.agg #[.int .i64 0, .int .i64 0, .int .i64 0, .int .i64 0, .int .i64 0, .int .i64 0]).cells.size = 6 := rfl
    rw [e6]
    omega
  have hRt : ROW.take (i * 6) = F.take (i * 6) := by
    rw [hROW]
    simp only [Array.toList_append, List.append_assoc]
    exact List.take_left' (by rw [List.length_take, hF]; omega)
  obtain ⟨W1, hW1⟩ : ∃ W1, W1 = w.drew.alloc (.cells ROW.toArray 38) := ⟨_, rfl⟩
  obtain ⟨N, hN⟩ : ∃ N, N = w.heap.size := ⟨_, rfl⟩
  rw [← hW1, ← hN] at hrz
  have HW1 := Lib.hid hW1
  have HN := Lib.hid hN
  have hgl : g < w.heap.size := (Array.getElem?_eq_some_iff.1 hg).1
  have hvl : vb < w.heap.size := (Array.getElem?_eq_some_iff.1 hv).1
  have hg1 : W1.heap[N]? = some (.cells ROW.toArray 38 (0, 0)) := by rw [hW1, hN]; exact heap_alloc_new w.drew _
  have ho1 : W1.heap[g]? = some (.cells cur 38 (0, 0)) := by rw [hW1, heap_alloc_old w.drew _ hgl]; exact hg
  have hv1 : W1.heap[vb]? = some (.cells V.toArray 38 (0, 0)) := by rw [hW1, heap_alloc_old w.drew _ hvl]; exact hv
  have hcp2 : ∀ dc ty, (Builtin.copy_ #[73, 22] ty #[.slice (some ⟨N, i * 6, none⟩) (n + 1 - i) dc, .slice (some ⟨vb, 0, none⟩) 1 1]).run Tryz.prog W1 = .ok (goInt 1) (W1.setRow N (splice ROW (i * 6) V).toArray) := fun dc ty => by
    refine run_copy_row6 W1 _ _ ty N (i * 6) (n + 1 - i) dc ⟨vb, 0, none⟩ 1 1 _ 38 V Tryz.underlying73 hg1 1 (Nat.min_eq_left (by omega)) hV (fun j v hj => ?_) (by rw [List.size_toArray, hRl, hV]; omega) hV1
    rw [Addr.add_lit, Nat.zero_add]
    rw [cell_of_row W1 vb j _ _ (0, 0) hv1]
    simpa using hj
  obtain ⟨W2, hW2⟩ : ∃ W2, W2 = W1.setRow N (splice ROW (i * 6) V).toArray := ⟨_, rfl⟩
  rw [← hW2] at hcp2
  have HW2 := Lib.hid hW2
  have hg2 : W2.drew.heap[N]? = some (.cells (splice ROW (i * 6) V).toArray 38 (0, 0)) := by rw [hW2]; exact setRow_heap _ _ _ _ _ _ hg1
  have ho2 : W2.drew.heap[g]? = some (.cells cur 38 (0, 0)) := by
    have e : W2.heap[g]? = W1.heap[g]? := by rw [hW2]; exact setRow_other _ _ _ _ (by omega)
    exact e.trans ho1
  have hs2 : (splice ROW (i * 6) V).length = G * 6 := by rw [length_splice _ _ _ (by rw [hRl, hV]; omega), hRl]
  have hdl : (F.drop (i * 6)).length = (n - i) * 6 := by rw [List.length_drop, hF]; omega
  have hcp1 : ∀ dc sc ty, (Builtin.copy_ #[73, 73] ty #[.slice (some ⟨N, (i + 1) * 6, none⟩) (n - i) dc, .slice (some ⟨g, i * 6, none⟩) (n - i) sc]).run Tryz.prog W2.drew = .ok (goInt ((n - i : Nat) : Int)) (W2.drew.setRow N (splice (splice ROW (i * 6) V) ((i + 1) * 6) (F.drop (i * 6))).toArray) := fun dc sc ty => by
    refine run_copy_row6 W2.drew _ _ ty N ((i + 1) * 6) (n - i) dc ⟨g, i * 6, none⟩ (n - i) sc _ 38 (F.drop (i * 6)) Tryz.underlying73 hg2 (n - i) (Nat.min_self _) hdl (fun j v hj => ?_) (by rw [List.size_toArray, hs2, hdl]; omega) (fun v hv => hF1 v (List.mem_of_mem_drop hv))
    rw [Addr.add_lit]
    rw [List.getElem?_drop, ← hcF, List.getElem?_take] at hj
    split at hj
    · have e : W2.drew.cell? ⟨g, i * 6 + j, none⟩ = cur[i * 6 + j]? := cell_of_row W2.drew g (i * 6 + j) cur _ (0, 0) ho2
      rw [e, ← Array.getElem?_toList]
      exact hj
    · cases hj
  have hm1 : ¬ (G = i) := by omega
  have hm2 : ¬ (G = i + 1) := by omega
  have HE := Lib.hid (And.intro hGn (And.intro hGm (And.intro hRl hRt)))
  clear hg hv hW1 hcF hF1 hV1 hdl hg1 hv1 hz0 hz1 hz6 hi0 hold hik hkk hG hROW hGn hGm hRl hRt hN hgl hvl ho1 hW2 hg2 ho2 hs2 hF hV
  go_enter Tryz.func79, Tryz.ntmps79
  go_wp2_with (first
    | (at_builtin; refine Lib.wpList_append_run _ rfl _ _ _ _ rfl _ _ rfl rfl _ _ (hrz _) ?_)
    | (at_builtin; refine wpList_copy6 rfl _ _ 73 22 rfl _ _ rfl rfl (hcp2 _) ?_))
  go_region_law (refine step_copy6 rfl _ _ 73 73 rfl _ _ (by simp [Act.eval, Act.put]) (by simp [Act.eval, Act.put]) (hcp1 _ _) ?_)
  go_wp2
  go_ret
  exact ⟨G, ROW, by rw [← HN.out]; rfl, HE.out.1, HE.out.2.1, HE.out.2.2.1, HE.out.2.2.2, by rw [← HN.out, ← HW1.out, ← HW2.out]⟩

/-- What an insertion ends with. -/
def InsA (w : World) (base : Nat) (row : Option Nat) (ls : List Alm) (e : Ending) (w' : World) : Prop := ∃ v, e = .returned v ∧ OwnA w' base v ls ∧ w.grownBy w' row
theorem run_append_two (w : World) (ty : TypeId) (A : Option Addr) (n c : Nat) (u : Value) : (Builtin.append_ #[73, 22] ty #[.slice A n c, u]).run Tryz.prog w = (Builtin.append_ #[73, 73] ty #[.slice A n c, u]).run Tryz.prog w := by
  obtain ⟨i0, hi, hz0, hz1, hz2⟩ := info_parts Tryz.infoAl
  simp [Builtin.append_, run_underlying Tryz.underlying73, run_underlying Tryz.underlying22, sizeOf, typeInfo, hi]
theorem grown_trans {a b c : World} {r : Option Nat} (h : a.grownBy b r) (k : b.grownBy c r) : a.grownBy c r :=
  ⟨k.os.trans h.os, k.tape.trans h.tape, k.output.trans h.output, Nat.le_trans h.size k.size, fun j hj hne => (k.block j (Nat.lt_of_lt_of_le hj h.size) hne).trans (h.block j hj hne)⟩
theorem flat6_take (ls : List Alm) (i : Nat) (hi : i ≤ ls.length) : flat6 (ls.take i) = (flat6 ls).take (i * 6) := by
  have e := flat6_app (ls.take i) (ls.drop i)
  rw [List.take_append_drop] at e
  rw [e, List.take_left' (by rw [flat6_len, List.length_take]; omega)]
theorem flat6_drop (ls : List Alm) (i : Nat) (hi : i ≤ ls.length) : flat6 (ls.drop i) = (flat6 ls).drop (i * 6) := by
  have e := flat6_app (ls.take i) (ls.drop i)
  rw [List.take_append_drop] at e
  rw [e, List.drop_left' (by rw [flat6_len, List.length_take]; omega)]
theorem flat6_ins (ls : List Alm) (i : Nat) (hi : i ≤ ls.length) (x : Alm) : flat6 (ls.take i ++ x :: ls.drop i) = (flat6 ls).take (i * 6) ++ (flat6 [x] ++ (flat6 ls).drop (i * 6)) := by
  rw [flat6_app, ← List.singleton_append, flat6_app, flat6_take ls i hi, flat6_drop ls i hi]

set_option maxRecDepth 10000 in
set_option maxHeartbeats 2000000 in
theorem insert_end (base : Nat) (v : Value) (ls : List Alm) (n : Nat) (hn : n = ls.length) (x : Alm) (vb : Nat) (w : World) (hown : OwnA w base v ls) (hl : ls.length ≤ 1000) (hb : base ≤ w.heap.size) (hx : w.heap[vb]? = some (.cells (sixV x) 38 (0, 0))) :
    Calls Tryz.prog 79 #[v, .int .i64 (n : Int), .slice (some ⟨vb, 0, none⟩) 1 1] w (InsA w base v.ownBlock (ls ++ [x])) := by
  obtain ⟨i0, hi, hz0, hz1, hz2⟩ := info_parts Tryz.infoAl
  have hcell : ∀ j u, (flat6 [x])[j]? = some u → w.cell? ((⟨vb, 0, none⟩ : Addr).add j) = some u := fun j u hj => by
    have hx' : w.heap[vb]? = some (.cells (flat6 [x]).toArray 38 (0, 0)) := hx
    rw [Addr.add_lit, Nat.zero_add, cell_of_row w vb j _ _ (0, 0) hx']
    simpa using hj
  obtain ⟨v', w', hr, h2, h3, _⟩ := run_append_own (P := Tryz.prog) w base 73 73 38 i0 _ 6 48 Tryz.underlying73 hi hz0 hz1 hz2 rfl (by decide) v _ _ hown ⟨vb, 0, none⟩ 1 1 (flat6 [x]) (flat6_len [x]) hcell (flat6_one [x]) (by unfold maxLen; omega) (by omega) hb
  have hrun : ∀ ty, (Builtin.append_ #[73, 22] ty #[v, .slice (some ⟨vb, 0, none⟩) 1 1]).run Tryz.prog w = .ok v' w' := fun ty => by
    obtain ⟨A, c, rfl, _⟩ := hown.slice
    exact (run_append_two w ty _ _ _ _).trans hr
  have HE : Hid (OwnA w' base v' (ls ++ [x]) ∧ w.grownBy w' v.ownBlock) := Lib.hid ⟨by unfold OwnA; rw [List.length_append, flat6_app]; exact h2, h3⟩
  have hn2 : (n : Int) ≤ (n : Int) := Int.le_refl _
  rcases hown.2 with ⟨rfl, h0⟩ | ⟨g, cap, cur, rfl, hbg, hg, hnc, hcm, hcs, htake⟩
  · obtain rfl : n = 0 := hn.trans h0
    clear hr h2 h3 hcell hx hz0 hz1 hz2 hi h0 hn hl hb hown
    go_enter Tryz.func79, Tryz.ntmps79
    go_wp2_with (at_builtin; refine Lib.wpList_append_run _ rfl _ _ _ _ rfl _ _ rfl rfl _ _ (hrun _) ?_)
    go_ret
    exact ⟨v', rfl, HE.out.1, HE.out.2⟩
  · rw [← hn] at hrun ⊢
    clear hr h2 h3 hcell hx hz0 hz1 hz2 hi hn hl hb hown hg hnc hcm hcs htake
    go_enter Tryz.func79, Tryz.ntmps79
    go_wp2_with (at_builtin; refine Lib.wpList_append_run _ rfl _ _ _ _ rfl _ _ rfl rfl _ _ (hrun _) ?_)
    all_goals
      go_ret
      exact ⟨v', rfl, HE.out.1, HE.out.2⟩

theorem insert_any (base : Nat) (v : Value) (ls : List Alm) (i : Nat) (x : Alm) (vb : Nat) (w : World) (hown : OwnA w base v ls) (hi : i ≤ ls.length) (hl : ls.length ≤ 1000) (hb : base ≤ w.heap.size) (hx : w.heap[vb]? = some (.cells (sixV x) 38 (0, 0))) (hvb : v.ownBlock ≠ some vb) :
    Calls Tryz.prog 79 #[v, .int .i64 (i : Int), .slice (some ⟨vb, 0, none⟩) 1 1] w (InsA w base v.ownBlock (ls.take i ++ x :: ls.drop i)) := by
  rcases Nat.lt_or_ge i ls.length with hlt | hge
  · rcases hown.2 with ⟨rfl, h0⟩ | ⟨g, cap, cur, rfl, hbg, hg, hnc, hcm, hcs, htake⟩
    · omega
    · have hne : vb ≠ g := fun e => hvb (by rw [e]; rfl)
      have hll : (ls.take i ++ x :: ls.drop i).length = ls.length + 1 := by simp; omega
      have hflat := flat6_ins ls i hi x
      have hv : w.heap[vb]? = some (.cells (flat6 [x]).toArray 38 (0, 0)) := hx
      have e6 : i * 6 + 6 = (i + 1) * 6 := by omega
      have hcl : cur.toList.length = cap * 6 := by rw [Array.length_toList, hcs]
      rcases Nat.lt_or_ge cap (ls.length + 1) with hc | hc
      · refine (insert_grow g cap ls.length i vb cur (flat6 ls) (flat6 [x]) w hlt hnc hc hl hg (flat6_len ls) htake (flat6_one ls) hv (flat6_len [x]) (flat6_one [x])).mono ?_
        rintro e w' ⟨G, ROW, rfl, h1, h2, h3, h4, rfl⟩
        refine ⟨_, rfl, ?_, ?_⟩
        · refine ⟨by rw [flat6_len], .inr ⟨w.heap.size, G, (splice (splice ROW (i * 6) (flat6 [x])) ((i + 1) * 6) ((flat6 ls).drop (i * 6))).toArray, by rw [hll], hb, ?_, by rw [hll]; exact h1, h2, ?_, ?_⟩⟩
          · exact setRow_heap _ _ _ _ _ _ (setRow_heap (w.drew.alloc (.cells ROW.toArray 38)) w.heap.size _ (splice ROW (i * 6) (flat6 [x])).toArray _ _ (heap_alloc_new w.drew (.cells ROW.toArray 38)))
          · have hs1 : (splice ROW (i * 6) (flat6 [x])).length = G * 6 := by rw [length_splice _ _ _ (by rw [flat6_len, h3]; simp; omega), h3]
            rw [List.size_toArray, length_splice _ _ _ (by rw [hs1, List.length_drop, flat6_len]; omega), hs1]
          · have hi2 := ins_cells2 (flat6 ls) (flat6 [x]) ROW (i * 6) (by rw [flat6_len]; omega) (flat6_len [x]) h4
            rw [hll, hflat, ← hi2, e6, flat6_len, Nat.add_mul]
        · refine ⟨rfl, rfl, rfl, by simp [World.setRow], fun k hk _ => ?_⟩
          have hk2 : k ≠ w.heap.size := by omega
          have e1 := setRow_other (((w.drew.alloc (.cells ROW.toArray 38)).setRow w.heap.size (splice ROW (i * 6) (flat6 [x])).toArray).drew) w.heap.size k (splice (splice ROW (i * 6) (flat6 [x])) ((i + 1) * 6) ((flat6 ls).drop (i * 6))).toArray hk2
          have e2 := setRow_other (w.drew.alloc (.cells ROW.toArray 38)) w.heap.size k (splice ROW (i * 6) (flat6 [x])).toArray hk2
          exact e1.trans (e2.trans (heap_alloc_old w.drew _ hk))
      · have hcm2 : cap ≤ 9223372036854775807 := by unfold maxLen at hcm; omega
        refine (insert_shift g cap ls.length i vb cur (flat6 ls) (flat6 [x]) w hlt hc hcm2 hg hcs (flat6_len ls) htake (flat6_one ls) hne hv (flat6_len [x]) (flat6_one [x])).mono ?_
        rintro e w' ⟨rfl, rfl⟩
        refine ⟨_, rfl, ?_, ?_⟩
        · refine ⟨by rw [flat6_len], .inr ⟨g, cap, (splice (splice cur.toList ((i + 1) * 6) ((flat6 ls).drop (i * 6))) (i * 6) (flat6 [x])).toArray, by rw [hll], hbg, ?_, by rw [hll]; exact hc, hcm, ?_, ?_⟩⟩
          · exact setRow_heap _ _ _ _ _ _ (setRow_heap w.drew g cur (splice cur.toList ((i + 1) * 6) ((flat6 ls).drop (i * 6))).toArray _ _ hg)
          · have hs1 : (splice cur.toList ((i + 1) * 6) ((flat6 ls).drop (i * 6))).length = cap * 6 := by rw [length_splice _ _ _ (by rw [List.length_drop, flat6_len, hcl]; omega), hcl]
            rw [List.size_toArray, length_splice _ _ _ (by rw [hs1, flat6_len]; simp; omega), hs1]
          · have hi2 := ins_cells (flat6 ls) (flat6 [x]) cur.toList (i * 6) (by rw [flat6_len]; omega) (flat6_len [x]) (by rw [flat6_len, hcl]; omega) (by rw [← htake, List.take_take, Nat.min_eq_left (by omega)])
            rw [hll, hflat, ← hi2, e6, flat6_len, Nat.add_mul]
        · exact ⟨rfl, rfl, rfl, by simp [World.setRow], fun k _ hk => (setRow_other _ g k _ (fun e => hk (by rw [e]; rfl))).trans (setRow_other _ g k _ (fun e => hk (by rw [e]; rfl)))⟩
  · obtain rfl : i = ls.length := by omega
    rw [List.take_length, List.drop_length]
    exact insert_end base v ls ls.length rfl x vb w hown hl hb hx
end Go.Proofs.YtplpadblhjdpcaaGreat

namespace Go.Proofs.YtplpadblhjdpcaaGreat
set_option maxRecDepth 10000
open Go.RowKit

def WoRel (w1 : World) (l : Nat) (f : List Alm → List Alm) (ls : List Alm) (out i : Value) (wr : World) : Prop :=
  ∃ k : Nat, k ≤ l ∧ i = .int .i64 (k : Int) ∧ OwnA wr w1.heap.size out (f (ls.take k)) ∧ Below w1.heap.size w1 wr

set_option maxRecDepth 10000 in
set_option maxHeartbeats 2000000 in
theorem without_any (A : Option Addr) (l c : Nat) (ls : List Alm) (b ch : Int) (w : World) (h : Told w A l c ls) :
    Calls Tryz.prog 78 #[.slice A l c, .agg #[.int .i64 b, .int .i64 ch]] w (OwnedA w (Bd.dropL b ch ls)) := by
  obtain ⟨hl, hA, _, hf⟩ := h
  have HS := Lib.hid (((St.start w).more (rowF A ls) hA).new #[.int .i64 b, .int .i64 ch] 26)
  have HZ : Hid (w.heap.size ≤ (w.alloc (.cells #[.int .i64 b, .int .i64 ch] 26)).heap.size) := Lib.hid (by simp)
  have Hl := Lib.hid hl
  have Hf := Lib.hid hf
  clear hl hA hf
  go_enter Tryz.func78, Tryz.ntmps78
  go_wp2_with fail
  obtain ⟨w1, hw1⟩ : ∃ W, W = w.alloc (.cells #[.int .i64 b, .int .i64 ch] 26) := ⟨_, rfl⟩
  rw [← hw1] at HS HZ ⊢
  clear hw1
  obtain ⟨p1, hp1⟩ : ∃ p, p = w.heap.size := ⟨_, rfl⟩
  rw [← hp1] at HS ⊢
  clear hp1
  go_wp2_with fail
  go_loopw [5, 10] (fun out i wr => WoRel w1 l (Bd.dropL b ch) ls out i wr) (fun _ i _ => l - (intOf i).toNat)
  case atStart => exact ⟨0, Nat.zero_le _, rfl, OwnA.nil _ _, Below.refl _ _⟩
  case round =>
    obtain ⟨k, hk, rfl, hown, hBr⟩ := hrel
    have HO := Lib.hid hown
    have HB := Lib.hid hBr
    have HSo := Lib.hid (HS.out.on hBr)
    clear hown hBr
    by_cases hlt : k < l
    · have kl : k < ls.length := by rw [← Hl.out]; exact hlt
      have HA : Hid (AlmsAt wr wr.heap.size A ls) := Lib.hid (HSo.out.fact 0 rfl)
      obtain ⟨b0, o0, rfl, hb0, h6⟩ := HA.out k kl
      have Hof := Lib.hid (Bd.drop_take (b := b) (c := ch) kl)
      have Hle : Hid ((Bd.dropL b ch (ls.take k)).length ≤ 1000) := Lib.hid (by have h1 : (Bd.dropL b ch (ls.take k)).length ≤ (ls.take k).length := List.length_filter_le _ _; have := Hf.out; have := Hl.out; rw [List.length_take] at h1; omega)
      obtain ⟨x, hx⟩ : ∃ x, x = ls[k] := ⟨_, rfl⟩
      rw [← hx] at h6 Hof
      clear hx
      obtain ⟨x0, x1, x2, x3, x4, x5⟩ := x
      have d0 := h6.c0
      have d1 := h6.c1
      have d2 := h6.c2
      have d3 := h6.c3
      have d4 := h6.c4
      have d5 := h6.c5
      simp only at d0 d1 d2 d3 d4 d5
      have i1 : (k : Int) < (l : Int) := by omega
      have i3 : (0 : Int) ≤ (k : Int) := by omega
      have Ik : Hid (wrap64 ((k : Int) + 1) = (k : Int) + 1) := Lib.hid (by have := Hf.out; unfold wrap64; omega)
      have Hk := Lib.hid hlt
      obtain ⟨z, hz⟩ : ∃ z, z = !decide (x0 = b ∧ x1 = ch) := ⟨_, rfl⟩
      have hq := fun W => run_neq_sp x0 x1 b ch z hz W
      have Ha : Hid (Bd.atS b ch ⟨x0, x1, x2, x3, x4, x5⟩ = !z) := Lib.hid (by rw [hz]; unfold Bd.atS; by_cases h1 : x0 = b <;> by_cases h2 : x1 = ch <;> simp [h1, h2])
      have HN1 := Lib.hid (below_new wr (.cells #[.int .i64 x0, .int .i64 x1, .int .i64 x2, .int .i64 x3, .int .i64 x4, .int .i64 x5] 38))
      have HSn := Lib.hid (HSo.out.on HN1.out)
      have HN2 := Lib.hid (below_new2 wr (.cells #[.int .i64 x0, .int .i64 x1, .int .i64 x2, .int .i64 x3, .int .i64 x4, .int .i64 x5] 38) (.cells #[.int .i64 x0, .int .i64 x1, .int .i64 x2, .int .i64 x3, .int .i64 x4, .int .i64 x5] 38))
      clear h6 kl hk hlt hb0 hz
      cases z
      · have Hof2 : Hid (Bd.dropL b ch (ls.take (k + 1)) = Bd.dropL b ch (ls.take k)) := Lib.hid (by rw [Hof.out, Ha.out]; exact List.append_nil _)
        have O2 := Lib.hid (HO.out.below HN1.out)
        have HB3 := Lib.hid (below2 HB.out HN1.out)
        clear Hof Ha
        go_wp2_with (refine wpList_load_st rfl 26 _ rfl HSn.out 0 _ _ rfl rfl _ Tryz.underlying26 rfl (by rfl) ?_)
        go_roundw
        case rel => exact ⟨k + 1, Hk.out, by first | rfl | (rw [Ik.out]; rfl), by rw [Hof2.out]; exact O2.out, HB3.out⟩
        case measure => have := Hk.out; (try rw [Ik.out]); simp [intOf]; omega
      · have Hof2 : Hid (Bd.dropL b ch (ls.take (k + 1)) = Bd.dropL b ch (ls.take k) ++ [⟨x0, x1, x2, x3, x4, x5⟩]) := Lib.hid (by rw [Hof.out, Ha.out]; rfl)
        have O2 := Lib.hid (HO.out.below HN2.out)
        have HB3 := Lib.hid (below2 HB.out HN2.out)
        have ON := Lib.hid (AlmsAt.one9 wr (.cells #[.int .i64 x0, .int .i64 x1, .int .i64 x2, .int .i64 x3, .int .i64 x4, .int .i64 x5] 38) x0 x1 x2 x3 x4 x5 38)
        clear Hof Ha
        go_wp2_with (first | (refine wpList_load_st rfl 26 _ rfl HSn.out 0 _ _ rfl rfl _ Tryz.underlying26 rfl (by rfl) ?_) | (at_builtin; refine wpList_append_almsT rfl _ _ 73 rfl Tryz.underlying73 w1.heap.size _ (Bd.dropL b ch (ls.take k)) [(⟨x0, x1, x2, x3, x4, x5⟩ : Alm)] rfl O2.out (some ⟨wr.heap.size + 1, 0, none⟩) 1 _ rfl rfl ON.out (fun e => nomatch e) HB3.out.size (by have := Hle.out; simp; omega) ?_; intro v3 w3 hown3 hgrow3; have O3 := Lib.hid hown3; have HB4 : Hid (Below w1.heap.size w1 w3) := Lib.hid (HB3.out.grown hgrow3 HB3.out.size O2.out.ge8); clear hown3 hgrow3 d0 d1 d2 d3 d4 d5))
        go_roundw
        case rel => exact ⟨k + 1, Hk.out, by first | rfl | (rw [Ik.out]; rfl), by rw [Hof2.out]; exact O3.out, HB4.out⟩
        case measure => have := Hk.out; (try rw [Ik.out]); simp [intOf]; omega
    · have ik : ((k : Int) < (l : Int)) = False := eq_false (by omega)
      have He : Hid (ls.take k = ls) := Lib.hid (List.take_of_length_le (by have := Hl.out; omega))
      rw [He.out] at HO
      have H1 := Lib.hid (HO.out.lower HZ.out)
      clear hk hlt He
      go_wp2
      go_ret
      exact ⟨_, rfl, H1.out, HSo.out.below⟩
end Go.Proofs.YtplpadblhjdpcaaGreat

namespace Go.Proofs.YtplpadblhjdpcaaGreat
set_option maxRecDepth 10000
open Go.RowKit

/-- Where an alarm is put: ahead of the first one that is not less. -/
def Bd.plc (a : Alm) : List Alm → Nat
  | [] => 0
  | x :: l => if Bd.lessA x a then Bd.plc a l + 1 else 0
theorem Bd.plc_le (a : Alm) : ∀ ls : List Alm, Bd.plc a ls ≤ ls.length
  | [] => Nat.le_refl _
  | x :: l => by
    unfold Bd.plc
    split
    · have := Bd.plc_le a l; simp; omega
    · exact Nat.zero_le _
theorem Bd.plc_drop {a : Alm} {ls : List Alm} {k : Nat} (h : k < ls.length) : Bd.plc a (ls.drop k) = if Bd.lessA ls[k] a then Bd.plc a (ls.drop (k + 1)) + 1 else 0 := by
  rw [List.drop_eq_getElem_cons h]; rfl
/-- Put, by what with does. -/
theorem Bd.put_eq {a : Alm} : ∀ {ls : List Alm}, Bd.rising ls = true → Bd.putL a ls = (Bd.dropL a.b a.c ls).take (Bd.plc a (Bd.dropL a.b a.c ls)) ++ a :: (Bd.dropL a.b a.c ls).drop (Bd.plc a (Bd.dropL a.b a.c ls))
  | [], _ => rfl
  | x :: l, h => by
    have hp := (Bd.rising_iff _).1 h
    rw [List.pairwise_cons] at hp
    have ih := Bd.put_eq (a := a) ((Bd.rising_iff l).2 hp.2)
    unfold Bd.putL
    by_cases hx : Bd.lessA x a = true
    · have hd : Bd.dropL a.b a.c (x :: l) = x :: Bd.dropL a.b a.c l := by unfold Bd.dropL; rw [List.filter_cons, Bd.at_less hx]; rfl
      rw [if_pos hx, hd, ih]
      have hc : Bd.plc a (x :: Bd.dropL a.b a.c l) = Bd.plc a (Bd.dropL a.b a.c l) + 1 := by show (if Bd.lessA x a then _ else _) = _; rw [if_pos hx]
      rw [hc]
      rfl
    · rw [if_neg hx]
      have hrest : ∀ y ∈ l, Bd.lessA a y = true := fun y hy => by
        by_cases hat : Bd.atS a.b a.c x = true
        · exact Bd.less_at hat (hp.1 y hy)
        · exact Bd.less_trans (Bd.less_of hx hat) (hp.1 y hy)
      have hdl : Bd.dropL a.b a.c l = l := by
        unfold Bd.dropL
        rw [List.filter_eq_self]
        intro y hy
        rw [Bd.at_less' (hrest y hy)]
        rfl
      have hpl : Bd.plc a l = 0 := by
        cases l with
        | nil => rfl
        | cons y l => show (if Bd.lessA y a then _ else _) = _; rw [if_neg (by rw [Bd.less_not (hrest y (by simp))]; simp)]
      by_cases hat : Bd.atS a.b a.c x = true
      · rw [if_pos hat]
        have hd : Bd.dropL a.b a.c (x :: l) = l := by
          have e : Bd.dropL a.b a.c (x :: l) = Bd.dropL a.b a.c l := by unfold Bd.dropL; rw [List.filter_cons, hat]; rfl
          rw [e, hdl]
        rw [hd, hpl]
        rfl
      · rw [if_neg hat]
        have hd : Bd.dropL a.b a.c (x :: l) = x :: l := by
          have e : Bd.dropL a.b a.c (x :: l) = x :: Bd.dropL a.b a.c l := by unfold Bd.dropL; rw [List.filter_cons, Bool.not_eq_true _ |>.mp hat]; rfl
          rw [e, hdl]
        have hc : Bd.plc a (x :: l) = 0 := by show (if Bd.lessA x a then _ else _) = _; rw [if_neg hx]
        rw [hd, hc]
        rfl

def InsB (W : World) (base : Nat) (ls : List Alm) (e : Ending) (w' : World) : Prop := ∃ v, e = .returned v ∧ OwnA w' base v ls ∧ Below base W w'
theorem insert_new (base : Nat) (A2 : Option Addr) (n c2 : Nat) (D : List Alm) (k : Nat) (x0 x1 x2 x3 x4 x5 : Int) (W : World) (hn : n = D.length) (hown : OwnA W base (.slice A2 n c2) D) (hk : k ≤ n) (hl : n ≤ 1000) (hb : base ≤ W.heap.size) :
    Calls Tryz.prog 79 #[.slice A2 n c2, .int .i64 (k : Int), .slice (some ⟨W.heap.size, 0, none⟩) 1 1] (W.alloc (.cells #[.int .i64 x0, .int .i64 x1, .int .i64 x2, .int .i64 x3, .int .i64 x4, .int .i64 x5] 38)) (InsB W base (D.take k ++ ⟨x0, x1, x2, x3, x4, x5⟩ :: D.drop k)) := by
  have hB := below_new W (.cells #[.int .i64 x0, .int .i64 x1, .int .i64 x2, .int .i64 x3, .int .i64 x4, .int .i64 x5] 38)
  refine (insert_any base (.slice A2 n c2) D k ⟨x0, x1, x2, x3, x4, x5⟩ W.heap.size _ (hown.below hB) (by omega) (by omega) (Nat.le_trans hb hB.size) (heap_alloc_new _ _) (fun e => ?_)).mono ?_
  · have := (World.ownsRow.lt hown _ e).2
    omega
  · rintro e w' ⟨v, rfl, h1, h2⟩
    exact ⟨v, rfl, h1, (hB.mono hb).grown h2 (Nat.le_trans hb hB.size) hown.ge8⟩

set_option maxRecDepth 10000 in
set_option maxHeartbeats 4000000 in
theorem with_any (A : Option Addr) (l c : Nat) (ls : List Alm) (x0 x1 x2 x3 x4 x5 : Int) (w : World) (h : Told w A l c ls) (hr : Bd.rising ls = true) :
    Calls Tryz.prog 61 #[.slice A l c, .agg #[.int .i64 x0, .int .i64 x1, .int .i64 x2, .int .i64 x3, .int .i64 x4, .int .i64 x5]] w (OwnedA w (Bd.putL ⟨x0, x1, x2, x3, x4, x5⟩ ls)) := by
  rw [Bd.put_eq hr]
  have HS := Lib.hid (((St.start w).more (rowF A ls) h.2.1).new #[.int .i64 x0, .int .i64 x1, .int .i64 x2, .int .i64 x3, .int .i64 x4, .int .i64 x5] 38)
  have HZ : Hid (w.heap.size ≤ (w.alloc (.cells #[.int .i64 x0, .int .i64 x1, .int .i64 x2, .int .i64 x3, .int .i64 x4, .int .i64 x5] 38)).heap.size) := Lib.hid (by simp)
  have g1 := fun W (hA : AlmsAt W W.heap.size A ls) => Lib.hid (without_any A l c ls x0 x1 W ⟨h.1, hA, h.2.2⟩)
  have Hle : Hid ((Bd.dropL x0 x1 ls).length ≤ 1000) := Lib.hid (by have h1 : (Bd.dropL x0 x1 ls).length ≤ ls.length := List.length_filter_le _ _; have := h.1; have := h.2.2.2; omega)
  obtain ⟨D, hD⟩ : ∃ D, D = Bd.dropL x0 x1 ls := ⟨_, rfl⟩
  rw [← hD] at Hle ⊢
  simp only [← hD] at g1
  clear hD hr h
  go_enter Tryz.func61, Tryz.ntmps61
  go_wp2_with fail
  refine (g1 _ (HS.out.fact 0 rfl)).out.mono ?_
  rintro e w2 ⟨v, rfl, hown, hB⟩
  clear g1
  obtain ⟨A2, c2, rfl, hA2, _, hc2⟩ := hown.slice
  have HO := Lib.hid hown
  replace HS := Lib.hid ((HS.out.on hB).more (rowF A2 D) hA2)
  obtain ⟨w1, hw1⟩ : ∃ W, W = w.alloc (.cells #[.int .i64 x0, .int .i64 x1, .int .i64 x2, .int .i64 x3, .int .i64 x4, .int .i64 x5] 38) := ⟨_, rfl⟩
  rw [← hw1] at HO HZ hB
  have HB0 := Lib.hid hB
  clear hw1 hown hA2 hc2 hB
  obtain ⟨p1, hp1⟩ : ∃ p, p = w.heap.size := ⟨_, rfl⟩
  rw [← hp1] at HS ⊢
  obtain ⟨q, hq⟩ : ∃ q, q = D.length := ⟨_, rfl⟩
  have Hq := Lib.hid hq
  rw [← hq] at HO ⊢
  clear hp1 hq
  obtain ⟨P, hP⟩ : ∃ P, P = Bd.plc ⟨x0, x1, x2, x3, x4, x5⟩ D := ⟨_, rfl⟩
  have HP := Lib.hid hP
  rw [← hP]
  clear hP
  go_wp2_with fail
  go_loopw [6] (fun i wr => ∃ k : Nat, i = .int .i64 (k : Int) ∧ Hid (k ≤ q ∧ Bd.plc ⟨x0, x1, x2, x3, x4, x5⟩ (D.drop k) + k = P) ∧ Hid (Below w2.heap.size w2 wr)) (fun i _ => q - (intOf i).toNat)
  case atStart => exact ⟨0, rfl, Lib.hid ⟨Nat.zero_le _, by rw [HP.out]; rfl⟩, Lib.hid (Below.refl _ _)⟩
  case round =>
    obtain ⟨k, rfl, Hg, HB⟩ := hrel
    have HSr := Lib.hid (HS.out.on HB.out)
    by_cases hlt : k < q
    · have kl : k < D.length := by rw [← Hq.out]; exact hlt
      have HA : Hid (AlmsAt wr wr.heap.size A2 D) := Lib.hid (HSr.out.fact 0 rfl)
      obtain ⟨b0, o0, rfl, hb0, h6⟩ := HA.out k kl
      have Hs := Lib.hid (Bd.plc_drop (a := ⟨x0, x1, x2, x3, x4, x5⟩) kl)
      obtain ⟨y, hy⟩ : ∃ y, y = D[k]'kl := ⟨_, rfl⟩
      rw [← hy] at h6 Hs
      clear hy
      obtain ⟨y0, y1, y2, y3, y4, y5⟩ := y
      have d0 := h6.c0
      have d1 := h6.c1
      simp only at d0 d1
      have t0 := HSr.out.cell 0 rfl 0 rfl
      have t1 := HSr.out.cell 0 rfl 1 rfl
      have hp : p1 < wr.heap.size := HSr.out.lt 0 rfl
      have i1 : (k : Int) < (q : Int) := by omega
      have i3 : (0 : Int) ≤ (k : Int) := by omega
      have i4 : decide ((k : Int) < (q : Int)) = true := decide_eq_true i1
      have Ik : Hid (wrap64 ((k : Int) + 1) = (k : Int) + 1) := Lib.hid (by have := Hle.out; have := Hq.out; unfold wrap64; omega)
      have Hk := Lib.hid hlt
      have g := fun W => Less_any y0 y1 x0 x1 W
      obtain ⟨z, hz⟩ : ∃ z, z = Sp.less y0 y1 x0 x1 := ⟨_, rfl⟩
      simp only [← hz] at g
      have Ha : Hid (Bd.lessA ⟨y0, y1, y2, y3, y4, y5⟩ ⟨x0, x1, x2, x3, x4, x5⟩ = z) := Lib.hid (by rw [hz]; rfl)
      clear h6 kl hlt hz
      cases z
      · have He : Hid (P = k) := Lib.hid (by have := Hg.out.2; rw [Hs.out, Ha.out] at this; simp at this; omega)
        clear Hs Hg Ha
        go_wp2_with fail
        go_region_held3 (fun W => W.cell? ⟨b0, o0 + k * 6, none⟩ = some (.int .i64 y0) ∧ W.cell? ⟨b0, o0 + k * 6 + 1, none⟩ = some (.int .i64 y1) ∧ W.cell? ⟨p1, 0, none⟩ = some (.int .i64 x0) ∧ W.cell? ⟨p1, 1, none⟩ = some (.int .i64 x1)) (exact ⟨d0, d1, t0, t1⟩) ((go_at_call 52; refine (g _).mono ?_; rintro e w' ⟨rfl, hB'⟩; have hB2 : Below wr.heap.size wr w' := (by first | exact hB' | exact below_undrew hB'); replace d0 := (hB2.cell (p := ⟨b0, o0 + k * 6, none⟩) hb0).trans d0; replace d1 := (hB2.cell (p := ⟨b0, o0 + k * 6 + 1, none⟩) hb0).trans d1; replace t0 := (hB2.cell (p := ⟨p1, 0, none⟩) hp).trans t0; replace t1 := (hB2.cell (p := ⟨p1, 1, none⟩) hp).trans t1; have HB2 : Hid (Below w2.heap.size w2 w') := Lib.hid (below2 HB.out hB2); clear hB' hB2))
        have HK : Hid (k ≤ q) := Lib.hid (Nat.le_of_lt Hk.out)
        clear d0 d1 t0 t1 g
        have HS2 := Lib.hid (HS.out.on HB2.out)
        have HO2 := Lib.hid (HO.out.below HB2.out)
        have gI := Lib.hid (insert_new w1.heap.size _ q c2 D k x0 x1 x2 x3 x4 x5 w' Hq.out HO2.out HK.out (by rw [Hq.out]; exact Hle.out) (Nat.le_trans HB0.out.size HB2.out.size))
        go_wp2_with (refine wpList_load_st rfl 38 _ rfl HS2.out 0 _ _ rfl rfl _ Tryz.underlying38 rfl (by rfl) ?_)
        refine gI.out.mono ?_
        rintro e w9 ⟨v, rfl, hO9, hB9⟩
        have H9 := Lib.hid (hO9.lower HZ.out)
        have HB9 := Lib.hid (HS2.out.below.trans (hB9.mono HZ.out))
        clear hO9 hB9 gI
        go_wp2
        go_ret
        exact ⟨v, rfl, by rw [← HP.out, He.out]; exact H9.out, HB9.out⟩
      · have He : Hid (k + 1 ≤ q ∧ Bd.plc ⟨x0, x1, x2, x3, x4, x5⟩ (D.drop (k + 1)) + (k + 1) = P) := Lib.hid (by have := Hg.out.2; rw [Hs.out, Ha.out] at this; simp at this; exact ⟨Hk.out, by omega⟩)
        clear Hs Hg Ha
        go_wp2_with fail
        go_region_held3 (fun W => W.cell? ⟨b0, o0 + k * 6, none⟩ = some (.int .i64 y0) ∧ W.cell? ⟨b0, o0 + k * 6 + 1, none⟩ = some (.int .i64 y1) ∧ W.cell? ⟨p1, 0, none⟩ = some (.int .i64 x0) ∧ W.cell? ⟨p1, 1, none⟩ = some (.int .i64 x1)) (exact ⟨d0, d1, t0, t1⟩) ((go_at_call 52; refine (g _).mono ?_; rintro e w' ⟨rfl, hB'⟩; have hB2 : Below wr.heap.size wr w' := (by first | exact hB' | exact below_undrew hB'); replace d0 := (hB2.cell (p := ⟨b0, o0 + k * 6, none⟩) hb0).trans d0; replace d1 := (hB2.cell (p := ⟨b0, o0 + k * 6 + 1, none⟩) hb0).trans d1; replace t0 := (hB2.cell (p := ⟨p1, 0, none⟩) hp).trans t0; replace t1 := (hB2.cell (p := ⟨p1, 1, none⟩) hp).trans t1; have HB2 : Hid (Below w2.heap.size w2 w') := Lib.hid (below2 HB.out hB2); clear hB' hB2))
        go_wp2
        go_roundw
        case rel => exact ⟨k + 1, by first | rfl | (rw [Ik.out]; rfl), He, HB2⟩
        case measure => have := Hk.out; (try rw [Ik.out]); simp [intOf]; omega
    · have ik : ((k : Int) < (q : Int)) = False := eq_false (by omega)
      have i4 : decide ((k : Int) < (q : Int)) = false := decide_eq_false (by omega)
      have He : Hid (P = k) := Lib.hid (by have := Hg.out.2; rw [List.drop_eq_nil_of_le (by have := Hq.out; omega)] at this; simpa [Bd.plc] using this.symm)
      clear hlt Hg
      go_wp2_with fail
      go_quiet (fail)
      have HB2 : Hid (Below w2.heap.size w2 (wr.drewN nq)) := Lib.hid (below_drew HB.out nq)
      have HK : Hid (k ≤ q) := Lib.hid (by rw [← He.out, HP.out, Hq.out]; exact Bd.plc_le _ _)
      have HS2 := Lib.hid (HS.out.on HB2.out)
      have HO2 := Lib.hid (HO.out.below HB2.out)
      have gI := Lib.hid (insert_new w1.heap.size _ q c2 D k x0 x1 x2 x3 x4 x5 (wr.drewN nq) Hq.out HO2.out HK.out (by rw [Hq.out]; exact Hle.out) (Nat.le_trans HB0.out.size HB2.out.size))
      go_wp2_with (refine wpList_load_st rfl 38 _ rfl HS2.out 0 _ _ rfl rfl _ Tryz.underlying38 rfl (by rfl) ?_)
      refine gI.out.mono ?_
      rintro e w9 ⟨v, rfl, hO9, hB9⟩
      have H9 := Lib.hid (hO9.lower HZ.out)
      have HB9 := Lib.hid (HS2.out.below.trans (hB9.mono HZ.out))
      clear hO9 hB9 gI
      go_wp2
      go_ret
      exact ⟨v, rfl, by rw [← HP.out, He.out]; exact H9.out, HB9.out⟩
end Go.Proofs.YtplpadblhjdpcaaGreat

namespace Go.Proofs.YtplpadblhjdpcaaGreat
set_option maxRecDepth 10000
open Go.RowKit

theorem Bd.full_iff {m n : Int} {ls : List Alm} {a : Alm} (h : Bd.isB m n ls = true) : decide (m < ((Bd.putL a ls).length : Int)) = (!Bd.has a.b a.c ls && decide (m ≤ (ls.length : Int))) := by
  have h2 := Bd.isB_iff.1 h
  have hl := Bd.put_len (a := a) (Bd.rows_iff.1 h2.2.2.2).2
  rw [hl]
  cases hh : Bd.has a.b a.c ls
  · simp only [Bool.false_eq_true, if_false, Bool.not_false, Bool.true_and]
    rw [Bool.eq_iff_iff, decide_eq_true_eq, decide_eq_true_eq]
    omega
  · simp only [if_true, Nat.add_zero, Bool.not_true, Bool.false_and]
    exact decide_eq_false (by omega)
theorem Bd.rise_of {m n : Int} {ls : List Alm} (h : Bd.isB m n ls = true) : Bd.rising ls = true := (Bd.rising_iff ls).2 (Bd.rows_iff.1 (Bd.isB_iff.1 h).2.2.2).2

set_option maxRecDepth 10000 in
set_option maxHeartbeats 2000000 in
theorem kk_put (m n : Int) (A : Option Addr) (l c : Nat) (ls : List Alm) (x : Alm) (q : Nat) (w : World) (h : Told w A l c ls) (hq : q = (Bd.put m n ls x).als.length) :
    Calls Tryz.prog 37 #[.agg #[.int .i64 m, .int .i64 n, .slice A l c], .agg (sixV x)] w (GivesB w (Bd.put m n ls x) q (Bd.putE m n ls x)) := by
  obtain ⟨x0, x1, x2, x3, x4, x5⟩ := x
  have HS := Lib.hid (((St.start w).more (rowF A ls) h.2.1).box3 #[.int .i64 m, .int .i64 n, .slice A l c] #[.int .i64 x0, .int .i64 x1, .int .i64 x2, .int .i64 x3, .int .i64 x4, .int .i64 x5] #[.int .i64 0, .int .i64 0, .slice none 0 0] 24 38 24)
  have g1 := fun W (hA : AlmsAt W W.heap.size A ls) => Lib.hid (right_any m n A l c ls W ⟨h.1, hA, h.2.2⟩)
  have g2 := fun W => takes_any m n A l c x0 x1 x2 x3 x4 x5 W
  unfold sixV
  simp only
  cases hb : Bd.isB m n ls
  · have e : Bd.putE m n ls ⟨x0, x1, x2, x3, x4, x5⟩ = 1 := by unfold Bd.putE; rw [hb]; rfl
    have e2 : Bd.put m n ls ⟨x0, x1, x2, x3, x4, x5⟩ = ⟨0, 0, []⟩ := by unfold Bd.put; rw [e]; rfl
    rw [e2] at hq ⊢
    rw [e]
    simp only [hb] at g1
    obtain rfl : q = 0 := hq
    clear e e2 hb h g2
    go_enter Tryz.func37, Tryz.ntmps37
    go_wp2_with (refine wpList_load_st rfl 24 _ rfl HS.out 2 _ _ rfl rfl _ Tryz.underlying24 rfl (by rfl) ?_)
    refine (hold_any m n A l c _).mono ?_
    rintro e w1 ⟨rfl, hB⟩
    replace HS := Lib.hid ((HS.out.on hB).new #[.int .i64 m, .int .i64 n, .slice A l c] 75)
    clear hB
    go_wp2_with fail
    refine (g1 _ (HS.out.fact 0 rfl)).out.mono ?_
    rintro e w2 ⟨rfl, hB⟩
    replace HS := Lib.hid (HS.out.on hB)
    clear hB g1
    go_wp2_with (refine wpList_setres rfl 24 _ _ rfl HS.out 1 (w.heap.size + 1 + 1) _ #[.int .i64 0, .int .i64 0, .slice none 0 0] rfl (by omega) w2.heap.size _ [] (OwnA.nil w2 w2.heap.size) (HS.out.lt 1 rfl) rfl rfl (by rfl) rfl (bd_one 0 0 none 0 0) ?_; intro w9 hS9 hO9; have HS9 := Lib.hid hS9; clear hS9 hO9)
    (try simp only [Exit.inBlock, Exit.then]); refine bodyPost_ret (ret_board rfl rfl HS9.out 0 rfl rfl) rfl ?_
    exact ⟨none, 0, rfl, OwnA.nil _ _, HS9.out.below⟩

  simp only [hb] at g1
  cases hm : Bd.may n ⟨x0, x1, x2, x3, x4, x5⟩
  · have e : Bd.putE m n ls ⟨x0, x1, x2, x3, x4, x5⟩ = 1 := by
      unfold Bd.putE
      rw [if_pos]
      unfold Bd.may at hm
      rw [Bool.and_eq_false_iff] at hm
      rcases hm with hm | hm
      · rw [hm]; simp
      · have := of_decide_eq_false hm
        rw [decide_eq_true (by simp only at this ⊢; omega)]; simp
    have e2 : Bd.put m n ls ⟨x0, x1, x2, x3, x4, x5⟩ = ⟨0, 0, []⟩ := by unfold Bd.put; rw [e]; rfl
    rw [e2] at hq ⊢
    rw [e]
    simp only [hm] at g2
    obtain rfl : q = 0 := hq
    clear e e2 hb h hm
    go_enter Tryz.func37, Tryz.ntmps37
    go_wp2_with (refine wpList_load_st rfl 24 _ rfl HS.out 2 _ _ rfl rfl _ Tryz.underlying24 rfl (by rfl) ?_)
    refine (hold_any m n A l c _).mono ?_
    rintro e w1 ⟨rfl, hB⟩
    replace HS := Lib.hid ((HS.out.on hB).new #[.int .i64 m, .int .i64 n, .slice A l c] 75)
    clear hB
    go_wp2_with fail
    refine (g1 _ (HS.out.fact 0 rfl)).out.mono ?_
    rintro e w2 ⟨rfl, hB⟩
    replace HS := Lib.hid (HS.out.on hB)
    clear hB g1
    have s0 := HS.out.cell 0 rfl 0 rfl
    have s1 := HS.out.cell 0 rfl 1 rfl
    have s2 := HS.out.cell 0 rfl 2 rfl
    have t0 := HS.out.cell 2 rfl 0 rfl
    have t1 := HS.out.cell 2 rfl 1 rfl
    have t2 := HS.out.cell 2 rfl 2 rfl
    have t3 := HS.out.cell 2 rfl 3 rfl
    have t4 := HS.out.cell 2 rfl 4 rfl
    have t5 := HS.out.cell 2 rfl 5 rfl
    go_wp2_with fail
    refine (g2 _).mono ?_
    rintro e w3 ⟨rfl, hB⟩
    replace HS := Lib.hid (HS.out.on hB)
    clear hB g2 s0 s1 s2 t0 t1 t2 t3 t4 t5
    go_wp2_with (refine wpList_setres rfl 24 _ _ rfl HS.out 1 (w.heap.size + 1 + 1) _ #[.int .i64 0, .int .i64 0, .slice none 0 0] rfl (by omega) w3.heap.size _ [] (OwnA.nil w3 w3.heap.size) (HS.out.lt 1 rfl) rfl rfl (by rfl) rfl (bd_one 0 0 none 0 0) ?_; intro w9 hS9 hO9; have HS9 := Lib.hid hS9; clear hS9 hO9)
    (try simp only [Exit.inBlock, Exit.then]); refine bodyPost_ret (ret_board rfl rfl HS9.out 0 rfl rfl) rfl ?_
    exact ⟨none, 0, rfl, OwnA.nil _ _, HS9.out.below⟩

  simp only [hm] at g2
  have hE : Bd.putE m n ls ⟨x0, x1, x2, x3, x4, x5⟩ = if decide (m < ((Bd.putL ⟨x0, x1, x2, x3, x4, x5⟩ ls).length : Int)) then 81 else 0 := by
    unfold Bd.putE
    unfold Bd.may at hm
    rw [Bool.and_eq_true] at hm
    rw [hb, hm.1, decide_eq_false (by have := of_decide_eq_true hm.2; simp only at this ⊢; omega), Bd.full_iff hb]
    rfl
  have g3 := fun W (hA : AlmsAt W W.heap.size A ls) => Lib.hid (with_any A l c ls x0 x1 x2 x3 x4 x5 W ⟨h.1, hA, h.2.2⟩ (Bd.rise_of hb))
  obtain ⟨C, hC⟩ : ∃ C, C = Bd.putL ⟨x0, x1, x2, x3, x4, x5⟩ ls := ⟨_, rfl⟩
  rw [← hC] at hE
  simp only [← hC] at g3
  have g4 := fun W A2 c2 => tooMany_any m n A2 C.length c2 W
  cases hf : decide (m < (C.length : Int))
  · rw [hf] at hE
    replace hE : Bd.putE m n ls ⟨x0, x1, x2, x3, x4, x5⟩ = 0 := hE
    have e2 : Bd.put m n ls ⟨x0, x1, x2, x3, x4, x5⟩ = ⟨m, n, C⟩ := by unfold Bd.put; rw [hE, hC]; rfl
    rw [e2] at hq ⊢
    rw [hE]
    simp only [hf] at g4
    replace hq : q = C.length := hq
    simp only [← hq] at g4
    have Hq := Lib.hid hq
    clear e2 hb h hm hE hC hf hq
    go_enter Tryz.func37, Tryz.ntmps37
    go_wp2_with (refine wpList_load_st rfl 24 _ rfl HS.out 2 _ _ rfl rfl _ Tryz.underlying24 rfl (by rfl) ?_)
    refine (hold_any m n A l c _).mono ?_
    rintro e w1 ⟨rfl, hB⟩
    have Hp3 := Lib.hid ((HS.out.on hB).lt 0 rfl)
    have Hp2 := Lib.hid ((HS.out.on hB).lt 1 rfl)
    have Hp1 := Lib.hid ((HS.out.on hB).lt 2 rfl)
    have Hle := Lib.hid (HS.out.on hB).below.size
    replace HS := Lib.hid ((HS.out.on hB).new #[.int .i64 m, .int .i64 n, .slice A l c] 75)
    clear hB
    go_wp2_with fail
    refine (g1 _ (HS.out.fact 0 rfl)).out.mono ?_
    rintro e w2 ⟨rfl, hB⟩
    replace HS := Lib.hid (HS.out.on hB)
    clear hB g1
    have s0 := HS.out.cell 0 rfl 0 rfl
    have s1 := HS.out.cell 0 rfl 1 rfl
    have s2 := HS.out.cell 0 rfl 2 rfl
    have t0 := HS.out.cell 2 rfl 0 rfl
    have t1 := HS.out.cell 2 rfl 1 rfl
    have t2 := HS.out.cell 2 rfl 2 rfl
    have t3 := HS.out.cell 2 rfl 3 rfl
    have t4 := HS.out.cell 2 rfl 4 rfl
    have t5 := HS.out.cell 2 rfl 5 rfl
    go_wp2_with fail
    refine (g2 _).mono ?_
    rintro e w3 ⟨rfl, hB⟩
    replace HS := Lib.hid (HS.out.on hB)
    clear hB g2 s0 s1 s2 t0 t1 t2 t3 t4 t5
    have s2 := HS.out.cell 0 rfl 2 rfl
    go_wp2_with (refine wpList_load_st rfl 38 _ rfl HS.out 2 _ _ rfl rfl _ Tryz.underlying38 rfl (by rfl) ?_)
    refine (g3 _ (HS.out.fact 0 rfl)).out.mono ?_
    rintro e w4 ⟨v, rfl, hO, hB⟩
    obtain ⟨A2, c2, rfl, hA2, hn2, _⟩ := hO.slice
    rw [← Hq.out] at hO ⊢
    have HO := Lib.hid hO
    have Hw1 : Hid (w1.heap.size < w3.heap.size) := Lib.hid (HS.out.lt 0 rfl)
    replace HS := Lib.hid (HS.out.on hB)
    clear hB g3 s2 hO hA2 hn2
    go_wp2_with (first
      | (refine wpList_setcell rfl 73 _ _ rfl HS.out (by have := Hp3.out; have := Hp2.out; have := Hp1.out; simp; omega) Hle.out 2 _ _ w3.heap.size _ C HO.out Hw1.out rfl rfl rfl (by rfl) rfl ?_; intro w5 hS5 hO5; have HS5 := Lib.hid hS5; have HO5 := Lib.hid hO5; clear hS5 hO5 HS HO)
      | (refine wpList_load_st rfl 75 _ rfl HS5.out 0 _ _ rfl rfl _ Tryz.underlying75 rfl (by rfl) ?_))
    refine (g4 _ A2 c2).mono ?_
    rintro e w6 ⟨rfl, hB⟩
    have HS := Lib.hid (HS5.out.on hB)
    have HO := Lib.hid (HO5.out.below hB)
    clear hB g4 HS5 HO5
    go_wp2_with (refine wpList_load_st rfl 75 _ rfl HS.out 0 _ _ rfl rfl _ Tryz.underlying75 rfl (by rfl) ?_)
    refine (board_any m n A2 q c2 _).mono ?_
    rintro e w7 ⟨rfl, hB⟩
    replace HS := Lib.hid (HS.out.on hB)
    replace HO := Lib.hid (HO.out.below hB)
    clear hB
    have Hk : Hid (w.heap.size + 1 + 1 < w3.heap.size) := Lib.hid (by have := Hp3.out; have := Hw1.out; omega)
    have Hl3 : Hid (w.heap.size ≤ w3.heap.size) := Lib.hid (by have := Hk.out; omega)
    go_wp2_with (refine wpList_setres rfl 24 _ _ rfl HS.out 1 (w.heap.size + 1 + 1) _ #[.int .i64 m, .int .i64 n, .slice A2 q c2] rfl (by omega) w3.heap.size _ C HO.out Hk.out rfl rfl (by rfl) rfl (bd_one m n A2 q c2) ?_; intro w9 hS9 hO9; have HS9 := Lib.hid hS9; have HO9 := Lib.hid (hO9.lower Hl3.out); clear hS9 hO9)
    (try simp only [Exit.inBlock, Exit.then]); refine bodyPost_ret (ret_board rfl rfl HS9.out 0 rfl rfl) rfl ?_
    exact ⟨A2, c2, rfl, HO9.out, HS9.out.below⟩
  · rw [hf] at hE
    replace hE : Bd.putE m n ls ⟨x0, x1, x2, x3, x4, x5⟩ = 81 := hE
    have e2 : Bd.put m n ls ⟨x0, x1, x2, x3, x4, x5⟩ = ⟨0, 0, []⟩ := by unfold Bd.put; rw [hE]; rfl
    rw [e2] at hq ⊢
    rw [hE]
    simp only [hf] at g4
    obtain rfl : q = 0 := hq
    obtain ⟨qc, hqc⟩ : ∃ q, q = C.length := ⟨_, rfl⟩
    simp only [← hqc] at g4
    have Hq := Lib.hid hqc
    clear e2 hb h hm hE hC hf hqc
    go_enter Tryz.func37, Tryz.ntmps37
    go_wp2_with (refine wpList_load_st rfl 24 _ rfl HS.out 2 _ _ rfl rfl _ Tryz.underlying24 rfl (by rfl) ?_)
    refine (hold_any m n A l c _).mono ?_
    rintro e w1 ⟨rfl, hB⟩
    have Hp3 := Lib.hid ((HS.out.on hB).lt 0 rfl)
    have Hp2 := Lib.hid ((HS.out.on hB).lt 1 rfl)
    have Hp1 := Lib.hid ((HS.out.on hB).lt 2 rfl)
    have Hle := Lib.hid (HS.out.on hB).below.size
    replace HS := Lib.hid ((HS.out.on hB).new #[.int .i64 m, .int .i64 n, .slice A l c] 75)
    clear hB
    go_wp2_with fail
    refine (g1 _ (HS.out.fact 0 rfl)).out.mono ?_
    rintro e w2 ⟨rfl, hB⟩
    replace HS := Lib.hid (HS.out.on hB)
    clear hB g1
    have s0 := HS.out.cell 0 rfl 0 rfl
    have s1 := HS.out.cell 0 rfl 1 rfl
    have s2 := HS.out.cell 0 rfl 2 rfl
    have t0 := HS.out.cell 2 rfl 0 rfl
    have t1 := HS.out.cell 2 rfl 1 rfl
    have t2 := HS.out.cell 2 rfl 2 rfl
    have t3 := HS.out.cell 2 rfl 3 rfl
    have t4 := HS.out.cell 2 rfl 4 rfl
    have t5 := HS.out.cell 2 rfl 5 rfl
    go_wp2_with fail
    refine (g2 _).mono ?_
    rintro e w3 ⟨rfl, hB⟩
    replace HS := Lib.hid (HS.out.on hB)
    clear hB g2 s0 s1 s2 t0 t1 t2 t3 t4 t5
    have s2 := HS.out.cell 0 rfl 2 rfl
    go_wp2_with (refine wpList_load_st rfl 38 _ rfl HS.out 2 _ _ rfl rfl _ Tryz.underlying38 rfl (by rfl) ?_)
    refine (g3 _ (HS.out.fact 0 rfl)).out.mono ?_
    rintro e w4 ⟨v, rfl, hO, hB⟩
    obtain ⟨A2, c2, rfl, hA2, hn2, _⟩ := hO.slice
    rw [← Hq.out] at hO ⊢
    have HO := Lib.hid hO
    have Hw1 : Hid (w1.heap.size < w3.heap.size) := Lib.hid (HS.out.lt 0 rfl)
    replace HS := Lib.hid (HS.out.on hB)
    clear hB g3 s2 hO hA2 hn2
    go_wp2_with (first
      | (refine wpList_setcell rfl 73 _ _ rfl HS.out (by have := Hp3.out; have := Hp2.out; have := Hp1.out; simp; omega) Hle.out 2 _ _ w3.heap.size _ C HO.out Hw1.out rfl rfl rfl (by rfl) rfl ?_; intro w5 hS5 hO5; have HS5 := Lib.hid hS5; have HO5 := Lib.hid hO5; clear hS5 hO5 HS HO)
      | (refine wpList_load_st rfl 75 _ rfl HS5.out 0 _ _ rfl rfl _ Tryz.underlying75 rfl (by rfl) ?_))
    refine (g4 _ A2 c2).mono ?_
    rintro e w6 ⟨rfl, hB⟩
    have HS := Lib.hid (HS5.out.on hB)
    have HO := Lib.hid (HO5.out.below hB)
    clear hB g4 HS5 HO5
    go_wp2_with (refine wpList_setres rfl 24 _ _ rfl HS.out 1 (w.heap.size + 1 + 1) _ #[.int .i64 0, .int .i64 0, .slice none 0 0] rfl (by omega) w6.heap.size _ [] (OwnA.nil w6 w6.heap.size) (HS.out.lt 1 rfl) rfl rfl (by rfl) rfl (bd_one 0 0 none 0 0) ?_; intro w9 hS9 hO9; have HS9 := Lib.hid hS9; clear hS9 hO9)
    (try simp only [Exit.inBlock, Exit.then]); refine bodyPost_ret (ret_board rfl rfl HS9.out 0 rfl rfl) rfl ?_
    exact ⟨none, 0, rfl, OwnA.nil _ _, HS9.out.below⟩
end Go.Proofs.YtplpadblhjdpcaaGreat
