/-
  Layer 12 (file): a file in a block of memory; how a function hands it back.
  Layer 12 (file): the references' Is, Read, New, Big.
  Layer 12 (file): the references' Sync.
  Layer 12 (file): the references' Cut.
  Layer 12 (file): the references' Add.
-/
import Derived.Test.YtfapfnbehhekhaaChecked
import Derived.Test.YtfapfnbehhekhaaXJa
import Derived.Laws.ResultCell
import Derived.Deep.RegionHeld3
namespace Go.Proofs.Ytfapfnbehhekhaa
set_option maxRecDepth 10000
open Go.RowKit

/-- A file lies in the block k. -/
structure FilAt (w : World) (k : Nat) (m : Int) (x y : ByteArray) : Prop where
  lt : k < w.heap.size
  blk : ∃ t, w.heap[k]? = some (.cells #[.int .i64 m, .string x, .string y] t (0, 0))
theorem FilAt.c0 {w : World} {k : Nat} {m : Int} {x y : ByteArray} (h : FilAt w k m x y) : w.cell? ⟨k, 0, none⟩ = some (.int .i64 m) := by
  obtain ⟨_, t, hb⟩ := h; simp only [World.cell?, hb]; rfl
theorem FilAt.c1 {w : World} {k : Nat} {m : Int} {x y : ByteArray} (h : FilAt w k m x y) : w.cell? ⟨k, 1, none⟩ = some (.string x) := by
  obtain ⟨_, t, hb⟩ := h; simp only [World.cell?, hb]; rfl
theorem FilAt.c2 {w : World} {k : Nat} {m : Int} {x y : ByteArray} (h : FilAt w k m x y) : w.cell? ⟨k, 2, none⟩ = some (.string y) := by
  obtain ⟨_, t, hb⟩ := h; simp only [World.cell?, hb]; rfl
theorem FilAt.f0 {w : World} {k : Nat} {m : Int} {x y : ByteArray} (h : FilAt w k m x y) : w.frozen? ⟨k, 0, none⟩ = false := by
  obtain ⟨_, t, hb⟩ := h; simp only [World.frozen?, hb]; rfl
theorem FilAt.f1 {w : World} {k : Nat} {m : Int} {x y : ByteArray} (h : FilAt w k m x y) : w.frozen? ⟨k, 1, none⟩ = false := by
  obtain ⟨_, t, hb⟩ := h; simp only [World.frozen?, hb]; rfl
theorem FilAt.f2 {w : World} {k : Nat} {m : Int} {x y : ByteArray} (h : FilAt w k m x y) : w.frozen? ⟨k, 2, none⟩ = false := by
  obtain ⟨_, t, hb⟩ := h; simp only [World.frozen?, hb]; rfl
theorem FilAt.new (w : World) (m : Int) (x y : ByteArray) (t : TypeId) : FilAt (w.alloc (.cells #[.int .i64 m, .string x, .string y] t)) w.heap.size m x y :=
  ⟨by simp, t, World.alloc_heap_new w (.cells #[.int .i64 m, .string x, .string y] t)⟩
theorem FilAt.set0 {w : World} {k : Nat} {m : Int} {x y : ByteArray} (h : FilAt w k m x y) (v : Int) : FilAt (w.setCell ⟨k, 0, none⟩ (.int .i64 v)) k v x y := by
  obtain ⟨hlt, t, hb⟩ := h
  refine ⟨by simp [World.setCell]; exact hlt, t, ?_⟩
  simp only [World.setCell, Array.getElem?_modify, if_true, hb, Option.map_some]
  rfl
theorem FilAt.set1 {w : World} {k : Nat} {m : Int} {x y : ByteArray} (h : FilAt w k m x y) (v : ByteArray) : FilAt (w.setCell ⟨k, 1, none⟩ (.string v)) k m v y := by
  obtain ⟨hlt, t, hb⟩ := h
  refine ⟨by simp [World.setCell]; exact hlt, t, ?_⟩
  simp only [World.setCell, Array.getElem?_modify, if_true, hb, Option.map_some]
  rfl
theorem FilAt.set2 {w : World} {k : Nat} {m : Int} {x y : ByteArray} (h : FilAt w k m x y) (v : ByteArray) : FilAt (w.setCell ⟨k, 2, none⟩ (.string v)) k m x v := by
  obtain ⟨hlt, t, hb⟩ := h
  refine ⟨by simp [World.setCell]; exact hlt, t, ?_⟩
  simp only [World.setCell, Array.getElem?_modify, if_true, hb, Option.map_some]
  rfl
theorem FilAt.below {w w' : World} {k : Nat} {m : Int} {x y : ByteArray} (h : FilAt w k m x y) (hB : Below w.heap.size w w') : FilAt w' k m x y := by
  obtain ⟨hlt, t, hb⟩ := h
  exact ⟨Nat.lt_of_lt_of_le hlt hB.size, t, (hB.block k hlt).trans hb⟩
theorem FilAt.alloc {w : World} {k : Nat} {m : Int} {x y : ByteArray} (h : FilAt w k m x y) (o : Obj) : FilAt (w.alloc o) k m x y := h.below (below_new w o)
theorem FilAt.drew {w : World} {k : Nat} {m : Int} {x y : ByteArray} (h : FilAt w k m x y) : FilAt w.drew k m x y := ⟨h.lt, h.blk⟩
theorem FilAt.drewN {w : World} {k : Nat} {m : Int} {x y : ByteArray} (h : FilAt w k m x y) (n : Nat) : FilAt (w.drewN n) k m x y := ⟨h.lt, h.blk⟩
theorem FilAt.new1 (w : World) (o : Obj) (m : Int) (x y : ByteArray) (t : TypeId) : FilAt ((w.alloc o).alloc (.cells #[.int .i64 m, .string x, .string y] t)) (w.heap.size + 1) m x y := by
  have h := FilAt.new (w.alloc o) m x y t
  have e : (w.alloc o).heap.size = w.heap.size + 1 := by simp
  rw [e] at h; exact h
/-- One cell of a block of one's own is written. -/
theorem below_cell12 {B : Nat} {w w' : World} (h : Below B w w') {k : Nat} (hk : B ≤ k) (j : Nat) (v : Value) : Below B w (w'.setCell ⟨k, j, none⟩ v) :=
  ⟨h.os, h.tape, h.output, by simp [World.setCell]; exact h.size, fun i hi => (heap_setCell_other w' ⟨k, j, none⟩ i v (fun e => by have : i = k := e; omega)).trans (h.block i hi)⟩
/-- Three cells of a block of one's own are written. -/
theorem below_set3 {B : Nat} {w w' : World} (h : Below B w w') {k : Nat} (hk : B ≤ k) (a b c : Value) : Below B w (((w'.setCell ⟨k, 0, none⟩ a).setCell ⟨k, 1, none⟩ b).setCell ⟨k, 2, none⟩ c) :=
  below_cell12 (below_cell12 (below_cell12 h hk _ _) hk _ _) hk _ _
theorem below_drew12 {B : Nat} {a w : World} (h : Below B a w) : Below B a w.drew := ⟨h.os, h.tape, h.output, h.size, h.block⟩
/-- A cell of an earlier block stays. -/
theorem cell_set3 {w : World} {k g j : Nat} {v a b c : Value} (h : w.cell? ⟨g, j, none⟩ = some v) (hk : g < k) : (((w.setCell ⟨k, 0, none⟩ a).setCell ⟨k, 1, none⟩ b).setCell ⟨k, 2, none⟩ c).cell? ⟨g, j, none⟩ = some v :=
  ((below_set3 (Below.refl k w) (Nat.le_refl k) a b c).cell (p := ⟨g, j, none⟩) hk).trans h
/-- How a function ends that hands back a file from a cell, and a refusal. -/
theorem ret_file {fn : Func} {p u : Tmp} {k : Nat} {m : Int} {x y : ByteArray} {tmps : Array Value} {w : World} (h : fn.results = #[.cell p 23, .tmp u]) (hp : tmps.getD p undef = .pointer (some ⟨k, 0, none⟩)) (h2 : FilAt w k m x y) :
    (results fn tmps).run Try.prog w = .ok (.tuple #[.agg #[.int .i64 m, .string x, .string y], tmps.getD u undef]) w := by
  rw [results_cell_tmp h, hp]
  obtain ⟨t, hb⟩ := h2.blk
  have hl := run_loadVar_row (P := Try.prog) w k t 23 #[.int .i64 m, .string x, .string y] (0, 0) _ hb Try.underlying23 rfl (by rfl)
  simp [asAddr, Result.andThen, hl]

end Go.Proofs.Ytfapfnbehhekhaa

namespace Go.Proofs.Ytfapfnbehhekhaa
set_option maxRecDepth 10000
open Go.RowKit

set_option maxHeartbeats 400000 in
theorem FRIs_any (m : Int) (k l : ByteArray) (hs : k.size ≤ 9000 ∧ l.size ≤ 9000) (w : World) :
    Calls Try.prog 39 #[.agg #[.int .i64 m, .string k, .string l]] w fun e w' => e = .returned (.bool (Fi.is ⟨m, k, l⟩)) ∧ Below w.heap.size w w' := by
  obtain ⟨hk, hl⟩ := hs
  have hw : wrap64 ((k.size : Int) + (l.size : Int)) = (k.size : Int) + l.size := by unfold wrap64; omega
  go_enter Try.func39, Try.ntmps39
  go_wp2
  all_goals go_ret
  all_goals refine ⟨?_, below_new _ _⟩
  all_goals congr 2
  all_goals (unfold Fi.is; simp [*] <;> omega)

set_option maxHeartbeats 400000 in
theorem FRRead_any (m : Int) (k l : ByteArray) (hs : k.size ≤ 9000 ∧ l.size ≤ 9000) (w : World) :
    Calls Try.prog 41 #[.agg #[.int .i64 m, .string k, .string l]] w fun e w' => e = .returned (.string (Fi.read ⟨m, k, l⟩)) ∧ Below w.heap.size w w' := by
  obtain ⟨hk, hl⟩ := hs
  have hw : ¬ 9223372036854775807 < k.size + l.size := by omega
  go_enter Try.func41, Try.ntmps41
  go_wp2
  all_goals go_ret
  all_goals exact ⟨rfl, below_new _ _⟩

set_option maxHeartbeats 400000 in
theorem FRBig_any (m : Int) (k l : ByteArray) (w : World) :
    Calls Try.prog 27 #[.agg #[.int .i64 m, .string k, .string l]] w fun e w' => e = .returned (.bool (decide (2000 < k.size ∨ 2000 < l.size))) ∧ Below w.heap.size w w' := by
  go_enter Try.func27, Try.ntmps27
  go_wp2
  all_goals go_ret
  all_goals refine ⟨?_, below_new _ _⟩
  all_goals congr 2
  all_goals (show Value.bool _ = Value.bool _; congr 1; rw [Bool.eq_iff_iff]; simp; try omega)

end Go.Proofs.Ytfapfnbehhekhaa

namespace Go.Proofs.Ytfapfnbehhekhaa
set_option maxRecDepth 10000
open Go.RowKit

end Go.Proofs.Ytfapfnbehhekhaa

namespace Go.Proofs.Ytfapfnbehhekhaa
set_option maxRecDepth 10000
open Go.RowKit

set_option maxHeartbeats 400000 in
theorem FRCut_bad (m : Int) (k l : ByteArray) (n : Int) (hs : k.size ≤ 9000 ∧ l.size ≤ 9000) (w : World) (h : Fi.is ⟨m, k, l⟩ = false) :
    Calls Try.prog 43 #[.agg #[.int .i64 m, .string k, .string l], .int .i64 n] w fun e w' => e = .returned (.tuple #[Fi.no.v, .int .i64 1]) ∧ Below w.heap.size w w' := by
  have p1 := fun W => FRIs_any m k l hs W
  rw [h] at p1
  clear h hs
  go_enter Try.func43, Try.ntmps43
  go_wp2_with fail
  refine (p1 _).mono ?_
  rintro e w1 ⟨rfl, hB⟩
  have hF1 := (FilAt.new1 w (.cells #[.int .i64 m, .string k, .string l] 23) 0 ⟨#[]⟩ ⟨#[]⟩ 23).below hB
  have hF0 := ((FilAt.new w m k l 23).alloc (.cells #[.int .i64 0, .string ⟨#[]⟩, .string ⟨#[]⟩] 23)).below hB
  have HF := Lib.hid hF1
  have HG := Lib.hid hF0
  have Hb := Lib.hid (below2 (below_new2 w _ _) hB)
  clear hB hF1 hF0
  have a0 := HF.out.f0
  have a1 := HF.out.f1
  have a2 := HF.out.f2
  have b0 := HF.out.c0
  have b1 := HF.out.c1
  have b2 := HF.out.c2
  clear p1
  go_wp2_with fail
  all_goals (try simp only [Exit.inBlock, Exit.then])
  all_goals refine bodyPost_ret (ret_file rfl rfl (((HF.out.set0 0).set1 _).set2 _)) rfl ?_
  all_goals exact ⟨rfl, below_set3 Hb.out (by omega) _ _ _⟩

set_option maxHeartbeats 400000 in
theorem FRCut_low (m : Int) (k l : ByteArray) (n : Int) (hs : k.size ≤ 9000 ∧ l.size ≤ 9000) (w : World) (h : Fi.is ⟨m, k, l⟩ = true) (hn : n < 0) :
    Calls Try.prog 43 #[.agg #[.int .i64 m, .string k, .string l], .int .i64 n] w fun e w' => e = .returned (.tuple #[Fi.no.v, .int .i64 1]) ∧ Below w.heap.size w w' := by
  have p1 := fun W => FRIs_any m k l hs W
  rw [h] at p1
  clear h hs
  go_enter Try.func43, Try.ntmps43
  go_wp2_with fail
  refine (p1 _).mono ?_
  rintro e w1 ⟨rfl, hB⟩
  have hF1 := (FilAt.new1 w (.cells #[.int .i64 m, .string k, .string l] 23) 0 ⟨#[]⟩ ⟨#[]⟩ 23).below hB
  have hF0 := ((FilAt.new w m k l 23).alloc (.cells #[.int .i64 0, .string ⟨#[]⟩, .string ⟨#[]⟩] 23)).below hB
  have HF := Lib.hid hF1
  have HG := Lib.hid hF0
  have Hb := Lib.hid (below2 (below_new2 w _ _) hB)
  clear hB hF1 hF0
  have a0 := HF.out.f0
  have a1 := HF.out.f1
  have a2 := HF.out.f2
  have b0 := HF.out.c0
  have b1 := HF.out.c1
  have b2 := HF.out.c2
  clear p1
  go_wp2_with fail
  all_goals (try simp only [Exit.inBlock, Exit.then])
  all_goals refine bodyPost_ret (ret_file rfl rfl (((HF.out.set0 0).set1 _).set2 _)) rfl ?_
  all_goals exact ⟨rfl, below_set3 Hb.out (by omega) _ _ _⟩

set_option maxHeartbeats 400000 in
theorem FRCut_high (m : Int) (k l : ByteArray) (n : Int) (hs : k.size ≤ 9000 ∧ l.size ≤ 9000) (w : World) (h : Fi.is ⟨m, k, l⟩ = true) (hn : 0 ≤ n) (r : ByteArray) (hr : r = Fi.read ⟨m, k, l⟩) (hg : (r.size : Int) < n) :
    Calls Try.prog 43 #[.agg #[.int .i64 m, .string k, .string l], .int .i64 n] w fun e w' => e = .returned (.tuple #[Fi.no.v, .int .i64 1]) ∧ Below w.heap.size w w' := by
  have p1 := fun W => FRIs_any m k l hs W
  have p2 := fun W => FRRead_any m k l hs W
  rw [h] at p1
  rw [← hr] at p2
  clear h hs hr
  go_enter Try.func43, Try.ntmps43
  go_wp2_with fail
  refine (p1 _).mono ?_
  rintro e w1 ⟨rfl, hB⟩
  have hF1 := (FilAt.new1 w (.cells #[.int .i64 m, .string k, .string l] 23) 0 ⟨#[]⟩ ⟨#[]⟩ 23).below hB
  have hF0 := ((FilAt.new w m k l 23).alloc (.cells #[.int .i64 0, .string ⟨#[]⟩, .string ⟨#[]⟩] 23)).below hB
  have HF := Lib.hid hF1
  have HG := Lib.hid hF0
  have Hb := Lib.hid (below2 (below_new2 w _ _) hB)
  clear hB hF1 hF0
  have d0 := HG.out.c0
  have d1 := HG.out.c1
  have d2 := HG.out.c2
  clear p1
  go_wp2_with fail
  refine (p2 _).mono ?_
  rintro e w2 ⟨rfl, hB2⟩
  replace HF := Lib.hid (HF.out.below hB2)
  replace HG := Lib.hid (HG.out.below hB2)
  replace Hb := Lib.hid (below2 Hb.out hB2)
  clear hB2
  clear d0 d1 d2 p2
  have a0 := HF.out.f0
  have a1 := HF.out.f1
  have a2 := HF.out.f2
  have b0 := HF.out.c0
  have b1 := HF.out.c1
  have b2 := HF.out.c2
  go_wp2_with fail
  all_goals (try simp only [Exit.inBlock, Exit.then])
  all_goals refine bodyPost_ret (ret_file rfl rfl (((HF.out.set0 0).set1 _).set2 _)) rfl ?_
  all_goals exact ⟨rfl, below_set3 Hb.out (by omega) _ _ _⟩

set_option maxHeartbeats 400000 in
theorem FRCut_yes (m : Int) (k l : ByteArray) (n : Int) (hs : k.size ≤ 9000 ∧ l.size ≤ 9000) (w : World) (h : Fi.is ⟨m, k, l⟩ = true) (hn : 0 ≤ n) (r : ByteArray) (hr : r = Fi.read ⟨m, k, l⟩) (hg : n ≤ (r.size : Int)) :
    Calls Try.prog 43 #[.agg #[.int .i64 m, .string k, .string l], .int .i64 n] w fun e w' => e = .returned (.tuple #[(⟨m, r.extract 0 n.toNat, ⟨#[]⟩⟩ : Fil).v, .int .i64 0]) ∧ Below w.heap.size w w' := by
  have p1 := fun W => FRIs_any m k l hs W
  have p2 := fun W => FRRead_any m k l hs W
  rw [h] at p1
  rw [← hr] at p2
  clear h hs hr
  go_enter Try.func43, Try.ntmps43
  go_wp2_with fail
  refine (p1 _).mono ?_
  rintro e w1 ⟨rfl, hB⟩
  have hF1 := (FilAt.new1 w (.cells #[.int .i64 m, .string k, .string l] 23) 0 ⟨#[]⟩ ⟨#[]⟩ 23).below hB
  have hF0 := ((FilAt.new w m k l 23).alloc (.cells #[.int .i64 0, .string ⟨#[]⟩, .string ⟨#[]⟩] 23)).below hB
  have HF := Lib.hid hF1
  have HG := Lib.hid hF0
  have Hb := Lib.hid (below2 (below_new2 w _ _) hB)
  clear hB hF1 hF0
  have d0 := HG.out.c0
  have d1 := HG.out.c1
  have d2 := HG.out.c2
  clear p1
  go_wp2_with fail
  refine (p2 _).mono ?_
  rintro e w2 ⟨rfl, hB2⟩
  replace HF := Lib.hid (HF.out.below hB2)
  replace HG := Lib.hid (HG.out.below hB2)
  replace Hb := Lib.hid (below2 Hb.out hB2)
  clear hB2
  clear d0 d1 d2
  have d0 := HG.out.c0
  have d1 := HG.out.c1
  have d2 := HG.out.c2
  have hlt := HG.out.lt
  go_wp2_with fail
  go_region_held3 (fun W => W.cell? ⟨w.heap.size, 0, none⟩ = some (.int .i64 m) ∧ W.cell? ⟨w.heap.size, 1, none⟩ = some (.string k) ∧ W.cell? ⟨w.heap.size, 2, none⟩ = some (.string l)) (first | exact ⟨d0, d1, d2⟩ | exact ⟨cell_set3 d0 (Nat.lt_succ_self _), cell_set3 d1 (Nat.lt_succ_self _), cell_set3 d2 (Nat.lt_succ_self _)⟩) ((go_at_call 41; refine (p2 _).mono ?_; rintro e w' ⟨rfl, hB'⟩; have hB2 : Below w2.heap.size w2 w' := (by first | exact hB' | exact below_undrew hB'); replace d0 := (hB2.cell (p := ⟨w.heap.size, 0, none⟩) hlt).trans d0; replace d1 := (hB2.cell (p := ⟨w.heap.size, 1, none⟩) hlt).trans d1; replace d2 := (hB2.cell (p := ⟨w.heap.size, 2, none⟩) hlt).trans d2; have HF2 := Lib.hid (HF.out.below hB2); have Hb2 := Lib.hid (below2 Hb.out hB2); have a0 := HF2.out.f0; have a1 := HF2.out.f1; have a2 := HF2.out.f2; have b0 := HF2.out.c0; have b1 := HF2.out.c1; have b2 := HF2.out.c2; clear hB' hB2))
  clear d0 d1 d2 p2
  go_wp2_with fail
  (try simp only [Exit.inBlock, Exit.then]); refine bodyPost_ret (ret_file rfl rfl (((HF2.out.set0 m).set1 _).set2 _)) rfl ?_
  exact ⟨rfl, below_set3 Hb2.out (by omega) _ _ _⟩

theorem FRCut_any (m : Int) (k l : ByteArray) (n : Int) (hs : k.size ≤ 9000 ∧ l.size ≤ 9000) (w : World) :
    Calls Try.prog 43 #[.agg #[.int .i64 m, .string k, .string l], .int .i64 n] w fun e w' => e = .returned (.tuple #[(Fi.cut ⟨m, k, l⟩ n).v, .int .i64 (Fi.cutE ⟨m, k, l⟩ n)]) ∧ Below w.heap.size w w' := by
  by_cases hc : Fi.cutOk ⟨m, k, l⟩ n = true
  · have e1 : Fi.cut ⟨m, k, l⟩ n = ⟨m, (Fi.read ⟨m, k, l⟩).extract 0 n.toNat, ⟨#[]⟩⟩ := by unfold Fi.cut; rw [if_pos hc]
    have e2 : Fi.cutE ⟨m, k, l⟩ n = 0 := by unfold Fi.cutE; rw [if_pos hc]
    have hc2 : Fi.is ⟨m, k, l⟩ = true ∧ 0 ≤ n ∧ n ≤ (k.size : Int) + l.size := by
      unfold Fi.cutOk at hc; rw [Bool.and_eq_true] at hc; exact ⟨hc.1, of_decide_eq_true hc.2⟩
    rw [e1, e2]
    exact FRCut_yes m k l n hs w hc2.1 hc2.2.1 _ rfl (by rw [Fi.read_size]; simp only; omega)
  · have e1 : Fi.cut ⟨m, k, l⟩ n = Fi.no := by unfold Fi.cut; rw [if_neg hc]
    have e2 : Fi.cutE ⟨m, k, l⟩ n = 1 := by unfold Fi.cutE; rw [if_neg hc]
    rw [e1, e2]
    cases h : Fi.is ⟨m, k, l⟩
    · exact FRCut_bad m k l n hs w h
    · by_cases hn : n < 0
      · exact FRCut_low m k l n hs w h hn
      · refine FRCut_high m k l n hs w h (by omega) _ rfl ?_
        have : ¬ (0 ≤ n ∧ n ≤ (k.size : Int) + l.size) := fun hh => hc (by unfold Fi.cutOk; rw [h, Bool.true_and]; exact decide_eq_true hh)
        rw [Fi.read_size]; simp only; omega

end Go.Proofs.Ytfapfnbehhekhaa

namespace Go.Proofs.Ytfapfnbehhekhaa
set_option maxRecDepth 10000
open Go.RowKit

theorem ba_cons (l : ByteArray) (ss : List ByteArray) (j : Nat) (h : j < ss.length) : (l ++ Fi.all (ss.take j)) ++ ss[j] = l ++ Fi.all (ss.take (j + 1)) := by
  rw [List.take_succ_eq_append_getElem h, Fi.all_snoc, ba_assoc]

set_option maxHeartbeats 400000 in
theorem FRAdd_bad (m : Int) (k l : ByteArray) (A : Option Addr) (cap : Nat) (ss : List ByteArray) (hs : k.size ≤ 9000 ∧ l.size ≤ 9000) (w : World) (h : Fi.is ⟨m, k, l⟩ = false) :
    Calls Try.prog 40 #[.agg #[.int .i64 m, .string k, .string l], .slice A ss.length cap] w fun e w' => e = .returned (.tuple #[Fi.no.v, .int .i64 1]) ∧ Below w.heap.size w w' := by
  have p1 := fun W => FRIs_any m k l hs W
  rw [h] at p1
  clear h hs
  go_enter Try.func40, Try.ntmps40
  go_wp2_with fail
  refine (p1 _).mono ?_
  rintro e w1 ⟨rfl, hB⟩
  have hF1 := (FilAt.new1 w (.cells #[.int .i64 m, .string k, .string l] 23) 0 ⟨#[]⟩ ⟨#[]⟩ 23).below hB
  have hF0 := ((FilAt.new w m k l 23).alloc (.cells #[.int .i64 0, .string ⟨#[]⟩, .string ⟨#[]⟩] 23)).below hB
  have HF := Lib.hid hF1
  have HG := Lib.hid hF0
  have Hb := Lib.hid (below2 (below_new2 w _ _) hB)
  clear hB hF1 hF0
  have a0 := HF.out.f0
  have a1 := HF.out.f1
  have a2 := HF.out.f2
  have b0 := HF.out.c0
  have b1 := HF.out.c1
  have b2 := HF.out.c2
  clear p1
  go_wp2_with fail
  all_goals (try simp only [Exit.inBlock, Exit.then])
  all_goals refine bodyPost_ret (ret_file rfl rfl (((HF.out.set0 0).set1 _).set2 _)) rfl ?_
  all_goals exact ⟨rfl, below_set3 Hb.out (by omega) _ _ _⟩

theorem add_no (f : Fil) (ss : List ByteArray) (h : Fi.addE f ss ≠ 0) : Fi.add f ss = Fi.no := by unfold Fi.add; rw [if_neg h]
theorem add_fits (m : Int) (k l : ByteArray) (ss : List ByteArray) (h : Fi.is ⟨m, k, l⟩ = true) (hg : (k.size : Int) + l.size + (Fi.all ss).size ≤ m) : Fi.addE ⟨m, k, l⟩ ss = 0 := by
  unfold Fi.addE; rw [if_pos h, if_pos hg]
theorem add_full (m : Int) (k l : ByteArray) (ss : List ByteArray) (j : Nat) (_hj : j < ss.length) (h : Fi.is ⟨m, k, l⟩ = true) (hg : m < (k.size : Int) + (l ++ Fi.all (ss.take (j + 1))).size) : Fi.addE ⟨m, k, l⟩ ss = 81 := by
  have h1 := Fi.all_take_le ss (j + 1)
  rw [ByteArray.size_append] at hg
  unfold Fi.addE; rw [if_pos h, if_neg (by simp only; omega)]
theorem FilAt.apart {w : World} {g : Nat} {m : Int} {x y : ByteArray} (h : FilAt w g m x y) {k : Nat} (hk : k ≠ g) (j : Nat) (v : Value) : FilAt (w.setCell ⟨k, j, none⟩ v) g m x y := by
  obtain ⟨hlt, t, hb⟩ := h
  exact ⟨by simp [World.setCell]; exact hlt, t, (heap_setCell_other w ⟨k, j, none⟩ g v (fun e => hk (by have : g = k := e; omega))).trans hb⟩
/-- What holds ahead of each part. -/
def AddRel (w : World) (m : Int) (k l : ByteArray) (ss : List ByteArray) (i : Value) (wr : World) : Prop :=
  ∃ j : Nat, j ≤ ss.length ∧ i = .int .i64 (j : Int) ∧ FilAt wr w.heap.size m k (l ++ Fi.all (ss.take j)) ∧ FilAt wr (w.heap.size + 1) 0 ⟨#[]⟩ ⟨#[]⟩ ∧ Below w.heap.size w wr ∧ Hid ((k.size : Int) + (l ++ Fi.all (ss.take j)).size ≤ m)

set_option maxHeartbeats 800000 in
theorem FRAdd_is (m : Int) (k l : ByteArray) (A : Option Addr) (cap : Nat) (ss : List ByteArray) (hs : k.size ≤ 9000 ∧ l.size ≤ 9000) (w : World) (hA : StrsAt w w.heap.size A ss) (hl : ss.length ≤ 1000) (hz : ∀ s ∈ ss, s.size ≤ 9000) (h : Fi.is ⟨m, k, l⟩ = true) :
    Calls Try.prog 40 #[.agg #[.int .i64 m, .string k, .string l], .slice A ss.length cap] w fun e w' => e = .returned (.tuple #[(Fi.add ⟨m, k, l⟩ ss).v, .int .i64 (Fi.addE ⟨m, k, l⟩ ss)]) ∧ Below w.heap.size w w' := by
  have p1 := fun W => FRIs_any m k l hs W
  rw [h] at p1
  have Hi := Lib.hid (Fi.is_small h)
  have Hz := Lib.hid hz
  have Hok : Hid (Fi.is ⟨m, k, l⟩ = true) := Lib.hid h
  have HA := Lib.hid hA
  clear h hs hz hA
  go_enter Try.func40, Try.ntmps40
  go_wp2_with fail
  refine (p1 _).mono ?_
  rintro e w1 ⟨rfl, hB⟩
  have hF1 := (FilAt.new1 w (.cells #[.int .i64 m, .string k, .string l] 23) 0 ⟨#[]⟩ ⟨#[]⟩ 23).below hB
  have hF0 := ((FilAt.new w m k l 23).alloc (.cells #[.int .i64 0, .string ⟨#[]⟩, .string ⟨#[]⟩] 23)).below hB
  have HF := Lib.hid hF1
  have HG := Lib.hid hF0
  have Hb := Lib.hid (below2 (below_new2 w _ _) hB)
  clear hB hF1 hF0
  clear p1
  go_wp2_with fail
  go_loopw [6] (fun i wr => AddRel w m k l ss i wr) (fun i _ => ss.length - (intOf i).toNat)
  case atStart =>
    refine ⟨0, Nat.zero_le _, rfl, ?_, HF.out, Hb.out, ?_⟩
    · rw [List.take_zero, Fi.all_nil, ba_nil]; exact HG.out
    · rw [List.take_zero, Fi.all_nil, ba_nil]; exact Lib.hid Hi.out.2.2
  case round =>
    obtain ⟨j, hj, rfl, hG, hF, hB, Hle⟩ := hrel
    clear HF HG Hb
    have HF := Lib.hid hF
    have HG := Lib.hid hG
    have Hb := Lib.hid hB
    clear hF hG hB
    by_cases hlt : j < ss.length
    · obtain ⟨b, off, rfl, hb, hc⟩ := HA.out j hlt
      have hc' := (Hb.out.cell (p := ⟨b, off + j, none⟩) hb).trans hc
      have hzj := Hz.out ss[j] (List.getElem_mem hlt)
      have Hn := Lib.hid (ba_cons l ss j hlt)
      obtain ⟨s, hs⟩ : ∃ s, s = ss[j] := ⟨_, rfl⟩
      obtain ⟨y, hy⟩ : ∃ y, y = l ++ Fi.all (ss.take j) := ⟨_, rfl⟩
      rw [← hs] at hc' hzj Hn
      rw [← hy] at HG Hle Hn
      have Hs := Lib.hid hs
      have Hy := Lib.hid hy
      clear hs hy hc hb
      have hky : (k.size : Int) + y.size ≤ 4000 := by have := Hle.out; have := Hi.out.2.1; omega
      have w1 : wrap64 ((k.size : Int) + (y.size : Int)) = (k.size : Int) + y.size := by unfold wrap64; omega
      have w2 : wrap64 ((k.size : Int) + (y.size : Int) + (s.size : Int)) = (k.size : Int) + y.size + s.size := by unfold wrap64; omega
      have hcat : ¬ 9223372036854775807 < y.size + s.size := by omega
      have a0 := HF.out.f0
      have a1 := HF.out.f1
      have a2 := HF.out.f2
      have b0 := HF.out.c0
      have b1 := HF.out.c1
      have b2 := HF.out.c2
      have d0 := HG.out.c0
      have d1 := HG.out.c1
      have d2 := HG.out.c2
      by_cases hbig : m < (k.size : Int) + y.size + s.size
      · have hd : decide (m < (k.size : Int) + y.size + s.size) = true := decide_eq_true hbig
        have Hbig := Lib.hid hbig
        clear hbig
        go_wp2_with fail
        go_region
        clear w1 w2 hcat hd hky d0 d1 d2 hc'
        go_wp2_with fail
        have he : Fi.addE ⟨m, k, l⟩ ss = 81 := add_full _ _ _ _ j hlt Hok.out (by rw [← Hn.out, ByteArray.size_append]; have := Hbig.out; omega)
        rw [he, add_no _ _ (by rw [he]; decide)]
        (try simp only [Exit.inBlock, Exit.then]); refine bodyPost_ret (ret_file rfl rfl ((((HF.out.set0 0).set1 _).set2 _).drew)) rfl ?_
        exact ⟨rfl, below_drew12 (below_set3 Hb.out (by omega) _ _ _)⟩
      · have hd : decide (m < (k.size : Int) + y.size + s.size) = false := decide_eq_false hbig
        have Hbig := Lib.hid hbig
        clear hbig
        go_wp2_with fail
        go_region
        clear w1 w2 hd hky a0 a1 a2 b0 b1 b2
        have e2 := HG.out.f2
        go_wp2_with fail
        go_region
        clear hcat e2 d0 d1 d2
        go_wp2_with fail
        refine ⟨⟨j + 1, by omega, by rfl, ?_, ?_, below_drew12 (below_drew12 (below_cell12 Hb.out (Nat.le_refl _) _ _)), ?_⟩, by simp [intOf]; omega⟩
        · rw [← Hn.out]; exact ((HG.out.set2 _).drew).drew
        · exact ((FilAt.apart HF.out (by omega) _ _).drew).drew
        · rw [← Hn.out, ByteArray.size_append]; exact Lib.hid (by have := Hbig.out; omega)
    · have hjl : j = ss.length := by omega
      subst hjl
      rw [List.take_length] at HG Hle
      have he : Fi.addE ⟨m, k, l⟩ ss = 0 := add_fits _ _ _ _ Hok.out (by have := Hle.out; rw [ByteArray.size_append] at this; omega)
      have hv : Fi.add ⟨m, k, l⟩ ss = ⟨m, k, l ++ Fi.all ss⟩ := by unfold Fi.add; rw [if_pos he]
      have He := Lib.hid he
      obtain ⟨y, hy⟩ : ∃ y, y = l ++ Fi.all ss := ⟨_, rfl⟩
      rw [← hy] at HG hv
      have Hv := Lib.hid hv
      clear hy he hv Hle Hok Hi Hz HA
      have a0 := HF.out.f0
      have a1 := HF.out.f1
      have a2 := HF.out.f2
      have b0 := HF.out.c0
      have b1 := HF.out.c1
      have b2 := HF.out.c2
      have d0 := HG.out.c0
      have d1 := HG.out.c1
      have d2 := HG.out.c2
      go_wp2_with fail
      rw [He.out, Hv.out]
      (try simp only [Exit.inBlock, Exit.then]); refine bodyPost_ret (ret_file rfl rfl (((HF.out.set0 m).set1 _).set2 _)) rfl ?_
      exact ⟨rfl, below_set3 Hb.out (by omega) _ _ _⟩

theorem FRAdd_any (m : Int) (k l : ByteArray) (A : Option Addr) (cap : Nat) (ss : List ByteArray) (hs : k.size ≤ 9000 ∧ l.size ≤ 9000) (w : World) (hA : StrsAt w w.heap.size A ss) (hl : ss.length ≤ 1000) (hz : ∀ s ∈ ss, s.size ≤ 9000) :
    Calls Try.prog 40 #[.agg #[.int .i64 m, .string k, .string l], .slice A ss.length cap] w fun e w' => e = .returned (.tuple #[(Fi.add ⟨m, k, l⟩ ss).v, .int .i64 (Fi.addE ⟨m, k, l⟩ ss)]) ∧ Below w.heap.size w w' := by
  cases h : Fi.is ⟨m, k, l⟩
  · have e2 : Fi.addE ⟨m, k, l⟩ ss = 1 := by unfold Fi.addE; rw [h]; rfl
    rw [add_no _ _ (by rw [e2]; decide), e2]; exact FRAdd_bad m k l A cap ss hs w h
  · exact FRAdd_is m k l A cap ss hs w hA hl hz h

end Go.Proofs.Ytfapfnbehhekhaa
