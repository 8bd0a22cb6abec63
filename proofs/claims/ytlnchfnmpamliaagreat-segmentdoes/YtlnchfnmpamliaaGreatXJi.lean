/-
  Layer 14 (segment): the references' Own, New.
  Layer 12 (file): the references' Sync.
  Layer 12 (file): the references' Cut.
  Layer 14 (segment): the reference's Sync; how a log under work begins.
-/
import Derived.Test.YtlnchfnmpamliaaGreatXSegRow
import Derived.Test.YtlnchfnmpamliaaGreatXRefSeg1
import Derived.Test.YtlnchfnmpamliaaGreatXRefFile1
import Derived.Deep.RegionHeld3
namespace Go.Proofs.YtlnchfnmpamliaaGreat
set_option maxRecDepth 10000
open Go.RowKit

theorem seg_set3 {w : World} {k : Nat} {x0 x1 x2 : Value} {t : TypeId} (h : w.heap[k]? = some (.cells #[x0, x1, x2] t (0, 0))) (a b c : Value) :
    (((w.setCell ⟨k, 0, none⟩ a).setCell ⟨k, 1, none⟩ b).setCell ⟨k, 2, none⟩ c).heap[k]? = some (.cells #[a, b, c] t (0, 0)) :=
  heap_setCell_same _ k 2 _ _ c (heap_setCell_same _ k 1 _ _ b (heap_setCell_same w k 0 _ _ a h))
theorem own_set3 {w : World} {base : Nat} {v : Value} {fs : List Fil} (h : OwnF w base v fs) {k : Nat} (hk : k < base) (a b c : Value) : OwnF (((w.setCell ⟨k, 0, none⟩ a).setCell ⟨k, 1, none⟩ b).setCell ⟨k, 2, none⟩ c) base v fs :=
  World.ownsRow.kept (row := some k) h (grown_two14 (grown_two14 (grown_cell14 _ _ _ _) (grown_cell14 _ _ _ _)) (grown_cell14 _ _ _ _)) (Or.inr (fun e => by have := (World.ownsRow.lt h k e).1; omega))
theorem ret_segs1b {fn : Func} {p : Tmp} {k : Nat} {x0 x1 x2 : Value} {a b : Int} {v : Value} {t : TypeId} {tmps : Array Value} {w : World} (h : fn.results = #[.cell p 24]) (hp : tmps.getD p undef = .pointer (some ⟨k, 0, none⟩)) (hb : w.heap[k]? = some (.cells #[x0, x1, x2] t (0, 0))) :
    (results fn tmps).run Tryz.prog (((w.setCell ⟨k, 0, none⟩ (.int .i64 a)).setCell ⟨k, 1, none⟩ (.int .i64 b)).setCell ⟨k, 2, none⟩ v) = .ok (.agg #[.int .i64 a, .int .i64 b, v]) (((w.setCell ⟨k, 0, none⟩ (.int .i64 a)).setCell ⟨k, 1, none⟩ (.int .i64 b)).setCell ⟨k, 2, none⟩ v) :=
  results_cell_row h tmps _ k _ _ (0, 0) _ hp (seg_set3 hb _ _ _) Tryz.underlying24 rfl (by rfl)
theorem ret_segs2b {fn : Func} {p u : Tmp} {k : Nat} {x0 x1 x2 : Value} {a b : Int} {v : Value} {t : TypeId} {tmps : Array Value} {w : World} (h : fn.results = #[.cell p 24, .tmp u]) (hp : tmps.getD p undef = .pointer (some ⟨k, 0, none⟩)) (hb : w.heap[k]? = some (.cells #[x0, x1, x2] t (0, 0))) :
    (results fn tmps).run Tryz.prog (((w.setCell ⟨k, 0, none⟩ (.int .i64 a)).setCell ⟨k, 1, none⟩ (.int .i64 b)).setCell ⟨k, 2, none⟩ v) = .ok (.tuple #[.agg #[.int .i64 a, .int .i64 b, v], tmps.getD u undef]) (((w.setCell ⟨k, 0, none⟩ (.int .i64 a)).setCell ⟨k, 1, none⟩ (.int .i64 b)).setCell ⟨k, 2, none⟩ v) := by
  rw [results_cell_tmp h, hp]
  have hl := run_loadVar_row (P := Tryz.prog) _ k t 24 #[.int .i64 a, .int .i64 b, v] (0, 0) _ (seg_set3 hb (.int .i64 a) (.int .i64 b) v) Tryz.underlying24 rfl (by rfl)
  simp [asAddr, Result.andThen, hl]

set_option maxHeartbeats 1000000 in
theorem RSOwn_any (sz fi : Int) (A : Option Addr) (n c : Nat) (fs : List Fil) (w : World) (hA : FilsAt w w.heap.size A fs) (hn : n = fs.length) (hc : A = none → c = 0) (hl : n ≤ 1000) :
    Calls Tryz.prog 5 #[.agg #[.int .i64 sz, .int .i64 fi, .slice A n c]] w fun e w' => ∃ A' c', e = .returned (.agg #[.int .i64 sz, .int .i64 fi, .slice A' n c']) ∧ OwnF w' w.heap.size (.slice A' n c') fs ∧ Below w.heap.size w w' := by
  have S0 := Lib.hid (((St.start w).more (filF14 A w.heap.size fs) ⟨hA, Nat.le_refl _⟩).box2 #[.int .i64 sz, .int .i64 fi, .slice A n c] #[.int .i64 0, .int .i64 0, .slice none 0 0] 24 24)
  have Hn := Lib.hid hn
  have Hc := Lib.hid hc
  have Hl := Lib.hid hl
  have c2 := S0.out.cell 1 rfl 2 rfl
  clear hA hn hc hl
  go_enter Tryz.func5, Tryz.ntmps5
  go_wp2_with (at_builtin
               refine wpList_append_fils rfl _ _ 22 rfl Tryz.underlying22 (w.heap.size + 2) (.slice none 0 0) [] fs rfl (OwnF.nil _ _) A n c rfl Hn.out ((S0.out.fact 0 rfl).1.more (S0.out.fact 0 rfl).2) Hc.out (by simp) (by have := Hl.out; have := Hn.out; simp; omega) ?_
               intro v' w2 hO hg
               rw [List.nil_append] at hO
               obtain ⟨A', c', rfl, _, _, _⟩ := hO.slice
               rw [← Hn.out] at hO
               have HO := Lib.hid hO
               have S2 := Lib.hid (S0.out.on (grown_below14 hg))
               clear hO hg c2
               have c0 := S2.out.cell 1 rfl 0 rfl
               have c1 := S2.out.cell 1 rfl 1 rfl
               have a0 := S2.out.free 0 rfl 0
               have a1 := S2.out.free 0 rfl 1
               have a2 := S2.out.free 0 rfl 2
               have b0 := S2.out.cell 0 rfl 0 rfl
               have b1 := S2.out.cell 0 rfl 1 rfl
               have b2 := S2.out.cell 0 rfl 2 rfl)
  obtain ⟨t, ht⟩ := S2.out.live (w.heap.size + 1, #[.int .i64 0, .int .i64 0, .slice none 0 0]) (by simp)
  (try simp only [Exit.inBlock, Exit.then]); refine bodyPost_ret (ret_segs1b rfl rfl ht) rfl ?_
  exact ⟨A', c', by rw [Hn.out], (own_set3 HO.out (by omega) _ _ _).lower (by omega), below_set3 S2.out.below (by omega) _ _ _⟩

/-- One file in a block of its own. -/
theorem OwnS.one {w : World} {base k : Nat} {x : Fil} {t : TypeId} (h : w.heap[k]? = some (.cells (filV x) t (0, 0))) (hb : base ≤ k) : OwnS w base (some ⟨k, 0, none⟩) [x] 1 := by
  refine ⟨fun i hi => ?_, RoomyF.some _ _ _ (Nat.le_refl _), fun a e => by cases e; exact ⟨hb, _, _, h⟩⟩
  obtain rfl : i = 0 := by simpa using hi
  refine ⟨k, 0, rfl, (Array.getElem?_eq_some_iff.1 h).1, ⟨?_, ?_, ?_⟩⟩ <;> (simp only [World.cell?, h]; rfl)
set_option maxHeartbeats 1000000 in
theorem RSNew_any (sz n : Int) (w : World) : Calls Tryz.prog 20 #[.int .i64 sz, .int .i64 n] w (GivesS w (Sg.new sz n) (Sg.newE sz n)) := by
  have S1 := Lib.hid ((St.start w).box3 #[.int .i64 0, .int .i64 0, .slice none 0 0] #[.int .i64 sz, .string ⟨#[]⟩, .string ⟨#[]⟩] #[.int .i64 sz, .int .i64 n, .slice (some ⟨w.heap.size + 1, 0, none⟩) 1 1] 24 47 24)
  have p1 := fun W (hA : FilsAt W W.heap.size (some ⟨w.heap.size + 1, 0, none⟩) [⟨sz, ⟨#[]⟩, ⟨#[]⟩⟩]) => RSIs_any sz n (some ⟨w.heap.size + 1, 0, none⟩) 1 1 [⟨sz, ⟨#[]⟩, ⟨#[]⟩⟩] W hA ⟨by simp, fun f hf => by rw [List.mem_singleton.1 hf]; exact ⟨Nat.zero_le _, Nat.zero_le _⟩⟩ rfl
  have e0 : (⟨sz, n, [⟨sz, ⟨#[]⟩, ⟨#[]⟩⟩]⟩ : Seg) = Sg.newS sz n := rfl
  rw [e0] at p1
  cases hi : Sg.is (Sg.newS sz n)
  · rw [hi] at p1
    have e1 : Sg.new sz n = Sg.no := by unfold Sg.new; rw [hi]; rfl
    have e2 : Sg.newE sz n = 1 := by unfold Sg.newE; rw [hi]; rfl
    rw [e1, e2]
    clear hi e0 e1 e2
    go_enter Tryz.func20, Tryz.ntmps20
    go_wp2_with fail
    obtain ⟨t, ht⟩ := S1.out.live (w.heap.size + 1, #[.int .i64 sz, .string ⟨#[]⟩, .string ⟨#[]⟩]) (by simp)
    refine (p1 _ (OwnS.one (base := w.heap.size) (x := ⟨sz, ⟨#[]⟩, ⟨#[]⟩⟩) ht (Nat.le_succ _)).fils).mono ?_
    rintro e w2 ⟨rfl, hB⟩
    have S2 := Lib.hid (S1.out.on hB)
    clear p1 hB S1 ht
    have a0 := S2.out.free 2 rfl 0
    have a1 := S2.out.free 2 rfl 1
    have a2 := S2.out.free 2 rfl 2
    have b0 := S2.out.cell 2 rfl 0 rfl
    have b1 := S2.out.cell 2 rfl 1 rfl
    have b2 := S2.out.cell 2 rfl 2 rfl
    go_wp2_with fail
    obtain ⟨t, ht⟩ := S2.out.live (w.heap.size, #[.int .i64 0, .int .i64 0, .slice none 0 0]) (by simp)
    (try simp only [Exit.inBlock, Exit.then]); refine bodyPost_ret (ret_segs2b rfl rfl ht) rfl ?_
    exact ⟨none, 0, rfl, ⟨FilsAt.nil _ _ _, ⟨fun _ => rfl, Nat.le_refl _⟩, fun a e => nomatch e⟩, below_set3 S2.out.below (Nat.le_refl _) _ _ _⟩
  · rw [hi] at p1
    have e1 : Sg.new sz n = Sg.newS sz n := by unfold Sg.new; rw [hi]; rfl
    have e2 : Sg.newE sz n = 0 := by unfold Sg.newE; rw [hi]; rfl
    rw [e1, e2]
    clear hi e0 e1 e2
    go_enter Tryz.func20, Tryz.ntmps20
    go_wp2_with fail
    obtain ⟨t, ht⟩ := S1.out.live (w.heap.size + 1, #[.int .i64 sz, .string ⟨#[]⟩, .string ⟨#[]⟩]) (by simp)
    refine (p1 _ (OwnS.one (base := w.heap.size) (x := ⟨sz, ⟨#[]⟩, ⟨#[]⟩⟩) ht (Nat.le_succ _)).fils).mono ?_
    rintro e w2 ⟨rfl, hB⟩
    have S2 := Lib.hid (S1.out.on hB)
    clear p1 hB S1 ht
    have a0 := S2.out.free 2 rfl 0
    have a1 := S2.out.free 2 rfl 1
    have a2 := S2.out.free 2 rfl 2
    have b0 := S2.out.cell 2 rfl 0 rfl
    have b1 := S2.out.cell 2 rfl 1 rfl
    have b2 := S2.out.cell 2 rfl 2 rfl
    have d0 := S2.out.cell 0 rfl 0 rfl
    have d1 := S2.out.cell 0 rfl 1 rfl
    have d2 := S2.out.cell 0 rfl 2 rfl
    go_wp2_with fail
    obtain ⟨t, ht⟩ := S2.out.live (w.heap.size, #[.int .i64 0, .int .i64 0, .slice none 0 0]) (by simp)
    obtain ⟨t1, ht1⟩ := S2.out.live (w.heap.size + 1, #[.int .i64 sz, .string ⟨#[]⟩, .string ⟨#[]⟩]) (by simp)
    (try simp only [Exit.inBlock, Exit.then]); refine bodyPost_ret (ret_segs2b rfl rfl ht) rfl ?_
    refine ⟨some ⟨w.heap.size + 1, 0, none⟩, 1, rfl, OwnS.one (x := ⟨sz, ⟨#[]⟩, ⟨#[]⟩⟩) (t := t1) ?_ (Nat.le_succ _), below_set3 S2.out.below (Nat.le_refl _) _ _ _⟩
    rw [heap_setCell_other _ _ _ _ (Nat.succ_ne_self _), heap_setCell_other _ _ _ _ (Nat.succ_ne_self _), heap_setCell_other _ _ _ _ (Nat.succ_ne_self _)]
    exact ht1
end Go.Proofs.YtlnchfnmpamliaaGreat

namespace Go.Proofs.YtlnchfnmpamliaaGreat
set_option maxRecDepth 10000
open Go.RowKit

set_option maxHeartbeats 400000 in
theorem FRSync_no (m : Int) (k l : ByteArray) (hs : k.size ≤ 9000 ∧ l.size ≤ 9000) (w : World) (h : Fi.is ⟨m, k, l⟩ = false) :
    Calls Tryz.prog 37 #[.agg #[.int .i64 m, .string k, .string l]] w fun e w' => e = .returned (.tuple #[Fi.no.v, .int .i64 1]) ∧ Below w.heap.size w w' := by
  have p1 := fun W => FRIs_any m k l hs W
  rw [h] at p1
  clear h hs
  go_enter Tryz.func37, Tryz.ntmps37
  go_wp2_with fail
  refine (p1 _).mono ?_
  rintro e w1 ⟨rfl, hB⟩
  have hF1 := (FilAt.new1 w (.cells #[.int .i64 m, .string k, .string l] 47) 0 ⟨#[]⟩ ⟨#[]⟩ 47).below hB
  have Hb := Lib.hid (below2 (below_new2 w _ _) hB)
  have a0 := hF1.f0
  have a1 := hF1.f1
  have a2 := hF1.f2
  have b0 := hF1.c0
  have b1 := hF1.c1
  have b2 := hF1.c2
  have HF := Lib.hid hF1
  clear p1 hB hF1
  go_wp2_with fail
  (try simp only [Exit.inBlock, Exit.then]); refine bodyPost_ret (ret_file rfl rfl (((HF.out.set0 0).set1 _).set2 _)) rfl ?_
  exact ⟨rfl, below_set3 Hb.out (by omega) _ _ _⟩

set_option maxHeartbeats 400000 in
theorem FRSync_yes (m : Int) (k l r : ByteArray) (hs : k.size ≤ 9000 ∧ l.size ≤ 9000) (w : World) (h : Fi.is ⟨m, k, l⟩ = true) (hr : r = Fi.read ⟨m, k, l⟩) :
    Calls Tryz.prog 37 #[.agg #[.int .i64 m, .string k, .string l]] w fun e w' => e = .returned (.tuple #[(⟨m, r, ⟨#[]⟩⟩ : Fil).v, .int .i64 0]) ∧ Below w.heap.size w w' := by
  have p1 := fun W => FRIs_any m k l hs W
  have p2 := fun W => FRRead_any m k l hs W
  rw [h] at p1
  rw [← hr] at p2
  clear h hs hr
  go_enter Tryz.func37, Tryz.ntmps37
  go_wp2_with fail
  refine (p1 _).mono ?_
  rintro e w1 ⟨rfl, hB⟩
  have hF1 := (FilAt.new1 w (.cells #[.int .i64 m, .string k, .string l] 47) 0 ⟨#[]⟩ ⟨#[]⟩ 47).below hB
  have hF0 := ((FilAt.new w m k l 47).alloc (.cells #[.int .i64 0, .string ⟨#[]⟩, .string ⟨#[]⟩] 47)).below hB
  have Hb := Lib.hid (below2 (below_new2 w _ _) hB)
  have d0 := hF0.c0
  have d1 := hF0.c1
  have d2 := hF0.c2
  have hlt := hF0.lt
  have HF := Lib.hid hF1
  have HG := Lib.hid hF0
  clear p1 hB hF1 hF0
  go_wp2_with fail
  go_region_held3 (fun W => W.cell? ⟨w.heap.size, 0, none⟩ = some (.int .i64 m) ∧ W.cell? ⟨w.heap.size, 1, none⟩ = some (.string k) ∧ W.cell? ⟨w.heap.size, 2, none⟩ = some (.string l)) (first | exact ⟨d0, d1, d2⟩ | exact ⟨cell_set3 d0 (Nat.lt_succ_self _), cell_set3 d1 (Nat.lt_succ_self _), cell_set3 d2 (Nat.lt_succ_self _)⟩) ((go_at_call 43; refine (p2 _).mono ?_; rintro e w' ⟨rfl, hB'⟩; have hB2 : Below w1.heap.size w1 w' := (by first | exact hB' | exact below_undrew hB'); replace d0 := (hB2.cell (p := ⟨w.heap.size, 0, none⟩) hlt).trans d0; replace d1 := (hB2.cell (p := ⟨w.heap.size, 1, none⟩) hlt).trans d1; replace d2 := (hB2.cell (p := ⟨w.heap.size, 2, none⟩) hlt).trans d2; have HF2 := Lib.hid (HF.out.below hB2); have Hb2 := Lib.hid (below2 Hb.out hB2); have a0 := HF2.out.f0; have a1 := HF2.out.f1; have a2 := HF2.out.f2; have b0 := HF2.out.c0; have b1 := HF2.out.c1; have b2 := HF2.out.c2; clear hB' hB2))
  clear d0 d1 d2 p2
  go_wp2_with fail
  (try simp only [Exit.inBlock, Exit.then]); refine bodyPost_ret (ret_file rfl rfl (((HF2.out.set0 m).set1 _).set2 _)) rfl ?_
  exact ⟨rfl, below_set3 Hb2.out (by omega) _ _ _⟩

theorem FRSync_any (m : Int) (k l : ByteArray) (hs : k.size ≤ 9000 ∧ l.size ≤ 9000) (w : World) :
    Calls Tryz.prog 37 #[.agg #[.int .i64 m, .string k, .string l]] w fun e w' => e = .returned (.tuple #[(Fi.sync ⟨m, k, l⟩).v, .int .i64 (Fi.badE ⟨m, k, l⟩)]) ∧ Below w.heap.size w w' := by
  cases h : Fi.is ⟨m, k, l⟩
  · have e1 : Fi.sync ⟨m, k, l⟩ = Fi.no := by unfold Fi.sync; rw [h]; rfl
    have e2 : Fi.badE ⟨m, k, l⟩ = 1 := by unfold Fi.badE; rw [h]; rfl
    rw [e1, e2]; exact FRSync_no m k l hs w h
  · have e1 : Fi.sync ⟨m, k, l⟩ = ⟨m, Fi.read ⟨m, k, l⟩, ⟨#[]⟩⟩ := by unfold Fi.sync; rw [h]; rfl
    have e2 : Fi.badE ⟨m, k, l⟩ = 0 := by unfold Fi.badE; rw [h]; rfl
    rw [e1, e2]; exact FRSync_yes m k l _ hs w h rfl

end Go.Proofs.YtlnchfnmpamliaaGreat

namespace Go.Proofs.YtlnchfnmpamliaaGreat
set_option maxRecDepth 10000
open Go.RowKit

set_option maxHeartbeats 400000 in
theorem FRCut_bad (m : Int) (k l : ByteArray) (n : Int) (hs : k.size ≤ 9000 ∧ l.size ≤ 9000) (w : World) (h : Fi.is ⟨m, k, l⟩ = false) :
    Calls Tryz.prog 45 #[.agg #[.int .i64 m, .string k, .string l], .int .i64 n] w fun e w' => e = .returned (.tuple #[Fi.no.v, .int .i64 1]) ∧ Below w.heap.size w w' := by
  have p1 := fun W => FRIs_any m k l hs W
  rw [h] at p1
  clear h hs
  go_enter Tryz.func45, Tryz.ntmps45
  go_wp2_with fail
  refine (p1 _).mono ?_
  rintro e w1 ⟨rfl, hB⟩
  have hF1 := (FilAt.new1 w (.cells #[.int .i64 m, .string k, .string l] 47) 0 ⟨#[]⟩ ⟨#[]⟩ 47).below hB
  have hF0 := ((FilAt.new w m k l 47).alloc (.cells #[.int .i64 0, .string ⟨#[]⟩, .string ⟨#[]⟩] 47)).below hB
  have HF := Lib.hid hF1
  have HG := Lib.hid hF0
  have Hb := Lib.hid (below2 (below_new2 w _ _) hB)
  clear hB hF1 hF0
  have a0 := HF.out.f0
  have a1 := HF.out.f1
  have a2 := HF.out.f2
  have b0 := HF.out.c0
  have b1 := HF.out.c1
  have b2 := HF.out.c2
  clear p1
  go_wp2_with fail
  all_goals (try simp only [Exit.inBlock, Exit.then])
  all_goals refine bodyPost_ret (ret_file rfl rfl (((HF.out.set0 0).set1 _).set2 _)) rfl ?_
  all_goals exact ⟨rfl, below_set3 Hb.out (by omega) _ _ _⟩

set_option maxHeartbeats 400000 in
theorem FRCut_low (m : Int) (k l : ByteArray) (n : Int) (hs : k.size ≤ 9000 ∧ l.size ≤ 9000) (w : World) (h : Fi.is ⟨m, k, l⟩ = true) (hn : n < 0) :
    Calls Tryz.prog 45 #[.agg #[.int .i64 m, .string k, .string l], .int .i64 n] w fun e w' => e = .returned (.tuple #[Fi.no.v, .int .i64 1]) ∧ Below w.heap.size w w' := by
  have p1 := fun W => FRIs_any m k l hs W
  rw [h] at p1
  clear h hs
  go_enter Tryz.func45, Tryz.ntmps45
  go_wp2_with fail
  refine (p1 _).mono ?_
  rintro e w1 ⟨rfl, hB⟩
  have hF1 := (FilAt.new1 w (.cells #[.int .i64 m, .string k, .string l] 47) 0 ⟨#[]⟩ ⟨#[]⟩ 47).below hB
  have hF0 := ((FilAt.new w m k l 47).alloc (.cells #[.int .i64 0, .string ⟨#[]⟩, .string ⟨#[]⟩] 47)).below hB
  have HF := Lib.hid hF1
  have HG := Lib.hid hF0
  have Hb := Lib.hid (below2 (below_new2 w _ _) hB)
  clear hB hF1 hF0
  have a0 := HF.out.f0
  have a1 := HF.out.f1
  have a2 := HF.out.f2
  have b0 := HF.out.c0
  have b1 := HF.out.c1
  have b2 := HF.out.c2
  clear p1
  go_wp2_with fail
  all_goals (try simp only [Exit.inBlock, Exit.then])
  all_goals refine bodyPost_ret (ret_file rfl rfl (((HF.out.set0 0).set1 _).set2 _)) rfl ?_
  all_goals exact ⟨rfl, below_set3 Hb.out (by omega) _ _ _⟩

set_option maxHeartbeats 400000 in
theorem FRCut_high (m : Int) (k l : ByteArray) (n : Int) (hs : k.size ≤ 9000 ∧ l.size ≤ 9000) (w : World) (h : Fi.is ⟨m, k, l⟩ = true) (hn : 0 ≤ n) (r : ByteArray) (hr : r = Fi.read ⟨m, k, l⟩) (hg : (r.size : Int) < n) :
    Calls Tryz.prog 45 #[.agg #[.int .i64 m, .string k, .string l], .int .i64 n] w fun e w' => e = .returned (.tuple #[Fi.no.v, .int .i64 1]) ∧ Below w.heap.size w w' := by
  have p1 := fun W => FRIs_any m k l hs W
  have p2 := fun W => FRRead_any m k l hs W
  rw [h] at p1
  rw [← hr] at p2
  clear h hs hr
  go_enter Tryz.func45, Tryz.ntmps45
  go_wp2_with fail
  refine (p1 _).mono ?_
  rintro e w1 ⟨rfl, hB⟩
  have hF1 := (FilAt.new1 w (.cells #[.int .i64 m, .string k, .string l] 47) 0 ⟨#[]⟩ ⟨#[]⟩ 47).below hB
  have hF0 := ((FilAt.new w m k l 47).alloc (.cells #[.int .i64 0, .string ⟨#[]⟩, .string ⟨#[]⟩] 47)).below hB
  have HF := Lib.hid hF1
  have HG := Lib.hid hF0
  have Hb := Lib.hid (below2 (below_new2 w _ _) hB)
  clear hB hF1 hF0
  have d0 := HG.out.c0
  have d1 := HG.out.c1
  have d2 := HG.out.c2
  clear p1
  go_wp2_with fail
  refine (p2 _).mono ?_
  rintro e w2 ⟨rfl, hB2⟩
  replace HF := Lib.hid (HF.out.below hB2)
  replace HG := Lib.hid (HG.out.below hB2)
  replace Hb := Lib.hid (below2 Hb.out hB2)
  clear hB2
  clear d0 d1 d2 p2
  have a0 := HF.out.f0
  have a1 := HF.out.f1
  have a2 := HF.out.f2
  have b0 := HF.out.c0
  have b1 := HF.out.c1
  have b2 := HF.out.c2
  go_wp2_with fail
  all_goals (try simp only [Exit.inBlock, Exit.then])
  all_goals refine bodyPost_ret (ret_file rfl rfl (((HF.out.set0 0).set1 _).set2 _)) rfl ?_
  all_goals exact ⟨rfl, below_set3 Hb.out (by omega) _ _ _⟩

set_option maxHeartbeats 400000 in
theorem FRCut_yes (m : Int) (k l : ByteArray) (n : Int) (hs : k.size ≤ 9000 ∧ l.size ≤ 9000) (w : World) (h : Fi.is ⟨m, k, l⟩ = true) (hn : 0 ≤ n) (r : ByteArray) (hr : r = Fi.read ⟨m, k, l⟩) (hg : n ≤ (r.size : Int)) :
    Calls Tryz.prog 45 #[.agg #[.int .i64 m, .string k, .string l], .int .i64 n] w fun e w' => e = .returned (.tuple #[(⟨m, r.extract 0 n.toNat, ⟨#[]⟩⟩ : Fil).v, .int .i64 0]) ∧ Below w.heap.size w w' := by
  have p1 := fun W => FRIs_any m k l hs W
  have p2 := fun W => FRRead_any m k l hs W
  rw [h] at p1
  rw [← hr] at p2
  clear h hs hr
  go_enter Tryz.func45, Tryz.ntmps45
  go_wp2_with fail
  refine (p1 _).mono ?_
  rintro e w1 ⟨rfl, hB⟩
  have hF1 := (FilAt.new1 w (.cells #[.int .i64 m, .string k, .string l] 47) 0 ⟨#[]⟩ ⟨#[]⟩ 47).below hB
  have hF0 := ((FilAt.new w m k l 47).alloc (.cells #[.int .i64 0, .string ⟨#[]⟩, .string ⟨#[]⟩] 47)).below hB
  have HF := Lib.hid hF1
  have HG := Lib.hid hF0
  have Hb := Lib.hid (below2 (below_new2 w _ _) hB)
  clear hB hF1 hF0
  have d0 := HG.out.c0
  have d1 := HG.out.c1
  have d2 := HG.out.c2
  clear p1
  go_wp2_with fail
  refine (p2 _).mono ?_
  rintro e w2 ⟨rfl, hB2⟩
  replace HF := Lib.hid (HF.out.below hB2)
  replace HG := Lib.hid (HG.out.below hB2)
  replace Hb := Lib.hid (below2 Hb.out hB2)
  clear hB2
  clear d0 d1 d2
  have d0 := HG.out.c0
  have d1 := HG.out.c1
  have d2 := HG.out.c2
  have hlt := HG.out.lt
  go_wp2_with fail
  go_region_held3 (fun W => W.cell? ⟨w.heap.size, 0, none⟩ = some (.int .i64 m) ∧ W.cell? ⟨w.heap.size, 1, none⟩ = some (.string k) ∧ W.cell? ⟨w.heap.size, 2, none⟩ = some (.string l)) (first | exact ⟨d0, d1, d2⟩ | exact ⟨cell_set3 d0 (Nat.lt_succ_self _), cell_set3 d1 (Nat.lt_succ_self _), cell_set3 d2 (Nat.lt_succ_self _)⟩) ((go_at_call 43; refine (p2 _).mono ?_; rintro e w' ⟨rfl, hB'⟩; have hB2 : Below w2.heap.size w2 w' := (by first | exact hB' | exact below_undrew hB'); replace d0 := (hB2.cell (p := ⟨w.heap.size, 0, none⟩) hlt).trans d0; replace d1 := (hB2.cell (p := ⟨w.heap.size, 1, none⟩) hlt).trans d1; replace d2 := (hB2.cell (p := ⟨w.heap.size, 2, none⟩) hlt).trans d2; have HF2 := Lib.hid (HF.out.below hB2); have Hb2 := Lib.hid (below2 Hb.out hB2); have a0 := HF2.out.f0; have a1 := HF2.out.f1; have a2 := HF2.out.f2; have b0 := HF2.out.c0; have b1 := HF2.out.c1; have b2 := HF2.out.c2; clear hB' hB2))
  clear d0 d1 d2 p2
  go_wp2_with fail
  (try simp only [Exit.inBlock, Exit.then]); refine bodyPost_ret (ret_file rfl rfl (((HF2.out.set0 m).set1 _).set2 _)) rfl ?_
  exact ⟨rfl, below_set3 Hb2.out (by omega) _ _ _⟩

theorem FRCut_any (m : Int) (k l : ByteArray) (n : Int) (hs : k.size ≤ 9000 ∧ l.size ≤ 9000) (w : World) :
    Calls Tryz.prog 45 #[.agg #[.int .i64 m, .string k, .string l], .int .i64 n] w fun e w' => e = .returned (.tuple #[(Fi.cut ⟨m, k, l⟩ n).v, .int .i64 (Fi.cutE ⟨m, k, l⟩ n)]) ∧ Below w.heap.size w w' := by
  by_cases hc : Fi.cutOk ⟨m, k, l⟩ n = true
  · have e1 : Fi.cut ⟨m, k, l⟩ n = ⟨m, (Fi.read ⟨m, k, l⟩).extract 0 n.toNat, ⟨#[]⟩⟩ := by unfold Fi.cut; rw [if_pos hc]
    have e2 : Fi.cutE ⟨m, k, l⟩ n = 0 := by unfold Fi.cutE; rw [if_pos hc]
    have hc2 : Fi.is ⟨m, k, l⟩ = true ∧ 0 ≤ n ∧ n ≤ (k.size : Int) + l.size := by
      unfold Fi.cutOk at hc; rw [Bool.and_eq_true] at hc; exact ⟨hc.1, of_decide_eq_true hc.2⟩
    rw [e1, e2]
    exact FRCut_yes m k l n hs w hc2.1 hc2.2.1 _ rfl (by rw [Fi.read_size]; simp only; omega)
  · have e1 : Fi.cut ⟨m, k, l⟩ n = Fi.no := by unfold Fi.cut; rw [if_neg hc]
    have e2 : Fi.cutE ⟨m, k, l⟩ n = 1 := by unfold Fi.cutE; rw [if_neg hc]
    rw [e1, e2]
    cases h : Fi.is ⟨m, k, l⟩
    · exact FRCut_bad m k l n hs w h
    · by_cases hn : n < 0
      · exact FRCut_low m k l n hs w h hn
      · refine FRCut_high m k l n hs w h (by omega) _ rfl ?_
        have : ¬ (0 ≤ n ∧ n ≤ (k.size : Int) + l.size) := fun hh => hc (by unfold Fi.cutOk; rw [h, Bool.true_and]; exact decide_eq_true hh)
        rw [Fi.read_size]; simp only; omega

end Go.Proofs.YtlnchfnmpamliaaGreat

namespace Go.Proofs.YtlnchfnmpamliaaGreat
set_option maxRecDepth 10000
open Go.RowKit

/-- The row's last file. -/
theorem OwnF.last {w : World} {base n cap : Nat} {A : Option Addr} {pre : List Fil} {y : Fil} (h : OwnF w base (.slice A n cap) (pre ++ [y])) : ∃ g, A = some ⟨g, 0, none⟩ ∧ n = pre.length + 1 ∧ Fi3 w g (pre.length * 3) y ∧ pre.length + 1 ≤ cap := by
  have hr := h.rows
  obtain ⟨b, off, hA, hb, h3⟩ := hr.1 pre.length (by simp)
  have hcap := hr.2.2
  obtain ⟨h0, h1⟩ := h
  rcases h1 with ⟨e, _⟩ | ⟨g, cap', cur, e, hb', hg, h2⟩
  · cases e; cases hA
  · injection e with e1 e2 e3
    subst e1
    injection hA with hA
    injection hA with hA1 hA2
    subst hA1 hA2
    have ey : (pre ++ [y])[pre.length]'(by simp) = y := by simp
    rw [ey, Nat.zero_add] at h3
    exact ⟨g, rfl, by rw [e2]; simp, h3, by simpa using hcap⟩
/-- A log that Own made, laid into a block. -/
theorem XAt.start {w w1 w2 : World} {A' : Option Addr} {n c' : Nat} {fs : List Fil} (sz fi : Int) (t : TypeId) {L : List (Nat × Array Value)} {M : List Fact} (S : St w w1 L M) (hp : (w.heap.size + 1, #[.int .i64 0, .int .i64 0, .slice none 0 0]) ∈ L) (hB : Below w1.heap.size w1 w2) (hO : OwnF w2 w1.heap.size (.slice A' n c') fs) :
    XAt none w (w2.alloc (.cells #[.int .i64 sz, .int .i64 fi, .slice A' n c'] t)) (w.heap.size + 1) w2.heap.size w1.heap.size sz fi (.slice A' n c') fs := by
  have hl := lt14 (S.live _ hp)
  have hr := kept14 (S.live _ hp) (below_grown14 (hB.trans ((below_new w2 (.cells #[.int .i64 sz, .int .i64 fi, .slice A' n c'] t)).mono hB.size)) none) (fun e => nomatch e)
  have h2 := hB.size
  have h1 := S.below.size
  refine ⟨hr, ⟨t, World.alloc_heap_new w2 _⟩, by simp only at hl; omega, hO.below (below_new _ _), fun g e => ?_, Nat.le_succ _, by omega, ?_⟩
  · have h3 := World.ownsRow.lt hO g e
    simp only at hl
    exact ⟨Or.inl (by omega), by omega, by omega⟩
  · exact below_grown14 ((S.below.trans (hB.mono h1)).trans ((below_new w2 _).mono (by omega))) none

theorem givesS_no {w w' : World} {er : Int} (hB : Below w.heap.size w w') : GivesS w Sg.no er (.returned (.tuple #[.agg #[.int .i64 0, .int .i64 0, .slice none 0 0], .int .i64 er])) w' :=
  ⟨none, 0, rfl, ⟨FilsAt.nil _ _ _, ⟨fun _ => rfl, Nat.le_refl _⟩, fun _ e => nomatch e⟩, hB⟩

set_option maxHeartbeats 1000000 in
theorem RSSync_any (sz fi : Int) (A : Option Addr) (n c : Nat) (fs : List Fil) (w : World) (hA : FilsAt w w.heap.size A fs) (hs : Sg.small ⟨sz, fi, fs⟩) (hn : n = fs.length) (hc : A = none → c = 0) :
    Calls Tryz.prog 12 #[.agg #[.int .i64 sz, .int .i64 fi, .slice A n c]] w (GivesS w (Sg.sync ⟨sz, fi, fs⟩) (Sg.badE ⟨sz, fi, fs⟩)) := by
  have p1 := fun W (h : FilsAt W W.heap.size A fs) => RSIs_any sz fi A n c fs W h hs hn
  have S0 := Lib.hid (((St.start w).more (filF14 A w.heap.size fs) ⟨hA, Nat.le_refl _⟩).box2 #[.int .i64 sz, .int .i64 fi, .slice A n c] #[.int .i64 0, .int .i64 0, .slice none 0 0] 24 24)
  by_cases hi : Sg.is ⟨sz, fi, fs⟩ = true
  · rw [hi] at p1
    obtain ⟨pre, f, hfs, q1, q2, hfi, q3⟩ := Sg.is_split hi
    clear q1 q2 q3
    simp only at hfs
    have e1 : Sg.sync ⟨sz, fi, fs⟩ = ⟨sz, fi, pre ++ [Fi.sync f]⟩ := by unfold Sg.sync; rw [if_pos hi]; simp only; rw [hfs, Sg.onLast_split]
    have e2 : Sg.badE ⟨sz, fi, fs⟩ = 0 := by unfold Sg.badE; rw [if_pos hi]
    rw [e1, e2]
    have hl2 : n ≤ 20 := by have := (Sg.is_iff.1 hi).1.2.2.2; simp only at this; omega
    have p2 := fun W (h : FilsAt W W.heap.size A fs) => RSOwn_any sz fi A n c fs W h hn hc (by omega)
    have p3 := fun W => FRSync_any f.most f.kept f.loose (Rc.is_small9 hfi) W
    have e3 : (⟨f.most, f.kept, f.loose⟩ : Fil) = f := rfl
    rw [e3] at p3
    obtain ⟨Y, hY⟩ : ∃ Y, Y = Fi.sync f := ⟨_, rfl⟩
    rw [← hY] at p3 ⊢
    obtain ⟨ym, yk, yl⟩ := Y
    obtain ⟨fm, fk, fl⟩ := f
    unfold Fil.v filV at p3
    simp only at p3
    have hk : n = pre.length + 1 := by rw [hn, hfs]; simp
    have wk : wrap64 ((n : Int) - 1) = (pre.length : Int) := by unfold wrap64; omega
    obtain ⟨k, hkk⟩ : ∃ k, k = pre.length := ⟨_, rfl⟩
    rw [← hkk] at wk hk
    have Hkk := Lib.hid hkk
    have Hfs := Lib.hid hfs
    have Hwk := Lib.hid wk
    have Hk := Lib.hid hk
    clear hA hs hc hi e1 e2 e3 hfi hY hkk hn hl2 hfs wk hk
    go_enter Tryz.func12, Tryz.ntmps12
    go_wp2_with fail
    refine (p1 _ ((S0.out.fact 0 rfl).1.more (S0.out.fact 0 rfl).2)).mono ?_
    rintro e w1 ⟨rfl, hB⟩
    have S1 := Lib.hid (S0.out.on hB)
    clear p1 hB S0
    have c0 := S1.out.cell 1 rfl 0 rfl
    have c1 := S1.out.cell 1 rfl 1 rfl
    have c2 := S1.out.cell 1 rfl 2 rfl
    go_wp2_with fail
    refine (p2 _ ((S1.out.fact 0 rfl).1.more (S1.out.fact 0 rfl).2)).mono ?_
    rintro e w2 ⟨A2, c2', rfl, hO, hB⟩
    rw [Hfs.out] at hO
    have X3 := Lib.hid (XAt.start sz fi 24 S1.out (by simp) hB hO)
    clear p2 hB hO c0 c1 c2
    obtain ⟨g, rfl, hnn, h3, hcap⟩ := X3.out.own.last
    rw [← Hkk.out] at h3 hcap
    have e0 := h3.c0
    have e1 := h3.c1
    have e2 := h3.c2
    simp only at e0 e1 e2
    have x2 := X3.out.x2
    have wk := Hwk.out
    have hk := Hk.out
    have i1 : (k : Int) < (n : Int) := by omega
    have i0 : (0 : Int) ≤ (k : Int) := by omega
    clear h3 hcap wk hk hnn
    have wk := Hwk.out
    go_wp2_with fail
    refine (p3 _).mono ?_
    rintro e w4 ⟨rfl, hB⟩
    have X5 := Lib.hid ((X3.out.on hB).on (below_new w4 (.cells #[.int .i64 ym, .string yk, .string yl] 47)))
    have x2 := X5.out.x2
    have F5 := FilAt.new w4 ym yk yl 47
    have f0 := F5.c0
    have f1 := F5.c1
    have f2 := F5.c2
    clear hB X3 p3 F5 e0 e1 e2
    go_wp2_with (refine wpList_store_fil rfl _ _ rfl w1.heap.size g n c2' k pre [] ⟨fm, fk, fl⟩ ⟨ym, yk, yl⟩ Hkk.out rfl rfl X5.out.own ?_
                 intro w6 hO hg
                 have X6 := Lib.hid (X5.out.turn hg hO)
                 clear hO hg f0 f1 f2 x2
                 have x0 := X6.out.x0
                 have x1 := X6.out.x1
                 have x2 := X6.out.x2
                 have a0 := X6.out.rf 0
                 have a1 := X6.out.rf 1
                 have a2 := X6.out.rf 2
                 have b0 := X6.out.r0
                 have b1 := X6.out.r1
                 have b2 := X6.out.r2)
    obtain ⟨t, ht⟩ := X6.out.res
    (try simp only [Exit.inBlock, Exit.then]); refine bodyPost_ret (ret_segs2b rfl rfl ht) rfl ?_
    obtain ⟨hO, hg⟩ := X6.out.done (.int .i64 sz) (.int .i64 fi) (.slice (some ⟨g, 0, none⟩) n c2') X6.out.own rfl
    refine ⟨some ⟨g, 0, none⟩, c2', ?_, OwnS.of (hO.lower S1.out.below.size), grown_below14 hg⟩
    have : n = (pre ++ [(⟨ym, yk, yl⟩ : Fil)]).length := by rw [List.length_append, ← Hkk.out, Hk.out]; rfl
    rw [this]; rfl
  · rw [Bool.not_eq_true] at hi
    have e1 : Sg.sync ⟨sz, fi, fs⟩ = Sg.no := by unfold Sg.sync; rw [hi]; rfl
    have e2 : Sg.badE ⟨sz, fi, fs⟩ = 1 := by unfold Sg.badE; rw [hi]; rfl
    rw [e1, e2]
    simp only [hi] at p1
    clear e1 e2 hi hA hs hn
    go_enter Tryz.func12, Tryz.ntmps12
    go_wp2_with fail
    refine (p1 _ ((S0.out.fact 0 rfl).1.more (S0.out.fact 0 rfl).2)).mono ?_
    rintro e w1 ⟨rfl, hB⟩
    have S1 := Lib.hid (S0.out.on hB)
    clear p1 hB S0
    have a0 := S1.out.free 0 rfl 0
    have a1 := S1.out.free 0 rfl 1
    have a2 := S1.out.free 0 rfl 2
    have b0 := S1.out.cell 0 rfl 0 rfl
    have b1 := S1.out.cell 0 rfl 1 rfl
    have b2 := S1.out.cell 0 rfl 2 rfl
    go_wp2_with fail
    obtain ⟨t, ht⟩ := S1.out.live (w.heap.size + 1, #[.int .i64 0, .int .i64 0, .slice none 0 0]) (by simp)
    (try simp only [Exit.inBlock, Exit.then]); refine bodyPost_ret (ret_segs2b rfl rfl ht) rfl ?_
    exact givesS_no (below_set3 S1.out.below (Nat.le_succ _) _ _ _)
end Go.Proofs.YtlnchfnmpamliaaGreat
