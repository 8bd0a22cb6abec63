/-
  Layer 12 (file): the references' Sync.
-/
import Derived.Test.YtdhklggbmlkloaaRefFile1
import Derived.Deep.RegionHeld3
namespace Go.Proofs.Ytdhklggbmlkloaa
set_option maxRecDepth 10000
open Go.RowKit

set_option maxHeartbeats 400000 in
theorem FRSync_no (m : Int) (k l : ByteArray) (hs : k.size ≤ 9000 ∧ l.size ≤ 9000) (w : World) (h : Fi.is ⟨m, k, l⟩ = false) :
    Calls Try.prog 14 #[.agg #[.int .i64 m, .string k, .string l]] w fun e w' => e = .returned (.tuple #[Fi.no.v, .int .i64 1]) ∧ Below w.heap.size w w' := by
  have p1 := fun W => FRIs_any m k l hs W
  rw [h] at p1
  clear h hs
  go_enter Try.func14, Try.ntmps14
  go_wp2_with fail
  refine (p1 _).mono ?_
  rintro e w1 ⟨rfl, hB⟩
  have hF1 := (FilAt.new1 w (.cells #[.int .i64 m, .string k, .string l] 23) 0 ⟨#[]⟩ ⟨#[]⟩ 23).below hB
  have Hb := Lib.hid (below2 (below_new2 w _ _) hB)
  have a0 := hF1.f0
  have a1 := hF1.f1
  have a2 := hF1.f2
  have b0 := hF1.c0
  have b1 := hF1.c1
  have b2 := hF1.c2
  have HF := Lib.hid hF1
  clear p1 hB hF1
  go_wp2_with fail
  (try simp only [Exit.inBlock, Exit.then]); refine bodyPost_ret (ret_file rfl rfl (((HF.out.set0 0).set1 _).set2 _)) rfl ?_
  exact ⟨rfl, below_set3 Hb.out (by omega) _ _ _⟩

set_option maxHeartbeats 400000 in
theorem FRSync_yes (m : Int) (k l r : ByteArray) (hs : k.size ≤ 9000 ∧ l.size ≤ 9000) (w : World) (h : Fi.is ⟨m, k, l⟩ = true) (hr : r = Fi.read ⟨m, k, l⟩) :
    Calls Try.prog 14 #[.agg #[.int .i64 m, .string k, .string l]] w fun e w' => e = .returned (.tuple #[(⟨m, r, ⟨#[]⟩⟩ : Fil).v, .int .i64 0]) ∧ Below w.heap.size w w' := by
  have p1 := fun W => FRIs_any m k l hs W
  have p2 := fun W => FRRead_any m k l hs W
  rw [h] at p1
  rw [← hr] at p2
  clear h hs hr
  go_enter Try.func14, Try.ntmps14
  go_wp2_with fail
  refine (p1 _).mono ?_
  rintro e w1 ⟨rfl, hB⟩
  have hF1 := (FilAt.new1 w (.cells #[.int .i64 m, .string k, .string l] 23) 0 ⟨#[]⟩ ⟨#[]⟩ 23).below hB
  have hF0 := ((FilAt.new w m k l 23).alloc (.cells #[.int .i64 0, .string ⟨#[]⟩, .string ⟨#[]⟩] 23)).below hB
  have Hb := Lib.hid (below2 (below_new2 w _ _) hB)
  have d0 := hF0.c0
  have d1 := hF0.c1
  have d2 := hF0.c2
  have hlt := hF0.lt
  have HF := Lib.hid hF1
  have HG := Lib.hid hF0
  clear p1 hB hF1 hF0
  go_wp2_with fail
  go_region_held3 (fun W => W.cell? ⟨w.heap.size, 0, none⟩ = some (.int .i64 m) ∧ W.cell? ⟨w.heap.size, 1, none⟩ = some (.string k) ∧ W.cell? ⟨w.heap.size, 2, none⟩ = some (.string l)) (first | exact ⟨d0, d1, d2⟩ | exact ⟨cell_set3 d0 (Nat.lt_succ_self _), cell_set3 d1 (Nat.lt_succ_self _), cell_set3 d2 (Nat.lt_succ_self _)⟩) ((go_at_call 25; refine (p2 _).mono ?_; rintro e w' ⟨rfl, hB'⟩; have hB2 : Below w1.heap.size w1 w' := (by first | exact hB' | exact below_undrew hB'); replace d0 := (hB2.cell (p := ⟨w.heap.size, 0, none⟩) hlt).trans d0; replace d1 := (hB2.cell (p := ⟨w.heap.size, 1, none⟩) hlt).trans d1; replace d2 := (hB2.cell (p := ⟨w.heap.size, 2, none⟩) hlt).trans d2; have HF2 := Lib.hid (HF.out.below hB2); have Hb2 := Lib.hid (below2 Hb.out hB2); have a0 := HF2.out.f0; have a1 := HF2.out.f1; have a2 := HF2.out.f2; have b0 := HF2.out.c0; have b1 := HF2.out.c1; have b2 := HF2.out.c2; clear hB' hB2))
  clear d0 d1 d2 p2
  go_wp2_with fail
  (try simp only [Exit.inBlock, Exit.then]); refine bodyPost_ret (ret_file rfl rfl (((HF2.out.set0 m).set1 _).set2 _)) rfl ?_
  exact ⟨rfl, below_set3 Hb2.out (by omega) _ _ _⟩

theorem FRSync_any (m : Int) (k l : ByteArray) (hs : k.size ≤ 9000 ∧ l.size ≤ 9000) (w : World) :
    Calls Try.prog 14 #[.agg #[.int .i64 m, .string k, .string l]] w fun e w' => e = .returned (.tuple #[(Fi.sync ⟨m, k, l⟩).v, .int .i64 (Fi.badE ⟨m, k, l⟩)]) ∧ Below w.heap.size w w' := by
  cases h : Fi.is ⟨m, k, l⟩
  · have e1 : Fi.sync ⟨m, k, l⟩ = Fi.no := by unfold Fi.sync; rw [h]; rfl
    have e2 : Fi.badE ⟨m, k, l⟩ = 1 := by unfold Fi.badE; rw [h]; rfl
    rw [e1, e2]; exact FRSync_no m k l hs w h
  · have e1 : Fi.sync ⟨m, k, l⟩ = ⟨m, Fi.read ⟨m, k, l⟩, ⟨#[]⟩⟩ := by unfold Fi.sync; rw [h]; rfl
    have e2 : Fi.badE ⟨m, k, l⟩ = 0 := by unfold Fi.badE; rw [h]; rfl
    rw [e1, e2]; exact FRSync_yes m k l _ hs w h rfl

end Go.Proofs.Ytdhklggbmlkloaa
