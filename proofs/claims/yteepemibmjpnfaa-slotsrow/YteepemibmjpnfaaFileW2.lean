/-
  Layer 12 (file): the landed code: keeping, New, Crash, Sync (printed by tools/gen-filew2.py).
-/
import Derived.Test.YteepemibmjpnfaaFileW1
namespace Go.Proofs.Yteepemibmjpnfaa
set_option maxRecDepth 10000
open Go.RowKit

set_option maxHeartbeats 1000000 in
theorem fkeep_any (m : Int) (k l : ByteArray) (n : Int) (hs : k.size ≤ 9000 ∧ l.size ≤ 9000) (hn : 0 ≤ n) (r : ByteArray) (hr : r = Fi.read ⟨m, k, l⟩) (hg : n ≤ (r.size : Int)) (w : World) :
    Calls Try.prog 51 #[.agg #[.int .i64 m, .string k, .string l], .int .i64 n] w fun e w' => e = .returned (.agg #[.int .i64 m, .string (r.extract 0 n.toNat), .string ⟨#[]⟩]) ∧ Below w.heap.size w w' := by
  have p2 := fun W => fcread_any m k l hs W
  rw [← hr] at p2
  clear hs hr
  obtain ⟨w1, hw1⟩ : ∃ x, x = (w.alloc (.cells #[.int .i64 m, .string k, .string l] 77)).alloc (.cells #[.int .i64 0, .string ⟨#[]⟩, .string ⟨#[]⟩] 23) := ⟨_, rfl⟩
  have hF1 : FilAt w1 (w.heap.size + 1) 0 ⟨#[]⟩ ⟨#[]⟩ := by rw [hw1]; exact FilAt.new1 w _ 0 ⟨#[]⟩ ⟨#[]⟩ _
  have hF0 : FilAt w1 w.heap.size m k l := by rw [hw1]; exact (FilAt.new w m k l _).alloc _
  have Hb : Hid (Below w.heap.size w w1) := by rw [hw1]; exact Lib.hid (below_new2 w _ _)
  have d0 := hF0.c0
  have d1 := hF0.c1
  have d2 := hF0.c2
  have hlt := hF0.lt
  have HF := Lib.hid hF1
  clear hF1 hF0
  go_enter Try.func51, Try.ntmps51
  go_wp2_with fail
  rw [← hw1]
  clear hw1
  go_region_held3 (fun W => W.cell? ⟨w.heap.size, 0, none⟩ = some (.int .i64 m) ∧ W.cell? ⟨w.heap.size, 1, none⟩ = some (.string k) ∧ W.cell? ⟨w.heap.size, 2, none⟩ = some (.string l)) (first | exact ⟨d0, d1, d2⟩ | exact ⟨cell_set3 d0 (Nat.lt_succ_self _), cell_set3 d1 (Nat.lt_succ_self _), cell_set3 d2 (Nat.lt_succ_self _)⟩) ((go_at_call 57; refine (p2 _).mono ?_; rintro e w' ⟨rfl, hB'⟩; have hB2 : Below w1.heap.size w1 w' := (by first | exact hB' | exact below_undrew hB'); replace d0 := (hB2.cell (p := ⟨w.heap.size, 0, none⟩) hlt).trans d0; replace d1 := (hB2.cell (p := ⟨w.heap.size, 1, none⟩) hlt).trans d1; replace d2 := (hB2.cell (p := ⟨w.heap.size, 2, none⟩) hlt).trans d2; have HF2 := Lib.hid (HF.out.below hB2); have Hb2 := Lib.hid (below2 Hb.out hB2); have a0 := HF2.out.f0; have a1 := HF2.out.f1; have a2 := HF2.out.f2; have b0 := HF2.out.c0; have b1 := HF2.out.c1; have b2 := HF2.out.c2; clear hB' hB2))
  clear d0 d1 d2 p2
  go_wp2_with fail
  (try simp only [Exit.inBlock, Exit.then]); refine bodyPost_ret (ret_one12 rfl rfl (((HF2.out.set0 m).set1 _).set2 _)) rfl ?_
  exact ⟨rfl, below_set3 Hb2.out (by omega) _ _ _⟩

set_option maxHeartbeats 1000000 in
theorem fnew_any (n : Int) (w : World) :
    Calls Try.prog 39 #[.int .i64 n] w fun e w' => e = .returned (.tuple #[(Fi.new n).v, .int .i64 (Fi.newE n)]) ∧ Below w.heap.size w w' := by
  have hz : (⟨#[]⟩ : ByteArray).size ≤ 9000 := Nat.zero_le _
  have p1 := fun W => fis_any n ⟨#[]⟩ ⟨#[]⟩ ⟨hz, hz⟩ W
  by_cases h : 1 ≤ n ∧ n ≤ 4000
  · have e1 : Fi.is ⟨n, ⟨#[]⟩, ⟨#[]⟩⟩ = true := decide_eq_true ⟨h.1, h.2, by show (0 : Int) + 0 ≤ n; omega⟩
    rw [e1] at p1
    unfold Fi.new Fi.newE; rw [if_pos h, if_pos h]
    clear h e1 hz
    go_enter Try.func39, Try.ntmps39
    go_wp2_with fail
    refine (p1 _).mono ?_
    rintro e w1 ⟨rfl, hB⟩
    have hF1 := ((FilAt.new w 0 ⟨#[]⟩ ⟨#[]⟩ 23).alloc (.cells #[.int .i64 n, .string ⟨#[]⟩, .string ⟨#[]⟩] 23)).below hB
    have hF2 := (FilAt.new1 w (.cells #[.int .i64 0, .string ⟨#[]⟩, .string ⟨#[]⟩] 23) n ⟨#[]⟩ ⟨#[]⟩ 23).below hB
    have Hb := Lib.hid (below2 (below_new2 w _ _) hB)
    have a0 := hF1.f0
    have a1 := hF1.f1
    have a2 := hF1.f2
    have b0 := hF1.c0
    have b1 := hF1.c1
    have b2 := hF1.c2
    have d0 := hF2.c0
    have d1 := hF2.c1
    have d2 := hF2.c2
    have HF := Lib.hid hF1
    clear p1 hB hF1 hF2
    go_wp2_with fail
    (try simp only [Exit.inBlock, Exit.then]); refine bodyPost_ret (ret_file rfl rfl (((HF.out.set0 n).set1 _).set2 _)) rfl ?_
    exact ⟨rfl, below_set3 Hb.out (by omega) _ _ _⟩
  · have e1 : Fi.is ⟨n, ⟨#[]⟩, ⟨#[]⟩⟩ = false := decide_eq_false fun hh => h ⟨hh.1, hh.2.1⟩
    rw [e1] at p1
    unfold Fi.new Fi.newE; rw [if_neg h, if_neg h]
    clear h e1 hz
    go_enter Try.func39, Try.ntmps39
    go_wp2_with fail
    refine (p1 _).mono ?_
    rintro e w1 ⟨rfl, hB⟩
    have hF1 := ((FilAt.new w 0 ⟨#[]⟩ ⟨#[]⟩ 23).alloc (.cells #[.int .i64 n, .string ⟨#[]⟩, .string ⟨#[]⟩] 23)).below hB
    have Hb := Lib.hid (below2 (below_new2 w _ _) hB)
    have a0 := hF1.f0
    have a1 := hF1.f1
    have a2 := hF1.f2
    have b0 := hF1.c0
    have b1 := hF1.c1
    have b2 := hF1.c2
    have HF := Lib.hid hF1
    clear p1 hB hF1
    go_wp2_with fail
    (try simp only [Exit.inBlock, Exit.then]); refine bodyPost_ret (ret_file rfl rfl (((HF.out.set0 0).set1 _).set2 _)) rfl ?_
    exact ⟨rfl, below_set3 Hb.out (by omega) _ _ _⟩
end Go.Proofs.Yteepemibmjpnfaa
