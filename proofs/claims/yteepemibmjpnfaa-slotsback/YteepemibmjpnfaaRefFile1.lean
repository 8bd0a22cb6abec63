/-
  Layer 12 (file): the references' Is, Read, New, Big.
-/
import Derived.Test.YteepemibmjpnfaaChecked
import Derived.Test.YteepemibmjpnfaaFileTwo
namespace Go.Proofs.Yteepemibmjpnfaa
set_option maxRecDepth 10000
open Go.RowKit

set_option maxHeartbeats 400000 in
theorem FRIs_any (m : Int) (k l : ByteArray) (hs : k.size ≤ 9000 ∧ l.size ≤ 9000) (w : World) :
    Calls Try.prog 44 #[.agg #[.int .i64 m, .string k, .string l]] w fun e w' => e = .returned (.bool (Fi.is ⟨m, k, l⟩)) ∧ Below w.heap.size w w' := by
  obtain ⟨hk, hl⟩ := hs
  have hw : wrap64 ((k.size : Int) + (l.size : Int)) = (k.size : Int) + l.size := by unfold wrap64; omega
  go_enter Try.func44, Try.ntmps44
  go_wp2
  all_goals go_ret
  all_goals refine ⟨?_, below_new _ _⟩
  all_goals congr 2
  all_goals (unfold Fi.is; simp [*] <;> omega)

set_option maxHeartbeats 400000 in
theorem FRRead_any (m : Int) (k l : ByteArray) (hs : k.size ≤ 9000 ∧ l.size ≤ 9000) (w : World) :
    Calls Try.prog 25 #[.agg #[.int .i64 m, .string k, .string l]] w fun e w' => e = .returned (.string (Fi.read ⟨m, k, l⟩)) ∧ Below w.heap.size w w' := by
  obtain ⟨hk, hl⟩ := hs
  have hw : ¬ 9223372036854775807 < k.size + l.size := by omega
  go_enter Try.func25, Try.ntmps25
  go_wp2
  all_goals go_ret
  all_goals exact ⟨rfl, below_new _ _⟩

set_option maxHeartbeats 400000 in
theorem FRBig_any (m : Int) (k l : ByteArray) (w : World) :
    Calls Try.prog 41 #[.agg #[.int .i64 m, .string k, .string l]] w fun e w' => e = .returned (.bool (decide (2000 < k.size ∨ 2000 < l.size))) ∧ Below w.heap.size w w' := by
  go_enter Try.func41, Try.ntmps41
  go_wp2
  all_goals go_ret
  all_goals refine ⟨?_, below_new _ _⟩
  all_goals congr 2
  all_goals (show Value.bool _ = Value.bool _; congr 1; rw [Bool.eq_iff_iff]; simp; try omega)

set_option maxHeartbeats 400000 in
theorem FRNew_any (n : Int) (w : World) :
    Calls Try.prog 40 #[.int .i64 n] w fun e w' => e = .returned (.tuple #[(Fi.new n).v, .int .i64 (Fi.newE n)]) ∧ Below w.heap.size w w' := by
  by_cases h : 1 ≤ n ∧ n ≤ 4000
  · obtain ⟨h0, h1⟩ := h
    unfold Fi.new Fi.newE; rw [if_pos ⟨h0, h1⟩, if_pos ⟨h0, h1⟩]
    go_enter Try.func40, Try.ntmps40
    go_wp2
    all_goals (try simp only [Exit.inBlock, Exit.then])
    all_goals refine bodyPost_ret (ret_file rfl rfl (FilAt.new w n _ _ _)) rfl ?_
    all_goals exact ⟨rfl, below_new _ _⟩
  · unfold Fi.new Fi.newE; rw [if_neg h, if_neg h]
    by_cases h0 : n < 1
    · clear h
      go_enter Try.func40, Try.ntmps40
      go_wp2
      all_goals (try simp only [Exit.inBlock, Exit.then])
      all_goals refine bodyPost_ret (ret_file rfl rfl (FilAt.new w 0 _ _ _)) rfl ?_
      all_goals exact ⟨rfl, below_new _ _⟩
    · have h1 : 4000 < n := by omega
      clear h
      go_enter Try.func40, Try.ntmps40
      go_wp2
      all_goals (try simp only [Exit.inBlock, Exit.then])
      all_goals refine bodyPost_ret (ret_file rfl rfl (FilAt.new w 0 _ _ _)) rfl ?_
      all_goals exact ⟨rfl, below_new _ _⟩

end Go.Proofs.Yteepemibmjpnfaa
