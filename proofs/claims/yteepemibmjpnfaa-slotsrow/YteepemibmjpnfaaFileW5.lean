/-
  Layer 12 (file): the landed code: strings.Join without a separator, with.
-/
import Derived.Test.YteepemibmjpnfaaFileW4
import Derived.Test.YteepemibmjpnfaaShelf
namespace Go.Proofs.Yteepemibmjpnfaa
set_option maxRecDepth 10000
open Go.RowKit

theorem bx12 : Builder.Extra Try.prog Try.lays156_ren := by
  refine ⟨⟨by kernel_rfl, by kernel_rfl⟩, Try.underlying5, Try.isAgg5, Try.sizeOf5, Try.zeroValue5, by kernel_rfl, by kernel_rfl, by kernel_rfl, by decide⟩
theorem join_flat (xs : List (List UInt8)) : Lib.join xs [] = xs.flatten := by
  cases xs with
  | nil => rfl
  | cons x r =>
    rw [Lib.join_cons]
    unfold Lib.joinTail
    simp
theorem flat_le (ss : List ByteArray) (hz : ∀ s ∈ ss, s.size ≤ 9000) : (ss.map bl).flatten.length ≤ 9000 * ss.length := by
  induction ss with
  | nil => simp
  | cons s r ih =>
    have h1 := ih (fun x hx => hz x (List.mem_cons_of_mem _ hx))
    have h2 := hz s (by simp)
    rw [List.map_cons, List.flatten_cons, List.length_append, bl_length, List.length_cons]
    omega
theorem all_le (ss : List ByteArray) (hl : ss.length ≤ 1000) (hz : ∀ s ∈ ss, s.size ≤ 9000) : (Fi.all ss).size ≤ 9000000 := by
  have h := flat_le ss hz
  have e : (Fi.all ss).size = (ss.map bl).flatten.length := by unfold Fi.all; rw [← bl_length, bl_strOf]
  omega

/-- The library's Join, without a separator. -/
theorem join_any (A : Option Addr) (c : Nat) (ss : List ByteArray) (w : World) (hA : StrsAt w w.heap.size A ss) (hl : ss.length ≤ 1000) (hc : ss.length ≤ c) (hz : ∀ s ∈ ss, s.size ≤ 9000) :
    Calls Try.prog 74 #[.slice A ss.length c, .string ⟨#[]⟩] w fun e w' => e = .returned (.string (Fi.all ss)) ∧ Below w.heap.size w w' := by
  have hj : Lib.join (ss.map (·.data.toList)) (⟨#[]⟩ : ByteArray).data.toList = (ss.map bl).flatten := join_flat _
  by_cases h0 : ss = []
  · subst h0
    refine (Any.strings_Join_none Try.lays156 bx12 A c ⟨#[]⟩ w).mono ?_
    rintro e w' ⟨rfl, rfl⟩
    exact ⟨rfl, Below.refl _ _⟩
  · have hp : 0 < ss.length := List.length_pos_iff.2 h0
    obtain ⟨b, off, rfl, hb, _⟩ := hA 0 hp
    refine (Any.strings_Join Try.lays156 bx12 b off c ss ⟨#[]⟩ w (fun j x hx => ?_) hb (by omega) hc ?_).mono ?_
    · obtain ⟨hj, rfl⟩ := List.getElem?_eq_some_iff.1 hx
      obtain ⟨b', off', e', _, hc'⟩ := hA j hj
      cases e'
      exact hc'
    · rw [hj]; have := flat_le ss hz; omega
    · rintro e w' ⟨rfl, hB⟩
      rw [hj]
      exact ⟨rfl, hB⟩
end Go.Proofs.Yteepemibmjpnfaa
