/-
  Layer 2 (sum): the law SumSees, all ways together.
-/
import Derived.Test.YtcldhflicakmaaaSumSees
namespace Go.Proofs.Ytcldhflicakmaaa
open Go.RowKit

set_option maxRecDepth 10000 in
set_option maxHeartbeats 1000000 in
theorem sumSees_out (s : ByteArray) (at_ : Int) (b : Int) (w : World) (h : (400 : Int) < s.size ∨ at_ < 0 ∨ (s.size : Int) ≤ at_) :
    Calls Try.prog 5 #[.string s, .int .i64 at_, .int .u8 b] w fun e w' => e = .returned (.bool true) ∧ Below w.heap.size w w' := by
  by_cases h1 : (400 : Int) < s.size
  · clear h
    go_enter Try.func5, Try.ntmps5
    go_wp2_with fail
    refine (summed_any _).mono ?_
    rintro e w1 ⟨rfl, hB1⟩
    go_wp2
    go_ret
    exact ⟨rfl, hB1⟩
  · have h1' : (s.size : Int) ≤ 400 := by omega
    by_cases h2 : at_ < 0
    · clear h h1
      go_enter Try.func5, Try.ntmps5
      go_wp2_with fail
      refine (summed_any _).mono ?_
      rintro e w1 ⟨rfl, hB1⟩
      go_wp2
      go_ret
      exact ⟨rfl, hB1⟩
    · have h2' : 0 ≤ at_ := by omega
      have h3 : (s.size : Int) ≤ at_ := by omega
      clear h h1 h2
      go_enter Try.func5, Try.ntmps5
      go_wp2_with fail
      refine (summed_any _).mono ?_
      rintro e w1 ⟨rfl, hB1⟩
      go_wp2
      go_ret
      exact ⟨rfl, hB1⟩

theorem sumSees_walk (s : ByteArray) (at_ b : Int) (w : World) (_hs : s.size ≤ maxLen) (_ha : (Lit.int .i64 at_).wf = true) (hb : (Lit.int .u8 b).wf = true) :
    Calls Try.prog 5 #[.string s, .int .i64 at_, .int .u8 b] w fun e w' => e = .returned (.bool true) ∧ Below w.heap.size w w' := by
  by_cases h : (400 : Int) < s.size ∨ at_ < 0 ∨ (s.size : Int) ≤ at_
  · exact sumSees_out s at_ b w h
  · obtain ⟨u, rfl⟩ := u8_in hb
    have h0 : 0 ≤ at_ := by omega
    obtain ⟨k, rfl⟩ := Int.eq_ofNat_of_zero_le h0
    by_cases hm : (k : Int) + 1 < s.size
    · exact sumSees_more s k u w (by omega) (by omega) hm
    · exact sumSees_last s k u w (by omega) (by omega) (by omega)

end Go.Proofs.Ytcldhflicakmaaa
