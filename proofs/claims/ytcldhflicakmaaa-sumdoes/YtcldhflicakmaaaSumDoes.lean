/-
  Layer 2 (sum): the walk of the law SumDoes.
-/
import Derived.Test.YtcldhflicakmaaaSumRef
import Derived.Test.YtcldhflicakmaaaSumSummed
namespace Go.Proofs.Ytcldhflicakmaaa
open Go.RowKit

theorem u8_bounds {y : Int} (h : (Lit.int .u8 y).wf = true) : 0 ≤ y ∧ y < 256 := by
  have h1 : IntKind.u8.min = 0 := by decide
  have h2 : IntKind.u8.max = 255 := by decide
  simp only [Lit.wf, h1, h2, Bool.and_eq_true, decide_eq_true_eq] at h
  omega

/-- What Step answers. -/
def stepV (c b : Int) : Int := if 0 ≤ c ∧ c < 65536 then (Sm.st c.toNat b.toNat : Int) else 0
def stepB (c : Int) : Bool := decide (0 ≤ c ∧ c < 65536)

theorem Step_any (c b : Int) (w : World) (hb1 : 0 ≤ b) (hb2 : b < 256) :
    Calls Try.prog 8 #[.int .i64 c, .int .u8 b] w fun e w' => e = .returned (.tuple #[.int .i64 (stepV c b), .bool (stepB c)]) ∧ Below w.heap.size w w' := by
  by_cases h : 0 ≤ c ∧ c < 65536
  · rw [stepV, if_pos h, stepB, decide_eq_true h]; exact Step_yes c b w h.1 h.2 hb1 hb2
  · rw [stepV, if_neg h, stepB, decide_eq_false h]
    exact (Step_no c b w (by omega)).mono fun _ _ ⟨he, hw⟩ => ⟨he, hw ▸ Below.refl _ _⟩
theorem rStep_any (c b : Int) (w : World) (hb1 : 0 ≤ b) (hb2 : b < 256) :
    Calls Try.prog 9 #[.int .i64 c, .int .u8 b] w fun e w' => e = .returned (.tuple #[.int .i64 (stepV c b), .bool (stepB c)]) ∧ ∃ n, w' = w.drewN n := by
  by_cases h : 0 ≤ c ∧ c < 65536
  · rw [stepV, if_pos h, stepB, decide_eq_true h]; exact rStep_yes c b w h.1 h.2 hb1 hb2
  · rw [stepV, if_neg h, stepB, decide_eq_false h]
    exact rStep_no c b w (by omega)

set_option maxRecDepth 10000 in
set_option maxHeartbeats 1000000 in
theorem sumDoes_walk (c b : Int) (s : ByteArray) (most : Int) (w : World) (_hc : (Lit.int .i64 c).wf = true) (hb : (Lit.int .u8 b).wf = true) (hs : s.size ≤ maxLen) (_hm : (Lit.int .i64 most).wf = true) :
    Calls Try.prog 3 #[.int .i64 c, .int .u8 b, .string s, .int .i64 most] w fun e w' => e = .returned (.bool true) ∧ Below w.heap.size w w' := by
  obtain ⟨hb1, hb2⟩ := u8_bounds hb
  clear hb _hc _hm
  unfold maxLen at hs
  by_cases hl : (400 : Int) < s.size
  · go_enter Try.func3, Try.ntmps3
    go_wp2
    go_ret
    exact ⟨rfl, Below.refl _ _⟩
  · have hle : (s.size : Int) ≤ 400 := by omega
    clear hs hl
    go_enter Try.func3, Try.ntmps3
    go_wp2_with fail
    refine (Step_any c b _ hb1 hb2).mono ?_
    rintro e w1 ⟨rfl, hB1⟩
    go_wp2_with fail
    refine (rStep_any c b _ hb1 hb2).mono ?_
    rintro e w2 ⟨rfl, n2, rfl⟩
    go_wp2_with fail
    refine (Find_any s c most _ (by omega)).mono ?_
    rintro e w3 ⟨rfl, hB3⟩
    go_wp2_with fail
    refine (rFind_any s c most _ (by omega)).mono ?_
    rintro e w4 ⟨rfl, n4, rfl⟩
    go_wp2_with fail
    refine (summed_any _).mono ?_
    rintro e w5 ⟨rfl, hB5⟩
    go_wp2_with fail
    refine (Of_any s _ (by omega)).mono ?_
    rintro e w6 ⟨rfl, hB6⟩
    go_wp2_with fail
    refine (rOf_any s _ (by omega)).mono ?_
    rintro e w7 ⟨rfl, n7, rfl⟩
    go_wp2
    go_ret
    refine ⟨rfl, ?_⟩
    have h3 : Below w.heap.size w w3 := below2 (below_drew hB1 n2) hB3
    have h5 : Below w.heap.size w w5 := below2 (below_drew h3 n4) hB5
    exact below_drew (below2 h5 hB6) n7

end Go.Proofs.Ytcldhflicakmaaa
