/-
  Layer 2 (sum): the walk of the law SumOn.
-/
import Derived.Test.YtcldhflicakmaaaSumSummed
namespace Go.Proofs.Ytcldhflicakmaaa
open Go.RowKit

theorem u8_in {y : Int} (h : (Lit.int .u8 y).wf = true) : ∃ u : UInt8, y = (u.toNat : Int) := by
  have h1 : IntKind.u8.min = 0 := by decide
  have h2 : IntKind.u8.max = 255 := by decide
  simp only [Lit.wf, h1, h2, Bool.and_eq_true, decide_eq_true_eq] at h
  refine ⟨UInt8.ofNat y.toNat, ?_⟩
  rw [UInt8.toNat_ofNat']; omega

theorem Of_b (l : List UInt8) (s : ByteArray) (w : World) (h : bl s = l) (hl : (l.length : Int) < 1000000000) :
    Calls Try.prog 13 #[.string s] w fun e w' => e = .returned (.int .i64 (Sm.ofL l : Int)) ∧ Below w.heap.size w w' := by
  subst h; exact Of_any s w (by rw [bl_length] at hl; exact hl)

theorem Step_of (l : List UInt8) (u : UInt8) (w : World) :
    Calls Try.prog 8 #[.int .i64 (Sm.ofL l : Int), .int .u8 (u.toNat : Int)] w fun e w' => e = .returned (.tuple #[.int .i64 (Sm.ofL (l ++ [u]) : Int), .bool true]) ∧ Below w.heap.size w w' := by
  have := Step_yes (Sm.ofL l : Int) (u.toNat : Int) w (by omega) (by have := Sm.ofL_lt l; omega) (by omega) (by have := u.toNat_lt; omega)
  rw [Int.toNat_natCast, Int.toNat_natCast, ← Sm.ofL_snoc] at this
  exact this

/-- string([]byte{u}), of a slice just made. -/
theorem run_conv_one (w : World) (u : UInt8) : (convert 31 9 (.slice (some ⟨w.heap.size, 0, none⟩) 1 1)).run Try.prog (w.alloc (.cells #[.int .u8 (u.toNat : Int)] 5)) = .ok (.string (strOf [u])) (w.alloc (.cells #[.int .u8 (u.toNat : Int)] 5)) := by
  have hnew := World.alloc_heap_new w (.cells #[.int .u8 (u.toNat : Int)] 5)
  refine run_convert_bytes_back (P := Try.prog) _ 31 9 5 ⟨w.heap.size, 0, none⟩ 1 [u] Try.underlying31 Try.underlying5 Try.underlying9 (fun j hj => ?_)
  obtain rfl : j = 0 := by simpa using hj
  show World.cell? _ ⟨w.heap.size, 0, none⟩ = _
  simp only [World.cell?, hnew]
  simp

theorem bool_eq2 {a b c d : Int} (h : c = d ↔ a = b) : ((a == b) == (c == d)) = true := by
  rw [beq_iff_eq, Bool.eq_iff_iff, beq_iff_eq, beq_iff_eq]; exact h.symm

set_option maxRecDepth 10000 in
set_option maxHeartbeats 1000000 in
theorem sumOn_walk (s t more : ByteArray) (b : Int) (w : World) (hs : s.size ≤ maxLen) (ht : t.size ≤ maxLen) (hm : more.size ≤ maxLen) (hb : (Lit.int .u8 b).wf = true) :
    Calls Try.prog 6 #[.string s, .string t, .string more, .int .u8 b] w fun e w' => e = .returned (.bool true) ∧ Below w.heap.size w w' := by
  obtain ⟨u, rfl⟩ := u8_in hb
  clear hb
  unfold maxLen at hs ht hm
  by_cases hl : (300 : Int) < s.size
  · clear hs ht hm
    go_enter Try.func6, Try.ntmps6
    go_wp2
    go_ret
    exact ⟨rfl, Below.refl _ _⟩
  have h1 : (s.size : Int) ≤ 300 := by omega
  by_cases hl2 : (300 : Int) < t.size
  · clear hs ht hm hl
    go_enter Try.func6, Try.ntmps6
    go_wp2
    go_ret
    exact ⟨rfl, Below.refl _ _⟩
  have h2 : (t.size : Int) ≤ 300 := by omega
  by_cases hl3 : (100 : Int) < more.size
  · clear hs ht hm hl hl2
    go_enter Try.func6, Try.ntmps6
    go_wp2
    go_ret
    exact ⟨rfl, Below.refl _ _⟩
  have h3 : (more.size : Int) ≤ 100 := by omega
  clear hs ht hm hl hl2 hl3
  go_enter Try.func6, Try.ntmps6
  go_wp2_with fail
  refine (Of_b (bl s) s _ rfl (by rw [bl_length]; omega)).mono ?_
  rintro e w1 ⟨rfl, hB1⟩
  go_wp2_with fail
  refine (Step_of (bl s) u _).mono ?_
  rintro e w2 ⟨rfl, hB2⟩
  have hconv := run_conv_one w2 u
  have hcat1 : ¬ 9223372036854775807 < s.size + (strOf [u]).size := by rw [strOf_size]; simp; omega
  have hcat2 : ¬ 9223372036854775807 < s.size + more.size := by omega
  have hcat3 : ¬ 9223372036854775807 < t.size + more.size := by omega
  have hq : ((((Sm.ofL (bl s) : Nat) : Int) == ((Sm.ofL (bl t) : Nat) : Int)) == (((Sm.ofL (bl s ++ bl more) : Nat) : Int) == ((Sm.ofL (bl t ++ bl more) : Nat) : Int))) = true :=
    bool_eq2 (by rw [Int.ofNat_inj, Int.ofNat_inj]; exact Sm.ofL_more _ _ _)
  go_wp2_with fail
  refine (Of_b (bl s ++ [u]) (s ++ strOf [u]) _ (by rw [bl_append, bl_strOf]) (by rw [List.length_append, bl_length]; simp; omega)).mono ?_
  rintro e w3 ⟨rfl, hB3⟩
  clear hconv
  go_wp2_with fail
  refine (summed_any _).mono ?_
  rintro e w4 ⟨rfl, hB4⟩
  go_wp2_with fail
  refine (Of_b (bl s) s _ rfl (by rw [bl_length]; omega)).mono ?_
  rintro e w5 ⟨rfl, hB5⟩
  go_wp2_with fail
  refine (Of_b (bl t) t _ rfl (by rw [bl_length]; omega)).mono ?_
  rintro e w6 ⟨rfl, hB6⟩
  go_wp2_with fail
  refine (Of_b (bl s ++ bl more) (s ++ more) _ (bl_append _ _) (by rw [List.length_append, bl_length, bl_length]; omega)).mono ?_
  rintro e w7 ⟨rfl, hB7⟩
  go_wp2_with fail
  refine (Of_b (bl t ++ bl more) (t ++ more) _ (bl_append _ _) (by rw [List.length_append, bl_length, bl_length]; omega)).mono ?_
  rintro e w8 ⟨rfl, hB8⟩
  go_wp2
  go_ret
  have h2' := below2 hB1 hB2
  have h3' : Below w.heap.size w w3 := (h2'.alloc h2'.size _).trans (hB3.mono (by have := h2'.size; simp; omega))
  exact ⟨rfl, below2 h3' (below2 hB4 (below2 hB5 (below2 hB6 (below2 hB7 hB8))))⟩

end Go.Proofs.Ytcldhflicakmaaa
