/-
  Layer 8 (board), the reference: Same, New, Get.
-/
import Derived.Test.YtplpadblhjdpcaaGreatXJc
import Derived.Test.YtplpadblhjdpcaaGreatXRefSameK
import Derived.Laws.ResultCell
import Derived.BigQuiet
import Derived.Deep.QuietTactic
namespace Go.Proofs.YtplpadblhjdpcaaGreat
set_option maxRecDepth 10000
open Go.RowKit

theorem rbSame : SameK := by
  intro m n A B l c c2 ls w h h1 h2 h3
  subst h
  have hb := below_new2 w (.cells #[.int .i64 m, .int .i64 n, .slice A ls.length c] 24) (.cells #[.int .i64 m, .int .i64 n, .slice B ls.length c2] 24)
  have g := RASame_any A B c c2 ls _ (h1.on hb) (h2.on hb) h3
  have e0 : (m == m) = true := by rw [beq_iff_eq]
  have e1 : (n == n) = true := by rw [beq_iff_eq]
  obtain ⟨l, hl⟩ : ∃ l, l = ls.length := ⟨_, rfl⟩
  rw [← hl] at g hb ⊢
  have HB := Lib.hid hb
  clear h1 h2 h3 hl hb
  go_enter Tryz.func19, Tryz.ntmps19
  go_wp2_with fail
  refine g.mono ?_
  rintro e w1 ⟨rfl, q, rfl⟩
  go_wp2
  go_ret
  exact ⟨rfl, below_drew HB.out q⟩

set_option maxRecDepth 10000 in
set_option maxHeartbeats 2000000 in
theorem rbGet (m n : Int) (A : Option Addr) (l c : Nat) (ls : List Alm) (b ch : Int) (w : World) (h : Told w A l c ls) :
    Calls Tryz.prog 29 #[.agg #[.int .i64 m, .int .i64 n, .slice A l c], .agg #[.int .i64 b, .int .i64 ch]] w fun e w' => e = .returned (.tuple #[.agg (sixV (Bd.getA b ch ls).1), .bool (Bd.getA b ch ls).2]) ∧ Below w.heap.size w w' := by
  obtain ⟨hl, hA, _, hf⟩ := h
  have HU := Lib.hid (((St.start w).more (rowF A ls) hA).box2 #[.int .i64 m, .int .i64 n, .slice A l c] #[.int .i64 b, .int .i64 ch] 24 26)
  obtain ⟨r, hr⟩ : ∃ r, r = Bd.getA b ch ls := ⟨_, rfl⟩
  have Hr := Lib.hid hr
  rw [← hr]
  have Hl := Lib.hid hl
  have Hf := Lib.hid hf
  clear hl hA hf hr
  go_enter Tryz.func29, Tryz.ntmps29
  go_wp2_with fail
  obtain ⟨u, hu⟩ : ∃ W, W = (w.alloc (.cells #[.int .i64 m, .int .i64 n, .slice A l c] 24)).alloc (.cells #[.int .i64 b, .int .i64 ch] 26) := ⟨_, rfl⟩
  have hus : u.heap.size = w.heap.size + 1 + 1 := by rw [hu]; simp
  rw [← hu] at HU ⊢
  have HS : Hid (St w (u.alloc (.cells #[.int .i64 0, .int .i64 0, .int .i64 0, .int .i64 0, .int .i64 0, .int .i64 0] 38)) ((w.heap.size + 1 + 1, #[.int .i64 0, .int .i64 0, .int .i64 0, .int .i64 0, .int .i64 0, .int .i64 0]) :: [(w.heap.size + 1, #[.int .i64 b, .int .i64 ch]), (w.heap.size, #[.int .i64 m, .int .i64 n, .slice A l c])]) [rowF A ls]) := Lib.hid (by rw [← hus]; exact HU.out.new _ _)
  have HBu := Lib.hid (below_new u (.cells #[.int .i64 0, .int .i64 0, .int .i64 0, .int .i64 0, .int .i64 0, .int .i64 0] 38))
  have Hus := Lib.hid hus
  obtain ⟨w1, hw1⟩ : ∃ W, W = u.alloc (.cells #[.int .i64 0, .int .i64 0, .int .i64 0, .int .i64 0, .int .i64 0, .int .i64 0] 38) := ⟨_, rfl⟩
  rw [← hw1] at HS HBu ⊢
  clear hu hus hw1
  obtain ⟨p3, hp3⟩ : ∃ p, p = w.heap.size + 1 + 1 := ⟨_, rfl⟩
  rw [← hp3] at HS Hus ⊢
  obtain ⟨p2, hp2⟩ : ∃ p, p = w.heap.size + 1 := ⟨_, rfl⟩
  rw [← hp2] at HS HU ⊢
  obtain ⟨p1, hp1⟩ : ∃ p, p = w.heap.size := ⟨_, rfl⟩
  rw [← hp1] at HS HU ⊢
  clear hp1 hp2 hp3
  have s2 := HS.out.cell 2 rfl 2 rfl
  have t0 := HS.out.cell 1 rfl 0 rfl
  have t1 := HS.out.cell 1 rfl 1 rfl
  have HA : Hid (AlmsAt w1 w1.heap.size A ls) := Lib.hid (HS.out.fact 0 rfl)
  go_wp2_with fail
  go_loopw [6] (fun i wr => ∃ k q : Nat, k ≤ l ∧ i = .int .i64 (k : Int) ∧ wr = w1.drewN q ∧ Hid (Bd.getA b ch (ls.drop k) = r)) (fun i _ => l - (intOf i).toNat)
  case atStart => exact ⟨0, 0, Nat.zero_le _, rfl, rfl, Lib.hid (by rw [Hr.out]; rfl)⟩
  case round =>
    obtain ⟨k, q, hk, rfl, rfl, Hg⟩ := hrel
    have HSq := Lib.hid (HS.out.drewN q)
    have HBq := Lib.hid (below_drew HBu.out q)
    by_cases hlt : k < l
    · have kl : k < ls.length := by rw [← Hl.out]; exact hlt
      obtain ⟨b0, o0, rfl, hb0, h6⟩ := HA.out k kl
      have Hs := Lib.hid (Bd.get_drop (b := b) (c := ch) kl)
      obtain ⟨x, hx⟩ : ∃ x, x = ls[k] := ⟨_, rfl⟩
      rw [← hx] at h6 Hs
      clear hx
      obtain ⟨x0, x1, x2, x3, x4, x5⟩ := x
      have d0 := h6.c0
      have d1 := h6.c1
      have d2 := h6.c2
      have d3 := h6.c3
      have d4 := h6.c4
      have d5 := h6.c5
      simp only at d0 d1 d2 d3 d4 d5
      have i1 : (k : Int) < (l : Int) := by omega
      have i3 : (0 : Int) ≤ (k : Int) := by omega
      have Ik : Hid (wrap64 ((k : Int) + 1) = (k : Int) + 1) := Lib.hid (by have := Hf.out; unfold wrap64; omega)
      have Hk := Lib.hid hlt
      obtain ⟨z, hz⟩ : ∃ z, z = decide (x0 = b ∧ x1 = ch) := ⟨_, rfl⟩
      have hq := fun W => run_eql_sp x0 x1 b ch z hz W
      have Ha : Hid (Bd.atS b ch ⟨x0, x1, x2, x3, x4, x5⟩ = z) := Lib.hid (by rw [hz]; unfold Bd.atS; by_cases h1 : x0 = b <;> by_cases h2 : x1 = ch <;> simp [h1, h2])
      clear h6 kl hk hlt hz hb0
      cases z
      · have He : Hid (Bd.getA b ch (ls.drop (k + 1)) = r) := Lib.hid (by rw [← Hg.out, Hs.out, Ha.out]; rfl)
        clear Hs Hg Ha HSq HBq
        go_wp2
        go_quiet (fail)
        go_wp2
        go_roundw
        case rel => exact ⟨k + 1, _, Hk.out, by first | rfl | (rw [Ik.out]; rfl), rfl, He⟩
        case measure => have := Hk.out; (try rw [Ik.out]); simp [intOf]; omega
      · have He : Hid (r = (⟨x0, x1, x2, x3, x4, x5⟩, true)) := Lib.hid (by rw [← Hg.out, Hs.out, Ha.out]; rfl)
        clear Hs Hg Ha HSq HBq
        go_wp2
        go_quiet (fail)
        have HSn := Lib.hid (HS.out.drewN (q + nq))
        have HBn := Lib.hid (below_drew HBu.out (q + nq))
        go_wp2_with (refine wpList_reset_st rfl 38 _ _ rfl HU.out HSn.out HBn.out (by rw [Hus.out]; exact Nat.le_refl _) #[.int .i64 x0, .int .i64 x1, .int .i64 x2, .int .i64 x3, .int .i64 x4, .int .i64 x5] rfl rfl (by rfl) rfl (six_one ⟨x0, x1, x2, x3, x4, x5⟩) ?_; intro w9 hS9; have HS9 := Lib.hid hS9; clear hS9)
        (try simp only [Exit.inBlock, Exit.then]); refine bodyPost_ret (ret_alarm8 rfl rfl HS9.out 0 rfl rfl) rfl ?_
        exact ⟨by rw [He.out]; rfl, HS9.out.below⟩
    · have ik : ((k : Int) < (l : Int)) = False := eq_false (by omega)
      have He : Hid (r = (Am.zero, false)) := Lib.hid (by rw [← Hg.out, List.drop_eq_nil_of_le (by have := Hl.out; omega)]; rfl)
      clear hk hlt Hg
      go_wp2_with (refine wpList_reset_st rfl 38 _ _ rfl HU.out HSq.out HBq.out (by rw [Hus.out]; exact Nat.le_refl _) #[.int .i64 0, .int .i64 0, .int .i64 0, .int .i64 0, .int .i64 0, .int .i64 0] rfl rfl (by rfl) rfl (six_one Am.zero) ?_; intro w9 hS9; have HS9 := Lib.hid hS9; clear hS9)
      (try simp only [Exit.inBlock, Exit.then]); refine bodyPost_ret (ret_alarm8 rfl rfl HS9.out 0 rfl rfl) rfl ?_
      exact ⟨by rw [He.out]; rfl, HS9.out.below⟩
end Go.Proofs.YtplpadblhjdpcaaGreat
