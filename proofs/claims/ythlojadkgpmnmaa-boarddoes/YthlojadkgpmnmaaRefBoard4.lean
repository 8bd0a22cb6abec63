/-
  Layer 8 (board), the reference: Drop.
-/
import Derived.Test.YthlojadkgpmnmaaState3
import Derived.Test.YthlojadkgpmnmaaRefBoard3
namespace Go.Proofs.Ythlojadkgpmnmaa
open Go.RowKit

def DrRel (w1 : World) (l : Nat) (f : List Alm → List Alm) (ls : List Alm) (out i : Value) (wr : World) : Prop :=
  ∃ k : Nat, k ≤ l ∧ i = .int .i64 (k : Int) ∧ OwnA wr w1.heap.size out (f (ls.take k)) ∧ Below w1.heap.size w1 wr

set_option maxRecDepth 10000 in
set_option maxHeartbeats 2000000 in
theorem rbDrop (m n : Int) (A : Option Addr) (l c : Nat) (ls : List Alm) (b ch : Int) (q : Nat) (w : World) (h : Told w A l c ls) (hq : q = (Bd.drop m n ls b ch).als.length) :
    Calls Try.prog 13 #[.agg #[.int .i64 m, .int .i64 n, .slice A l c], .agg #[.int .i64 b, .int .i64 ch]] w (GivesB w (Bd.drop m n ls b ch) q (Bd.dropE m n ls b ch)) := by
  have HS := Lib.hid (((St.start w).more (rowF A ls) h.2.1).box3 #[.int .i64 m, .int .i64 n, .slice A l c] #[.int .i64 b, .int .i64 ch] #[.int .i64 0, .int .i64 0, .slice none 0 0] 24 26 24)
  have g1 := fun W (hA : AlmsAt W W.heap.size A ls) => Lib.hid (rbIs m n A l c ls W ⟨h.1, hA, h.2.2⟩)
  have g2 := fun W (hA : AlmsAt W W.heap.size A ls) => Lib.hid (rbGet m n A l c ls b ch W ⟨h.1, hA, h.2.2⟩)
  cases hb : Bd.isB m n ls
  · have e : Bd.dropE m n ls b ch = 1 := by unfold Bd.dropE; rw [hb]; rfl
    have e2 : Bd.drop m n ls b ch = ⟨0, 0, []⟩ := by unfold Bd.drop; rw [e]; rfl
    rw [e2] at hq ⊢
    rw [e]
    simp only [hb] at g1
    obtain rfl : q = 0 := hq
    clear e e2 hb h g2
    go_enter Try.func13, Try.ntmps13
    go_wp2_with (refine wpList_load_st rfl 24 _ rfl HS.out 2 _ _ rfl rfl _ Try.underlying24 rfl (by rfl) ?_)
    refine (g1 _ (HS.out.fact 0 rfl)).out.mono ?_
    rintro e w2 ⟨rfl, hB⟩
    replace HS := Lib.hid (HS.out.on hB)
    clear hB g1
    go_wp2_with (refine wpList_setres8 rfl 24 _ _ rfl HS.out 0 (w.heap.size + 1 + 1) _ #[.int .i64 0, .int .i64 0, .slice none 0 0] rfl (by omega) w2.heap.size _ [] (OwnA.nil w2 w2.heap.size) (HS.out.lt 0 rfl) rfl rfl (by rfl) rfl (bd_one 0 0 none 0 0) ?_; intro w9 hS9 hO9; have HS9 := Lib.hid hS9; clear hS9 hO9)
    (try simp only [Exit.inBlock, Exit.then]); refine bodyPost_ret (ret_board rfl rfl HS9.out 0 rfl rfl) rfl ?_
    exact ⟨none, 0, rfl, OwnA.nil _ _, HS9.out.below⟩

  simp only [hb] at g1
  obtain ⟨⟨⟨y0, y1, y2, y3, y4, y5⟩, ok⟩, hr⟩ : ∃ r, r = Bd.getA b ch ls := ⟨_, rfl⟩
  simp only [← hr, sixV] at g2
  have hh : Bd.has b ch ls = ok := by unfold Bd.has; rw [← hr]
  cases ok
  · have e : Bd.dropE m n ls b ch = 80 := by unfold Bd.dropE; rw [hb, hh]; rfl
    have e2 : Bd.drop m n ls b ch = ⟨0, 0, []⟩ := by unfold Bd.drop; rw [e]; rfl
    rw [e2] at hq ⊢
    rw [e]
    obtain rfl : q = 0 := hq
    clear e e2 hb h hh hr
    go_enter Try.func13, Try.ntmps13
    go_wp2_with (refine wpList_load_st rfl 24 _ rfl HS.out 2 _ _ rfl rfl _ Try.underlying24 rfl (by rfl) ?_)
    refine (g1 _ (HS.out.fact 0 rfl)).out.mono ?_
    rintro e w2 ⟨rfl, hB⟩
    replace HS := Lib.hid (HS.out.on hB)
    clear hB g1
    go_wp2_with (first
      | (refine wpList_load_st rfl 24 _ rfl HS.out 2 _ _ rfl rfl _ Try.underlying24 rfl (by rfl) ?_)
      | (refine wpList_load_st rfl 26 _ rfl HS.out 1 _ _ rfl rfl _ Try.underlying26 rfl (by rfl) ?_))
    refine (g2 _ (HS.out.fact 0 rfl)).out.mono ?_
    rintro e w3 ⟨rfl, hB⟩
    replace HS := Lib.hid (HS.out.on hB)
    clear hB g2
    have HN := Lib.hid (below_new w3 (.cells #[.int .i64 y0, .int .i64 y1, .int .i64 y2, .int .i64 y3, .int .i64 y4, .int .i64 y5] 28))
    replace HS := Lib.hid (HS.out.on HN.out)
    go_wp2_with (refine wpList_setres8 rfl 24 _ _ rfl HS.out 0 (w.heap.size + 1 + 1) _ #[.int .i64 0, .int .i64 0, .slice none 0 0] rfl (by omega) (w3.alloc (.cells #[.int .i64 y0, .int .i64 y1, .int .i64 y2, .int .i64 y3, .int .i64 y4, .int .i64 y5] 28)).heap.size _ [] (OwnA.nil (w3.alloc (.cells #[.int .i64 y0, .int .i64 y1, .int .i64 y2, .int .i64 y3, .int .i64 y4, .int .i64 y5] 28)) (w3.alloc (.cells #[.int .i64 y0, .int .i64 y1, .int .i64 y2, .int .i64 y3, .int .i64 y4, .int .i64 y5] 28)).heap.size) (HS.out.lt 0 rfl) rfl rfl (by rfl) rfl (bd_one 0 0 none 0 0) ?_; intro w9 hS9 hO9; have HS9 := Lib.hid hS9; clear hS9 hO9)
    (try simp only [Exit.inBlock, Exit.then]); refine bodyPost_ret (ret_board rfl rfl HS9.out 0 rfl rfl) rfl ?_
    exact ⟨none, 0, rfl, OwnA.nil _ _, HS9.out.below⟩

  · have e : Bd.dropE m n ls b ch = 0 := by unfold Bd.dropE; rw [hb, hh]; rfl
    have e2 : Bd.drop m n ls b ch = ⟨m, n, Bd.dropL b ch ls⟩ := by unfold Bd.drop; rw [e]; rfl
    rw [e2] at hq ⊢
    rw [e]
    have Hl := Lib.hid h.1
    have Hf := Lib.hid h.2.2.2
    replace hq : q = (Bd.dropL b ch ls).length := hq
    have Hq := Lib.hid hq
    clear e e2 hb h hh hr hq
    go_enter Try.func13, Try.ntmps13
    go_wp2_with (refine wpList_load_st rfl 24 _ rfl HS.out 2 _ _ rfl rfl _ Try.underlying24 rfl (by rfl) ?_)
    refine (g1 _ (HS.out.fact 0 rfl)).out.mono ?_
    rintro e w2 ⟨rfl, hB⟩
    replace HS := Lib.hid (HS.out.on hB)
    clear hB g1
    go_wp2_with (first
      | (refine wpList_load_st rfl 24 _ rfl HS.out 2 _ _ rfl rfl _ Try.underlying24 rfl (by rfl) ?_)
      | (refine wpList_load_st rfl 26 _ rfl HS.out 1 _ _ rfl rfl _ Try.underlying26 rfl (by rfl) ?_))
    refine (g2 _ (HS.out.fact 0 rfl)).out.mono ?_
    rintro e w3 ⟨rfl, hB⟩
    replace HS := Lib.hid (HS.out.on hB)
    clear hB g2
    have HN := Lib.hid (below_new w3 (.cells #[.int .i64 y0, .int .i64 y1, .int .i64 y2, .int .i64 y3, .int .i64 y4, .int .i64 y5] 28))
    replace HS := Lib.hid (HS.out.on HN.out)
    go_wp2_with fail
    obtain ⟨w4, hw4⟩ : ∃ W, W = w3.alloc (.cells #[.int .i64 y0, .int .i64 y1, .int .i64 y2, .int .i64 y3, .int .i64 y4, .int .i64 y5] 28) := ⟨_, rfl⟩
    rw [← hw4] at HS ⊢
    have HZ : Hid (w.heap.size ≤ w4.heap.size) := Lib.hid HS.out.below.size
    clear hw4 HN
    obtain ⟨p3, hp3⟩ : ∃ p, p = w.heap.size + 1 + 1 := ⟨_, rfl⟩
    obtain ⟨p2, hp2⟩ : ∃ p, p = w.heap.size + 1 := ⟨_, rfl⟩
    obtain ⟨p1, hp1⟩ : ∃ p, p = w.heap.size := ⟨_, rfl⟩
    have Hp3 : Hid (w.heap.size ≤ p3) := Lib.hid (by omega)
    rw [← hp3] at HS ⊢
    rw [← hp2] at HS ⊢
    rw [← hp1] at HS ⊢
    clear hp1 hp2 hp3
    go_loopw [8, 9] (fun out i wr => DrRel w4 l (Bd.dropL b ch) ls out i wr) (fun _ i _ => l - (intOf i).toNat)
    case atStart => exact ⟨0, Nat.zero_le _, rfl, OwnA.nil _ _, Below.refl _ _⟩
    case round =>
     obtain ⟨k, hk, rfl, hown, hBr⟩ := hrel
     have HO := Lib.hid hown
     have HB := Lib.hid hBr
     have HSo := Lib.hid (HS.out.on hBr)
     clear hown hBr
     have s2 := HSo.out.cell 2 rfl 2 rfl
     have t0 := HSo.out.cell 1 rfl 0 rfl
     have t1 := HSo.out.cell 1 rfl 1 rfl
     by_cases hlt : k < l
     · have kl : k < ls.length := by rw [← Hl.out]; exact hlt
       have HA : Hid (AlmsAt wr wr.heap.size A ls) := Lib.hid (HSo.out.fact 0 rfl)
       obtain ⟨b0, o0, rfl, hb0, h6⟩ := HA.out k kl
       have Hof := Lib.hid (Bd.drop_take8 (b := b) (c := ch) kl)
       have Hle : Hid ((Bd.dropL b ch (ls.take k)).length ≤ 1000) := Lib.hid (by have h1 : (Bd.dropL b ch (ls.take k)).length ≤ (ls.take k).length := List.length_filter_le _ _; have := Hf.out; have := Hl.out; rw [List.length_take] at h1; omega)
       obtain ⟨x, hx⟩ : ∃ x, x = ls[k]'kl := ⟨_, rfl⟩
       rw [← hx] at h6 Hof
       clear hx
       obtain ⟨x0, x1, x2, x3, x4, x5⟩ := x
       have d0 := h6.c0
       have d1 := h6.c1
       have d2 := h6.c2
       have d3 := h6.c3
       have d4 := h6.c4
       have d5 := h6.c5
       simp only at d0 d1 d2 d3 d4 d5
       have i1 : (k : Int) < (l : Int) := by omega
       have i3 : (0 : Int) ≤ (k : Int) := by omega
       have Ik : Hid (wrap64 ((k : Int) + 1) = (k : Int) + 1) := Lib.hid (by have := Hf.out; unfold wrap64; omega)
       have Hk := Lib.hid hlt
       obtain ⟨z, hz⟩ : ∃ z, z = !decide (x0 = b ∧ x1 = ch) := ⟨_, rfl⟩
       have hqn := fun W => run_neq_sp x0 x1 b ch z hz W
       have Ha : Hid (Bd.atS b ch ⟨x0, x1, x2, x3, x4, x5⟩ = !z) := Lib.hid (by rw [hz]; unfold Bd.atS; by_cases h1 : x0 = b <;> by_cases h2 : x1 = ch <;> simp [h1, h2])
       clear h6 kl hk hlt hb0 hz
       cases z
       · have Hof2 : Hid (Bd.dropL b ch (ls.take (k + 1)) = Bd.dropL b ch (ls.take k)) := Lib.hid (by rw [Hof.out, Ha.out]; exact List.append_nil _)
         clear Hof Ha
         go_wp2
         go_quiet (fail)
         have HOq : Hid (OwnA (wr.drewN nq) w4.heap.size u8 (Bd.dropL b ch (ls.take k))) := HO
         have HBq := Lib.hid (below_drew HB.out nq)
         go_wp2
         go_roundw
         case rel => exact ⟨k + 1, Hk.out, by first | rfl | (rw [Ik.out]; rfl), by rw [Hof2.out]; exact HOq.out, HBq.out⟩
         case measure => have := Hk.out; (try rw [Ik.out]); simp [intOf]; omega
       · have Hof2 : Hid (Bd.dropL b ch (ls.take (k + 1)) = Bd.dropL b ch (ls.take k) ++ [⟨x0, x1, x2, x3, x4, x5⟩]) := Lib.hid (by rw [Hof.out, Ha.out]; rfl)
         clear Hof Ha
         go_wp2
         go_quiet (fail)
         have HOq : Hid (OwnA (wr.drewN nq) w4.heap.size u8 (Bd.dropL b ch (ls.take k))) := HO
         have HBq := Lib.hid (below_drew HB.out nq)
         have HN2 := Lib.hid (below_new (wr.drewN nq) (.cells #[.int .i64 x0, .int .i64 x1, .int .i64 x2, .int .i64 x3, .int .i64 x4, .int .i64 x5] 28))
         have O2 := Lib.hid (HOq.out.below HN2.out)
         have ON := Lib.hid (AlmsAt.one11 (wr.drewN nq) x0 x1 x2 x3 x4 x5 28)
         have HB3 := Lib.hid (below2 HBq.out HN2.out)
         go_wp2_with (at_builtin; refine wpList_append_alms rfl _ _ rfl w4.heap.size _ (Bd.dropL b ch (ls.take k)) [(⟨x0, x1, x2, x3, x4, x5⟩ : Alm)] rfl O2.out (some ⟨(wr.drewN nq).heap.size, 0, none⟩) 1 _ rfl rfl ON.out (fun e => nomatch e) HB3.out.size (by have := Hle.out; simp; omega) ?_; intro v3 w5 hown3 hgrow3; have O3 := Lib.hid hown3; have HB4 : Hid (Below w4.heap.size w4 w5) := Lib.hid (HB3.out.grown hgrow3 HB3.out.size O2.out.ge9); clear hown3 hgrow3 d0 d1 d2 d3 d4 d5 s2 t0 t1)
         go_roundw
         case rel => exact ⟨k + 1, Hk.out, by first | rfl | (rw [Ik.out]; rfl), by rw [Hof2.out]; exact O3.out, HB4.out⟩
         case measure => have := Hk.out; (try rw [Ik.out]); simp [intOf]; omega
     · have ik : ((k : Int) < (l : Int)) = False := eq_false (by omega)
       have He : Hid (ls.take k = ls) := Lib.hid (List.take_of_length_le (by have := Hl.out; omega))
       rw [He.out] at HO
       obtain ⟨A2, c2, rfl, _, _, _⟩ := HO.out.slice
       rw [← Hq.out] at HO ⊢
       have Hk3 : Hid (p3 < w4.heap.size) := Lib.hid (HS.out.lt 0 rfl)
       have s0 := HSo.out.cell 2 rfl 0 rfl
       have s1 := HSo.out.cell 2 rfl 1 rfl
       clear hk hlt He t0 t1
       go_wp2_with (refine wpList_setres8 rfl 24 _ _ rfl HSo.out 0 p3 _ #[.int .i64 m, .int .i64 n, .slice A2 q c2] rfl Hp3.out w4.heap.size _ (Bd.dropL b ch ls) HO.out Hk3.out rfl rfl (by rfl) rfl (bd_one m n A2 q c2) ?_; intro w9 hS9 hO9; have HS9 := Lib.hid hS9; have HO9 := Lib.hid (hO9.lower HZ.out); clear hS9 hO9)
       (try simp only [Exit.inBlock, Exit.then]); refine bodyPost_ret (ret_board rfl rfl HS9.out 0 rfl rfl) rfl ?_
       exact ⟨A2, c2, rfl, HO9.out, HS9.out.below⟩
end Go.Proofs.Ythlojadkgpmnmaa
