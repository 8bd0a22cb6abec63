/-
  Layer 8 (board), the reference: Drop.
  Layer 8 (board), the reference: Pass.
  The references' helper Own: a row of numbers in memory of its own.
  Layer 8 (board): the reference does what the law asks of it.
-/
import Derived.Test.YthlojadkgpmnmaaState3
import Derived.Test.YthlojadkgpmnmaaRefBoard3
import Derived.Test.YthlojadkgpmnmaaRefAlarm8
import Derived.Test.YthlojadkgpmnmaaChecked
import Derived.Test.YthlojadkgpmnmaaAid
import Derived.Laws.AppendOwnNone
import Derived.Test.YthlojadkgpmnmaaBoardDoes0
import Derived.Test.YthlojadkgpmnmaaRefBoard2
import Derived.Test.YthlojadkgpmnmaaRefBoard5
namespace Go.Proofs.Ythlojadkgpmnmaa
open Go.RowKit

def DrRel (w1 : World) (l : Nat) (f : List Alm → List Alm) (ls : List Alm) (out i : Value) (wr : World) : Prop :=
  ∃ k : Nat, k ≤ l ∧ i = .int .i64 (k : Int) ∧ OwnA wr w1.heap.size out (f (ls.take k)) ∧ Below w1.heap.size w1 wr

set_option maxRecDepth 10000 in
set_option maxHeartbeats 2000000 in
theorem rbDrop (m n : Int) (A : Option Addr) (l c : Nat) (ls : List Alm) (b ch : Int) (q : Nat) (w : World) (h : Told w A l c ls) (hq : q = (Bd.drop m n ls b ch).als.length) :
    Calls Try.prog 13 #[.agg #[.int .i64 m, .int .i64 n, .slice A l c], .agg #[.int .i64 b, .int .i64 ch]] w (GivesB w (Bd.drop m n ls b ch) q (Bd.dropE m n ls b ch)) := by
  have HS := Lib.hid (((St.start w).more (rowF A ls) h.2.1).box3 #[.int .i64 m, .int .i64 n, .slice A l c] #[.int .i64 b, .int .i64 ch] #[.int .i64 0, .int .i64 0, .slice none 0 0] 24 26 24)
  have g1 := fun W (hA : AlmsAt W W.heap.size A ls) => Lib.hid (rbIs m n A l c ls W ⟨h.1, hA, h.2.2⟩)
  have g2 := fun W (hA : AlmsAt W W.heap.size A ls) => Lib.hid (rbGet m n A l c ls b ch W ⟨h.1, hA, h.2.2⟩)
  cases hb : Bd.isB m n ls
  · have e : Bd.dropE m n ls b ch = 1 := by unfold Bd.dropE; rw [hb]; rfl
    have e2 : Bd.drop m n ls b ch = ⟨0, 0, []⟩ := by unfold Bd.drop; rw [e]; rfl
    rw [e2] at hq ⊢
    rw [e]
    simp only [hb] at g1
    obtain rfl : q = 0 := hq
    clear e e2 hb h g2
    go_enter Try.func13, Try.ntmps13
    go_wp2_with (refine wpList_load_st rfl 24 _ rfl HS.out 2 _ _ rfl rfl _ Try.underlying24 rfl (by rfl) ?_)
    refine (g1 _ (HS.out.fact 0 rfl)).out.mono ?_
    rintro e w2 ⟨rfl, hB⟩
    replace HS := Lib.hid (HS.out.on hB)
    clear hB g1
    go_wp2_with (refine wpList_setres8 rfl 24 _ _ rfl HS.out 0 (w.heap.size + 1 + 1) _ #[.int .i64 0, .int .i64 0, .slice none 0 0] rfl (by omega) w2.heap.size _ [] (OwnA.nil w2 w2.heap.size) (HS.out.lt 0 rfl) rfl rfl (by rfl) rfl (bd_one 0 0 none 0 0) ?_; intro w9 hS9 hO9; have HS9 := Lib.hid hS9; clear hS9 hO9)
    (try simp only [Exit.inBlock, Exit.then]); refine bodyPost_ret (ret_board rfl rfl HS9.out 0 rfl rfl) rfl ?_
    exact ⟨none, 0, rfl, OwnA.nil _ _, HS9.out.below⟩

  simp only [hb] at g1
  obtain ⟨⟨⟨y0, y1, y2, y3, y4, y5⟩, ok⟩, hr⟩ : ∃ r, r = Bd.getA b ch ls := ⟨_, rfl⟩
  simp only [← hr, sixV] at g2
  have hh : Bd.has b ch ls = ok := by unfold Bd.has; rw [← hr]
  cases ok
  · have e : Bd.dropE m n ls b ch = 80 := by unfold Bd.dropE; rw [hb, hh]; rfl
    have e2 : Bd.drop m n ls b ch = ⟨0, 0, []⟩ := by unfold Bd.drop; rw [e]; rfl
    rw [e2] at hq ⊢
    rw [e]
    obtain rfl : q = 0 := hq
    clear e e2 hb h hh hr
    go_enter Try.func13, Try.ntmps13
    go_wp2_with (refine wpList_load_st rfl 24 _ rfl HS.out 2 _ _ rfl rfl _ Try.underlying24 rfl (by rfl) ?_)
    refine (g1 _ (HS.out.fact 0 rfl)).out.mono ?_
    rintro e w2 ⟨rfl, hB⟩
    replace HS := Lib.hid (HS.out.on hB)
    clear hB g1
    go_wp2_with (first
      | (refine wpList_load_st rfl 24 _ rfl HS.out 2 _ _ rfl rfl _ Try.underlying24 rfl (by rfl) ?_)
      | (refine wpList_load_st rfl 26 _ rfl HS.out 1 _ _ rfl rfl _ Try.underlying26 rfl (by rfl) ?_))
    refine (g2 _ (HS.out.fact 0 rfl)).out.mono ?_
    rintro e w3 ⟨rfl, hB⟩
    replace HS := Lib.hid (HS.out.on hB)
    clear hB g2
    have HN := Lib.hid (below_new w3 (.cells #[.int .i64 y0, .int .i64 y1, .int .i64 y2, .int .i64 y3, .int .i64 y4, .int .i64 y5] 28))
    replace HS := Lib.hid (HS.out.on HN.out)
    go_wp2_with (refine wpList_setres8 rfl 24 _ _ rfl HS.out 0 (w.heap.size + 1 + 1) _ #[.int .i64 0, .int .i64 0, .slice none 0 0] rfl (by omega) (w3.alloc (.cells #[.int .i64 y0, .int .i64 y1, .int .i64 y2, .int .i64 y3, .int .i64 y4, .int .i64 y5] 28)).heap.size _ [] (OwnA.nil (w3.alloc (.cells #[.int .i64 y0, .int .i64 y1, .int .i64 y2, .int .i64 y3, .int .i64 y4, .int .i64 y5] 28)) (w3.alloc (.cells #[.int .i64 y0, .int .i64 y1, .int .i64 y2, .int .i64 y3, .int .i64 y4, .int .i64 y5] 28)).heap.size) (HS.out.lt 0 rfl) rfl rfl (by rfl) rfl (bd_one 0 0 none 0 0) ?_; intro w9 hS9 hO9; have HS9 := Lib.hid hS9; clear hS9 hO9)
    (try simp only [Exit.inBlock, Exit.then]); refine bodyPost_ret (ret_board rfl rfl HS9.out 0 rfl rfl) rfl ?_
    exact ⟨none, 0, rfl, OwnA.nil _ _, HS9.out.below⟩

  · have e : Bd.dropE m n ls b ch = 0 := by unfold Bd.dropE; rw [hb, hh]; rfl
    have e2 : Bd.drop m n ls b ch = ⟨m, n, Bd.dropL b ch ls⟩ := by unfold Bd.drop; rw [e]; rfl
    rw [e2] at hq ⊢
    rw [e]
    have Hl := Lib.hid h.1
    have Hf := Lib.hid h.2.2.2
    replace hq : q = (Bd.dropL b ch ls).length := hq
    have Hq := Lib.hid hq
    clear e e2 hb h hh hr hq
    go_enter Try.func13, Try.ntmps13
    go_wp2_with (refine wpList_load_st rfl 24 _ rfl HS.out 2 _ _ rfl rfl _ Try.underlying24 rfl (by rfl) ?_)
    refine (g1 _ (HS.out.fact 0 rfl)).out.mono ?_
    rintro e w2 ⟨rfl, hB⟩
    replace HS := Lib.hid (HS.out.on hB)
    clear hB g1
    go_wp2_with (first
      | (refine wpList_load_st rfl 24 _ rfl HS.out 2 _ _ rfl rfl _ Try.underlying24 rfl (by rfl) ?_)
      | (refine wpList_load_st rfl 26 _ rfl HS.out 1 _ _ rfl rfl _ Try.underlying26 rfl (by rfl) ?_))
    refine (g2 _ (HS.out.fact 0 rfl)).out.mono ?_
    rintro e w3 ⟨rfl, hB⟩
    replace HS := Lib.hid (HS.out.on hB)
    clear hB g2
    have HN := Lib.hid (below_new w3 (.cells #[.int .i64 y0, .int .i64 y1, .int .i64 y2, .int .i64 y3, .int .i64 y4, .int .i64 y5] 28))
    replace HS := Lib.hid (HS.out.on HN.out)
    go_wp2_with fail
    obtain ⟨w4, hw4⟩ : ∃ W, W = w3.alloc (.cells #[.int .i64 y0, .int .i64 y1, .int .i64 y2, .int .i64 y3, .int .i64 y4, .int .i64 y5] 28) := ⟨_, rfl⟩
    rw [← hw4] at HS ⊢
    have HZ : Hid (w.heap.size ≤ w4.heap.size) := Lib.hid HS.out.below.size
    clear hw4 HN
    obtain ⟨p3, hp3⟩ : ∃ p, p = w.heap.size + 1 + 1 := ⟨_, rfl⟩
    obtain ⟨p2, hp2⟩ : ∃ p, p = w.heap.size + 1 := ⟨_, rfl⟩
    obtain ⟨p1, hp1⟩ : ∃ p, p = w.heap.size := ⟨_, rfl⟩
    have Hp3 : Hid (w.heap.size ≤ p3) := Lib.hid (by omega)
    rw [← hp3] at HS ⊢
    rw [← hp2] at HS ⊢
    rw [← hp1] at HS ⊢
    clear hp1 hp2 hp3
    go_loopw [8, 9] (fun out i wr => DrRel w4 l (Bd.dropL b ch) ls out i wr) (fun _ i _ => l - (intOf i).toNat)
    case atStart => exact ⟨0, Nat.zero_le _, rfl, OwnA.nil _ _, Below.refl _ _⟩
    case round =>
     obtain ⟨k, hk, rfl, hown, hBr⟩ := hrel
     have HO := Lib.hid hown
     have HB := Lib.hid hBr
     have HSo := Lib.hid (HS.out.on hBr)
     clear hown hBr
     have s2 := HSo.out.cell 2 rfl 2 rfl
     have t0 := HSo.out.cell 1 rfl 0 rfl
     have t1 := HSo.out.cell 1 rfl 1 rfl
     by_cases hlt : k < l
     · have kl : k < ls.length := by rw [← Hl.out]; exact hlt
       have HA : Hid (AlmsAt wr wr.heap.size A ls) := Lib.hid (HSo.out.fact 0 rfl)
       obtain ⟨b0, o0, rfl, hb0, h6⟩ := HA.out k kl
       have Hof := Lib.hid (Bd.drop_take8 (b := b) (c := ch) kl)
       have Hle : Hid ((Bd.dropL b ch (ls.take k)).length ≤ 1000) := Lib.hid (by have h1 : (Bd.dropL b ch (ls.take k)).length ≤ (ls.take k).length := List.length_filter_le _ _; have := Hf.out; have := Hl.out; rw [List.length_take] at h1; omega)
       obtain ⟨x, hx⟩ : ∃ x, x = ls[k]'kl := ⟨_, rfl⟩
       rw [← hx] at h6 Hof
       clear hx
       obtain ⟨x0, x1, x2, x3, x4, x5⟩ := x
       have d0 := h6.c0
       have d1 := h6.c1
       have d2 := h6.c2
       have d3 := h6.c3
       have d4 := h6.c4
       have d5 := h6.c5
       simp only at d0 d1 d2 d3 d4 d5
       have i1 : (k : Int) < (l : Int) := by omega
       have i3 : (0 : Int) ≤ (k : Int) := by omega
       have Ik : Hid (wrap64 ((k : Int) + 1) = (k : Int) + 1) := Lib.hid (by have := Hf.out; unfold wrap64; omega)
       have Hk := Lib.hid hlt
       obtain ⟨z, hz⟩ : ∃ z, z = !decide (x0 = b ∧ x1 = ch) := ⟨_, rfl⟩
       have hqn := fun W => run_neq_sp x0 x1 b ch z hz W
       have Ha : Hid (Bd.atS b ch ⟨x0, x1, x2, x3, x4, x5⟩ = !z) := Lib.hid (by rw [hz]; unfold Bd.atS; by_cases h1 : x0 = b <;> by_cases h2 : x1 = ch <;> simp [h1, h2])
       clear h6 kl hk hlt hb0 hz
       cases z
       · have Hof2 : Hid (Bd.dropL b ch (ls.take (k + 1)) = Bd.dropL b ch (ls.take k)) := Lib.hid (by rw [Hof.out, Ha.out]; exact List.append_nil _)
         clear Hof Ha
         go_wp2
         go_quiet (fail)
         have HOq : Hid (OwnA (wr.drewN nq) w4.heap.size u8 (Bd.dropL b ch (ls.take k))) := HO
         have HBq := Lib.hid (below_drew HB.out nq)
         go_wp2
         go_roundw
         case rel => exact ⟨k + 1, Hk.out, by first | rfl | (rw [Ik.out]; rfl), by rw [Hof2.out]; exact HOq.out, HBq.out⟩
         case measure => have := Hk.out; (try rw [Ik.out]); simp [intOf]; omega
       · have Hof2 : Hid (Bd.dropL b ch (ls.take (k + 1)) = Bd.dropL b ch (ls.take k) ++ [⟨x0, x1, x2, x3, x4, x5⟩]) := Lib.hid (by rw [Hof.out, Ha.out]; rfl)
         clear Hof Ha
         go_wp2
         go_quiet (fail)
         have HOq : Hid (OwnA (wr.drewN nq) w4.heap.size u8 (Bd.dropL b ch (ls.take k))) := HO
         have HBq := Lib.hid (below_drew HB.out nq)
         have HN2 := Lib.hid (below_new (wr.drewN nq) (.cells #[.int .i64 x0, .int .i64 x1, .int .i64 x2, .int .i64 x3, .int .i64 x4, .int .i64 x5] 28))
         have O2 := Lib.hid (HOq.out.below HN2.out)
         have ON := Lib.hid (AlmsAt.one11 (wr.drewN nq) x0 x1 x2 x3 x4 x5 28)
         have HB3 := Lib.hid (below2 HBq.out HN2.out)
         go_wp2_with (at_builtin; refine wpList_append_alms rfl _ _ rfl w4.heap.size _ (Bd.dropL b ch (ls.take k)) [(⟨x0, x1, x2, x3, x4, x5⟩ : Alm)] rfl O2.out (some ⟨(wr.drewN nq).heap.size, 0, none⟩) 1 _ rfl rfl ON.out (fun e => nomatch e) HB3.out.size (by have := Hle.out; simp; omega) ?_; intro v3 w5 hown3 hgrow3; have O3 := Lib.hid hown3; have HB4 : Hid (Below w4.heap.size w4 w5) := Lib.hid (HB3.out.grown hgrow3 HB3.out.size O2.out.ge9); clear hown3 hgrow3 d0 d1 d2 d3 d4 d5 s2 t0 t1)
         go_roundw
         case rel => exact ⟨k + 1, Hk.out, by first | rfl | (rw [Ik.out]; rfl), by rw [Hof2.out]; exact O3.out, HB4.out⟩
         case measure => have := Hk.out; (try rw [Ik.out]); simp [intOf]; omega
     · have ik : ((k : Int) < (l : Int)) = False := eq_false (by omega)
       have He : Hid (ls.take k = ls) := Lib.hid (List.take_of_length_le (by have := Hl.out; omega))
       rw [He.out] at HO
       obtain ⟨A2, c2, rfl, _, _, _⟩ := HO.out.slice
       rw [← Hq.out] at HO ⊢
       have Hk3 : Hid (p3 < w4.heap.size) := Lib.hid (HS.out.lt 0 rfl)
       have s0 := HSo.out.cell 2 rfl 0 rfl
       have s1 := HSo.out.cell 2 rfl 1 rfl
       clear hk hlt He t0 t1
       go_wp2_with (refine wpList_setres8 rfl 24 _ _ rfl HSo.out 0 p3 _ #[.int .i64 m, .int .i64 n, .slice A2 q c2] rfl Hp3.out w4.heap.size _ (Bd.dropL b ch ls) HO.out Hk3.out rfl rfl (by rfl) rfl (bd_one m n A2 q c2) ?_; intro w9 hS9 hO9; have HS9 := Lib.hid hS9; have HO9 := Lib.hid (hO9.lower HZ.out); clear hS9 hO9)
       (try simp only [Exit.inBlock, Exit.then]); refine bodyPost_ret (ret_board rfl rfl HS9.out 0 rfl rfl) rfl ?_
       exact ⟨A2, c2, rfl, HO9.out, HS9.out.below⟩
end Go.Proofs.Ythlojadkgpmnmaa

namespace Go.Proofs.Ythlojadkgpmnmaa
open Go.RowKit

/-- A row that grows leaves a block ahead of it as it is. -/
theorem St.kept8 {w0 w w' : World} {k : Nat} {cs : Array Value} {v : Value} {ls : List Alm} (h : St w0 w [(k, cs)] []) (hg : w.grownBy w' v.ownBlock) (hO : OwnA w (k + 1) v ls) (hb : w0.heap.size ≤ k) : St w0 w' [(k, cs)] [] := by
  have hlt := h.lt 0 rfl
  obtain ⟨t, ht⟩ := h.live (k, cs) (by simp)
  have hne : some k ≠ v.ownBlock := fun e => by
    have := hO.ge9 k e.symm
    omega
  refine ⟨fun y hy => ?_, (fun _ h => nomatch h), ?_⟩
  · obtain rfl : y = (k, cs) := by simpa using hy
    exact ⟨t, (hg.block k hlt hne).trans ht⟩
  · exact h.below.grown hg h.below.size (fun j hj => Nat.le_trans (Nat.le_succ_of_le hb) (hO.ge9 j hj))

theorem St.one8 {w0 w : World} {k : Nat} {cs : Array Value} (h : ∃ t, w.heap[k]? = some (.cells cs t (0, 0))) (hb : Below w0.heap.size w0 w) : St w0 w [(k, cs)] [] :=
  ⟨fun y hy => by
    obtain rfl : y = (k, cs) := by simpa using hy
    exact h, (fun _ h => nomatch h), hb⟩

def PsRel (w2 : World) (po : Nat) (m t : Int) (l : Nat) (ls : List Alm) (i : Value) (wr : World) : Prop :=
  ∃ (k : Nat) (A2 : Option Addr) (c2 : Nat), k ≤ l ∧ i = .int .i64 (k : Int) ∧ Hid (Below w2.heap.size w2 wr) ∧ Hid (∃ ty, wr.heap[po]? = some (.cells #[.int .i64 m, .int .i64 t, .slice A2 k c2] ty (0, 0))) ∧ Hid (OwnA wr (po + 1) (.slice A2 k c2) (Bd.passL t (ls.take k)))

set_option maxRecDepth 10000 in
set_option maxHeartbeats 4000000 in
theorem rbPass (m n : Int) (A : Option Addr) (l c : Nat) (ls : List Alm) (t : Int) (q : Nat) (w : World) (h : Told w A l c ls) (hq : q = (Bd.pass m n ls t).als.length) :
    Calls Try.prog 15 #[.agg #[.int .i64 m, .int .i64 n, .slice A l c], .int .i64 t] w (GivesB w (Bd.pass m n ls t) q (Bd.passE m n ls t)) := by
  have HS := Lib.hid (((St.start w).more (rowF A ls) h.2.1).box2 #[.int .i64 m, .int .i64 n, .slice A l c] #[.int .i64 0, .int .i64 0, .slice none 0 0] 24 24)
  have g1 := fun W (hA : AlmsAt W W.heap.size A ls) => Lib.hid (rbIs m n A l c ls W ⟨h.1, hA, h.2.2⟩)
  cases hb : Bd.isB m n ls
  · simp only [hb] at g1
    have e : Bd.passE m n ls t = 1 := by unfold Bd.passE; rw [hb]; rfl
    have e2 : Bd.pass m n ls t = ⟨0, 0, []⟩ := by unfold Bd.pass; rw [e]; rfl
    rw [e2] at hq ⊢
    rw [e]
    obtain rfl : q = 0 := hq
    clear e e2 hb h
    go_enter Try.func15, Try.ntmps15
    go_wp2_with (refine wpList_load_st rfl 24 _ rfl HS.out 1 _ _ rfl rfl _ Try.underlying24 rfl (by rfl) ?_)
    refine (g1 _ (HS.out.fact 0 rfl)).out.mono ?_
    rintro e w2 ⟨rfl, hB⟩
    replace HS := Lib.hid (HS.out.on hB)
    clear hB g1
    go_wp2_with (refine wpList_setres8 rfl 24 _ _ rfl HS.out 0 (w.heap.size + 1) _ #[.int .i64 0, .int .i64 0, .slice none 0 0] rfl (by omega) w2.heap.size _ [] (OwnA.nil w2 w2.heap.size) (HS.out.lt 0 rfl) rfl rfl (by rfl) rfl (bd_one 0 0 none 0 0) ?_; intro w9 hS9 hO9; have HS9 := Lib.hid hS9; clear hS9 hO9)
    (try simp only [Exit.inBlock, Exit.then]); refine bodyPost_ret (ret_board rfl rfl HS9.out 0 rfl rfl) rfl ?_
    exact ⟨none, 0, rfl, OwnA.nil _ _, HS9.out.below⟩

  simp only [hb] at g1
  by_cases h1 : t < 0
  · have ht : Am.isT t = false := by unfold Am.isT; rw [decide_eq_false (by omega : ¬ 0 ≤ t)]; rfl
    have e : Bd.passE m n ls t = 1 := by unfold Bd.passE; rw [hb, ht]; rfl
    have e2 : Bd.pass m n ls t = ⟨0, 0, []⟩ := by unfold Bd.pass; rw [e]; rfl
    rw [e2] at hq ⊢
    rw [e]
    obtain rfl : q = 0 := hq
    clear e e2 hb h ht
    go_enter Try.func15, Try.ntmps15
    go_wp2_with (refine wpList_load_st rfl 24 _ rfl HS.out 1 _ _ rfl rfl _ Try.underlying24 rfl (by rfl) ?_)
    refine (g1 _ (HS.out.fact 0 rfl)).out.mono ?_
    rintro e w2 ⟨rfl, hB⟩
    replace HS := Lib.hid (HS.out.on hB)
    clear hB g1
    go_wp2_with (refine wpList_setres8 rfl 24 _ _ rfl HS.out 0 (w.heap.size + 1) _ #[.int .i64 0, .int .i64 0, .slice none 0 0] rfl (by omega) w2.heap.size _ [] (OwnA.nil w2 w2.heap.size) (HS.out.lt 0 rfl) rfl rfl (by rfl) rfl (bd_one 0 0 none 0 0) ?_; intro w9 hS9 hO9; have HS9 := Lib.hid hS9; clear hS9 hO9)
    (try simp only [Exit.inBlock, Exit.then]); refine bodyPost_ret (ret_board rfl rfl HS9.out 0 rfl rfl) rfl ?_
    exact ⟨none, 0, rfl, OwnA.nil _ _, HS9.out.below⟩

  have i1 : (t < 0) = False := eq_false h1
  by_cases h2 : 1000000000 < t
  · have ht : Am.isT t = false := by unfold Am.isT; rw [decide_eq_false (by omega : ¬ t ≤ 1000000000)]; simp
    have e : Bd.passE m n ls t = 1 := by unfold Bd.passE; rw [hb, ht]; rfl
    have e2 : Bd.pass m n ls t = ⟨0, 0, []⟩ := by unfold Bd.pass; rw [e]; rfl
    rw [e2] at hq ⊢
    rw [e]
    obtain rfl : q = 0 := hq
    clear e e2 hb h ht h1
    go_enter Try.func15, Try.ntmps15
    go_wp2_with (refine wpList_load_st rfl 24 _ rfl HS.out 1 _ _ rfl rfl _ Try.underlying24 rfl (by rfl) ?_)
    refine (g1 _ (HS.out.fact 0 rfl)).out.mono ?_
    rintro e w2 ⟨rfl, hB⟩
    replace HS := Lib.hid (HS.out.on hB)
    clear hB g1
    go_wp2_with (refine wpList_setres8 rfl 24 _ _ rfl HS.out 0 (w.heap.size + 1) _ #[.int .i64 0, .int .i64 0, .slice none 0 0] rfl (by omega) w2.heap.size _ [] (OwnA.nil w2 w2.heap.size) (HS.out.lt 0 rfl) rfl rfl (by rfl) rfl (bd_one 0 0 none 0 0) ?_; intro w9 hS9 hO9; have HS9 := Lib.hid hS9; clear hS9 hO9)
    (try simp only [Exit.inBlock, Exit.then]); refine bodyPost_ret (ret_board rfl rfl HS9.out 0 rfl rfl) rfl ?_
    exact ⟨none, 0, rfl, OwnA.nil _ _, HS9.out.below⟩

  have i2 : (1000000000 < t) = False := eq_false h2
  have ht : Am.isT t = true := Am.isT_iff.2 ⟨by omega, by omega⟩
  by_cases hp : t < n
  · have hE : Bd.passE m n ls t = 62 := by unfold Bd.passE; rw [hb, ht, if_neg (by simp), if_pos hp]
    have e : Bd.passE m n ls t = 62 := hE
    have e2 : Bd.pass m n ls t = ⟨0, 0, []⟩ := by unfold Bd.pass; rw [e]; rfl
    rw [e2] at hq ⊢
    rw [e]
    obtain rfl : q = 0 := hq
    clear e e2 hE hb h ht h1 h2
    go_enter Try.func15, Try.ntmps15
    go_wp2_with (refine wpList_load_st rfl 24 _ rfl HS.out 1 _ _ rfl rfl _ Try.underlying24 rfl (by rfl) ?_)
    refine (g1 _ (HS.out.fact 0 rfl)).out.mono ?_
    rintro e w2 ⟨rfl, hB⟩
    replace HS := Lib.hid (HS.out.on hB)
    clear hB g1
    have s1 := HS.out.cell 1 rfl 1 rfl
    go_wp2_with (refine wpList_setres8 rfl 24 _ _ rfl HS.out 0 (w.heap.size + 1) _ #[.int .i64 0, .int .i64 0, .slice none 0 0] rfl (by omega) w2.heap.size _ [] (OwnA.nil w2 w2.heap.size) (HS.out.lt 0 rfl) rfl rfl (by rfl) rfl (bd_one 0 0 none 0 0) ?_; intro w9 hS9 hO9; have HS9 := Lib.hid hS9; clear hS9 hO9)
    (try simp only [Exit.inBlock, Exit.then]); refine bodyPost_ret (ret_board rfl rfl HS9.out 0 rfl rfl) rfl ?_
    exact ⟨none, 0, rfl, OwnA.nil _ _, HS9.out.below⟩

  have ip : (t < n) = False := eq_false hp
  have hE : Bd.passE m n ls t = if Bd.isB m t (Bd.passL t ls) then 0 else 1 := by unfold Bd.passE; rw [hb, ht, if_neg (by simp), if_neg hp]
  obtain ⟨C, hC⟩ : ∃ C, C = Bd.passL t ls := ⟨_, rfl⟩
  have hCl : l = C.length := by rw [hC, Bd.pass_len]; exact h.1
  have hCf : l ≤ 1000 := h.2.2.2
  have g4 := fun W A2 c2 (hA : AlmsAt W W.heap.size A2 C) (h0 : A2 = none → c2 = 0) => Lib.hid (rbIs m t A2 l c2 C W ⟨hCl, hA, h0, hCf⟩)
  rw [← hC] at hE
  have HC := Lib.hid hC
  have Hl := Lib.hid h.1
  have Hf := Lib.hid h.2.2.2
  cases hr : Bd.isB m t C
  · rw [hr] at hE
    replace hE : Bd.passE m n ls t = 1 := hE
    have e2 : Bd.pass m n ls t = ⟨0, 0, []⟩ := by unfold Bd.pass; rw [hE]; rfl
    rw [e2] at hq ⊢
    rw [hE]
    simp only [hr] at g4
    obtain rfl : q = 0 := hq
    clear e2 hb h h1 h2 ht hE hC hr hp hCl hCf
    go_enter Try.func15, Try.ntmps15
    go_wp2_with (refine wpList_load_st rfl 24 _ rfl HS.out 1 _ _ rfl rfl _ Try.underlying24 rfl (by rfl) ?_)
    refine (g1 _ (HS.out.fact 0 rfl)).out.mono ?_
    rintro e w2 ⟨rfl, hB⟩
    replace HS := Lib.hid (HS.out.on hB)
    clear hB g1
    have s0 := HS.out.cell 1 rfl 0 rfl
    have s1 := HS.out.cell 1 rfl 1 rfl
    go_wp2_with fail
    obtain ⟨p2, hp2⟩ : ∃ p, p = w.heap.size + 1 := ⟨_, rfl⟩
    obtain ⟨p1, hp1⟩ : ∃ p, p = w.heap.size := ⟨_, rfl⟩
    have Hp2 : Hid (w.heap.size ≤ p2) := Lib.hid (by omega)
    rw [← hp2] at HS ⊢
    rw [← hp1] at HS ⊢
    clear hp1 hp2 s0 s1
    obtain ⟨po, hpo⟩ : ∃ p, p = w2.heap.size := ⟨_, rfl⟩
    have Hpo := Lib.hid hpo
    have HR0 : Hid (PsRel w2 po m t l ls (.int .i64 0) (w2.alloc (.cells #[.int .i64 m, .int .i64 t, .slice none 0 0] 24))) := Lib.hid ⟨0, none, 0, Nat.zero_le _, rfl, Lib.hid (below_new w2 _), Lib.hid ⟨_, by rw [hpo]; exact heap_alloc_new _ _⟩, Lib.hid (OwnA.nil _ _)⟩
    rw [← hpo]
    clear hpo
    go_loopw [7] (fun i wr => PsRel w2 po m t l ls i wr) (fun i _ => l - (intOf i).toNat)
    case atStart => exact HR0.out
    case round =>
     clear HR0
     obtain ⟨k, A2, c2, hk, rfl, HB, Hb, HO⟩ := hrel
     have HSo := Lib.hid (HS.out.on HB.out)
     have s2 := HSo.out.cell 1 rfl 2 rfl
     have HSb : Hid (St w wr [(po, #[.int .i64 m, .int .i64 t, .slice A2 k c2])] []) := Lib.hid (St.one8 Hb.out HSo.out.below)
     by_cases hlt : k < l
     · have kl : k < ls.length := by rw [← Hl.out]; exact hlt
       have HA : Hid (AlmsAt wr wr.heap.size A ls) := Lib.hid (HSo.out.fact 0 rfl)
       obtain ⟨b0, o0, rfl, hb0, h6⟩ := HA.out k kl
       have Hof := Lib.hid (Bd.pass_take8 (t := t) kl)
       have Hle : Hid ((Bd.passL t (ls.take k)).length = k) := Lib.hid (by rw [Bd.pass_len, List.length_take]; omega)
       obtain ⟨x, hx⟩ : ∃ x, x = ls[k]'kl := ⟨_, rfl⟩
       rw [← hx] at h6 Hof
       clear hx
       obtain ⟨x0, x1, x2, x3, x4, x5⟩ := x
       have d0 := h6.c0
       have d1 := h6.c1
       have d2 := h6.c2
       have d3 := h6.c3
       have d4 := h6.c4
       have d5 := h6.c5
       simp only at d0 d1 d2 d3 d4 d5
       have i1 : (k : Int) < (l : Int) := by omega
       have i3 : (0 : Int) ≤ (k : Int) := by omega
       have Ik : Hid (wrap64 ((k : Int) + 1) = (k : Int) + 1) := Lib.hid (by have := Hf.out; unfold wrap64; omega)
       have Hk := Lib.hid hlt
       have g := fun W => RPass_any x0 x1 x2 x3 x4 x5 t W
       obtain ⟨y, hy⟩ : ∃ y, y = Am.pass ⟨x0, x1, x2, x3, x4, x5⟩ t := ⟨_, rfl⟩
       simp only [← hy] at g
       rw [← hy] at Hof
       obtain ⟨y0, y1, y2, y3, y4, y5⟩ := y
       simp only [sixV] at g
       have Hle6 : Hid ((Bd.passL t (ls.take (k + 1))).length = k + 1) := Lib.hid (by rw [Bd.pass_len, List.length_take]; omega)
       have Hwp : Hid (w.heap.size ≤ po) := Lib.hid (by rw [Hpo.out]; exact HS.out.below.size)
       clear h6 kl hk hlt hb0 hy
       go_wp2_with fail
       refine (g _).mono ?_
       rintro e w3 ⟨rfl, hB⟩
       have HB3 := Lib.hid (below2 HB.out hB)
       have HS3 := Lib.hid ((HSb.out.on hB).on (below_new w3 (.cells #[.int .i64 y0, .int .i64 y1, .int .i64 y2, .int .i64 y3, .int .i64 y4, .int .i64 y5] 28)))
       have HN2 := Lib.hid (below_new2 w3 (.cells #[.int .i64 y0, .int .i64 y1, .int .i64 y2, .int .i64 y3, .int .i64 y4, .int .i64 y5] 28) (.cells #[.int .i64 y0, .int .i64 y1, .int .i64 y2, .int .i64 y3, .int .i64 y4, .int .i64 y5] 28))
       have HS4 := Lib.hid ((HSb.out.on hB).on HN2.out)
       have O4 := Lib.hid ((HO.out.below hB).below HN2.out)
       have HB4 := Lib.hid (below2 HB3.out HN2.out)
       have ON := Lib.hid (AlmsAt.one10 w3 (.cells #[.int .i64 y0, .int .i64 y1, .int .i64 y2, .int .i64 y3, .int .i64 y4, .int .i64 y5] 28) y0 y1 y2 y3 y4 y5 28)
       have Hpw : Hid (po + 1 ≤ ((w3.alloc (.cells #[.int .i64 y0, .int .i64 y1, .int .i64 y2, .int .i64 y3, .int .i64 y4, .int .i64 y5] 28)).alloc (.cells #[.int .i64 y0, .int .i64 y1, .int .i64 y2, .int .i64 y3, .int .i64 y4, .int .i64 y5] 28)).heap.size) := Lib.hid (HS4.out.lt 0 rfl)
       clear hB g d0 d1 d2 d3 d4 d5 s2
       go_wp2_with (first
         | (refine wpList_loadc8 rfl 22 _ rfl HS3.out 0 _ _ rfl 2 _ rfl rfl Try.isAgg22 ?_)
         | (at_builtin; refine wpList_append_alms rfl _ _ rfl (po + 1) (.slice A2 k c2) (Bd.passL t (ls.take k)) [(⟨y0, y1, y2, y3, y4, y5⟩ : Alm)] rfl O4.out (some ⟨w3.heap.size + 1, 0, none⟩) 1 _ rfl rfl ON.out (fun e => nomatch e) Hpw.out (by have := Hle.out; have := Hf.out; have := Hk.out; simp only [List.length_cons, List.length_nil]; omega) ?_; intro v5 w5 hown5 hgrow5; rw [← Hof.out] at hown5; have hS5 : St w w5 [(po, #[.int .i64 m, .int .i64 t, .slice A2 k c2])] [] := HS4.out.kept8 hgrow5 O4.out Hwp.out; have hB5 : Below w2.heap.size w2 w5 := HB4.out.grown hgrow5 HB4.out.size (fun j hj => Nat.le_trans (by rw [Hpo.out]; exact Nat.le_succ _) (O4.out.ge9 j hj)); obtain ⟨A6, c6, hv6, _, _, _⟩ := hown5.slice; rw [Hle6.out] at hv6; subst hv6; have HS5 := Lib.hid hS5; have HB5 := Lib.hid hB5; have O5 := Lib.hid hown5; clear hown5 hgrow5 hS5 hB5)
         | (refine wpList_setcell8 rfl 22 _ _ rfl HS5.out Hwp.out 2 (.slice A6 (k + 1) c6) _ (po + 1) _ (Bd.passL t (ls.take (k + 1))) O5.out (Nat.lt_succ_self _) rfl rfl rfl (by rfl) rfl ?_; intro w6 hw6 hS6 hO6; have HB6 : Hid (Below w2.heap.size w2 w6) := Lib.hid (by rw [hw6]; exact below_setCell HB5.out (by rw [Hpo.out]; exact Nat.le_refl _) 2 _); have HS6 := Lib.hid hS6; have O6 := Lib.hid hO6; clear hw6 hS6 hO6))
       go_roundw
       case rel => exact ⟨k + 1, A6, c6, Hk.out, by first | rfl | (rw [Ik.out]; rfl), HB6, Lib.hid (HS6.out.live (po, #[.int .i64 m, .int .i64 t, .slice A6 (k + 1) c6]) (List.mem_singleton.2 rfl)), O6⟩
       case measure => have := Hk.out; (try rw [Ik.out]); simp [intOf]; omega
     · obtain rfl : k = l := by omega
       have ik : ((k : Int) < (k : Int)) = False := eq_false (by omega)
       have He : Hid (ls.take k = ls) := Lib.hid (List.take_of_length_le (by have := Hl.out; omega))
       rw [He.out] at HO
       have hal := HO.out.alms
       rw [← HC.out] at HO hal
       have gg := g4 wr A2 c2 hal.1 hal.2
       have Hz2 : Hid (w.heap.size ≤ po + 1) := Lib.hid (by rw [Hpo.out]; have := HS.out.below.size; omega)
       have Hp2o : Hid (p2 < po + 1) := Lib.hid (by rw [Hpo.out]; have := HS.out.lt 0 rfl; omega)
       clear hk hlt He hal g4
       go_wp2_with (refine wpList_load_st rfl 24 _ rfl HSb.out 0 _ _ rfl rfl _ Try.underlying24 rfl (by rfl) ?_)
       refine gg.out.mono ?_
       rintro e w7 ⟨rfl, hB⟩
       have HS7 := Lib.hid (HSo.out.on hB)
       have HSb7 := Lib.hid (HSb.out.on hB)
       have HO7 := Lib.hid (HO.out.below hB)
       clear hB gg s2
       go_wp2_with (refine wpList_setres8 rfl 24 _ _ rfl HS7.out 0 p2 _ #[.int .i64 0, .int .i64 0, .slice none 0 0] rfl Hp2.out w7.heap.size _ [] (OwnA.nil w7 w7.heap.size) (HS7.out.lt 0 rfl) rfl rfl (by rfl) rfl (bd_one 0 0 none 0 0) ?_; intro w9 hS9 hO9; have HS9 := Lib.hid hS9; clear hS9 hO9)
       (try simp only [Exit.inBlock, Exit.then]); refine bodyPost_ret (ret_board rfl rfl HS9.out 0 rfl rfl) rfl ?_
       exact ⟨none, 0, rfl, OwnA.nil _ _, HS9.out.below⟩
  · rw [hr] at hE
    replace hE : Bd.passE m n ls t = 0 := hE
    have e2 : Bd.pass m n ls t = ⟨m, t, C⟩ := by unfold Bd.pass; rw [hE, hC]; rfl
    rw [e2] at hq ⊢
    rw [hE]
    simp only [hr] at g4
    rw [show q = l from hq.trans hCl.symm]
    clear e2 hb h h1 h2 ht hE hC hr hp hCl hCf hq
    go_enter Try.func15, Try.ntmps15
    go_wp2_with (refine wpList_load_st rfl 24 _ rfl HS.out 1 _ _ rfl rfl _ Try.underlying24 rfl (by rfl) ?_)
    refine (g1 _ (HS.out.fact 0 rfl)).out.mono ?_
    rintro e w2 ⟨rfl, hB⟩
    replace HS := Lib.hid (HS.out.on hB)
    clear hB g1
    have s0 := HS.out.cell 1 rfl 0 rfl
    have s1 := HS.out.cell 1 rfl 1 rfl
    go_wp2_with fail
    obtain ⟨p2, hp2⟩ : ∃ p, p = w.heap.size + 1 := ⟨_, rfl⟩
    obtain ⟨p1, hp1⟩ : ∃ p, p = w.heap.size := ⟨_, rfl⟩
    have Hp2 : Hid (w.heap.size ≤ p2) := Lib.hid (by omega)
    rw [← hp2] at HS ⊢
    rw [← hp1] at HS ⊢
    clear hp1 hp2 s0 s1
    obtain ⟨po, hpo⟩ : ∃ p, p = w2.heap.size := ⟨_, rfl⟩
    have Hpo := Lib.hid hpo
    have HR0 : Hid (PsRel w2 po m t l ls (.int .i64 0) (w2.alloc (.cells #[.int .i64 m, .int .i64 t, .slice none 0 0] 24))) := Lib.hid ⟨0, none, 0, Nat.zero_le _, rfl, Lib.hid (below_new w2 _), Lib.hid ⟨_, by rw [hpo]; exact heap_alloc_new _ _⟩, Lib.hid (OwnA.nil _ _)⟩
    rw [← hpo]
    clear hpo
    go_loopw [7] (fun i wr => PsRel w2 po m t l ls i wr) (fun i _ => l - (intOf i).toNat)
    case atStart => exact HR0.out
    case round =>
     clear HR0
     obtain ⟨k, A2, c2, hk, rfl, HB, Hb, HO⟩ := hrel
     have HSo := Lib.hid (HS.out.on HB.out)
     have s2 := HSo.out.cell 1 rfl 2 rfl
     have HSb : Hid (St w wr [(po, #[.int .i64 m, .int .i64 t, .slice A2 k c2])] []) := Lib.hid (St.one8 Hb.out HSo.out.below)
     by_cases hlt : k < l
     · have kl : k < ls.length := by rw [← Hl.out]; exact hlt
       have HA : Hid (AlmsAt wr wr.heap.size A ls) := Lib.hid (HSo.out.fact 0 rfl)
       obtain ⟨b0, o0, rfl, hb0, h6⟩ := HA.out k kl
       have Hof := Lib.hid (Bd.pass_take8 (t := t) kl)
       have Hle : Hid ((Bd.passL t (ls.take k)).length = k) := Lib.hid (by rw [Bd.pass_len, List.length_take]; omega)
       obtain ⟨x, hx⟩ : ∃ x, x = ls[k]'kl := ⟨_, rfl⟩
       rw [← hx] at h6 Hof
       clear hx
       obtain ⟨x0, x1, x2, x3, x4, x5⟩ := x
       have d0 := h6.c0
       have d1 := h6.c1
       have d2 := h6.c2
       have d3 := h6.c3
       have d4 := h6.c4
       have d5 := h6.c5
       simp only at d0 d1 d2 d3 d4 d5
       have i1 : (k : Int) < (l : Int) := by omega
       have i3 : (0 : Int) ≤ (k : Int) := by omega
       have Ik : Hid (wrap64 ((k : Int) + 1) = (k : Int) + 1) := Lib.hid (by have := Hf.out; unfold wrap64; omega)
       have Hk := Lib.hid hlt
       have g := fun W => RPass_any x0 x1 x2 x3 x4 x5 t W
       obtain ⟨y, hy⟩ : ∃ y, y = Am.pass ⟨x0, x1, x2, x3, x4, x5⟩ t := ⟨_, rfl⟩
       simp only [← hy] at g
       rw [← hy] at Hof
       obtain ⟨y0, y1, y2, y3, y4, y5⟩ := y
       simp only [sixV] at g
       have Hle6 : Hid ((Bd.passL t (ls.take (k + 1))).length = k + 1) := Lib.hid (by rw [Bd.pass_len, List.length_take]; omega)
       have Hwp : Hid (w.heap.size ≤ po) := Lib.hid (by rw [Hpo.out]; exact HS.out.below.size)
       clear h6 kl hk hlt hb0 hy
       go_wp2_with fail
       refine (g _).mono ?_
       rintro e w3 ⟨rfl, hB⟩
       have HB3 := Lib.hid (below2 HB.out hB)
       have HS3 := Lib.hid ((HSb.out.on hB).on (below_new w3 (.cells #[.int .i64 y0, .int .i64 y1, .int .i64 y2, .int .i64 y3, .int .i64 y4, .int .i64 y5] 28)))
       have HN2 := Lib.hid (below_new2 w3 (.cells #[.int .i64 y0, .int .i64 y1, .int .i64 y2, .int .i64 y3, .int .i64 y4, .int .i64 y5] 28) (.cells #[.int .i64 y0, .int .i64 y1, .int .i64 y2, .int .i64 y3, .int .i64 y4, .int .i64 y5] 28))
       have HS4 := Lib.hid ((HSb.out.on hB).on HN2.out)
       have O4 := Lib.hid ((HO.out.below hB).below HN2.out)
       have HB4 := Lib.hid (below2 HB3.out HN2.out)
       have ON := Lib.hid (AlmsAt.one10 w3 (.cells #[.int .i64 y0, .int .i64 y1, .int .i64 y2, .int .i64 y3, .int .i64 y4, .int .i64 y5] 28) y0 y1 y2 y3 y4 y5 28)
       have Hpw : Hid (po + 1 ≤ ((w3.alloc (.cells #[.int .i64 y0, .int .i64 y1, .int .i64 y2, .int .i64 y3, .int .i64 y4, .int .i64 y5] 28)).alloc (.cells #[.int .i64 y0, .int .i64 y1, .int .i64 y2, .int .i64 y3, .int .i64 y4, .int .i64 y5] 28)).heap.size) := Lib.hid (HS4.out.lt 0 rfl)
       clear hB g d0 d1 d2 d3 d4 d5 s2
       go_wp2_with (first
         | (refine wpList_loadc8 rfl 22 _ rfl HS3.out 0 _ _ rfl 2 _ rfl rfl Try.isAgg22 ?_)
         | (at_builtin; refine wpList_append_alms rfl _ _ rfl (po + 1) (.slice A2 k c2) (Bd.passL t (ls.take k)) [(⟨y0, y1, y2, y3, y4, y5⟩ : Alm)] rfl O4.out (some ⟨w3.heap.size + 1, 0, none⟩) 1 _ rfl rfl ON.out (fun e => nomatch e) Hpw.out (by have := Hle.out; have := Hf.out; have := Hk.out; simp only [List.length_cons, List.length_nil]; omega) ?_; intro v5 w5 hown5 hgrow5; rw [← Hof.out] at hown5; have hS5 : St w w5 [(po, #[.int .i64 m, .int .i64 t, .slice A2 k c2])] [] := HS4.out.kept8 hgrow5 O4.out Hwp.out; have hB5 : Below w2.heap.size w2 w5 := HB4.out.grown hgrow5 HB4.out.size (fun j hj => Nat.le_trans (by rw [Hpo.out]; exact Nat.le_succ _) (O4.out.ge9 j hj)); obtain ⟨A6, c6, hv6, _, _, _⟩ := hown5.slice; rw [Hle6.out] at hv6; subst hv6; have HS5 := Lib.hid hS5; have HB5 := Lib.hid hB5; have O5 := Lib.hid hown5; clear hown5 hgrow5 hS5 hB5)
         | (refine wpList_setcell8 rfl 22 _ _ rfl HS5.out Hwp.out 2 (.slice A6 (k + 1) c6) _ (po + 1) _ (Bd.passL t (ls.take (k + 1))) O5.out (Nat.lt_succ_self _) rfl rfl rfl (by rfl) rfl ?_; intro w6 hw6 hS6 hO6; have HB6 : Hid (Below w2.heap.size w2 w6) := Lib.hid (by rw [hw6]; exact below_setCell HB5.out (by rw [Hpo.out]; exact Nat.le_refl _) 2 _); have HS6 := Lib.hid hS6; have O6 := Lib.hid hO6; clear hw6 hS6 hO6))
       go_roundw
       case rel => exact ⟨k + 1, A6, c6, Hk.out, by first | rfl | (rw [Ik.out]; rfl), HB6, Lib.hid (HS6.out.live (po, #[.int .i64 m, .int .i64 t, .slice A6 (k + 1) c6]) (List.mem_singleton.2 rfl)), O6⟩
       case measure => have := Hk.out; (try rw [Ik.out]); simp [intOf]; omega
     · obtain rfl : k = l := by omega
       have ik : ((k : Int) < (k : Int)) = False := eq_false (by omega)
       have He : Hid (ls.take k = ls) := Lib.hid (List.take_of_length_le (by have := Hl.out; omega))
       rw [He.out] at HO
       have hal := HO.out.alms
       rw [← HC.out] at HO hal
       have gg := g4 wr A2 c2 hal.1 hal.2
       have Hz2 : Hid (w.heap.size ≤ po + 1) := Lib.hid (by rw [Hpo.out]; have := HS.out.below.size; omega)
       have Hp2o : Hid (p2 < po + 1) := Lib.hid (by rw [Hpo.out]; have := HS.out.lt 0 rfl; omega)
       clear hk hlt He hal g4
       go_wp2_with (refine wpList_load_st rfl 24 _ rfl HSb.out 0 _ _ rfl rfl _ Try.underlying24 rfl (by rfl) ?_)
       refine gg.out.mono ?_
       rintro e w7 ⟨rfl, hB⟩
       have HS7 := Lib.hid (HSo.out.on hB)
       have HSb7 := Lib.hid (HSb.out.on hB)
       have HO7 := Lib.hid (HO.out.below hB)
       clear hB gg s2
       go_wp2_with (first
         | (refine wpList_load_st rfl 24 _ rfl HSb7.out 0 _ _ rfl rfl _ Try.underlying24 rfl (by rfl) ?_)
         | (refine wpList_setres8 rfl 24 _ _ rfl HS7.out 0 p2 _ #[.int .i64 m, .int .i64 t, .slice A2 k c2] rfl Hp2.out (po + 1) _ C HO7.out Hp2o.out rfl rfl (by rfl) rfl (bd_one m t A2 k c2) ?_; intro w9 hS9 hO9; have HS9 := Lib.hid hS9; have HO9 := Lib.hid (hO9.lower Hz2.out); clear hS9 hO9))
       (try simp only [Exit.inBlock, Exit.then]); refine bodyPost_ret (ret_board rfl rfl HS9.out 0 rfl rfl) rfl ?_
       exact ⟨A2, c2, rfl, HO9.out, HS9.out.below⟩
end Go.Proofs.Ythlojadkgpmnmaa

namespace Go.Proofs.Ythlojadkgpmnmaa
open Go.RowKit

theorem Try.infoI : (Try.prog.info? 3).map (fun i => (i.zero, i.size, i.bytes)) = some (some (.int .i64 0), 1, 8) := by kernel_rfl

set_option maxHeartbeats 400000 in
theorem Own_any (A : Option Addr) (cap : Nat) (zs : List Int) (w : World) (hA : IntsAt w w.heap.size A zs) (hnil : A = none → cap = 0) (hl : zs.length ≤ 1000000000) :
    Calls Try.prog 24 #[.slice A zs.length cap] w fun e w' => ∃ A' cap', e = .returned (.slice A' zs.length cap') ∧ w'.ownsRow w.heap.size 3 1 (.slice A' zs.length cap') zs.length (zs.map (Value.int .i64)) ∧ Below w.heap.size w w' := by
  obtain ⟨i0, hi, hz0, hz1, hz2⟩ := info_parts Try.infoI
  have hown0 := World.ownsRow_nil w w.heap.size 3 1
  cases A with
  | none =>
    obtain rfl : cap = 0 := hnil rfl
    obtain rfl : zs = [] := by
      cases zs with
      | nil => rfl
      | cons z zs => obtain ⟨b, off, h, _⟩ := hA 0 (by simp); cases h
    go_enter Try.func24, Try.ntmps24
    go_wp2_with (at_builtin; refine wpList_append_own_none _ rfl _ _ 29 rfl w.heap.size 3 i0 1 Try.underlying29 hi _ _ _ rfl hown0 rfl ?_)
    go_ret
    exact ⟨none, 0, rfl, World.ownsRow_nil _ _ _ _, Below.refl _ _⟩
  | some a =>
    have hcells : ∀ j u, (zs.map (Value.int .i64))[j]? = some u → w.cell? (a.add j) = some u := by
      intro j u hu
      have hj : j < zs.length := by
        have := (List.getElem?_eq_some_iff.1 hu).1
        simpa using this
      obtain ⟨b, off, ha, _, hc⟩ := hA j hj
      cases ha
      rw [Go.WideShapes.add_plain, hc]
      simpa [List.getElem?_eq_getElem hj] using hu
    obtain ⟨m, hm⟩ : ∃ m, m = zs.length := ⟨_, rfl⟩
    rw [← hm] at hl ⊢
    obtain ⟨xs, hxs⟩ : ∃ xs, xs = zs.map (Value.int .i64) := ⟨_, rfl⟩
    rw [← hxs] at hcells ⊢
    have hlen : xs.length = m * 1 := by rw [hxs, hm]; simp
    have hone : ∀ u ∈ xs, u.oneCell' = true := by rw [hxs]; simp [Value.oneCell']
    have Hm := Lib.hid hm; have Hxs := Lib.hid hxs; have Hlen := Lib.hid hlen; have Hone := Lib.hid hone; have Hc := Lib.hid hcells
    clear hm hxs hlen hone hcells hA hnil
    go_enter Try.func24, Try.ntmps24
    go_wp2_with (at_builtin; refine wpList_append_own _ rfl _ _ 29 rfl w.heap.size 3 i0 (.int .i64 0) 1 8 Try.underlying29 hi hz0 hz1 hz2 rfl (by decide) _ _ _ rfl hown0 a m cap xs rfl Hlen.out Hc.out Hone.out (by unfold maxLen; omega) (by omega) (Nat.le_refl _) ?_; intro v' w1 hown' hgrow _; rw [Nat.zero_add, List.nil_append] at hown'; have hB1 : Below w.heap.size w w1 := (Below.refl _ w).grown hgrow (Nat.le_refl _) (fun k hk => (hown0.lt k hk).1); clear hgrow; obtain ⟨A', cap', rfl⟩ := ownsRow_slice hown')
    go_ret
    exact ⟨A', cap', rfl, hown', hB1⟩

end Go.Proofs.Ythlojadkgpmnmaa

namespace Go.Proofs.Ythlojadkgpmnmaa
open Go.RowKit

theorem rbInts (B : Option Addr) (k cb : Nat) (zs : List Int) (w : World) (hk : k = zs.length) (hB : IntsAt w w.heap.size B zs) (h0 : B = none → cb = 0) (hk2 : k ≤ 1000) : Calls Try.prog 24 #[.slice B k cb] w (OwnI0 w k zs) := by
  subst hk
  refine (Own_any B cb zs w hB h0 (by omega)).mono ?_
  rintro e w' ⟨A', c', rfl, ho, hB'⟩
  refine ⟨A', c', rfl, ?_, hB'⟩
  intro i hi
  rcases ho.2 with ⟨_, h1⟩ | ⟨g, cap, cur, hv, _, hg, _, _, _, _⟩
  · omega
  · have hA : A' = some ⟨g, 0, none⟩ := by cases hv; rfl
    have hc := ho.cells (g := g) (by rw [hv]; rfl) i (.int .i64 zs[i]) (by simp [List.getElem?_eq_getElem hi])
    rw [Go.WideShapes.add_plain] at hc
    exact ⟨g, 0, hA, (Array.getElem?_eq_some_iff.1 hg).1, hc⟩

theorem refK : RefK where
  own := rbOwn
  is := rbIs
  get := rbGet
  put := rbPut
  drop := rbDrop
  pass := rbPass
  new := rbNew
  gather := rbOf
  ints := rbInts
end Go.Proofs.Ythlojadkgpmnmaa
