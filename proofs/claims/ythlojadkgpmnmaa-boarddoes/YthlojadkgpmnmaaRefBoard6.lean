/-
  Layer 8 (board), the reference: Pass.
-/
import Derived.Test.YthlojadkgpmnmaaState3
import Derived.Test.YthlojadkgpmnmaaRefBoard3
import Derived.Test.YthlojadkgpmnmaaRefAlarm8
namespace Go.Proofs.Ythlojadkgpmnmaa
open Go.RowKit

/-- A row that grows leaves a block ahead of it as it is. -/
theorem St.kept8 {w0 w w' : World} {k : Nat} {cs : Array Value} {v : Value} {ls : List Alm} (h : St w0 w [(k, cs)] []) (hg : w.grownBy w' v.ownBlock) (hO : OwnA w (k + 1) v ls) (hb : w0.heap.size ≤ k) : St w0 w' [(k, cs)] [] := by
  have hlt := h.lt 0 rfl
  obtain ⟨t, ht⟩ := h.live (k, cs) (by simp)
  have hne : some k ≠ v.ownBlock := fun e => by
    have := hO.ge9 k e.symm
    omega
  refine ⟨fun y hy => ?_, (fun _ h => nomatch h), ?_⟩
  · obtain rfl : y = (k, cs) := by simpa using hy
    exact ⟨t, (hg.block k hlt hne).trans ht⟩
  · exact h.below.grown hg h.below.size (fun j hj => Nat.le_trans (Nat.le_succ_of_le hb) (hO.ge9 j hj))

theorem St.one8 {w0 w : World} {k : Nat} {cs : Array Value} (h : ∃ t, w.heap[k]? = some (.cells cs t (0, 0))) (hb : Below w0.heap.size w0 w) : St w0 w [(k, cs)] [] :=
  ⟨fun y hy => by
    obtain rfl : y = (k, cs) := by simpa using hy
    exact h, (fun _ h => nomatch h), hb⟩

def PsRel (w2 : World) (po : Nat) (m t : Int) (l : Nat) (ls : List Alm) (i : Value) (wr : World) : Prop :=
  ∃ (k : Nat) (A2 : Option Addr) (c2 : Nat), k ≤ l ∧ i = .int .i64 (k : Int) ∧ Hid (Below w2.heap.size w2 wr) ∧ Hid (∃ ty, wr.heap[po]? = some (.cells #[.int .i64 m, .int .i64 t, .slice A2 k c2] ty (0, 0))) ∧ Hid (OwnA wr (po + 1) (.slice A2 k c2) (Bd.passL t (ls.take k)))

set_option maxRecDepth 10000 in
set_option maxHeartbeats 4000000 in
theorem rbPass (m n : Int) (A : Option Addr) (l c : Nat) (ls : List Alm) (t : Int) (q : Nat) (w : World) (h : Told w A l c ls) (hq : q = (Bd.pass m n ls t).als.length) :
    Calls Try.prog 15 #[.agg #[.int .i64 m, .int .i64 n, .slice A l c], .int .i64 t] w (GivesB w (Bd.pass m n ls t) q (Bd.passE m n ls t)) := by
  have HS := Lib.hid (((St.start w).more (rowF A ls) h.2.1).box2 #[.int .i64 m, .int .i64 n, .slice A l c] #[.int .i64 0, .int .i64 0, .slice none 0 0] 24 24)
  have g1 := fun W (hA : AlmsAt W W.heap.size A ls) => Lib.hid (rbIs m n A l c ls W ⟨h.1, hA, h.2.2⟩)
  cases hb : Bd.isB m n ls
  · simp only [hb] at g1
    have e : Bd.passE m n ls t = 1 := by unfold Bd.passE; rw [hb]; rfl
    have e2 : Bd.pass m n ls t = ⟨0, 0, []⟩ := by unfold Bd.pass; rw [e]; rfl
    rw [e2] at hq ⊢
    rw [e]
    obtain rfl : q = 0 := hq
    clear e e2 hb h
    go_enter Try.func15, Try.ntmps15
    go_wp2_with (refine wpList_load_st rfl 24 _ rfl HS.out 1 _ _ rfl rfl _ Try.underlying24 rfl (by rfl) ?_)
    refine (g1 _ (HS.out.fact 0 rfl)).out.mono ?_
    rintro e w2 ⟨rfl, hB⟩
    replace HS := Lib.hid (HS.out.on hB)
    clear hB g1
    go_wp2_with (refine wpList_setres8 rfl 24 _ _ rfl HS.out 0 (w.heap.size + 1) _ #[.int .i64 0, .int .i64 0, .slice none 0 0] rfl (by omega) w2.heap.size _ [] (OwnA.nil w2 w2.heap.size) (HS.out.lt 0 rfl) rfl rfl (by rfl) rfl (bd_one 0 0 none 0 0) ?_; intro w9 hS9 hO9; have HS9 := Lib.hid hS9; clear hS9 hO9)
    (try simp only [Exit.inBlock, Exit.then]); refine bodyPost_ret (ret_board rfl rfl HS9.out 0 rfl rfl) rfl ?_
    exact ⟨none, 0, rfl, OwnA.nil _ _, HS9.out.below⟩

  simp only [hb] at g1
  by_cases h1 : t < 0
  · have ht : Am.isT t = false := by unfold Am.isT; rw [decide_eq_false (by omega : ¬ 0 ≤ t)]; rfl
    have e : Bd.passE m n ls t = 1 := by unfold Bd.passE; rw [hb, ht]; rfl
    have e2 : Bd.pass m n ls t = ⟨0, 0, []⟩ := by unfold Bd.pass; rw [e]; rfl
    rw [e2] at hq ⊢
    rw [e]
    obtain rfl : q = 0 := hq
    clear e e2 hb h ht
    go_enter Try.func15, Try.ntmps15
    go_wp2_with (refine wpList_load_st rfl 24 _ rfl HS.out 1 _ _ rfl rfl _ Try.underlying24 rfl (by rfl) ?_)
    refine (g1 _ (HS.out.fact 0 rfl)).out.mono ?_
    rintro e w2 ⟨rfl, hB⟩
    replace HS := Lib.hid (HS.out.on hB)
    clear hB g1
    go_wp2_with (refine wpList_setres8 rfl 24 _ _ rfl HS.out 0 (w.heap.size + 1) _ #[.int .i64 0, .int .i64 0, .slice none 0 0] rfl (by omega) w2.heap.size _ [] (OwnA.nil w2 w2.heap.size) (HS.out.lt 0 rfl) rfl rfl (by rfl) rfl (bd_one 0 0 none 0 0) ?_; intro w9 hS9 hO9; have HS9 := Lib.hid hS9; clear hS9 hO9)
    (try simp only [Exit.inBlock, Exit.then]); refine bodyPost_ret (ret_board rfl rfl HS9.out 0 rfl rfl) rfl ?_
    exact ⟨none, 0, rfl, OwnA.nil _ _, HS9.out.below⟩

  have i1 : (t < 0) = False := eq_false h1
  by_cases h2 : 1000000000 < t
  · have ht : Am.isT t = false := by unfold Am.isT; rw [decide_eq_false (by omega : ¬ t ≤ 1000000000)]; simp
    have e : Bd.passE m n ls t = 1 := by unfold Bd.passE; rw [hb, ht]; rfl
    have e2 : Bd.pass m n ls t = ⟨0, 0, []⟩ := by unfold Bd.pass; rw [e]; rfl
    rw [e2] at hq ⊢
    rw [e]
    obtain rfl : q = 0 := hq
    clear e e2 hb h ht h1
    go_enter Try.func15, Try.ntmps15
    go_wp2_with (refine wpList_load_st rfl 24 _ rfl HS.out 1 _ _ rfl rfl _ Try.underlying24 rfl (by rfl) ?_)
    refine (g1 _ (HS.out.fact 0 rfl)).out.mono ?_
    rintro e w2 ⟨rfl, hB⟩
    replace HS := Lib.hid (HS.out.on hB)
    clear hB g1
    go_wp2_with (refine wpList_setres8 rfl 24 _ _ rfl HS.out 0 (w.heap.size + 1) _ #[.int .i64 0, .int .i64 0, .slice none 0 0] rfl (by omega) w2.heap.size _ [] (OwnA.nil w2 w2.heap.size) (HS.out.lt 0 rfl) rfl rfl (by rfl) rfl (bd_one 0 0 none 0 0) ?_; intro w9 hS9 hO9; have HS9 := Lib.hid hS9; clear hS9 hO9)
    (try simp only [Exit.inBlock, Exit.then]); refine bodyPost_ret (ret_board rfl rfl HS9.out 0 rfl rfl) rfl ?_
    exact ⟨none, 0, rfl, OwnA.nil _ _, HS9.out.below⟩

  have i2 : (1000000000 < t) = False := eq_false h2
  have ht : Am.isT t = true := Am.isT_iff.2 ⟨by omega, by omega⟩
  by_cases hp : t < n
  · have hE : Bd.passE m n ls t = 62 := by unfold Bd.passE; rw [hb, ht, if_neg (by simp), if_pos hp]
    have e : Bd.passE m n ls t = 62 := hE
    have e2 : Bd.pass m n ls t = ⟨0, 0, []⟩ := by unfold Bd.pass; rw [e]; rfl
    rw [e2] at hq ⊢
    rw [e]
    obtain rfl : q = 0 := hq
    clear e e2 hE hb h ht h1 h2
    go_enter Try.func15, Try.ntmps15
    go_wp2_with (refine wpList_load_st rfl 24 _ rfl HS.out 1 _ _ rfl rfl _ Try.underlying24 rfl (by rfl) ?_)
    refine (g1 _ (HS.out.fact 0 rfl)).out.mono ?_
    rintro e w2 ⟨rfl, hB⟩
    replace HS := Lib.hid (HS.out.on hB)
    clear hB g1
    have s1 := HS.out.cell 1 rfl 1 rfl
    go_wp2_with (refine wpList_setres8 rfl 24 _ _ rfl HS.out 0 (w.heap.size + 1) _ #[.int .i64 0, .int .i64 0, .slice none 0 0] rfl (by omega) w2.heap.size _ [] (OwnA.nil w2 w2.heap.size) (HS.out.lt 0 rfl) rfl rfl (by rfl) rfl (bd_one 0 0 none 0 0) ?_; intro w9 hS9 hO9; have HS9 := Lib.hid hS9; clear hS9 hO9)
    (try simp only [Exit.inBlock, Exit.then]); refine bodyPost_ret (ret_board rfl rfl HS9.out 0 rfl rfl) rfl ?_
    exact ⟨none, 0, rfl, OwnA.nil _ _, HS9.out.below⟩

  have ip : (t < n) = False := eq_false hp
  have hE : Bd.passE m n ls t = if Bd.isB m t (Bd.passL t ls) then 0 else 1 := by unfold Bd.passE; rw [hb, ht, if_neg (by simp), if_neg hp]
  obtain ⟨C, hC⟩ : ∃ C, C = Bd.passL t ls := ⟨_, rfl⟩
  have hCl : l = C.length := by rw [hC, Bd.pass_len]; exact h.1
  have hCf : l ≤ 1000 := h.2.2.2
  have g4 := fun W A2 c2 (hA : AlmsAt W W.heap.size A2 C) (h0 : A2 = none → c2 = 0) => Lib.hid (rbIs m t A2 l c2 C W ⟨hCl, hA, h0, hCf⟩)
  rw [← hC] at hE
  have HC := Lib.hid hC
  have Hl := Lib.hid h.1
  have Hf := Lib.hid h.2.2.2
  cases hr : Bd.isB m t C
  · rw [hr] at hE
    replace hE : Bd.passE m n ls t = 1 := hE
    have e2 : Bd.pass m n ls t = ⟨0, 0, []⟩ := by unfold Bd.pass; rw [hE]; rfl
    rw [e2] at hq ⊢
    rw [hE]
    simp only [hr] at g4
    obtain rfl : q = 0 := hq
    clear e2 hb h h1 h2 ht hE hC hr hp hCl hCf
    go_enter Try.func15, Try.ntmps15
    go_wp2_with (refine wpList_load_st rfl 24 _ rfl HS.out 1 _ _ rfl rfl _ Try.underlying24 rfl (by rfl) ?_)
    refine (g1 _ (HS.out.fact 0 rfl)).out.mono ?_
    rintro e w2 ⟨rfl, hB⟩
    replace HS := Lib.hid (HS.out.on hB)
    clear hB g1
    have s0 := HS.out.cell 1 rfl 0 rfl
    have s1 := HS.out.cell 1 rfl 1 rfl
    go_wp2_with fail
    obtain ⟨p2, hp2⟩ : ∃ p, p = w.heap.size + 1 := ⟨_, rfl⟩
    obtain ⟨p1, hp1⟩ : ∃ p, p = w.heap.size := ⟨_, rfl⟩
    have Hp2 : Hid (w.heap.size ≤ p2) := Lib.hid (by omega)
    rw [← hp2] at HS ⊢
    rw [← hp1] at HS ⊢
    clear hp1 hp2 s0 s1
    obtain ⟨po, hpo⟩ : ∃ p, p = w2.heap.size := ⟨_, rfl⟩
    have Hpo := Lib.hid hpo
    have HR0 : Hid (PsRel w2 po m t l ls (.int .i64 0) (w2.alloc (.cells #[.int .i64 m, .int .i64 t, .slice none 0 0] 24))) := Lib.hid ⟨0, none, 0, Nat.zero_le _, rfl, Lib.hid (below_new w2 _), Lib.hid ⟨_, by rw [hpo]; exact heap_alloc_new _ _⟩, Lib.hid (OwnA.nil _ _)⟩
    rw [← hpo]
    clear hpo
    go_loopw [7] (fun i wr => PsRel w2 po m t l ls i wr) (fun i _ => l - (intOf i).toNat)
    case atStart => exact HR0.out
    case round =>
     clear HR0
     obtain ⟨k, A2, c2, hk, rfl, HB, Hb, HO⟩ := hrel
     have HSo := Lib.hid (HS.out.on HB.out)
     have s2 := HSo.out.cell 1 rfl 2 rfl
     have HSb : Hid (St w wr [(po, #[.int .i64 m, .int .i64 t, .slice A2 k c2])] []) := Lib.hid (St.one8 Hb.out HSo.out.below)
     by_cases hlt : k < l
     · have kl : k < ls.length := by rw [← Hl.out]; exact hlt
       have HA : Hid (AlmsAt wr wr.heap.size A ls) := Lib.hid (HSo.out.fact 0 rfl)
       obtain ⟨b0, o0, rfl, hb0, h6⟩ := HA.out k kl
       have Hof := Lib.hid (Bd.pass_take8 (t := t) kl)
       have Hle : Hid ((Bd.passL t (ls.take k)).length = k) := Lib.hid (by rw [Bd.pass_len, List.length_take]; omega)
       obtain ⟨x, hx⟩ : ∃ x, x = ls[k]'kl := ⟨_, rfl⟩
       rw [← hx] at h6 Hof
       clear hx
       obtain ⟨x0, x1, x2, x3, x4, x5⟩ := x
       have d0 := h6.c0
       have d1 := h6.c1
       have d2 := h6.c2
       have d3 := h6.c3
       have d4 := h6.c4
       have d5 := h6.c5
       simp only at d0 d1 d2 d3 d4 d5
       have i1 : (k : Int) < (l : Int) := by omega
       have i3 : (0 : Int) ≤ (k : Int) := by omega
       have Ik : Hid (wrap64 ((k : Int) + 1) = (k : Int) + 1) := Lib.hid (by have := Hf.out; unfold wrap64; omega)
       have Hk := Lib.hid hlt
       have g := fun W => RPass_any x0 x1 x2 x3 x4 x5 t W
       obtain ⟨y, hy⟩ : ∃ y, y = Am.pass ⟨x0, x1, x2, x3, x4, x5⟩ t := ⟨_, rfl⟩
       simp only [← hy] at g
       rw [← hy] at Hof
       obtain ⟨y0, y1, y2, y3, y4, y5⟩ := y
       simp only [sixV] at g
       have Hle6 : Hid ((Bd.passL t (ls.take (k + 1))).length = k + 1) := Lib.hid (by rw [Bd.pass_len, List.length_take]; omega)
       have Hwp : Hid (w.heap.size ≤ po) := Lib.hid (by rw [Hpo.out]; exact HS.out.below.size)
       clear h6 kl hk hlt hb0 hy
       go_wp2_with fail
       refine (g _).mono ?_
       rintro e w3 ⟨rfl, hB⟩
       have HB3 := Lib.hid (below2 HB.out hB)
       have HS3 := Lib.hid ((HSb.out.on hB).on (below_new w3 (.cells #[.int .i64 y0, .int .i64 y1, .int .i64 y2, .int .i64 y3, .int .i64 y4, .int .i64 y5] 28)))
       have HN2 := Lib.hid (below_new2 w3 (.cells #[.int .i64 y0, .int .i64 y1, .int .i64 y2, .int .i64 y3, .int .i64 y4, .int .i64 y5] 28) (.cells #[.int .i64 y0, .int .i64 y1, .int .i64 y2, .int .i64 y3, .int .i64 y4, .int .i64 y5] 28))
       have HS4 := Lib.hid ((HSb.out.on hB).on HN2.out)
       have O4 := Lib.hid ((HO.out.below hB).below HN2.out)
       have HB4 := Lib.hid (below2 HB3.out HN2.out)
       have ON := Lib.hid (AlmsAt.one10 w3 (.cells #[.int .i64 y0, .int .i64 y1, .int .i64 y2, .int .i64 y3, .int .i64 y4, .int .i64 y5] 28) y0 y1 y2 y3 y4 y5 28)
       have Hpw : Hid (po + 1 ≤ ((w3.alloc (.cells #[.int .i64 y0, .int .i64 y1, .int .i64 y2, .int .i64 y3, .int .i64 y4, .int .i64 y5] 28)).alloc (.cells #[.int .i64 y0, .int .i64 y1, .int .i64 y2, .int .i64 y3, .int .i64 y4, .int .i64 y5] 28)).heap.size) := Lib.hid (HS4.out.lt 0 rfl)
       clear hB g d0 d1 d2 d3 d4 d5 s2
       go_wp2_with (first
         | (refine wpList_loadc8 rfl 22 _ rfl HS3.out 0 _ _ rfl 2 _ rfl rfl Try.isAgg22 ?_)
         | (at_builtin; refine wpList_append_alms rfl _ _ rfl (po + 1) (.slice A2 k c2) (Bd.passL t (ls.take k)) [(⟨y0, y1, y2, y3, y4, y5⟩ : Alm)] rfl O4.out (some ⟨w3.heap.size + 1, 0, none⟩) 1 _ rfl rfl ON.out (fun e => nomatch e) Hpw.out (by have := Hle.out; have := Hf.out; have := Hk.out; simp only [List.length_cons, List.length_nil]; omega) ?_; intro v5 w5 hown5 hgrow5; rw [← Hof.out] at hown5; have hS5 : St w w5 [(po, #[.int .i64 m, .int .i64 t, .slice A2 k c2])] [] := HS4.out.kept8 hgrow5 O4.out Hwp.out; have hB5 : Below w2.heap.size w2 w5 := HB4.out.grown hgrow5 HB4.out.size (fun j hj => Nat.le_trans (by rw [Hpo.out]; exact Nat.le_succ _) (O4.out.ge9 j hj)); obtain ⟨A6, c6, hv6, _, _, _⟩ := hown5.slice; rw [Hle6.out] at hv6; subst hv6; have HS5 := Lib.hid hS5; have HB5 := Lib.hid hB5; have O5 := Lib.hid hown5; clear hown5 hgrow5 hS5 hB5)
         | (refine wpList_setcell8 rfl 22 _ _ rfl HS5.out Hwp.out 2 (.slice A6 (k + 1) c6) _ (po + 1) _ (Bd.passL t (ls.take (k + 1))) O5.out (Nat.lt_succ_self _) rfl rfl rfl (by rfl) rfl ?_; intro w6 hw6 hS6 hO6; have HB6 : Hid (Below w2.heap.size w2 w6) := Lib.hid (by rw [hw6]; exact below_setCell HB5.out (by rw [Hpo.out]; exact Nat.le_refl _) 2 _); have HS6 := Lib.hid hS6; have O6 := Lib.hid hO6; clear hw6 hS6 hO6))
       go_roundw
       case rel => exact ⟨k + 1, A6, c6, Hk.out, by first | rfl | (rw [Ik.out]; rfl), HB6, Lib.hid (HS6.out.live (po, #[.int .i64 m, .int .i64 t, .slice A6 (k + 1) c6]) (List.mem_singleton.2 rfl)), O6⟩
       case measure => have := Hk.out; (try rw [Ik.out]); simp [intOf]; omega
     · obtain rfl : k = l := by omega
       have ik : ((k : Int) < (k : Int)) = False := eq_false (by omega)
       have He : Hid (ls.take k = ls) := Lib.hid (List.take_of_length_le (by have := Hl.out; omega))
       rw [He.out] at HO
       have hal := HO.out.alms
       rw [← HC.out] at HO hal
       have gg := g4 wr A2 c2 hal.1 hal.2
       have Hz2 : Hid (w.heap.size ≤ po + 1) := Lib.hid (by rw [Hpo.out]; have := HS.out.below.size; omega)
       have Hp2o : Hid (p2 < po + 1) := Lib.hid (by rw [Hpo.out]; have := HS.out.lt 0 rfl; omega)
       clear hk hlt He hal g4
       go_wp2_with (refine wpList_load_st rfl 24 _ rfl HSb.out 0 _ _ rfl rfl _ Try.underlying24 rfl (by rfl) ?_)
       refine gg.out.mono ?_
       rintro e w7 ⟨rfl, hB⟩
       have HS7 := Lib.hid (HSo.out.on hB)
       have HSb7 := Lib.hid (HSb.out.on hB)
       have HO7 := Lib.hid (HO.out.below hB)
       clear hB gg s2
       go_wp2_with (refine wpList_setres8 rfl 24 _ _ rfl HS7.out 0 p2 _ #[.int .i64 0, .int .i64 0, .slice none 0 0] rfl Hp2.out w7.heap.size _ [] (OwnA.nil w7 w7.heap.size) (HS7.out.lt 0 rfl) rfl rfl (by rfl) rfl (bd_one 0 0 none 0 0) ?_; intro w9 hS9 hO9; have HS9 := Lib.hid hS9; clear hS9 hO9)
       (try simp only [Exit.inBlock, Exit.then]); refine bodyPost_ret (ret_board rfl rfl HS9.out 0 rfl rfl) rfl ?_
       exact ⟨none, 0, rfl, OwnA.nil _ _, HS9.out.below⟩
  · rw [hr] at hE
    replace hE : Bd.passE m n ls t = 0 := hE
    have e2 : Bd.pass m n ls t = ⟨m, t, C⟩ := by unfold Bd.pass; rw [hE, hC]; rfl
    rw [e2] at hq ⊢
    rw [hE]
    simp only [hr] at g4
    rw [show q = l from hq.trans hCl.symm]
    clear e2 hb h h1 h2 ht hE hC hr hp hCl hCf hq
    go_enter Try.func15, Try.ntmps15
    go_wp2_with (refine wpList_load_st rfl 24 _ rfl HS.out 1 _ _ rfl rfl _ Try.underlying24 rfl (by rfl) ?_)
    refine (g1 _ (HS.out.fact 0 rfl)).out.mono ?_
    rintro e w2 ⟨rfl, hB⟩
    replace HS := Lib.hid (HS.out.on hB)
    clear hB g1
    have s0 := HS.out.cell 1 rfl 0 rfl
    have s1 := HS.out.cell 1 rfl 1 rfl
    go_wp2_with fail
    obtain ⟨p2, hp2⟩ : ∃ p, p = w.heap.size + 1 := ⟨_, rfl⟩
    obtain ⟨p1, hp1⟩ : ∃ p, p = w.heap.size := ⟨_, rfl⟩
    have Hp2 : Hid (w.heap.size ≤ p2) := Lib.hid (by omega)
    rw [← hp2] at HS ⊢
    rw [← hp1] at HS ⊢
    clear hp1 hp2 s0 s1
    obtain ⟨po, hpo⟩ : ∃ p, p = w2.heap.size := ⟨_, rfl⟩
    have Hpo := Lib.hid hpo
    have HR0 : Hid (PsRel w2 po m t l ls (.int .i64 0) (w2.alloc (.cells #[.int .i64 m, .int .i64 t, .slice none 0 0] 24))) := Lib.hid ⟨0, none, 0, Nat.zero_le _, rfl, Lib.hid (below_new w2 _), Lib.hid ⟨_, by rw [hpo]; exact heap_alloc_new _ _⟩, Lib.hid (OwnA.nil _ _)⟩
    rw [← hpo]
    clear hpo
    go_loopw [7] (fun i wr => PsRel w2 po m t l ls i wr) (fun i _ => l - (intOf i).toNat)
    case atStart => exact HR0.out
    case round =>
     clear HR0
     obtain ⟨k, A2, c2, hk, rfl, HB, Hb, HO⟩ := hrel
     have HSo := Lib.hid (HS.out.on HB.out)
     have s2 := HSo.out.cell 1 rfl 2 rfl
     have HSb : Hid (St w wr [(po, #[.int .i64 m, .int .i64 t, .slice A2 k c2])] []) := Lib.hid (St.one8 Hb.out HSo.out.below)
     by_cases hlt : k < l
     · have kl : k < ls.length := by rw [← Hl.out]; exact hlt
       have HA : Hid (AlmsAt wr wr.heap.size A ls) := Lib.hid (HSo.out.fact 0 rfl)
       obtain ⟨b0, o0, rfl, hb0, h6⟩ := HA.out k kl
       have Hof := Lib.hid (Bd.pass_take8 (t := t) kl)
       have Hle : Hid ((Bd.passL t (ls.take k)).length = k) := Lib.hid (by rw [Bd.pass_len, List.length_take]; omega)
       obtain ⟨x, hx⟩ : ∃ x, x = ls[k]'kl := ⟨_, rfl⟩
       rw [← hx] at h6 Hof
       clear hx
       obtain ⟨x0, x1, x2, x3, x4, x5⟩ := x
       have d0 := h6.c0
       have d1 := h6.c1
       have d2 := h6.c2
       have d3 := h6.c3
       have d4 := h6.c4
       have d5 := h6.c5
       simp only at d0 d1 d2 d3 d4 d5
       have i1 : (k : Int) < (l : Int) := by omega
       have i3 : (0 : Int) ≤ (k : Int) := by omega
       have Ik : Hid (wrap64 ((k : Int) + 1) = (k : Int) + 1) := Lib.hid (by have := Hf.out; unfold wrap64; omega)
       have Hk := Lib.hid hlt
       have g := fun W => RPass_any x0 x1 x2 x3 x4 x5 t W
       obtain ⟨y, hy⟩ : ∃ y, y = Am.pass ⟨x0, x1, x2, x3, x4, x5⟩ t := ⟨_, rfl⟩
       simp only [← hy] at g
       rw [← hy] at Hof
       obtain ⟨y0, y1, y2, y3, y4, y5⟩ := y
       simp only [sixV] at g
       have Hle6 : Hid ((Bd.passL t (ls.take (k + 1))).length = k + 1) := Lib.hid (by rw [Bd.pass_len, List.length_take]; omega)
       have Hwp : Hid (w.heap.size ≤ po) := Lib.hid (by rw [Hpo.out]; exact HS.out.below.size)
       clear h6 kl hk hlt hb0 hy
       go_wp2_with fail
       refine (g _).mono ?_
       rintro e w3 ⟨rfl, hB⟩
       have HB3 := Lib.hid (below2 HB.out hB)
       have HS3 := Lib.hid ((HSb.out.on hB).on (below_new w3 (.cells #[.int .i64 y0, .int .i64 y1, .int .i64 y2, .int .i64 y3, .int .i64 y4, .int .i64 y5] 28)))
       have HN2 := Lib.hid (below_new2 w3 (.cells #[.int .i64 y0, .int .i64 y1, .int .i64 y2, .int .i64 y3, .int .i64 y4, .int .i64 y5] 28) (.cells #[.int .i64 y0, .int .i64 y1, .int .i64 y2, .int .i64 y3, .int .i64 y4, .int .i64 y5] 28))
       have HS4 := Lib.hid ((HSb.out.on hB).on HN2.out)
       have O4 := Lib.hid ((HO.out.below hB).below HN2.out)
       have HB4 := Lib.hid (below2 HB3.out HN2.out)
       have ON := Lib.hid (AlmsAt.one10 w3 (.cells #[.int .i64 y0, .int .i64 y1, .int .i64 y2, .int .i64 y3, .int .i64 y4, .int .i64 y5] 28) y0 y1 y2 y3 y4 y5 28)
       have Hpw : Hid (po + 1 ≤ ((w3.alloc (.cells #[.int .i64 y0, .int .i64 y1, .int .i64 y2, .int .i64 y3, .int .i64 y4, .int .i64 y5] 28)).alloc (.cells #[.int .i64 y0, .int .i64 y1, .int .i64 y2, .int .i64 y3, .int .i64 y4, .int .i64 y5] 28)).heap.size) := Lib.hid (HS4.out.lt 0 rfl)
       clear hB g d0 d1 d2 d3 d4 d5 s2
       go_wp2_with (first
         | (refine wpList_loadc8 rfl 22 _ rfl HS3.out 0 _ _ rfl 2 _ rfl rfl Try.isAgg22 ?_)
         | (at_builtin; refine wpList_append_alms rfl _ _ rfl (po + 1) (.slice A2 k c2) (Bd.passL t (ls.take k)) [(⟨y0, y1, y2, y3, y4, y5⟩ : Alm)] rfl O4.out (some ⟨w3.heap.size + 1, 0, none⟩) 1 _ rfl rfl ON.out (fun e => nomatch e) Hpw.out (by have := Hle.out; have := Hf.out; have := Hk.out; simp only [List.length_cons, List.length_nil]; omega) ?_; intro v5 w5 hown5 hgrow5; rw [← Hof.out] at hown5; have hS5 : St w w5 [(po, #[.int .i64 m, .int .i64 t, .slice A2 k c2])] [] := HS4.out.kept8 hgrow5 O4.out Hwp.out; have hB5 : Below w2.heap.size w2 w5 := HB4.out.grown hgrow5 HB4.out.size (fun j hj => Nat.le_trans (by rw [Hpo.out]; exact Nat.le_succ _) (O4.out.ge9 j hj)); obtain ⟨A6, c6, hv6, _, _, _⟩ := hown5.slice; rw [Hle6.out] at hv6; subst hv6; have HS5 := Lib.hid hS5; have HB5 := Lib.hid hB5; have O5 := Lib.hid hown5; clear hown5 hgrow5 hS5 hB5)
         | (refine wpList_setcell8 rfl 22 _ _ rfl HS5.out Hwp.out 2 (.slice A6 (k + 1) c6) _ (po + 1) _ (Bd.passL t (ls.take (k + 1))) O5.out (Nat.lt_succ_self _) rfl rfl rfl (by rfl) rfl ?_; intro w6 hw6 hS6 hO6; have HB6 : Hid (Below w2.heap.size w2 w6) := Lib.hid (by rw [hw6]; exact below_setCell HB5.out (by rw [Hpo.out]; exact Nat.le_refl _) 2 _); have HS6 := Lib.hid hS6; have O6 := Lib.hid hO6; clear hw6 hS6 hO6))
       go_roundw
       case rel => exact ⟨k + 1, A6, c6, Hk.out, by first | rfl | (rw [Ik.out]; rfl), HB6, Lib.hid (HS6.out.live (po, #[.int .i64 m, .int .i64 t, .slice A6 (k + 1) c6]) (List.mem_singleton.2 rfl)), O6⟩
       case measure => have := Hk.out; (try rw [Ik.out]); simp [intOf]; omega
     · obtain rfl : k = l := by omega
       have ik : ((k : Int) < (k : Int)) = False := eq_false (by omega)
       have He : Hid (ls.take k = ls) := Lib.hid (List.take_of_length_le (by have := Hl.out; omega))
       rw [He.out] at HO
       have hal := HO.out.alms
       rw [← HC.out] at HO hal
       have gg := g4 wr A2 c2 hal.1 hal.2
       have Hz2 : Hid (w.heap.size ≤ po + 1) := Lib.hid (by rw [Hpo.out]; have := HS.out.below.size; omega)
       have Hp2o : Hid (p2 < po + 1) := Lib.hid (by rw [Hpo.out]; have := HS.out.lt 0 rfl; omega)
       clear hk hlt He hal g4
       go_wp2_with (refine wpList_load_st rfl 24 _ rfl HSb.out 0 _ _ rfl rfl _ Try.underlying24 rfl (by rfl) ?_)
       refine gg.out.mono ?_
       rintro e w7 ⟨rfl, hB⟩
       have HS7 := Lib.hid (HSo.out.on hB)
       have HSb7 := Lib.hid (HSb.out.on hB)
       have HO7 := Lib.hid (HO.out.below hB)
       clear hB gg s2
       go_wp2_with (first
         | (refine wpList_load_st rfl 24 _ rfl HSb7.out 0 _ _ rfl rfl _ Try.underlying24 rfl (by rfl) ?_)
         | (refine wpList_setres8 rfl 24 _ _ rfl HS7.out 0 p2 _ #[.int .i64 m, .int .i64 t, .slice A2 k c2] rfl Hp2.out (po + 1) _ C HO7.out Hp2o.out rfl rfl (by rfl) rfl (bd_one m t A2 k c2) ?_; intro w9 hS9 hO9; have HS9 := Lib.hid hS9; have HO9 := Lib.hid (hO9.lower Hz2.out); clear hS9 hO9))
       (try simp only [Exit.inBlock, Exit.then]); refine bodyPost_ret (ret_board rfl rfl HS9.out 0 rfl rfl) rfl ?_
       exact ⟨A2, c2, rfl, HO9.out, HS9.out.below⟩
end Go.Proofs.Ythlojadkgpmnmaa
