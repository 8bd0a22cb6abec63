/-
  Layer 10 (mute): Total, Add, Cut: what the laws ask of mute, over the landed code.
-/
import Derived.Test.YthbkfjnpdcfepaaMuteH
namespace Go.Proofs.Ythbkfjnpdcfepaa
set_option maxRecDepth 10000
open Go.RowKit

/-- What is in all so far. -/
structure TotS (b n t : Int) (rest : List Win) : Prop where
  sum : n + Mu.tot b rest = t
  pos : 0 ≤ n
  top : n + (rest.length : Int) * 1000000000 ≤ 100000000000
  mays : ∀ w ∈ rest, Mu.may w = true
theorem TotS.add {b n t : Int} {y0 y1 y2 : Int} {rest : List Win} (h : TotS b n t (⟨y0, y1, y2⟩ :: rest)) (hb : y0 = b) : TotS b (n + (y2 - y1)) t rest ∧ wrap64 (n + (y2 - y1)) = n + (y2 - y1) ∧ wrap64 (y2 - y1) = y2 - y1 ∧ wrap64 (n + y2 - y1) = n + (y2 - y1) := by
  have hm := Mu.may_iff.1 (h.mays ⟨y0, y1, y2⟩ (by simp))
  simp only at hm
  have hs := h.sum
  have ht := h.top
  have hp := h.pos
  simp only [Mu.tot, if_pos hb] at hs
  rw [List.length_cons] at ht
  push_cast at ht
  have hn : (0 : Int) ≤ (rest.length : Int) := Int.natCast_nonneg _
  refine ⟨⟨by omega, by omega, by omega, fun w hw => h.mays w (List.mem_cons_of_mem _ hw)⟩, ?_, ?_, ?_⟩
  · unfold wrap64; omega
  · unfold wrap64; omega
  · unfold wrap64; omega
theorem TotS.skip {b n t : Int} {y0 y1 y2 : Int} {rest : List Win} (h : TotS b n t (⟨y0, y1, y2⟩ :: rest)) (hb : ¬ y0 = b) : TotS b n t rest := by
  have hs := h.sum
  have ht := h.top
  simp only [Mu.tot, if_neg hb] at hs
  rw [List.length_cons] at ht
  push_cast at ht
  exact ⟨by omega, h.pos, by omega, fun w hw => h.mays w (List.mem_cons_of_mem _ hw)⟩

set_option maxHeartbeats 2000000 in
theorem mTotal_any (A : Option Addr) (l c : Nat) (ls : List Win) (b : Int) (w : World) (h : ToldW w A l c ls) : Calls Try.prog 20 #[.slice A l c, .int .i64 b] w fun e w' => e = .returned (.int .i64 (Mu.total ls b)) ∧ Below w.heap.size w w' := by
  obtain ⟨r, hr⟩ : ∃ r, r = Mu.total ls b := ⟨_, rfl⟩
  rw [← hr]
  have k := mIs_any A l c ls w h
  cases hi : Mu.isL ls with
  | false =>
    rw [hi] at k
    have Hr : Hid (r = 0) := Lib.hid (by rw [hr]; unfold Mu.total; rw [hi]; rfl)
    clear hr hi h
    go_enter Try.func20, Try.ntmps20
    go_wp2_with fail
    refine k.mono ?_
    rintro e w1 ⟨rfl, hB⟩
    have HB := Lib.hid hB
    clear hB
    go_wp2
    go_ret
    exact ⟨by rw [Hr.out]; rfl, HB.out⟩
  | true =>
    rw [hi] at k
    have hL := Mu.isL_iff.1 hi
    have HT : Hid (TotS b 0 r ls) := Lib.hid ⟨by rw [hr]; unfold Mu.total; rw [hi]; simp, Int.le_refl _, by have := hL.2.2; omega, hL.1⟩
    have H := Lib.hid h
    clear hr hi hL h
    go_enter Try.func20, Try.ntmps20
    go_wp2_with fail
    refine k.mono ?_
    rintro e w1 ⟨rfl, hB⟩
    have HB := Lib.hid hB
    have H1 := H.out.on hB
    have H0 := Lib.hid (Going.begin hB H1.2.1 H1.2.2.1)
    rw [← H1.1] at H0
    have T := through_any A l c w1
    obtain ⟨g, hg⟩ : ∃ g, g = w1.heap.size := ⟨_, rfl⟩
    have Hg : Hid (w.heap.size ≤ g) := Lib.hid (by rw [hg]; exact hB.size)
    rw [← hg] at H0 T
    clear hg hB H1 k
    go_wp2_with fail
    refine T.mono ?_
    rintro e w2 ⟨rfl, hw2⟩
    rw [← hw2] at H0
    clear hw2 T
    go_wp2_with fail
    go_loopw [5] (fun z wr => ∃ rest x n, z = .int .i64 n ∧ Hid (Going w g rest x wr) ∧ Hid (TotS b n r rest)) (fun _ wr => behindN wr g)
    case atStart => exact ⟨ls, _, 0, rfl, H0, HT⟩
    case round =>
      clear H0 HT
      obtain ⟨rest, x, n, rfl, HW, Ha⟩ := hrel
      cases rest with
      | nil =>
        have He : Hid (r = n) := Lib.hid (by have := Ha.out.sum; simp only [Mu.tot] at this; omega)
        go_wp2_with fail
        refine (next_end g x wr HW.out.walk).mono ?_
        rintro e w3 ⟨rfl, rfl⟩
        go_wp2
        go_ret
        exact ⟨by rw [He.out]; rfl, HW.out.below⟩
      | cons y rest =>
        go_wp2_with fail
        refine (next_on g x y rest wr HW.out.walk).mono ?_
        rintro e w4 ⟨rfl, hw, hgr⟩
        have HW2 := Lib.hid (HW.out.next Hg.out hw hgr)
        have Hn : Hid (behindN wr g = rest.length + 1) := Lib.hid HW.out.walk.n
        clear hw hgr HW
        obtain ⟨y0, y1, y2⟩ := y
        have c0 := HW2.out.walk.c0
        have c1 := HW2.out.walk.c1
        have c2 := HW2.out.walk.c2
        simp only at c0 c1 c2
        by_cases hb : y0 = b
        · have hbb : (y0 == b) = true := beq_iff_eq.2 hb
          have hbp : (y0 = b) = True := eq_true hb
          obtain ⟨Ha2, e1, e2, e3⟩ := Ha.out.add hb
          have HA2 := Lib.hid Ha2
          obtain ⟨d, hd⟩ : ∃ d, d = y2 - y1 := ⟨_, rfl⟩
          obtain ⟨n2, hn2⟩ : ∃ n2, n2 = n + d := ⟨_, rfl⟩
          rw [← hd, ← hn2] at HA2 e1
          rw [← hd] at e2
          clear Ha2 e3 hb Ha
          go_wp2_with fail
          go_quiet (fail)
          have HW3 : Hid (Going w g rest ⟨y0, y1, y2⟩ (w4.drewN nq)) := Lib.hid (HW2.out.on (below_drew (Below.refl _ _) nq))
          go_wp2
          go_roundw
          case rel => exact ⟨rest, _, n2, by first | rfl | (simp only [e2, e1, ← hd, ← hn2]) | (rw [← hd, e2, ← hn2, e1]), HW3, HA2⟩
          case measure => rw [Hn.out, HW3.out.walk.n]; omega
        · have hbb : (y0 == b) = false := by rw [beq_eq_false_iff_ne]; exact hb
          have hbp : (y0 = b) = False := eq_false hb
          have HA2 := Lib.hid (Ha.out.skip hb)
          clear hb Ha
          go_wp2
          go_roundw
          case rel => exact ⟨rest, _, n, rfl, HW2, HA2⟩
          case measure => rw [Hn.out, HW2.out.walk.n]; omega

/-! ### Add and Cut -/
theorem RowsW.two (w : World) (A : Option Addr) (l c : Nat) (ls : List Win) (B : Option Addr) (k d : Nat) (ms : List Win) (t : TypeId) (h : ToldW w A l c ls) (h2 : ToldW w B k d ms) :
    RowsW (w.alloc (.cells #[.slice A l c, .slice B k d] t)) w.heap.size 0 [ls, ms] := fun i hi => by
  have hb := World.alloc_heap_new w (.cells #[.slice A l c, .slice B k d] t)
  have hB := below_new w (.cells #[.slice A l c, .slice B k d] t)
  have hi' : i = 0 ∨ i = 1 := by simp at hi; omega
  rcases hi' with rfl | rfl
  · refine ⟨A, c, ?_, (h.on hB).2.1, h.2.2.1⟩
    simp only [World.cell?, hb]
    rw [h.1]; rfl
  · refine ⟨B, d, ?_, (h2.on hB).2.1, h2.2.2.1⟩
    simp only [World.cell?, hb]
    rw [h2.1]; rfl
theorem RowsW.one (w : World) (B : Option Addr) (k d : Nat) (ms : List Win) (t : TypeId) (h2 : ToldW w B k d ms) :
    RowsW (w.alloc (.cells #[.slice B k d] t)) w.heap.size 0 [ms] := fun i hi => by
  have hb := World.alloc_heap_new w (.cells #[.slice B k d] t)
  have hB := below_new w (.cells #[.slice B k d] t)
  obtain rfl : i = 0 := by simpa using hi
  refine ⟨B, d, ?_, (h2.on hB).2.1, h2.2.2.1⟩
  simp only [World.cell?, hb]
  rw [h2.1]; rfl
theorem mays_all {l : List Win} (h : l.all Mu.may = true) : ∀ w ∈ l, Mu.may w = true := List.all_eq_true.1 h
/-- What is joined of both is what Add makes. -/
theorem add_of {ls ms s : List Win} (h1 : Mu.isL ls = true) (h2 : ms.all Mu.may = true) (hs : Mu.Sorted [ls, ms].flatten s) :
    Mu.turnE ls ms true = (if 100 < (Mu.joinL s).length then 81 else 0) ∧ Mu.turn ls ms true = (if 100 < (Mu.joinL s).length then [] else Mu.joinL s) := by
  have e : [ls, ms].flatten = ls ++ ms := by simp
  rw [e] at hs
  have hm : ∀ w ∈ s, Mu.may w = true := fun w hw => by
    rcases List.mem_append.1 (hs.1.mem_iff.1 hw) with h | h
    · exact (Mu.isL_iff.1 h1).1 w h
    · exact mays_all h2 w h
  have k := Mu.joinL_spec hm hs.2
  exact Mu.turn_fit h1 h2 k.1 (fun b t => by rw [k.2.1, Mu.has_perm hs.1, Mu.has_app]; rfl)
/-- What the joined cuts leave is what Cut makes. -/
theorem cut_of {ls ms s : List Win} (h1 : Mu.isL ls = true) (h2 : ms.all Mu.may = true) (hs : Mu.Sorted [ms].flatten s) :
    Mu.turnE ls ms false = (if 100 < (Mu.leftL ls (Mu.joinL s)).length then 81 else 0) ∧ Mu.turn ls ms false = (if 100 < (Mu.leftL ls (Mu.joinL s)).length then [] else Mu.leftL ls (Mu.joinL s)) := by
  have e : [ms].flatten = ms := by simp
  rw [e] at hs
  have k := Mu.joinL_spec (fun w hw => mays_all h2 w (hs.1.mem_iff.1 hw)) hs.2
  have k2 := Mu.left_spec ls (Mu.joinL s) (Mu.isL_iff.1 h1).2.1 k.1
  exact Mu.turn_fit h1 h2 k2.1 (fun b t => by rw [k2.2.2, k.2.1, Mu.has_perm hs.1]; rfl)
/-- What fit tells of windows of one's own. -/
theorem fit_gives {w w' : World} {A : Option Addr} {m c q : Nat} {js ts : List Win} {er : Int} (hm : m = js.length) (hO : OwnW w' w.heap.size (.slice A m c) js) (hB : Below w.heap.size w w')
    (he : er = (if 100 < js.length then 81 else 0)) (ht : ts = (if 100 < js.length then [] else js)) (hq : q = ts.length)
    {V : Value} {E : Int} (hV : V = if 100 < m then .slice none 0 0 else .slice A m c) (hE : E = if 100 < m then 81 else 0) :
    GivesW w q ts er (.returned (.tuple #[V, .int .i64 E])) w' := by
  subst hm hV hE
  by_cases h : 100 < js.length
  · rw [if_pos h] at he ht ⊢
    rw [if_pos h]
    subst he ht hq
    exact ⟨none, 0, rfl, OwnW.nil _ _, hB⟩
  · rw [if_neg h] at he ht ⊢
    rw [if_neg h]
    subst he ht hq
    exact ⟨A, c, rfl, hO, hB⟩

/-- An argument that is none. -/
theorem bad_gives {w w' : World} {ls ms : List Win} {both : Bool} {q : Nat} (h : Mu.isL ls = false ∨ ms.all Mu.may = false) (hq : q = (Mu.turn ls ms both).length) (hB : Below w.heap.size w w') :
    GivesW w q (Mu.turn ls ms both) (Mu.turnE ls ms both) (.returned (.tuple #[.slice none 0 0, .int .i64 1])) w' := by
  obtain ⟨e1, e2⟩ := Mu.turn_bad (both := both) h
  rw [e2] at hq ⊢
  rw [e1]
  subst hq
  exact ⟨none, 0, rfl, OwnW.nil _ _, hB⟩

set_option maxHeartbeats 2000000 in
theorem mAdd_any (HK : Hid MSortK) (A : Option Addr) (l c : Nat) (ls : List Win) (B : Option Addr) (k d : Nat) (ms : List Win) (q : Nat) (w : World) (h : ToldW w A l c ls) (h2 : ToldW w B k d ms) (hq : q = (Mu.turn ls ms true).length) :
    Calls Try.prog 8 #[.slice A l c, .slice B k d] w (GivesW w q (Mu.turn ls ms true) (Mu.turnE ls ms true)) := by
  have k1 := mIs_any A l c ls w h
  cases h3 : Mu.isL ls with
  | false =>
    rw [h3] at k1
    have HR := Lib.hid (fun (w' : World) (hB : Below w.heap.size w w') => bad_gives (Or.inl h3) hq hB)
    clear h3 hq h h2
    go_enter Try.func8, Try.ntmps8
    go_wp2_with fail
    refine k1.mono ?_
    rintro e w1 ⟨rfl, hB⟩
    have HB := Lib.hid hB
    clear hB
    go_wp2
    go_ret2
    exact HR.out _ HB.out
  | true =>
    rw [h3] at k1
    have k2 := fun W (hB : Below w.heap.size w W) => mayAllBe_any B k d ms W (h2.on hB)
    cases h4 : ms.all Mu.may with
    | false =>
      rw [h4] at k2
      have HR := Lib.hid (fun (w' : World) (hB : Below w.heap.size w w') => bad_gives (ls := ls) (Or.inr h4) hq hB)
      have K2 := Lib.hid k2
      clear h3 h4 hq h h2 k2
      go_enter Try.func8, Try.ntmps8
      go_wp2_with fail
      refine k1.mono ?_
      rintro e w1 ⟨rfl, hB⟩
      have HB := Lib.hid hB
      clear hB
      go_wp2_with fail
      refine (K2.out w1 HB.out).mono ?_
      rintro e w2 ⟨rfl, hB⟩
      have HB2 := Lib.hid (below2 HB.out hB)
      clear hB
      go_wp2
      go_ret2
      exact HR.out _ HB2.out
    | true =>
      rw [h4] at k2
      have hl1 := h.2.2.2
      have hl2 := h2.2.2.2
      have HL := Lib.hid (show Mu.isL ls = true ∧ ms.all Mu.may = true from ⟨h3, h4⟩)
      have Hq := Lib.hid hq
      have H1 := Lib.hid h
      have H2 := Lib.hid h2
      have K2 := Lib.hid k2
      have HJ : Hid (∀ W, Below w.heap.size w W → Calls Try.prog 24 #[.slice (some ⟨W.heap.size, 0, none⟩) 2 2] (W.alloc (.cells #[.slice A l c, .slice B k d] 22)) fun e w' => ∃ s A c' m, Mu.Sorted [ls, ms].flatten s ∧ m = (Mu.joinL s).length ∧ e = .returned (.slice A m c') ∧ OwnW w' w.heap.size (.slice A m c') (Mu.joinL s) ∧ Below w.heap.size w w') := Lib.hid (fun W hB => by
        have hB' := below2 hB (below_new W (.cells #[.slice A l c, .slice B k d] 22))
        have j := mjoined_any HK W.heap.size 0 2 2 (ls.length + ms.length) [ls, ms] (W.alloc (.cells #[.slice A l c, .slice B k d] 22)) rfl (by rw [World.size_alloc]; exact Nat.lt_succ_self _) (RowsW.two W A l c ls B k d ms _ (h.on hB) (h2.on hB)) (by simp) (by have := h.1; have := h2.1; omega) (by omega)
        refine j.mono ?_
        rintro e w' ⟨s, A', c', m, hs, hm, he, hO, hb⟩
        exact ⟨s, A', c', m, hs, hm, he, hO.lower hB'.size, below2 hB' hb⟩)
      clear h3 h4 hq h h2 k2 hl1 hl2
      go_enter Try.func8, Try.ntmps8
      go_wp2_with fail
      refine k1.mono ?_
      rintro e w1 ⟨rfl, hB⟩
      have HB := Lib.hid hB
      clear hB
      go_wp2_with fail
      refine (K2.out w1 HB.out).mono ?_
      rintro e w2 ⟨rfl, hB⟩
      have HB2 := Lib.hid (below2 HB.out hB)
      clear hB k1
      go_wp2_with fail
      refine (HJ.out w2 HB2.out).mono ?_
      rintro e w3 ⟨s, A3, c3, m3, hs, hm, rfl, hO, hB3⟩
      obtain ⟨V, hV⟩ : ∃ V : Value, V = if 100 < m3 then .slice none 0 0 else .slice A3 m3 c3 := ⟨_, rfl⟩
      obtain ⟨E, hE⟩ : ∃ E : Int, E = if 100 < m3 then 81 else 0 := ⟨_, rfl⟩
      have kf := mfit_any A3 m3 c3 w3
      rw [← hV, ← hE] at kf
      have HG := Lib.hid (fit_gives (er := Mu.turnE ls ms true) (ts := Mu.turn ls ms true) (q := q) hm hO hB3 (add_of HL.out.1 HL.out.2 hs).1 (add_of HL.out.1 HL.out.2 hs).2 Hq.out hV hE)
      clear hV hE
      clear hs hm hO hB3
      go_wp2_with fail
      refine kf.mono ?_
      rintro e w4 ⟨rfl, rfl⟩
      go_wp2
      go_ret2
      exact HG.out

set_option maxHeartbeats 2000000 in
theorem mCut_any (HK : Hid MSortK) (A : Option Addr) (l c : Nat) (ls : List Win) (B : Option Addr) (k d : Nat) (ms : List Win) (q : Nat) (w : World) (h : ToldW w A l c ls) (h2 : ToldW w B k d ms) (hq : q = (Mu.turn ls ms false).length) :
    Calls Try.prog 10 #[.slice A l c, .slice B k d] w (GivesW w q (Mu.turn ls ms false) (Mu.turnE ls ms false)) := by
  have k1 := mIs_any A l c ls w h
  cases h3 : Mu.isL ls with
  | false =>
    rw [h3] at k1
    have HR := Lib.hid (fun (w' : World) (hB : Below w.heap.size w w') => bad_gives (Or.inl h3) hq hB)
    clear h3 hq h h2
    go_enter Try.func10, Try.ntmps10
    go_wp2_with fail
    refine k1.mono ?_
    rintro e w1 ⟨rfl, hB⟩
    have HB := Lib.hid hB
    clear hB
    go_wp2
    go_ret2
    exact HR.out _ HB.out
  | true =>
    rw [h3] at k1
    have k2 := fun W (hB : Below w.heap.size w W) => mayAllBe_any B k d ms W (h2.on hB)
    cases h4 : ms.all Mu.may with
    | false =>
      rw [h4] at k2
      have HR := Lib.hid (fun (w' : World) (hB : Below w.heap.size w w') => bad_gives (ls := ls) (Or.inr h4) hq hB)
      have K2 := Lib.hid k2
      clear h3 h4 hq h h2 k2
      go_enter Try.func10, Try.ntmps10
      go_wp2_with fail
      refine k1.mono ?_
      rintro e w1 ⟨rfl, hB⟩
      have HB := Lib.hid hB
      clear hB
      go_wp2_with fail
      refine (K2.out w1 HB.out).mono ?_
      rintro e w2 ⟨rfl, hB⟩
      have HB2 := Lib.hid (below2 HB.out hB)
      clear hB
      go_wp2
      go_ret2
      exact HR.out _ HB2.out
    | true =>
      rw [h4] at k2
      have hl1 := h.2.2.2
      have hl2 := h2.2.2.2
      have HL := Lib.hid (show Mu.isL ls = true ∧ ms.all Mu.may = true from ⟨h3, h4⟩)
      have Hq := Lib.hid hq
      have H1 := Lib.hid h
      have H2 := Lib.hid h2
      have K2 := Lib.hid k2
      have HJ : Hid (∀ W, Below w.heap.size w W → Calls Try.prog 24 #[.slice (some ⟨W.heap.size, 0, none⟩) 1 1] (W.alloc (.cells #[.slice B k d] 22)) fun e w' => ∃ s A c' m, Mu.Sorted [ms].flatten s ∧ m = (Mu.joinL s).length ∧ e = .returned (.slice A m c') ∧ OwnW w' w.heap.size (.slice A m c') (Mu.joinL s) ∧ Below w.heap.size w w') := Lib.hid (fun W hB => by
        have hB' := below2 hB (below_new W (.cells #[.slice B k d] 22))
        have j := mjoined_any HK W.heap.size 0 1 1 ms.length [ms] (W.alloc (.cells #[.slice B k d] 22)) rfl (by rw [World.size_alloc]; exact Nat.lt_succ_self _) (RowsW.one W B k d ms _ (h2.on hB)) (by simp) (by have := h2.1; omega) (by omega)
        refine j.mono ?_
        rintro e w' ⟨s, A', c', m, hs, hm, he, hO, hb⟩
        exact ⟨s, A', c', m, hs, hm, he, hO.lower hB'.size, below2 hB' hb⟩)
      have Hl100 : Hid (l ≤ 100) := Lib.hid (by rw [h.1]; exact (Mu.isL_iff.1 h3).2.2)
      have Hl1000 : Hid (ms.length ≤ 1000) := Lib.hid (by rw [← h2.1]; exact hl2)
      clear h3 h4 hq h h2 k2 hl1 hl2
      go_enter Try.func10, Try.ntmps10
      go_wp2_with fail
      refine k1.mono ?_
      rintro e w1 ⟨rfl, hB⟩
      have HB := Lib.hid hB
      clear hB
      go_wp2_with fail
      refine (K2.out w1 HB.out).mono ?_
      rintro e w2 ⟨rfl, hB⟩
      have HB2 := Lib.hid (below2 HB.out hB)
      clear hB k1
      go_wp2_with fail
      refine (HJ.out w2 HB2.out).mono ?_
      rintro e w3 ⟨s, A3, c3, m3, hs, hm, rfl, hO, hB3⟩
      have hA3 := hO.rows
      have h13 := H1.out.on hB3
      have kl := mleft_any A A3 l c m3 c3 ls (Mu.joinL s) w3 h13.1 h13.2.1 h13.2.2.1 hm hA3.1 hA3.2 Hl100.out (by
        have e : [ms].flatten = ms := by simp
        have h5 := Mu.fold_len s []
        have h6 := hs.1.length_eq
        rw [e] at h6
        have := Hl1000.out
        have h7 : (Mu.joinL s).length ≤ [].length + s.length := h5
        simp only [List.length_nil] at h7
        omega)
      have HS := Lib.hid hs
      have HB3 := Lib.hid hB3
      clear hs hm hO hB3 hA3 h13
      go_wp2_with fail
      refine kl.mono ?_
      rintro e w4 ⟨A4, c4, m4, hm, rfl, hO, hB4⟩
      obtain ⟨V, hV⟩ : ∃ V : Value, V = if 100 < m4 then .slice none 0 0 else .slice A4 m4 c4 := ⟨_, rfl⟩
      obtain ⟨E, hE⟩ : ∃ E : Int, E = if 100 < m4 then 81 else 0 := ⟨_, rfl⟩
      have kf := mfit_any A4 m4 c4 w4
      rw [← hV, ← hE] at kf
      have HG := Lib.hid (fit_gives (er := Mu.turnE ls ms false) (ts := Mu.turn ls ms false) (q := q) hm (hO.lower HB3.out.size) (below2 HB3.out hB4) (cut_of HL.out.1 HL.out.2 HS.out).1 (cut_of HL.out.1 HL.out.2 HS.out).2 Hq.out hV hE)
      clear hV hE
      clear hm hO hB4 kl
      go_wp2_with fail
      refine kf.mono ?_
      rintro e w5 ⟨rfl, rfl⟩
      go_wp2
      go_ret2
      exact HG.out

/-- What the laws ask of mute. -/
theorem muteK (HK : Hid MSortK) : MuteK where
  is := mIs_any
  add := mAdd_any HK
  cut := mCut_any HK
  has := mHas_any
  till := mTill_any
  total := mTotal_any
end Go.Proofs.Ythbkfjnpdcfepaa
