/-
  Layer 10 (mute): Add.
-/
import Derived.Test.YtpgichlaghhdeaaGreatDoorXJd
import Derived.Test.YtpgichlaghhdeaaGreatDoorXJe
namespace Go.Proofs.YtpgichlaghhdeaaGreatDoor
set_option maxRecDepth 10000
open Go.RowKit

/-! ### Add and Cut -/
theorem RowsW.two (w : World) (A : Option Addr) (l c : Nat) (ls : List Win) (B : Option Addr) (k d : Nat) (ms : List Win) (t : TypeId) (h : ToldW w A l c ls) (h2 : ToldW w B k d ms) :
    RowsW (w.alloc (.cells #[.slice A l c, .slice B k d] t)) w.heap.size 0 [ls, ms] := fun i hi => by
  have hb := World.alloc_heap_new w (.cells #[.slice A l c, .slice B k d] t)
  have hB := below_new w (.cells #[.slice A l c, .slice B k d] t)
  have hi' : i = 0 ∨ i = 1 := by simp at hi; omega
  rcases hi' with rfl | rfl
  · refine ⟨A, c, ?_, (h.on hB).2.1, h.2.2.1⟩
    simp only [World.cell?, hb]
    rw [h.1]; rfl
  · refine ⟨B, d, ?_, (h2.on hB).2.1, h2.2.2.1⟩
    simp only [World.cell?, hb]
    rw [h2.1]; rfl
theorem RowsW.one (w : World) (B : Option Addr) (k d : Nat) (ms : List Win) (t : TypeId) (h2 : ToldW w B k d ms) :
    RowsW (w.alloc (.cells #[.slice B k d] t)) w.heap.size 0 [ms] := fun i hi => by
  have hb := World.alloc_heap_new w (.cells #[.slice B k d] t)
  have hB := below_new w (.cells #[.slice B k d] t)
  obtain rfl : i = 0 := by simpa using hi
  refine ⟨B, d, ?_, (h2.on hB).2.1, h2.2.2.1⟩
  simp only [World.cell?, hb]
  rw [h2.1]; rfl
theorem mays_all {l : List Win} (h : l.all Mu.may = true) : ∀ w ∈ l, Mu.may w = true := List.all_eq_true.1 h
/-- What is joined of both is what Add makes. -/
theorem add_of {ls ms s : List Win} (h1 : Mu.isL ls = true) (h2 : ms.all Mu.may = true) (hs : Mu.Sorted [ls, ms].flatten s) :
    Mu.turnE ls ms true = (if 100 < (Mu.joinL s).length then 81 else 0) ∧ Mu.turn ls ms true = (if 100 < (Mu.joinL s).length then [] else Mu.joinL s) := by
  have e : [ls, ms].flatten = ls ++ ms := by simp
  rw [e] at hs
  have hm : ∀ w ∈ s, Mu.may w = true := fun w hw => by
    rcases List.mem_append.1 (hs.1.mem_iff.1 hw) with h | h
    · exact (Mu.isL_iff.1 h1).1 w h
    · exact mays_all h2 w h
  have k := Mu.joinL_spec hm hs.2
  exact Mu.turn_fit h1 h2 k.1 (fun b t => by rw [k.2.1, Mu.has_perm hs.1, Mu.has_app]; rfl)
/-- What fit tells of windows of one's own. -/
theorem fit_gives {w w' : World} {A : Option Addr} {m c q : Nat} {js ts : List Win} {er : Int} (hm : m = js.length) (hO : OwnW w' w.heap.size (.slice A m c) js) (hB : Below w.heap.size w w')
    (he : er = (if 100 < js.length then 81 else 0)) (ht : ts = (if 100 < js.length then [] else js)) (hq : q = ts.length)
    {V : Value} {E : Int} (hV : V = if 100 < m then .slice none 0 0 else .slice A m c) (hE : E = if 100 < m then 81 else 0) :
    GivesW w q ts er (.returned (.tuple #[V, .int .i64 E])) w' := by
  subst hm hV hE
  by_cases h : 100 < js.length
  · rw [if_pos h] at he ht ⊢
    rw [if_pos h]
    subst he ht hq
    exact ⟨none, 0, rfl, OwnW.nil _ _, hB⟩
  · rw [if_neg h] at he ht ⊢
    rw [if_neg h]
    subst he ht hq
    exact ⟨A, c, rfl, hO, hB⟩

/-- An argument that is none. -/
theorem bad_gives {w w' : World} {ls ms : List Win} {both : Bool} {q : Nat} (h : Mu.isL ls = false ∨ ms.all Mu.may = false) (hq : q = (Mu.turn ls ms both).length) (hB : Below w.heap.size w w') :
    GivesW w q (Mu.turn ls ms both) (Mu.turnE ls ms both) (.returned (.tuple #[.slice none 0 0, .int .i64 1])) w' := by
  obtain ⟨e1, e2⟩ := Mu.turn_bad (both := both) h
  rw [e2] at hq ⊢
  rw [e1]
  subst hq
  exact ⟨none, 0, rfl, OwnW.nil _ _, hB⟩

set_option maxHeartbeats 2000000 in
theorem mAdd_any (HK : Hid MSortK) (A : Option Addr) (l c : Nat) (ls : List Win) (B : Option Addr) (k d : Nat) (ms : List Win) (q : Nat) (w : World) (h : ToldW w A l c ls) (h2 : ToldW w B k d ms) (hq : q = (Mu.turn ls ms true).length) :
    Calls Tryz.prog 26 #[.slice A l c, .slice B k d] w (GivesW w q (Mu.turn ls ms true) (Mu.turnE ls ms true)) := by
  have k1 := mIs_any A l c ls w h
  cases h3 : Mu.isL ls with
  | false =>
    rw [h3] at k1
    have HR := Lib.hid (fun (w' : World) (hB : Below w.heap.size w w') => bad_gives (Or.inl h3) hq hB)
    clear h3 hq h h2
    go_enter Tryz.func26, Tryz.ntmps26
    go_wp2_with fail
    refine k1.mono ?_
    rintro e w1 ⟨rfl, hB⟩
    have HB := Lib.hid hB
    clear hB
    go_wp2
    go_ret2
    exact HR.out _ HB.out
  | true =>
    rw [h3] at k1
    have k2 := fun W (hB : Below w.heap.size w W) => mayAllBe_any B k d ms W (h2.on hB)
    cases h4 : ms.all Mu.may with
    | false =>
      rw [h4] at k2
      have HR := Lib.hid (fun (w' : World) (hB : Below w.heap.size w w') => bad_gives (ls := ls) (Or.inr h4) hq hB)
      have K2 := Lib.hid k2
      clear h3 h4 hq h h2 k2
      go_enter Tryz.func26, Tryz.ntmps26
      go_wp2_with fail
      refine k1.mono ?_
      rintro e w1 ⟨rfl, hB⟩
      have HB := Lib.hid hB
      clear hB
      go_wp2_with fail
      refine (K2.out w1 HB.out).mono ?_
      rintro e w2 ⟨rfl, hB⟩
      have HB2 := Lib.hid (below2 HB.out hB)
      clear hB
      go_wp2
      go_ret2
      exact HR.out _ HB2.out
    | true =>
      rw [h4] at k2
      have hl1 := h.2.2.2
      have hl2 := h2.2.2.2
      have HL := Lib.hid (show Mu.isL ls = true ∧ ms.all Mu.may = true from ⟨h3, h4⟩)
      have Hq := Lib.hid hq
      have H1 := Lib.hid h
      have H2 := Lib.hid h2
      have K2 := Lib.hid k2
      have HJ : Hid (∀ W, Below w.heap.size w W → Calls Tryz.prog 54 #[.slice (some ⟨W.heap.size, 0, none⟩) 2 2] (W.alloc (.cells #[.slice A l c, .slice B k d] 29)) fun e w' => ∃ s A c' m, Mu.Sorted [ls, ms].flatten s ∧ m = (Mu.joinL s).length ∧ e = .returned (.slice A m c') ∧ OwnW w' w.heap.size (.slice A m c') (Mu.joinL s) ∧ Below w.heap.size w w') := Lib.hid (fun W hB => by
        have hB' := below2 hB (below_new W (.cells #[.slice A l c, .slice B k d] 29))
        have j := mjoined_any HK W.heap.size 0 2 2 (ls.length + ms.length) [ls, ms] (W.alloc (.cells #[.slice A l c, .slice B k d] 29)) rfl (by rw [World.size_alloc]; exact Nat.lt_succ_self _) (RowsW.two W A l c ls B k d ms _ (h.on hB) (h2.on hB)) (by simp) (by have := h.1; have := h2.1; omega) (by omega)
        refine j.mono ?_
        rintro e w' ⟨s, A', c', m, hs, hm, he, hO, hb⟩
        exact ⟨s, A', c', m, hs, hm, he, hO.lower hB'.size, below2 hB' hb⟩)
      clear h3 h4 hq h h2 k2 hl1 hl2
      go_enter Tryz.func26, Tryz.ntmps26
      go_wp2_with fail
      refine k1.mono ?_
      rintro e w1 ⟨rfl, hB⟩
      have HB := Lib.hid hB
      clear hB
      go_wp2_with fail
      refine (K2.out w1 HB.out).mono ?_
      rintro e w2 ⟨rfl, hB⟩
      have HB2 := Lib.hid (below2 HB.out hB)
      clear hB k1
      go_wp2_with fail
      refine (HJ.out w2 HB2.out).mono ?_
      rintro e w3 ⟨s, A3, c3, m3, hs, hm, rfl, hO, hB3⟩
      obtain ⟨V, hV⟩ : ∃ V : Value, V = if 100 < m3 then .slice none 0 0 else .slice A3 m3 c3 := ⟨_, rfl⟩
      obtain ⟨E, hE⟩ : ∃ E : Int, E = if 100 < m3 then 81 else 0 := ⟨_, rfl⟩
      have kf := mfit_any A3 m3 c3 w3
      rw [← hV, ← hE] at kf
      have HG := Lib.hid (fit_gives (er := Mu.turnE ls ms true) (ts := Mu.turn ls ms true) (q := q) hm hO hB3 (add_of HL.out.1 HL.out.2 hs).1 (add_of HL.out.1 HL.out.2 hs).2 Hq.out hV hE)
      clear hV hE
      clear hs hm hO hB3
      go_wp2_with fail
      refine kf.mono ?_
      rintro e w4 ⟨rfl, rfl⟩
      go_wp2
      go_ret2
      exact HG.out
end Go.Proofs.YtpgichlaghhdeaaGreatDoor
