/-
  Layer 10 (mute): what cuts leave of one window.
-/
import Derived.Test.YthbkfjnpdcfepaaMuteR
import Derived.Deep.RegionHeld3
import Derived.Deep.QuietTactic
import Derived.Great.BuildSlice
import Derived.BigRegion
import Derived.Deep.WholeRow
namespace Go.Proofs.Ythbkfjnpdcfepaa
set_option maxRecDepth 10000
open Go.RowKit

/-- Windows behind windows of one's own, as an operation. -/
theorem wp_append_wins {o : Oper} {a : Act} {w : World} {K : Act → World → Prop} {Q : Exit → Act → World → Prop} (s x : Operand) (t1 : TypeId)
    (ho : o.op = .call { callee := .builtin .append, args := #[s, x], argTypes := #[t1, t1] }) (hu : Try.prog.underlying t1 = some (.slice 32))
    (base : Nat) (v : Value) (zs ms : List Win) (hs : a.eval s = v) (hown : OwnW w base v zs)
    (ad : Addr) (cap : Nat) (hx : a.eval x = .slice (some ad) ms.length cap) (hA : WinsAt w w.heap.size (some ad) ms) (hb : base ≤ w.heap.size) (hl : zs.length + ms.length ≤ 100000)
    (h : ∀ v' w', OwnW w' base v' (zs ++ ms) → w.grownBy w' v.ownBlock → K (a.put o.dst v') w') : o.wp Try.prog a w K Q := by
  obtain ⟨i0, hi, hz0, hz1, hz2⟩ := info_parts Try.infoWi
  refine wp_append_own w s x t1 ho base 32 i0 _ 3 24 hu hi hz0 hz1 hz2 rfl (by decide) v _ _ hs hown ad ms.length cap (flat3 ms) hx (flat3_len ms) hA.flat_cells (flat3_one ms) (by unfold maxLen; omega) (by omega) hb ?_
  intro v' w' ho' hg _
  exact h v' w' (by unfold OwnW; rw [List.length_append, flat3_app]; exact ho') hg

/-- A window in a block of its own. -/
def Box3 (w : World) (p : Nat) (a : Win) : Prop := ∃ t, w.heap[p]? = some (.cells #[.int .i64 a.bed, .int .i64 a.fr, .int .i64 a.to] t (0, 0))
theorem Box3.wi {w : World} {p : Nat} {a : Win} (h : Box3 w p a) : Wi3 w p 0 a := by
  obtain ⟨t, h⟩ := h
  exact ⟨by simp only [World.cell?, h]; rfl, by simp only [World.cell?, h]; rfl, by simp only [World.cell?, h]; rfl⟩
theorem Box3.lt {w : World} {p : Nat} {a : Win} (h : Box3 w p a) : p < w.heap.size := by
  obtain ⟨t, h⟩ := h
  exact (Array.getElem?_eq_some_iff.1 h).1
theorem Box3.frozen {w : World} {p : Nat} {a : Win} (h : Box3 w p a) (j : Nat) : w.frozen? ⟨p, j, none⟩ = false := by
  obtain ⟨t, h⟩ := h
  exact frozen_of_row w p _ _ _ h
theorem Box3.kept {w w' : World} {p B : Nat} {a : Win} (h : Box3 w p a) (hb : Below B w w') (hp : p < B) : Box3 w' p a := by
  obtain ⟨t, h⟩ := h
  exact ⟨t, (hb.block p hp).trans h⟩
/-- What without has: its window's box, and the windows that it made. -/
structure Wo (p g : Nat) (a : Win) (v : Value) (all : List Win) (W : World) : Prop where
  box : Box3 W p a
  own : OwnW W (g + 1) v all
theorem Wo.on {p g : Nat} {a : Win} {v : Value} {all : List Win} {W W' : World} (h : Wo p g a v all W) (hb : Below W.heap.size W W') : Wo p g a v all W' := ⟨h.box.kept hb h.box.lt, h.own.below hb⟩
theorem Wo.next {p g : Nat} {a : Win} {v : Value} {all : List Win} {W W' : World} (h : Wo p g a v all W) (hg : W.grownBy W' (some g)) (hp : p < g) : Wo p g a v all W' := by
  refine ⟨?_, h.own.aside hg (Nat.lt_succ_self g)⟩
  obtain ⟨t, k⟩ := h.box
  exact ⟨t, (hg.block p h.box.lt (fun e => by cases e; omega)).trans k⟩
theorem Wo.set1 {p g : Nat} {a : Win} {v : Value} {all : List Win} {W : World} (h : Wo p g a v all W) (t : Int) (hp : p < g) : Wo p g ⟨a.bed, t, a.to⟩ v all (W.setCell ⟨p, 1, none⟩ (.int .i64 t)) := by
  refine ⟨?_, h.own.aside (grown_setCell (grown_refl W (some p)) 1 (.int .i64 t)) (by omega)⟩
  obtain ⟨ty, k⟩ := h.box
  exact ⟨ty, heap_setCell_same W p 1 _ ty _ k⟩
/-- One that goes through windows that lie in blocks below B. -/
def WalkB (B : Nat) (w : World) (g : Nat) (x : Win) (ls : List Win) : Prop :=
  ∃ A c t, w.heap[g]? = some (.cells #[.int .i64 x.bed, .int .i64 x.fr, .int .i64 x.to, .slice A ls.length c] t (0, 0)) ∧ WinsAt w B A ls ∧ Roomy A ls c
theorem next_onB (B g : Nat) (x y : Win) (ls : List Win) (w : World) (h : WalkB B w g x (y :: ls)) (hBg : B ≤ g) :
    Calls Try.prog 28 #[.pointer (some ⟨g, 0, none⟩)] w fun e w' => e = .returned (.bool true) ∧ WalkB B w' g y ls ∧ w.grownBy w' (some g) := by
  obtain ⟨A, c, t, h1, h2, h3, h4⟩ := h
  have hlt : g < w.heap.size := (Array.getElem?_eq_some_iff.1 h1).1
  obtain ⟨b, off, rfl, hb, hy⟩ := h2 0 (by simp)
  have e0 : off + 0 * 3 = off := by omega
  rw [e0] at hy
  simp only [List.getElem_cons_zero] at hy
  rw [List.length_cons] at h1 h4
  refine (next_cells g b off ls.length c t x.bed x.fr x.to y.bed y.fr y.to w h1 hy.c0 hy.c1 hy.c2).mono ?_
  rintro e w' ⟨rfl, rfl⟩
  have gr : w.grownBy ((((w.setCell ⟨g, 0, none⟩ (.int .i64 y.bed)).setCell ⟨g, 1, none⟩ (.int .i64 y.fr)).setCell ⟨g, 2, none⟩ (.int .i64 y.to)).setCell ⟨g, 3, none⟩ (.slice (if c = 1 then some ⟨b, off, none⟩ else some ⟨b, off + 3, none⟩) ls.length (c - 1))).drew (some g) := by
    have k := grown_setCell (grown_setCell (grown_setCell (grown_setCell (grown_refl w (some g)) 0 (.int .i64 y.bed)) 1 (.int .i64 y.fr)) 2 (.int .i64 y.to)) 3 (.slice (if c = 1 then some ⟨b, off, none⟩ else some ⟨b, off + 3, none⟩) ls.length (c - 1))
    exact ⟨k.os, k.tape, k.output, k.size, k.block⟩
  have hb' := grown_below gr (Nat.le_of_lt hlt)
  refine ⟨rfl, ⟨if c = 1 then some ⟨b, off, none⟩ else some ⟨b, off + 3, none⟩, c - 1, t, ?_, ?_, ?_⟩, gr⟩
  · exact heap_setCell_same _ g 3 _ t _ (heap_setCell_same _ g 2 _ t _ (heap_setCell_same _ g 1 _ t _ (heap_setCell_same _ g 0 _ t _ h1)))
  · refine WinsAt.below (B' := g) ?_ hb' hBg
    by_cases hc : c = 1
    · have hl : ls = [] := List.length_eq_zero_iff.1 (by omega)
      rw [hl]
      exact WinsAt.nil _ _ _
    · rw [if_neg hc]
      have k := h2.drop 1
      rw [List.drop_one, List.tail_cons] at k
      exact k
  · refine ⟨fun e => ?_, by omega⟩
    split at e <;> cases e
/-- From one that begins, through windows that were there. -/
structure GoB (w : World) (g : Nat) (rest : List Win) (x : Win) (wr : World) : Prop where
  wb : WalkB w.heap.size wr g x rest
  below : Below w.heap.size w wr
  hg : w.heap.size ≤ g
theorem GoB.walk {w : World} {g : Nat} {rest : List Win} {x : Win} {wr : World} (h : GoB w g rest x wr) : Walk wr g x rest := by
  obtain ⟨A, c, t, h1, h2, h3⟩ := h.wb
  exact ⟨A, c, t, h1, h2.more h.hg, h3⟩
theorem GoB.off {w wr w' : World} {g : Nat} {rest : List Win} {x : Win} (h : GoB w g rest x wr) (hb : Below (g + 1) wr w') : GoB w g rest x w' := by
  obtain ⟨A, c, t, h1, h2, h3⟩ := h.wb
  exact ⟨⟨A, c, t, (hb.block g (Nat.lt_succ_self g)).trans h1, h2.below hb (Nat.le_succ_of_le h.hg), h3⟩, h.below.trans (hb.mono (Nat.le_succ_of_le h.hg)), h.hg⟩
theorem GoB.on {w wr w' : World} {g : Nat} {rest : List Win} {x : Win} (h : GoB w g rest x wr) (hb : Below wr.heap.size wr w') : GoB w g rest x w' := h.off (hb.mono h.walk.lt)
theorem GoB.next {w wr w' : World} {g : Nat} {rest : List Win} {x y : Win} {ls : List Win} (h : GoB w g ls x wr) (h1 : WalkB w.heap.size w' g y rest) (h2 : wr.grownBy w' (some g)) : GoB w g rest y w' :=
  ⟨h1, h.below.trans ((grown_below h2 (Nat.le_of_lt h.walk.lt)).mono h.hg), h.hg⟩
theorem GoB.set1 {w W : World} {g p : Nat} {rest : List Win} {x : Win} {v : Value} (h : GoB w g rest x W) (hw : w.heap.size ≤ p) (hp : p < g) : GoB w g rest x (W.setCell ⟨p, 1, none⟩ v) := by
  obtain ⟨A, c, t, h1, h2, h3⟩ := h.wb
  have hb : Below w.heap.size W (W.setCell ⟨p, 1, none⟩ v) := below_setCell9 W hw
  exact ⟨⟨A, c, t, (heap_setCell_other W ⟨p, 1, none⟩ g v (fun e => by simp only at e; omega)).trans h1, h2.below hb (Nat.le_refl _), h3⟩, h.below.trans hb, h.hg⟩

set_option maxHeartbeats 4000000 in
theorem mwithout_any (x0 x1 x2 : Int) (A0 : Option Addr) (l c : Nat) (cs : List Win) (w : World) (hl : l = cs.length) (hA : WinsAt w w.heap.size A0 cs) (hr : Roomy A0 cs c) (hb : l ≤ 5000) :
    Calls Try.prog 39 #[.agg #[.int .i64 x0, .int .i64 x1, .int .i64 x2], .slice A0 l c] w fun e w' => ∃ A c' m, m = (Mu.wo ⟨x0, x1, x2⟩ cs).length ∧ e = .returned (.slice A m c') ∧ OwnW w' w.heap.size (.slice A m c') (Mu.wo ⟨x0, x1, x2⟩ cs) ∧ Below w.heap.size w w' := by
  obtain ⟨out, hout⟩ : ∃ out, out = Mu.wo ⟨x0, x1, x2⟩ cs := ⟨_, rfl⟩
  rw [← hout]
  have Hout : Hid ([] ++ Mu.wo ⟨x0, x1, x2⟩ cs = out) := Lib.hid (by rw [hout]; rfl)
  have Hl := Lib.hid hl
  have Hb := Lib.hid hb
  have Hw1 := Lib.hid (below_new w (.cells #[.int .i64 x0, .int .i64 x1, .int .i64 x2] 48))
  have H0 : Hid (GoB w (w.heap.size + 1) cs ⟨0, 0, 0⟩ ((w.alloc (.cells #[.int .i64 x0, .int .i64 x1, .int .i64 x2] 48)).alloc (.cells #[.int .i64 0, .int .i64 0, .int .i64 0, .slice A0 l c] 50))) := Lib.hid (by
    refine ⟨⟨A0, c, 50, ?_, (hA.below Hw1.out (Nat.le_refl _)).below (below_new _ _) (by rw [World.size_alloc]; exact Nat.le_succ _), hr⟩, below2 Hw1.out (below_new _ _), Nat.le_succ _⟩
    rw [← hl]
    have k := heap_alloc_new (w.alloc (.cells #[.int .i64 x0, .int .i64 x1, .int .i64 x2] 48)) (.cells #[.int .i64 0, .int .i64 0, .int .i64 0, .slice A0 l c] 50)
    rw [World.size_alloc] at k
    exact k)
  have V0 : Hid (Wo w.heap.size (w.heap.size + 1) ⟨x0, x1, x2⟩ (.slice none 0 0) [] ((w.alloc (.cells #[.int .i64 x0, .int .i64 x1, .int .i64 x2] 48)).alloc (.cells #[.int .i64 0, .int .i64 0, .int .i64 0, .slice A0 l c] 50))) := Lib.hid
    ⟨Box3.kept (w := w.alloc (.cells #[.int .i64 x0, .int .i64 x1, .int .i64 x2] 48)) (B := w.heap.size + 1) ⟨_, heap_alloc_new _ _⟩ ((below_new _ _).mono (by rw [World.size_alloc]; exact Nat.le_refl _)) (Nat.lt_succ_self _), OwnW.nil _ _⟩
  have T := fun W => through_any A0 l c W
  clear hout hl hA hr hb Hw1
  go_enter Try.func39, Try.ntmps39
  go_wp2_with fail
  refine (T _).mono ?_
  rintro e w3 ⟨rfl, hw3⟩
  rw [← hw3] at H0 V0
  clear hw3 T
  obtain ⟨p, hp⟩ : ∃ p, p = w.heap.size := ⟨_, rfl⟩
  have Hwp : Hid (w.heap.size ≤ p) := Lib.hid (by omega)
  simp only [World.size_alloc] at *
  rw [← hp] at H0 V0 ⊢
  obtain ⟨g, hg⟩ : ∃ g, g = p + 1 := ⟨_, rfl⟩
  have Hpg : Hid (p < g) := Lib.hid (by omega)
  have Hwg : Hid (w.heap.size ≤ g) := Lib.hid (by omega)
  rw [← hg] at H0 V0 ⊢
  clear hg hp
  go_wp2_with fail
  go_loopw [5] (fun z wr => ∃ a all rest x A m c', z = .slice A m c' ∧ Hid (m = all.length) ∧ Hid (Wo p g a (.slice A m c') all wr) ∧ Hid (GoB w g rest x wr) ∧ Hid (all ++ Mu.wo a rest = out) ∧ Hid (all.length + rest.length ≤ 5000)) (fun _ wr => behindN wr g)
  case atStart => exact ⟨⟨x0, x1, x2⟩, [], cs, ⟨0, 0, 0⟩, none, 0, 0, rfl, Lib.hid rfl, V0, H0, Hout, Lib.hid (by have := Hl.out; have := Hb.out; simp only [List.length_nil]; omega)⟩
  case round =>
    clear H0 V0 Hout
    obtain ⟨a, all, rest, x, A, m, c', rfl, Hml, HV, HW, Hf, Hn⟩ := hrel
    obtain ⟨x0, x1, x2⟩ := a
    have hS : Wi3 wr.drew p 0 ⟨x0, x1, x2⟩ := HV.out.box.wi.drew
    have HVd : Hid (Wo p g ⟨x0, x1, x2⟩ (.slice A m c') all wr.drew) := Lib.hid (HV.out.on (below_drew (Below.refl _ _) 1))
    cases rest with
    | nil =>
      have HWd : Hid (GoB w g [] x wr.drew) := Lib.hid (HW.out.on (below_drew (Below.refl _ _) 1))
      have Hend : Hid (all ++ Mu.rest1 ⟨x0, x1, x2⟩ = out) := Lib.hid Hf.out
      clear HV HW Hf
      go_wp2_with fail
      refine wp_region_held_drew (S := (fun W : World => Wi3 W p 0 ⟨x0, x1, x2⟩)) (by kernel_rfl) hS (fun hHeld => ?_)
      refine wpAnyH_take (i := 0) (oi := { dst := some 9, op := Op.move (Operand.tmp 6), type := 44, pos := _, after := #[], guard := none }) (v := ?_) rfl (by kernel_rfl) (by kernel_rfl) (by kernel_rfl) (fun _ _ _ h => h) (Or.inl ⟨by rfl, ?hy⟩) hHeld ?_
      case hy => intro w0 hSw; (try dsimp only at hSw); go_simp; (try with_reducible rfl)
      (try simp only [Act.put, List.setIfInBounds_toArray, List.set_cons_zero, List.set_cons_succ])
      refine wpAnyH_ready (rs := [1]) (by kernel_rfl) (by simp) ?_
      refine AllReadyH.cons (o := { dst := some 10, op := Op.call { callee := Callee.value (Operand.func 28), args := #[Operand.tmp 9], argTypes := #[44] }, type := 4, pos := _, after := #[{ on := 0, ground := Ground.data }], guard := none }) rfl (fun K hK => ?_) AllReadyH.nil
      go_simp
      refine (next_end g x _ HWd.out.walk).mono ?_
      rintro e w5 ⟨rfl, rfl⟩
      go_wp2_with fail
      refine hK.out _ _ hS (fun hHeld => ?_)
      clear hK K
      (try simp only [Act.put, List.setIfInBounds_toArray, List.set_cons_zero, List.set_cons_succ])
      refine wpAnyH_take (i := 2) (oi := { dst := some 11, op := Op.move (Operand.tmp 10), type := 4, pos := _, after := #[{ on := 1, ground := Ground.data }, { on := 1, ground := Ground.chain }], guard := none }) (v := ?_) rfl (by kernel_rfl) (by kernel_rfl) (by kernel_rfl) (fun _ _ _ h => h) (Or.inl ⟨by rfl, ?hy⟩) hHeld ?_
      case hy => intro w0 hSw; (try dsimp only at hSw); go_simp; (try with_reducible rfl)
      (try simp only [Act.put, List.setIfInBounds_toArray, List.set_cons_zero, List.set_cons_succ])
      refine wpAnyH_take (i := 3) (oi := { dst := some 12, op := Op.move (Operand.tmp 6), type := 44, pos := _, after := #[{ on := 2, ground := Ground.guard }], guard := some (2, true) }) (v := undef) rfl (by kernel_rfl) (by kernel_rfl) (by kernel_rfl) (fun _ _ _ h => h) (Or.inr ⟨by rfl, rfl⟩) hHeld ?_
      (try simp only [Act.put, List.setIfInBounds_toArray, List.set_cons_zero, List.set_cons_succ])
      refine wpAnyH_take (i := 4) (oi := { dst := some 13, op := Op.nilCheck (Operand.tmp 12), type := 0, pos := _, after := #[{ on := 3, ground := Ground.data }, { on := 2, ground := Ground.guard }], guard := some (2, true) }) (v := undef) rfl (by kernel_rfl) (by kernel_rfl) (by kernel_rfl) (fun _ _ _ h => h) (Or.inr ⟨by rfl, rfl⟩) hHeld ?_
      (try simp only [Act.put, List.setIfInBounds_toArray, List.set_cons_zero, List.set_cons_succ])
      refine wpAnyH_take (i := 5) (oi := { dst := some 14, op := Op.fieldAddr 50 (Operand.tmp 13) 0, type := 0, pos := _, after := #[{ on := 4, ground := Ground.data }, { on := 2, ground := Ground.guard }], guard := some (2, true) }) (v := undef) rfl (by kernel_rfl) (by kernel_rfl) (by kernel_rfl) (fun _ _ _ h => h) (Or.inr ⟨by rfl, rfl⟩) hHeld ?_
      (try simp only [Act.put, List.setIfInBounds_toArray, List.set_cons_zero, List.set_cons_succ])
      refine wpAnyH_take (i := 6) (oi := { dst := some 15, op := Op.load 48 (Operand.tmp 14), type := 48, pos := _, after := #[{ on := 5, ground := Ground.data }, { on := 2, ground := Ground.guard }], guard := some (2, true) }) (v := undef) rfl (by kernel_rfl) (by kernel_rfl) (by kernel_rfl) (fun _ _ _ h => h) (Or.inr ⟨by rfl, rfl⟩) hHeld ?_
      (try simp only [Act.put, List.setIfInBounds_toArray, List.set_cons_zero, List.set_cons_succ])
      refine wpAnyH_take (i := 7) (oi := { dst := some 16, op := Op.load 48 (Operand.tmp 2), type := 48, pos := _, after := #[{ on := 2, ground := Ground.guard }], guard := some (2, true) }) (v := undef) rfl (by kernel_rfl) (by kernel_rfl) (by kernel_rfl) (fun _ _ _ h => h) (Or.inr ⟨by rfl, rfl⟩) hHeld ?_
      (try simp only [Act.put, List.setIfInBounds_toArray, List.set_cons_zero, List.set_cons_succ])
      refine wpAnyH_take (i := 8) (oi := { dst := some 17, op := Op.call { callee := Callee.value (Operand.func 47), args := #[Operand.tmp 15, Operand.tmp 16], argTypes := #[48, 48] }, type := 4, pos := _, after := #[{ on := 6, ground := Ground.data }, { on := 7, ground := Ground.data }, { on := 2, ground := Ground.chain }, { on := 2, ground := Ground.guard }], guard := some (2, true) }) (v := undef) rfl (by kernel_rfl) (by kernel_rfl) (by kernel_rfl) (fun _ _ _ h => h) (Or.inr ⟨by rfl, rfl⟩) hHeld ?_
      (try simp only [Act.put, List.setIfInBounds_toArray, List.set_cons_zero, List.set_cons_succ])
      refine wpAnyH_take (i := 9) (oi := { dst := some 18, op := Op.pick (Operand.tmp 11) (Operand.tmp 17) (Operand.const (Value.bool false)), type := 4, pos := _, after := #[{ on := 2, ground := Ground.data }, { on := 8, ground := Ground.data }], guard := none }) (v := ?_) rfl (by kernel_rfl) (by kernel_rfl) (by kernel_rfl) (fun _ _ _ h => h) (Or.inl ⟨by rfl, ?hy⟩) hHeld ?_
      case hy => intro w0 hSw; (try dsimp only at hSw); go_simp; (try with_reducible rfl)
      (try simp only [Act.put, List.setIfInBounds_toArray, List.set_cons_zero, List.set_cons_succ])
      refine wpAnyH_done (by kernel_rfl) ?_ _
      clear hHeld hS
      obtain ⟨W7, hW7⟩ : ∃ W, W = wr.drew := ⟨_, rfl⟩
      rw [← hW7] at HVd HWd ⊢
      clear hW7
      have c0 := HVd.out.box.wi.c0
      have c1 := HVd.out.box.wi.c1
      have c2 := HVd.out.box.wi.c2
      simp only at c0 c1 c2
      by_cases hft : x1 < x2
      · have i9 : (x1 < x2) = True := eq_true hft
        have He : Hid (all ++ [⟨x0, x1, x2⟩] = out) := Lib.hid (by rw [← Hend.out]; unfold Mu.rest1; rw [if_pos hft])
        have ON := Lib.hid (WinsAt.one W7 x0 x1 x2 32)
        have HBn := Lib.hid (below_new W7 (.cells #[.int .i64 x0, .int .i64 x1, .int .i64 x2] 32))
        have HOn := Lib.hid (HVd.out.own.below HBn.out)
        have Hgs : Hid (g + 1 ≤ W7.heap.size) := Lib.hid HWd.out.walk.lt
        clear hft Hend
        go_wp2_with (at_builtin; refine wpList_append_wins rfl _ _ 22 rfl Try.underlying22 (g + 1) _ all [(⟨x0, x1, x2⟩ : Win)] rfl HOn.out (some ⟨W7.heap.size, 0, none⟩) 1 _ rfl rfl ON.out (fun e => nomatch e) (Nat.le_trans Hgs.out HBn.out.size) (by have h := Hn.out; have h2 := Hml.out; simp at h ⊢; omega) ?_; intro v' w7 hown' hgrow; obtain ⟨A7, c7, rfl, _⟩ := hown'.slice; obtain ⟨m7, hm7⟩ : ∃ m7, m7 = (all ++ [(⟨x0, x1, x2⟩ : Win)]).length := ⟨_, rfl⟩; rw [← hm7] at hown' ⊢; have Hm7 := Lib.hid hm7; have HO7 := Lib.hid hown'; have HB7 : Hid (Below (g + 1) W7 w7) := Lib.hid ((HBn.out.mono Hgs.out).grown hgrow (Nat.le_trans Hgs.out HBn.out.size) (fun k hk => HOn.out.ge k hk)); clear hm7 hown' hgrow)
        go_ret
        exact ⟨A7, c7, m7, by rw [← He.out]; exact Hm7.out, rfl, by rw [← He.out]; exact HO7.out.lower (Nat.le_succ_of_le Hwg.out), HWd.out.below.trans (HB7.out.mono (Nat.le_succ_of_le Hwg.out))⟩
      · have i9 : (x1 < x2) = False := eq_false hft
        have He : Hid (all = out) := Lib.hid (by rw [← Hend.out]; unfold Mu.rest1; rw [if_neg hft, List.append_nil])
        clear hft Hend
        go_wp2
        go_ret
        exact ⟨A, c', m, by rw [← He.out]; exact Hml.out, rfl, by rw [← He.out]; exact HVd.out.own.lower (Nat.le_succ_of_le Hwg.out), HWd.out.below⟩
    | cons y rest =>
      obtain ⟨y0, y1, y2⟩ := y
      have HWd : Hid (GoB w g (⟨y0, y1, y2⟩ :: rest) x wr.drew) := Lib.hid (HW.out.on (below_drew (Below.refl _ _) 1))
      have Hmm : Hid (behindN wr g = rest.length + 1) := Lib.hid HW.out.walk.n
      clear HV HW
      have kM := fun W => meets_any y0 y1 y2 x0 x1 x2 W
      by_cases hme : Mu.meet ⟨y0, y1, y2⟩ ⟨x0, x1, x2⟩
      · rw [decide_eq_true hme] at kM
        have Hf1 : Hid (all ++ (Mu.head1 ⟨x0, x1, x2⟩ ⟨y0, y1, y2⟩ ++ Mu.wo ⟨x0, y2, x2⟩ rest) = out) := Lib.hid (by
          have h := Hf.out
          unfold Mu.wo at h
          rw [if_pos (by unfold Mu.meetB; rw [decide_eq_true_eq]; exact hme)] at h
          exact h)
        clear hme Hf
        go_wp2_with fail
        refine wp_region_held_drew (S := (fun W : World => Wi3 W p 0 ⟨x0, x1, x2⟩)) (by kernel_rfl) hS (fun hHeld => ?_)
        refine wpAnyH_take (i := 0) (oi := { dst := some 9, op := Op.move (Operand.tmp 6), type := 44, pos := _, after := #[], guard := none }) (v := ?_) rfl (by kernel_rfl) (by kernel_rfl) (by kernel_rfl) (fun _ _ _ h => h) (Or.inl ⟨by rfl, ?hy⟩) hHeld ?_
        case hy => intro w0 hSw; (try dsimp only at hSw); go_simp; (try with_reducible rfl)
        (try simp only [Act.put, List.setIfInBounds_toArray, List.set_cons_zero, List.set_cons_succ])
        refine wpAnyH_ready (rs := [1]) (by kernel_rfl) (by simp) ?_
        refine AllReadyH.cons (o := { dst := some 10, op := Op.call { callee := Callee.value (Operand.func 28), args := #[Operand.tmp 9], argTypes := #[44] }, type := 4, pos := _, after := #[{ on := 0, ground := Ground.data }], guard := none }) rfl (fun K hK => ?_) AllReadyH.nil
        go_simp
        refine (next_onB _ g x ⟨y0, y1, y2⟩ rest _ HWd.out.wb HWd.out.hg).mono ?_
        rintro e w5 ⟨rfl, hw, hgr⟩
        have HW5 := Lib.hid (HWd.out.next hw hgr)
        have HV5 := Lib.hid (HVd.out.next hgr Hpg.out)
        replace hS : Wi3 w5 p 0 ⟨x0, x1, x2⟩ := HV5.out.box.wi
        clear hw hgr
        go_wp2_with fail
        refine hK.out _ _ hS (fun hHeld => ?_)
        clear hK K
        (try simp only [Act.put, List.setIfInBounds_toArray, List.set_cons_zero, List.set_cons_succ])
        refine wpAnyH_take (i := 2) (oi := { dst := some 11, op := Op.move (Operand.tmp 10), type := 4, pos := _, after := #[{ on := 1, ground := Ground.data }, { on := 1, ground := Ground.chain }], guard := none }) (v := ?_) rfl (by kernel_rfl) (by kernel_rfl) (by kernel_rfl) (fun _ _ _ h => h) (Or.inl ⟨by rfl, ?hy⟩) hHeld ?_
        case hy => intro w0 hSw; (try dsimp only at hSw); go_simp; (try with_reducible rfl)
        (try simp only [Act.put, List.setIfInBounds_toArray, List.set_cons_zero, List.set_cons_succ])
        refine wpAnyH_take (i := 3) (oi := { dst := some 12, op := Op.move (Operand.tmp 6), type := 44, pos := _, after := #[{ on := 2, ground := Ground.guard }], guard := some (2, true) }) (v := ?_) rfl (by kernel_rfl) (by kernel_rfl) (by kernel_rfl) (fun _ _ _ h => h) (Or.inl ⟨by rfl, ?hy⟩) hHeld ?_
        case hy => intro w0 hSw; (try dsimp only at hSw); go_simp; (try with_reducible rfl)
        (try simp only [Act.put, List.setIfInBounds_toArray, List.set_cons_zero, List.set_cons_succ])
        refine wpAnyH_take (i := 4) (oi := { dst := some 13, op := Op.nilCheck (Operand.tmp 12), type := 0, pos := _, after := #[{ on := 3, ground := Ground.data }, { on := 2, ground := Ground.guard }], guard := some (2, true) }) (v := ?_) rfl (by kernel_rfl) (by kernel_rfl) (by kernel_rfl) (fun _ _ _ h => h) (Or.inl ⟨by rfl, ?hy⟩) hHeld ?_
        case hy => intro w0 hSw; (try dsimp only at hSw); go_simp; (try with_reducible rfl)
        (try simp only [Act.put, List.setIfInBounds_toArray, List.set_cons_zero, List.set_cons_succ])
        refine wpAnyH_take (i := 5) (oi := { dst := some 14, op := Op.fieldAddr 50 (Operand.tmp 13) 0, type := 0, pos := _, after := #[{ on := 4, ground := Ground.data }, { on := 2, ground := Ground.guard }], guard := some (2, true) }) (v := ?_) rfl (by kernel_rfl) (by kernel_rfl) (by kernel_rfl) (fun _ _ _ h => h) (Or.inl ⟨by rfl, ?hy⟩) hHeld ?_
        case hy => intro w0 hSw; (try dsimp only at hSw); go_simp; (try with_reducible rfl)
        (try simp only [Act.put, List.setIfInBounds_toArray, List.set_cons_zero, List.set_cons_succ])
        refine wpAnyH_take (i := 7) (oi := { dst := some 16, op := Op.load 48 (Operand.tmp 2), type := 48, pos := _, after := #[{ on := 2, ground := Ground.guard }], guard := some (2, true) }) (v := ?_) rfl (by kernel_rfl) (by kernel_rfl) (by kernel_rfl) (fun _ _ _ h => h) (Or.inl ⟨by rfl, ?hy⟩) hHeld ?_
        case hy => intro w0 hSw; have d0 := hSw.c0; have d1 := hSw.c1; have d2 := hSw.c2; clear hSw; dsimp only at d0 d1 d2; go_simp; (try with_reducible rfl)
        (try simp only [Act.put, List.setIfInBounds_toArray, List.set_cons_zero, List.set_cons_succ])
        refine wpAnyH_ready (rs := [6]) (by kernel_rfl) (by simp) ?_
        refine AllReadyH.cons (o := { dst := some 15, op := Op.load 48 (Operand.tmp 14), type := 48, pos := _, after := #[{ on := 5, ground := Ground.data }, { on := 2, ground := Ground.guard }], guard := some (2, true) }) rfl (fun K hK => ?_) AllReadyH.nil
        rw [if_pos (by rfl)]
        have d0 := HW5.out.walk.c0
        have d1 := HW5.out.walk.c1
        have d2 := HW5.out.walk.c2
        dsimp only at d0 d1 d2
        go_simp
        clear d0 d1 d2
        refine hK.out _ _ hS (fun hHeld => ?_)
        clear hK K
        (try simp only [Act.put, List.setIfInBounds_toArray, List.set_cons_zero, List.set_cons_succ])
        refine wpAnyH_ready (rs := [8]) (by kernel_rfl) (by simp) ?_
        refine AllReadyH.cons (o := { dst := some 17, op := Op.call { callee := Callee.value (Operand.func 47), args := #[Operand.tmp 15, Operand.tmp 16], argTypes := #[48, 48] }, type := 4, pos := _, after := #[{ on := 6, ground := Ground.data }, { on := 7, ground := Ground.data }, { on := 2, ground := Ground.chain }, { on := 2, ground := Ground.guard }], guard := some (2, true) }) rfl (fun K hK => ?_) AllReadyH.nil
        go_simp
        refine (kM _).mono ?_
        rintro e w6 ⟨rfl, hB'⟩
        have HW6 := Lib.hid (HW5.out.on hB')
        have HV6 := Lib.hid (HV5.out.on hB')
        replace hS : Wi3 w6 p 0 ⟨x0, x1, x2⟩ := HV6.out.box.wi
        clear hB'
        go_wp2_with fail
        refine hK.out _ _ hS (fun hHeld => ?_)
        clear hK K
        (try simp only [Act.put, List.setIfInBounds_toArray, List.set_cons_zero, List.set_cons_succ])
        refine wpAnyH_take (i := 9) (oi := { dst := some 18, op := Op.pick (Operand.tmp 11) (Operand.tmp 17) (Operand.const (Value.bool false)), type := 4, pos := _, after := #[{ on := 2, ground := Ground.data }, { on := 8, ground := Ground.data }], guard := none }) (v := ?_) rfl (by kernel_rfl) (by kernel_rfl) (by kernel_rfl) (fun _ _ _ h => h) (Or.inl ⟨by rfl, ?hy⟩) hHeld ?_
        case hy => intro w0 hSw; (try dsimp only at hSw); go_simp; (try with_reducible rfl)
        (try simp only [Act.put, List.setIfInBounds_toArray, List.set_cons_zero, List.set_cons_succ])
        refine wpAnyH_done (by kernel_rfl) ?_ _
        clear hHeld hS
        clear kM HW5 HV5 HWd HVd
        have c0 := HW6.out.walk.c0
        have c1 := HW6.out.walk.c1
        have c2 := HW6.out.walk.c2
        have d0 := HV6.out.box.wi.c0
        have d1 := HV6.out.box.wi.c1
        have d2 := HV6.out.box.wi.c2
        simp only at c0 c1 c2 d0 d1 d2
        by_cases hhd : x1 < y1
        · have i1 : (x1 < y1) = True := eq_true hhd
          have Hf2 : Hid ((all ++ [⟨x0, x1, y1⟩]) ++ Mu.wo ⟨x0, y2, x2⟩ rest = out) := Lib.hid (by
            have h := Hf1.out
            unfold Mu.head1 at h
            rw [if_pos hhd, ← List.append_assoc] at h
            exact h)
          clear hhd Hf1
          go_wp2_with fail
          go_quiet (fail)
          clear c0 c1 c2 d0 d1 d2
          obtain ⟨W8, hW8⟩ : ∃ W, W = w6.drewN nq := ⟨_, rfl⟩
          have HB8 : Hid (Below w6.heap.size w6 W8) := Lib.hid (by rw [hW8]; exact below_drew (Below.refl _ _) nq)
          rw [← hW8]
          clear hW8
          have HW8 := Lib.hid (HW6.out.on HB8.out)
          have HV8 := Lib.hid (HV6.out.on HB8.out)
          clear HW6 HV6
          have hS : Wi3 W8.drew p 0 ⟨x0, x1, x2⟩ ∧ Wi3 W8.drew g 0 ⟨y0, y1, y2⟩ := ⟨HV8.out.box.wi.drew, HW8.out.walk.wi.drew⟩
          go_wp2_with fail
          refine wp_region_held_drew (S := (fun W : World => Wi3 W p 0 ⟨x0, x1, x2⟩ ∧ Wi3 W g 0 ⟨y0, y1, y2⟩)) (by kernel_rfl) hS (fun hHeld => ?_)
          refine wpAnyH_take (i := 0) (oi := { dst := some 29, op := Op.move (Operand.tmp 5), type := 22, pos := _, after := #[], guard := none }) (v := ?_) rfl (by kernel_rfl) (by kernel_rfl) (by kernel_rfl) (fun _ _ _ h => h) (Or.inl ⟨by rfl, ?hy⟩) hHeld ?_
          case hy => intro w0 hSw; (try dsimp only at hSw); go_simp; (try with_reducible rfl)
          (try simp only [Act.put, List.setIfInBounds_toArray, List.set_cons_zero, List.set_cons_succ])
          refine wpAnyH_take (i := 1) (oi := { dst := some 30, op := Op.fieldAddr 48 (Operand.tmp 2) 0, type := 0, pos := _, after := #[], guard := none }) (v := ?_) rfl (by kernel_rfl) (by kernel_rfl) (by kernel_rfl) (fun _ _ _ h => h) (Or.inl ⟨by rfl, ?hy⟩) hHeld ?_
          case hy => intro w0 hSw; (try dsimp only at hSw); go_simp; (try with_reducible rfl)
          (try simp only [Act.put, List.setIfInBounds_toArray, List.set_cons_zero, List.set_cons_succ])
          refine wpAnyH_take (i := 2) (oi := { dst := some 31, op := Op.fieldAddr 32 (Operand.tmp 30) 0, type := 0, pos := _, after := #[{ on := 1, ground := Ground.data }], guard := none }) (v := ?_) rfl (by kernel_rfl) (by kernel_rfl) (by kernel_rfl) (fun _ _ _ h => h) (Or.inl ⟨by rfl, ?hy⟩) hHeld ?_
          case hy => intro w0 hSw; (try dsimp only at hSw); go_simp; (try with_reducible rfl)
          (try simp only [Act.put, List.setIfInBounds_toArray, List.set_cons_zero, List.set_cons_succ])
          refine wpAnyH_take (i := 3) (oi := { dst := some 32, op := Op.load 3 (Operand.tmp 31), type := 3, pos := _, after := #[{ on := 2, ground := Ground.data }], guard := none }) (v := ?_) rfl (by kernel_rfl) (by kernel_rfl) (by kernel_rfl) (fun _ _ _ h => h) (Or.inl ⟨by rfl, ?hy⟩) hHeld ?_
          case hy => intro w0 hSw; have d0 := hSw.1.c0; have d1 := hSw.1.c1; have d2 := hSw.1.c2; clear hSw; dsimp only at d0 d1 d2; go_simp; (try with_reducible rfl)
          (try simp only [Act.put, List.setIfInBounds_toArray, List.set_cons_zero, List.set_cons_succ])
          refine wpAnyH_take (i := 4) (oi := { dst := some 33, op := Op.fieldAddr 48 (Operand.tmp 2) 0, type := 0, pos := _, after := #[], guard := none }) (v := ?_) rfl (by kernel_rfl) (by kernel_rfl) (by kernel_rfl) (fun _ _ _ h => h) (Or.inl ⟨by rfl, ?hy⟩) hHeld ?_
          case hy => intro w0 hSw; (try dsimp only at hSw); go_simp; (try with_reducible rfl)
          (try simp only [Act.put, List.setIfInBounds_toArray, List.set_cons_zero, List.set_cons_succ])
          refine wpAnyH_take (i := 5) (oi := { dst := some 34, op := Op.fieldAddr 32 (Operand.tmp 33) 1, type := 0, pos := _, after := #[{ on := 4, ground := Ground.data }], guard := none }) (v := ?_) rfl (by kernel_rfl) (by kernel_rfl) (by kernel_rfl) (fun _ _ _ h => h) (Or.inl ⟨by rfl, ?hy⟩) hHeld ?_
          case hy => intro w0 hSw; (try dsimp only at hSw); go_simp; (try with_reducible rfl)
          (try simp only [Act.put, List.setIfInBounds_toArray, List.set_cons_zero, List.set_cons_succ])
          refine wpAnyH_take (i := 6) (oi := { dst := some 35, op := Op.load 3 (Operand.tmp 34), type := 3, pos := _, after := #[{ on := 5, ground := Ground.data }], guard := none }) (v := ?_) rfl (by kernel_rfl) (by kernel_rfl) (by kernel_rfl) (fun _ _ _ h => h) (Or.inl ⟨by rfl, ?hy⟩) hHeld ?_
          case hy => intro w0 hSw; have d0 := hSw.1.c0; have d1 := hSw.1.c1; have d2 := hSw.1.c2; clear hSw; dsimp only at d0 d1 d2; go_simp; (try with_reducible rfl)
          (try simp only [Act.put, List.setIfInBounds_toArray, List.set_cons_zero, List.set_cons_succ])
          refine wpAnyH_take (i := 7) (oi := { dst := some 36, op := Op.move (Operand.tmp 6), type := 44, pos := _, after := #[], guard := none }) (v := ?_) rfl (by kernel_rfl) (by kernel_rfl) (by kernel_rfl) (fun _ _ _ h => h) (Or.inl ⟨by rfl, ?hy⟩) hHeld ?_
          case hy => intro w0 hSw; (try dsimp only at hSw); go_simp; (try with_reducible rfl)
          (try simp only [Act.put, List.setIfInBounds_toArray, List.set_cons_zero, List.set_cons_succ])
          refine wpAnyH_take (i := 8) (oi := { dst := some 37, op := Op.nilCheck (Operand.tmp 36), type := 0, pos := _, after := #[{ on := 7, ground := Ground.data }], guard := none }) (v := ?_) rfl (by kernel_rfl) (by kernel_rfl) (by kernel_rfl) (fun _ _ _ h => h) (Or.inl ⟨by rfl, ?hy⟩) hHeld ?_
          case hy => intro w0 hSw; (try dsimp only at hSw); go_simp; (try with_reducible rfl)
          (try simp only [Act.put, List.setIfInBounds_toArray, List.set_cons_zero, List.set_cons_succ])
          refine wpAnyH_take (i := 9) (oi := { dst := some 38, op := Op.fieldAddr 50 (Operand.tmp 37) 0, type := 0, pos := _, after := #[{ on := 8, ground := Ground.data }], guard := none }) (v := ?_) rfl (by kernel_rfl) (by kernel_rfl) (by kernel_rfl) (fun _ _ _ h => h) (Or.inl ⟨by rfl, ?hy⟩) hHeld ?_
          case hy => intro w0 hSw; (try dsimp only at hSw); go_simp; (try with_reducible rfl)
          (try simp only [Act.put, List.setIfInBounds_toArray, List.set_cons_zero, List.set_cons_succ])
          refine wpAnyH_take (i := 10) (oi := { dst := some 39, op := Op.fieldAddr 48 (Operand.tmp 38) 0, type := 0, pos := _, after := #[{ on := 9, ground := Ground.data }], guard := none }) (v := ?_) rfl (by kernel_rfl) (by kernel_rfl) (by kernel_rfl) (fun _ _ _ h => h) (Or.inl ⟨by rfl, ?hy⟩) hHeld ?_
          case hy => intro w0 hSw; (try dsimp only at hSw); go_simp; (try with_reducible rfl)
          (try simp only [Act.put, List.setIfInBounds_toArray, List.set_cons_zero, List.set_cons_succ])
          refine wpAnyH_take (i := 11) (oi := { dst := some 40, op := Op.fieldAddr 32 (Operand.tmp 39) 1, type := 0, pos := _, after := #[{ on := 10, ground := Ground.data }], guard := none }) (v := ?_) rfl (by kernel_rfl) (by kernel_rfl) (by kernel_rfl) (fun _ _ _ h => h) (Or.inl ⟨by rfl, ?hy⟩) hHeld ?_
          case hy => intro w0 hSw; (try dsimp only at hSw); go_simp; (try with_reducible rfl)
          (try simp only [Act.put, List.setIfInBounds_toArray, List.set_cons_zero, List.set_cons_succ])
          refine wpAnyH_take (i := 12) (oi := { dst := some 41, op := Op.load 3 (Operand.tmp 40), type := 3, pos := _, after := #[{ on := 11, ground := Ground.data }], guard := none }) (v := ?_) rfl (by kernel_rfl) (by kernel_rfl) (by kernel_rfl) (fun _ _ _ h => h) (Or.inl ⟨by rfl, ?hy⟩) hHeld ?_
          case hy => intro w0 hSw; have d0 := hSw.2.c0; have d1 := hSw.2.c1; have d2 := hSw.2.c2; clear hSw; dsimp only at d0 d1 d2; go_simp; (try with_reducible rfl)
          (try simp only [Act.put, List.setIfInBounds_toArray, List.set_cons_zero, List.set_cons_succ])
          refine wpAnyH_take (i := 13) (oi := { dst := some 42, op := Op.build 32 #[(0, Operand.tmp 32), (1, Operand.tmp 35), (2, Operand.tmp 41)], type := 32, pos := _, after := #[{ on := 3, ground := Ground.data }, { on := 6, ground := Ground.data }, { on := 12, ground := Ground.data }], guard := none }) (v := ?_) rfl (by kernel_rfl) (by kernel_rfl) (by kernel_rfl) (fun _ _ _ h => h) (Or.inl ⟨by rfl, ?hy⟩) hHeld ?_
          case hy => intro w0 hSw; (try dsimp only at hSw); go_simp; (try with_reducible rfl)
          (try simp only [Act.put, List.setIfInBounds_toArray, List.set_cons_zero, List.set_cons_succ])
          refine wpAnyH_ready (rs := [14]) (by kernel_rfl) (by simp) ?_
          refine AllReadyH.cons (o := { dst := some 43, op := Op.buildSlice 22 1 #[(0, Operand.tmp 42)], type := 22, pos := _, after := #[{ on := 13, ground := Ground.data }], guard := none }) rfl (fun K hK => ?_) AllReadyH.nil
          go_simp
          have hT := WinsAt.one W8.drew x0 x1 y1 32
          have HBn : Hid (Below W8.heap.size W8 (W8.drew.alloc (.cells #[.int .i64 x0, .int .i64 x1, .int .i64 y1] 32))) := Lib.hid (below2 (below_drew (Below.refl _ _) 1) (below_new W8.drew (.cells #[.int .i64 x0, .int .i64 x1, .int .i64 y1] 32)))
          replace hS : Wi3 (W8.drew.alloc (.cells #[.int .i64 x0, .int .i64 x1, .int .i64 y1] 32)) p 0 ⟨x0, x1, x2⟩ ∧ Wi3 (W8.drew.alloc (.cells #[.int .i64 x0, .int .i64 x1, .int .i64 y1] 32)) g 0 ⟨y0, y1, y2⟩ := ⟨(HV8.out.on HBn.out).box.wi, (HW8.out.on HBn.out).walk.wi⟩
          have hOw := HV8.out.own.below HBn.out
          go_wp2_with fail
          refine hK.out _ _ hS (fun hHeld => ?_)
          clear hK K
          (try simp only [Act.put, List.setIfInBounds_toArray, List.set_cons_zero, List.set_cons_succ])
          refine wpAnyH_ready (rs := [15]) (by kernel_rfl) (by simp) ?_
          refine AllReadyH.cons (o := { dst := some 44, op := Op.call { callee := Callee.builtin Builtin.append, args := #[Operand.tmp 29, Operand.tmp 43], argTypes := #[22, 22] }, type := 22, pos := _, after := #[{ on := 0, ground := Ground.data }, { on := 14, ground := Ground.data }], guard := none }) rfl (fun K hK => ?_) AllReadyH.nil
          rw [if_pos (by rfl)]
          refine wp_append_wins _ _ 22 rfl Try.underlying22 (g + 1) _ all [(⟨x0, x1, y1⟩ : Win)] rfl hOw ⟨W8.drew.heap.size, 0, none⟩ 1 rfl hT (Nat.le_trans HW8.out.walk.lt HBn.out.size) (by have h := Hn.out; have h2 := Hml.out; simp at h ⊢; omega) ?_
          intro v' w9 hown' hgrow
          have HB9 : Hid (Below (g + 1) W8 w9) := Lib.hid ((HBn.out.mono HW8.out.walk.lt).grown hgrow (Nat.le_trans HW8.out.walk.lt HBn.out.size) (fun k hk => hOw.ge k hk))
          have HW9 := Lib.hid (HW8.out.off HB9.out)
          obtain ⟨A9, c9, rfl, _⟩ := hown'.slice
          obtain ⟨m9, hm9⟩ : ∃ m9, m9 = (all ++ [(⟨x0, x1, y1⟩ : Win)]).length := ⟨_, rfl⟩
          rw [← hm9] at hown' ⊢
          have HV9 : Hid (Wo p g ⟨x0, x1, x2⟩ (.slice A9 m9 c9) (all ++ [⟨x0, x1, y1⟩]) w9) := Lib.hid ⟨HV8.out.box.kept HB9.out (Nat.lt_succ_of_lt Hpg.out), hown'⟩
          replace hS : Wi3 w9 p 0 ⟨x0, x1, x2⟩ ∧ Wi3 w9 g 0 ⟨y0, y1, y2⟩ := ⟨HV9.out.box.wi, HW9.out.walk.wi⟩
          have Hm9 := Lib.hid hm9
          clear hm9 hown' hgrow hOw hT
          refine hK.out _ _ hS (fun hHeld => ?_)
          clear hK K
          (try simp only [Act.put, List.setIfInBounds_toArray, List.set_cons_zero, List.set_cons_succ])
          refine wpAnyH_take (i := 16) (oi := { dst := some 5, op := Op.assign (Operand.tmp 44), type := 22, pos := _, after := #[{ on := 15, ground := Ground.data }, { on := 15, ground := Ground.chain }, { on := 0, ground := Ground.phase }, { on := 1, ground := Ground.phase }, { on := 2, ground := Ground.phase }, { on := 3, ground := Ground.phase }, { on := 4, ground := Ground.phase }, { on := 5, ground := Ground.phase }, { on := 6, ground := Ground.phase }, { on := 7, ground := Ground.phase }, { on := 8, ground := Ground.phase }, { on := 9, ground := Ground.phase }, { on := 10, ground := Ground.phase }, { on := 11, ground := Ground.phase }, { on := 12, ground := Ground.phase }, { on := 13, ground := Ground.phase }, { on := 14, ground := Ground.phase }, { on := 15, ground := Ground.phase }], guard := none }) (v := ?_) rfl (by kernel_rfl) (by kernel_rfl) (by kernel_rfl) (fun _ _ _ h => h) (Or.inl ⟨by rfl, ?hy⟩) hHeld ?_
          case hy => intro w0 hSw; (try dsimp only at hSw); go_simp; (try with_reducible rfl)
          (try simp only [Act.put, List.setIfInBounds_toArray, List.set_cons_zero, List.set_cons_succ])
          refine wpAnyH_done (by kernel_rfl) ?_ _
          clear hHeld hS
          clear HV8 HW8
          have c0 := HW9.out.walk.c0
          have c1 := HW9.out.walk.c1
          have c2 := HW9.out.walk.c2
          have d0 := HV9.out.box.wi.c0
          have d1 := HV9.out.box.wi.c1
          have d2 := HV9.out.box.wi.c2
          have f1 := HV9.out.box.frozen 1
          simp only at c0 c1 c2 d0 d1 d2
          have HVs := Lib.hid (HV9.out.set1 y2 Hpg.out)
          have HWs := Lib.hid (HW9.out.set1 (v := .int .i64 y2) Hwp.out Hpg.out)
          clear HV9
          go_wp2
          go_roundw
          case rel => exact ⟨⟨x0, y2, x2⟩, all ++ [⟨x0, x1, y1⟩], rest, _, A9, m9, c9, rfl, Hm9, HVs, HWs, Hf2, Lib.hid (by have h := Hn.out; simp at h ⊢; omega)⟩
          case measure => rw [Hmm.out, HWs.out.walk.n]; omega
        · have i1 : (x1 < y1) = False := eq_false hhd
          have Hf2 : Hid (all ++ Mu.wo ⟨x0, y2, x2⟩ rest = out) := Lib.hid (by
            have h := Hf1.out
            unfold Mu.head1 at h
            rw [if_neg hhd, List.nil_append] at h
            exact h)
          clear hhd Hf1
          go_wp2_with fail
          go_quiet (fail)
          clear c0 c1 c2 d0 d1 d2
          obtain ⟨W8, hW8⟩ : ∃ W, W = w6.drewN nq := ⟨_, rfl⟩
          have HB8 : Hid (Below w6.heap.size w6 W8) := Lib.hid (by rw [hW8]; exact below_drew (Below.refl _ _) nq)
          rw [← hW8]
          clear hW8
          have HW8 := Lib.hid (HW6.out.on HB8.out)
          have HV8 := Lib.hid (HV6.out.on HB8.out)
          clear HW6 HV6
          have c0 := HW8.out.walk.c0
          have c1 := HW8.out.walk.c1
          have c2 := HW8.out.walk.c2
          have d0 := HV8.out.box.wi.c0
          have d1 := HV8.out.box.wi.c1
          have d2 := HV8.out.box.wi.c2
          have f1 := HV8.out.box.frozen 1
          simp only at c0 c1 c2 d0 d1 d2
          have HVs := Lib.hid (HV8.out.set1 y2 Hpg.out)
          have HWs := Lib.hid (HW8.out.set1 (v := .int .i64 y2) Hwp.out Hpg.out)
          clear HV8
          go_wp2
          go_roundw
          case rel => exact ⟨⟨x0, y2, x2⟩, all, rest, _, A, m, c', rfl, Hml, HVs, HWs, Hf2, Lib.hid (by have h := Hn.out; simp at h ⊢; omega)⟩
          case measure => rw [Hmm.out, HWs.out.walk.n]; omega
      · rw [decide_eq_false hme] at kM
        have Hend : Hid (all ++ Mu.rest1 ⟨x0, x1, x2⟩ = out) := Lib.hid (by
          have h := Hf.out
          unfold Mu.wo at h
          rw [if_neg (by unfold Mu.meetB; rw [decide_eq_true_eq]; exact hme)] at h
          exact h)
        clear hme Hf
        go_wp2_with fail
        refine wp_region_held_drew (S := (fun W : World => Wi3 W p 0 ⟨x0, x1, x2⟩)) (by kernel_rfl) hS (fun hHeld => ?_)
        refine wpAnyH_take (i := 0) (oi := { dst := some 9, op := Op.move (Operand.tmp 6), type := 44, pos := _, after := #[], guard := none }) (v := ?_) rfl (by kernel_rfl) (by kernel_rfl) (by kernel_rfl) (fun _ _ _ h => h) (Or.inl ⟨by rfl, ?hy⟩) hHeld ?_
        case hy => intro w0 hSw; (try dsimp only at hSw); go_simp; (try with_reducible rfl)
        (try simp only [Act.put, List.setIfInBounds_toArray, List.set_cons_zero, List.set_cons_succ])
        refine wpAnyH_ready (rs := [1]) (by kernel_rfl) (by simp) ?_
        refine AllReadyH.cons (o := { dst := some 10, op := Op.call { callee := Callee.value (Operand.func 28), args := #[Operand.tmp 9], argTypes := #[44] }, type := 4, pos := _, after := #[{ on := 0, ground := Ground.data }], guard := none }) rfl (fun K hK => ?_) AllReadyH.nil
        go_simp
        refine (next_onB _ g x ⟨y0, y1, y2⟩ rest _ HWd.out.wb HWd.out.hg).mono ?_
        rintro e w5 ⟨rfl, hw, hgr⟩
        have HW5 := Lib.hid (HWd.out.next hw hgr)
        have HV5 := Lib.hid (HVd.out.next hgr Hpg.out)
        replace hS : Wi3 w5 p 0 ⟨x0, x1, x2⟩ := HV5.out.box.wi
        clear hw hgr
        go_wp2_with fail
        refine hK.out _ _ hS (fun hHeld => ?_)
        clear hK K
        (try simp only [Act.put, List.setIfInBounds_toArray, List.set_cons_zero, List.set_cons_succ])
        refine wpAnyH_take (i := 2) (oi := { dst := some 11, op := Op.move (Operand.tmp 10), type := 4, pos := _, after := #[{ on := 1, ground := Ground.data }, { on := 1, ground := Ground.chain }], guard := none }) (v := ?_) rfl (by kernel_rfl) (by kernel_rfl) (by kernel_rfl) (fun _ _ _ h => h) (Or.inl ⟨by rfl, ?hy⟩) hHeld ?_
        case hy => intro w0 hSw; (try dsimp only at hSw); go_simp; (try with_reducible rfl)
        (try simp only [Act.put, List.setIfInBounds_toArray, List.set_cons_zero, List.set_cons_succ])
        refine wpAnyH_take (i := 3) (oi := { dst := some 12, op := Op.move (Operand.tmp 6), type := 44, pos := _, after := #[{ on := 2, ground := Ground.guard }], guard := some (2, true) }) (v := ?_) rfl (by kernel_rfl) (by kernel_rfl) (by kernel_rfl) (fun _ _ _ h => h) (Or.inl ⟨by rfl, ?hy⟩) hHeld ?_
        case hy => intro w0 hSw; (try dsimp only at hSw); go_simp; (try with_reducible rfl)
        (try simp only [Act.put, List.setIfInBounds_toArray, List.set_cons_zero, List.set_cons_succ])
        refine wpAnyH_take (i := 4) (oi := { dst := some 13, op := Op.nilCheck (Operand.tmp 12), type := 0, pos := _, after := #[{ on := 3, ground := Ground.data }, { on := 2, ground := Ground.guard }], guard := some (2, true) }) (v := ?_) rfl (by kernel_rfl) (by kernel_rfl) (by kernel_rfl) (fun _ _ _ h => h) (Or.inl ⟨by rfl, ?hy⟩) hHeld ?_
        case hy => intro w0 hSw; (try dsimp only at hSw); go_simp; (try with_reducible rfl)
        (try simp only [Act.put, List.setIfInBounds_toArray, List.set_cons_zero, List.set_cons_succ])
        refine wpAnyH_take (i := 5) (oi := { dst := some 14, op := Op.fieldAddr 50 (Operand.tmp 13) 0, type := 0, pos := _, after := #[{ on := 4, ground := Ground.data }, { on := 2, ground := Ground.guard }], guard := some (2, true) }) (v := ?_) rfl (by kernel_rfl) (by kernel_rfl) (by kernel_rfl) (fun _ _ _ h => h) (Or.inl ⟨by rfl, ?hy⟩) hHeld ?_
        case hy => intro w0 hSw; (try dsimp only at hSw); go_simp; (try with_reducible rfl)
        (try simp only [Act.put, List.setIfInBounds_toArray, List.set_cons_zero, List.set_cons_succ])
        refine wpAnyH_take (i := 7) (oi := { dst := some 16, op := Op.load 48 (Operand.tmp 2), type := 48, pos := _, after := #[{ on := 2, ground := Ground.guard }], guard := some (2, true) }) (v := ?_) rfl (by kernel_rfl) (by kernel_rfl) (by kernel_rfl) (fun _ _ _ h => h) (Or.inl ⟨by rfl, ?hy⟩) hHeld ?_
        case hy => intro w0 hSw; have d0 := hSw.c0; have d1 := hSw.c1; have d2 := hSw.c2; clear hSw; dsimp only at d0 d1 d2; go_simp; (try with_reducible rfl)
        (try simp only [Act.put, List.setIfInBounds_toArray, List.set_cons_zero, List.set_cons_succ])
        refine wpAnyH_ready (rs := [6]) (by kernel_rfl) (by simp) ?_
        refine AllReadyH.cons (o := { dst := some 15, op := Op.load 48 (Operand.tmp 14), type := 48, pos := _, after := #[{ on := 5, ground := Ground.data }, { on := 2, ground := Ground.guard }], guard := some (2, true) }) rfl (fun K hK => ?_) AllReadyH.nil
        rw [if_pos (by rfl)]
        have d0 := HW5.out.walk.c0
        have d1 := HW5.out.walk.c1
        have d2 := HW5.out.walk.c2
        dsimp only at d0 d1 d2
        go_simp
        clear d0 d1 d2
        refine hK.out _ _ hS (fun hHeld => ?_)
        clear hK K
        (try simp only [Act.put, List.setIfInBounds_toArray, List.set_cons_zero, List.set_cons_succ])
        refine wpAnyH_ready (rs := [8]) (by kernel_rfl) (by simp) ?_
        refine AllReadyH.cons (o := { dst := some 17, op := Op.call { callee := Callee.value (Operand.func 47), args := #[Operand.tmp 15, Operand.tmp 16], argTypes := #[48, 48] }, type := 4, pos := _, after := #[{ on := 6, ground := Ground.data }, { on := 7, ground := Ground.data }, { on := 2, ground := Ground.chain }, { on := 2, ground := Ground.guard }], guard := some (2, true) }) rfl (fun K hK => ?_) AllReadyH.nil
        go_simp
        refine (kM _).mono ?_
        rintro e w6 ⟨rfl, hB'⟩
        have HW6 := Lib.hid (HW5.out.on hB')
        have HV6 := Lib.hid (HV5.out.on hB')
        replace hS : Wi3 w6 p 0 ⟨x0, x1, x2⟩ := HV6.out.box.wi
        clear hB'
        go_wp2_with fail
        refine hK.out _ _ hS (fun hHeld => ?_)
        clear hK K
        (try simp only [Act.put, List.setIfInBounds_toArray, List.set_cons_zero, List.set_cons_succ])
        refine wpAnyH_take (i := 9) (oi := { dst := some 18, op := Op.pick (Operand.tmp 11) (Operand.tmp 17) (Operand.const (Value.bool false)), type := 4, pos := _, after := #[{ on := 2, ground := Ground.data }, { on := 8, ground := Ground.data }], guard := none }) (v := ?_) rfl (by kernel_rfl) (by kernel_rfl) (by kernel_rfl) (fun _ _ _ h => h) (Or.inl ⟨by rfl, ?hy⟩) hHeld ?_
        case hy => intro w0 hSw; (try dsimp only at hSw); go_simp; (try with_reducible rfl)
        (try simp only [Act.put, List.setIfInBounds_toArray, List.set_cons_zero, List.set_cons_succ])
        refine wpAnyH_done (by kernel_rfl) ?_ _
        clear hHeld hS
        clear kM HW5 HV5 HWd HVd
        have c0 := HV6.out.box.wi.c0
        have c1 := HV6.out.box.wi.c1
        have c2 := HV6.out.box.wi.c2
        simp only at c0 c1 c2
        by_cases hft : x1 < x2
        · have i9 : (x1 < x2) = True := eq_true hft
          have He : Hid (all ++ [⟨x0, x1, x2⟩] = out) := Lib.hid (by rw [← Hend.out]; unfold Mu.rest1; rw [if_pos hft])
          have ON := Lib.hid (WinsAt.one w6 x0 x1 x2 32)
          have HBn := Lib.hid (below_new w6 (.cells #[.int .i64 x0, .int .i64 x1, .int .i64 x2] 32))
          have HOn := Lib.hid (HV6.out.own.below HBn.out)
          have Hgs : Hid (g + 1 ≤ w6.heap.size) := Lib.hid HW6.out.walk.lt
          clear hft Hend
          go_wp2_with (at_builtin; refine wpList_append_wins rfl _ _ 22 rfl Try.underlying22 (g + 1) _ all [(⟨x0, x1, x2⟩ : Win)] rfl HOn.out (some ⟨w6.heap.size, 0, none⟩) 1 _ rfl rfl ON.out (fun e => nomatch e) (Nat.le_trans Hgs.out HBn.out.size) (by have h := Hn.out; have h2 := Hml.out; simp at h ⊢; omega) ?_; intro v' w7 hown' hgrow; obtain ⟨A7, c7, rfl, _⟩ := hown'.slice; obtain ⟨m7, hm7⟩ : ∃ m7, m7 = (all ++ [(⟨x0, x1, x2⟩ : Win)]).length := ⟨_, rfl⟩; rw [← hm7] at hown' ⊢; have Hm7 := Lib.hid hm7; have HO7 := Lib.hid hown'; have HB7 : Hid (Below (g + 1) w6 w7) := Lib.hid ((HBn.out.mono Hgs.out).grown hgrow (Nat.le_trans Hgs.out HBn.out.size) (fun k hk => HOn.out.ge k hk)); clear hm7 hown' hgrow)
          go_ret
          exact ⟨A7, c7, m7, by rw [← He.out]; exact Hm7.out, rfl, by rw [← He.out]; exact HO7.out.lower (Nat.le_succ_of_le Hwg.out), HW6.out.below.trans (HB7.out.mono (Nat.le_succ_of_le Hwg.out))⟩
        · have i9 : (x1 < x2) = False := eq_false hft
          have He : Hid (all = out) := Lib.hid (by rw [← Hend.out]; unfold Mu.rest1; rw [if_neg hft, List.append_nil])
          clear hft Hend
          go_wp2
          go_ret
          exact ⟨A, c', m, by rw [← He.out]; exact Hml.out, rfl, by rw [← He.out]; exact HV6.out.own.lower (Nat.le_succ_of_le Hwg.out), HW6.out.below⟩
end Go.Proofs.Ythbkfjnpdcfepaa
