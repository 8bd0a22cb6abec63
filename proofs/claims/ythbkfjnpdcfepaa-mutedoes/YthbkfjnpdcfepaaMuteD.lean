/-
  Layer 10 (mute): joined.
-/
import Derived.Test.YthbkfjnpdcfepaaMuteR
import Derived.Test.YthbkfjnpdcfepaaMuteC
import Derived.Deep.RegionHeld3
import Derived.Deep.QuietTactic
import Derived.Great.BuildSlice
import Derived.BigRegion
namespace Go.Proofs.Ythbkfjnpdcfepaa
set_option maxRecDepth 10000
open Go.RowKit

set_option maxHeartbeats 4000000 in
theorem mjoined_any (HK : Hid MSortK) (b off c n q : Nat) (L : List (List Win)) (w : World) (hn : n = L.length) (hb : b < w.heap.size) (hR : RowsW w b off L) (hq : q = L.flatten.length) (hl : q ≤ 5000) (hn2 : n ≤ 1000) :
    Calls Try.prog 24 #[.slice (some ⟨b, off, none⟩) n c] w fun e w' => ∃ s A c' m, Mu.Sorted L.flatten s ∧ m = (Mu.joinL s).length ∧ e = .returned (.slice A m c') ∧ OwnW w' w.heap.size (.slice A m c') (Mu.joinL s) ∧ Below w.heap.size w w' := by
  have Hq := Lib.hid hq
  have Hl := Lib.hid hl
  have C := mconcat_any b off c n q L w hn hb hR hq hl hn2
  clear hR hn hb hq hl hn2
  go_enter Try.func24, Try.ntmps24
  go_wp2_with fail
  refine C.mono ?_
  rintro e w1 ⟨A1, c1, rfl, hO1, hB1⟩
  have HB1 := Lib.hid hB1
  have K := fun W hO => HK.out (.slice A1 q c1) w.heap.size L.flatten W hO (by have := Hq.out; have := Hl.out; omega)
  have K1 := K w1 hO1
  clear C hO1 hB1 K
  go_wp2_with fail
  refine K1.mono ?_
  rintro e w2 ⟨rfl, s, hs, hO2, hB2⟩
  have Hs := Lib.hid hs
  have HB2 : Hid (Below w.heap.size w w2) := Lib.hid (hB2 w HB1.out (Nat.le_refl _))
  have Hsl : Hid (q = s.length) := Lib.hid (by rw [Hq.out]; exact hs.1.length_eq.symm)
  have hr := hO2.rows
  have H0 := Lib.hid (Going.begin HB2.out hr.1 hr.2)
  rw [← Hsl.out] at H0
  have T := through_any A1 q c1 w2
  obtain ⟨g, hg⟩ : ∃ g, g = w2.heap.size := ⟨_, rfl⟩
  have Hg : Hid (w.heap.size ≤ g) := Lib.hid (by rw [hg]; exact HB2.out.size)
  rw [← hg] at H0 T
  clear hg hr hO2 hs hB2 K1 HB1
  go_wp2_with fail
  refine T.mono ?_
  rintro e w3 ⟨rfl, hw3⟩
  rw [← hw3] at H0
  clear hw3 T
  go_wp2_with fail
  go_loopw [4] (fun z wr => ∃ all rest x A m c', z = .slice A m c' ∧ Hid (m = all.length) ∧ Hid (OwnW wr (g + 1) (.slice A m c') all) ∧ Hid (Going w g rest x wr) ∧ Hid (rest.foldl Mu.joinS all = Mu.joinL s) ∧ Hid (all.length + rest.length ≤ 5000)) (fun _ wr => behindN wr g)
  case atStart => exact ⟨[], s, ⟨0, 0, 0⟩, none, 0, 0, rfl, Lib.hid rfl, Lib.hid (OwnW.nil _ _), H0, Lib.hid rfl, Lib.hid (by have := Hsl.out; have := Hl.out; simp only [List.length_nil]; omega)⟩
  case round =>
    clear H0
    obtain ⟨all, rest, x, A, m, c', rfl, Hml, HO, HW, Hf, Hn⟩ := hrel
    cases rest with
    | nil =>
      have Hf2 : Hid (all = Mu.joinL s) := Lib.hid Hf.out
      rw [Hf2.out] at HO Hml
      clear Hf Hn
      go_wp2_with fail
      refine (next_end g x wr HW.out.walk).mono ?_
      rintro e w4 ⟨rfl, rfl⟩
      go_wp2
      go_ret
      exact ⟨s, A, c', m, Hs.out, Hml.out, rfl, HO.out.lower (Nat.le_succ_of_le Hg.out), HW.out.below⟩
    | cons y rest =>
      go_wp2_with fail
      refine (next_on g x y rest wr HW.out.walk).mono ?_
      rintro e w4 ⟨rfl, hw, hgr⟩
      have HW2 := Lib.hid (HW.out.next Hg.out hw hgr)
      have HO2 := Lib.hid (HO.out.aside hgr (Nat.lt_succ_self g))
      have Hm : Hid (behindN wr g = rest.length + 1) := Lib.hid HW.out.walk.n
      have Hgl : Hid (g < w4.heap.size) := Lib.hid hw.lt
      clear hw hgr HW HO
      obtain ⟨y0, y1, y2⟩ := y
      by_cases hall : all = []
      · subst hall
        have Hf2 : Hid (rest.foldl Mu.joinS ([] ++ [⟨y0, y1, y2⟩]) = Mu.joinL s) := Lib.hid Hf.out
        obtain rfl : m = 0 := Hml.out
        clear Hf Hml
        go_wp2_with fail
        go_quiet (fail)
        have HB4 : Hid (Below w4.heap.size w4 (w4.drewN nq)) := Lib.hid (below_drew (Below.refl _ _) nq)
        obtain ⟨W, hW⟩ : ∃ W, W = w4.drewN nq := ⟨_, rfl⟩
        rw [← hW] at HB4 ⊢
        clear hW
        have HW3 := Lib.hid (HW2.out.on HB4.out)
        have HO3 := Lib.hid (HO2.out.below HB4.out)
        clear HW2 HO2 HB4
        have c0 := HW3.out.walk.c0
        have c1 := HW3.out.walk.c1
        have c2 := HW3.out.walk.c2
        simp only at c0 c1 c2
        have ON := Lib.hid (WinsAt.one W y0 y1 y2 32)
        have HBn := Lib.hid (below_new W (.cells #[.int .i64 y0, .int .i64 y1, .int .i64 y2] 32))
        have HOn := Lib.hid (HO3.out.below HBn.out)
        have Hgs : Hid (g + 1 ≤ W.heap.size) := Lib.hid HW3.out.walk.lt
        go_wp2_with (at_builtin; go_loud (refine wpList_append_wins rfl _ _ 22 rfl Try.underlying22 (g + 1) _ [] [(⟨y0, y1, y2⟩ : Win)] rfl HOn.out (some ⟨W.heap.size, 0, none⟩) 1 _ rfl rfl ON.out (fun e => nomatch e) (Nat.le_trans Hgs.out HBn.out.size) (by have h := Hn.out; simp at h ⊢; try omega) ?_; intro v' w5 hown' hgrow; obtain ⟨A5, c5, rfl, _⟩ := hown'.slice; obtain ⟨m5, hm5⟩ : ∃ m5, m5 = ([] ++ [(⟨y0, y1, y2⟩ : Win)]).length := ⟨_, rfl⟩; rw [← hm5] at hown' ⊢; have Hm5 := Lib.hid hm5; have HO5 := Lib.hid hown'; have HB5 : Hid (Below (g + 1) W w5) := Lib.hid ((HBn.out.mono Hgs.out).grown hgrow (Nat.le_trans Hgs.out HBn.out.size) (fun k hk => HOn.out.ge k hk)); clear hm5 hown' hgrow))
        have HW5 := Lib.hid (HW3.out.off Hg.out HB5.out)
        go_roundw
        case rel => exact ⟨[] ++ [⟨y0, y1, y2⟩], rest, _, A5, m5, c5, rfl, Hm5, HO5, HW5, Hf2, Lib.hid (by have h := Hn.out; simp at h ⊢; omega)⟩
        case measure => rw [Hm.out, HW5.out.walk.n]; omega
      · obtain ⟨pre, v, rfl⟩ : ∃ pre v, all = pre ++ [v] := ⟨all.dropLast, all.getLast hall, (List.dropLast_concat_getLast hall).symm⟩
        clear hall
        obtain ⟨v0, v1, v2⟩ := v
        obtain ⟨g2, rfl, hm2, hb2, hlt2, h3, hf⟩ := HO2.out.last
        obtain ⟨k, hk⟩ : ∃ k, k = pre.length := ⟨_, rfl⟩
        have Hk := Lib.hid hk
        rw [← hk] at hm2 h3 hf
        clear hk
        subst hm2
        have Hlt : Hid (g2 < w4.heap.size) := Lib.hid hlt2
        have Hb2 : Hid (g + 1 ≤ g2) := Lib.hid hb2
        have hS : Wi3 w4.drew g2 (k * 3) ⟨v0, v1, v2⟩ ∧ Wi3 w4.drew g 0 ⟨y0, y1, y2⟩ := ⟨h3.drew, HW2.out.walk.wi.drew⟩
        have i0 : (0 : Int) ≤ (k : Int) := by omega
        have i1 : (k : Int) < (k : Int) + 1 := by omega
        have i5 : k < k + 1 := by omega
        have hk5 : k ≤ 5000 := by have := Hn.out; have := Hk.out; simp only [List.length_append, List.length_cons, List.length_nil] at *; omega
        have iw : wrap64 ((k : Int) + 1 - 1) = (k : Int) := by unfold wrap64; omega
        have iw2 : wrap64 (k : Int) = (k : Int) := by unfold wrap64; omega
        have ik : ((k : Int) < 0) = False := eq_false (by omega)
        have HB0 : Hid (Below w4.heap.size w4 w4.drew) := Lib.hid (below_drew (Below.refl _ _) 1)
        clear h3 hf hb2 hlt2 hk5
        have kE := fun W => endsAhead_any v0 v1 v2 y0 y1 y2 W
        by_cases hbf : Mu.before ⟨v0, v1, v2⟩ ⟨y0, y1, y2⟩
        · rw [decide_eq_true hbf] at kE
          have Hf2 : Hid (rest.foldl Mu.joinS ((pre ++ [⟨v0, v1, v2⟩]) ++ [⟨y0, y1, y2⟩]) = Mu.joinL s) := Lib.hid (by rw [← Mu.joinS_far (by simp) hbf]; exact Hf.out)
          clear hbf Hf
          go_wp2_with fail
          refine wp_region_held_drew (S := (fun W : World => Wi3 W g2 (k * 3) ⟨v0, v1, v2⟩ ∧ Wi3 W g 0 ⟨y0, y1, y2⟩)) (by kernel_rfl) hS (fun hHeld => ?_)
          refine wpAnyH_take (i := 0) (oi := { dst := some 18, op := Op.move (Operand.tmp 6), type := 3, pos := _, after := #[], guard := none }) (v := ?_) rfl (by kernel_rfl) (by kernel_rfl) (by kernel_rfl) (fun _ _ _ h => h) (Or.inl ⟨by rfl, ?hy⟩) hHeld ?_
          case hy => intro w0 hSw; (try dsimp only at hSw); go_simp; (try with_reducible rfl)
          (try simp only [Act.put, List.setIfInBounds_toArray, List.set_cons_zero, List.set_cons_succ])
          refine wpAnyH_take (i := 1) (oi := { dst := some 19, op := Op.binOp BinOp.lss 3 (Operand.tmp 18) (Operand.const (Value.int IntKind.i64 0)) 3, type := 4, pos := _, after := #[{ on := 0, ground := Ground.data }], guard := none }) (v := ?_) rfl (by kernel_rfl) (by kernel_rfl) (by kernel_rfl) (fun _ _ _ h => h) (Or.inl ⟨by rfl, ?hy⟩) hHeld ?_
          case hy => intro w0 hSw; clear hSw; go_simp; (try rw [ik]); (try with_reducible rfl)
          (try simp only [Act.put, List.setIfInBounds_toArray, List.set_cons_zero, List.set_cons_succ])
          refine wpAnyH_take (i := 2) (oi := { dst := some 20, op := Op.move (Operand.tmp 19), type := 4, pos := _, after := #[{ on := 1, ground := Ground.data }], guard := none }) (v := ?_) rfl (by kernel_rfl) (by kernel_rfl) (by kernel_rfl) (fun _ _ _ h => h) (Or.inl ⟨by rfl, ?hy⟩) hHeld ?_
          case hy => intro w0 hSw; (try dsimp only at hSw); go_simp; (try with_reducible rfl)
          (try simp only [Act.put, List.setIfInBounds_toArray, List.set_cons_zero, List.set_cons_succ])
          refine wpAnyH_take (i := 3) (oi := { dst := some 21, op := Op.move (Operand.tmp 4), type := 22, pos := _, after := #[{ on := 2, ground := Ground.guard }], guard := some (2, false) }) (v := ?_) rfl (by kernel_rfl) (by kernel_rfl) (by kernel_rfl) (fun _ _ _ h => h) (Or.inl ⟨by rfl, ?hy⟩) hHeld ?_
          case hy => intro w0 hSw; (try dsimp only at hSw); go_simp; (try with_reducible rfl)
          (try simp only [Act.put, List.setIfInBounds_toArray, List.set_cons_zero, List.set_cons_succ])
          refine wpAnyH_take (i := 4) (oi := { dst := some 22, op := Op.move (Operand.tmp 6), type := 3, pos := _, after := #[{ on := 2, ground := Ground.guard }], guard := some (2, false) }) (v := ?_) rfl (by kernel_rfl) (by kernel_rfl) (by kernel_rfl) (fun _ _ _ h => h) (Or.inl ⟨by rfl, ?hy⟩) hHeld ?_
          case hy => intro w0 hSw; (try dsimp only at hSw); go_simp; (try with_reducible rfl)
          (try simp only [Act.put, List.setIfInBounds_toArray, List.set_cons_zero, List.set_cons_succ])
          refine wpAnyH_take (i := 5) (oi := { dst := some 23, op := Op.indexAddr 22 (Operand.tmp 21) (Operand.tmp 22), type := 0, pos := _, after := #[{ on := 3, ground := Ground.data }, { on := 4, ground := Ground.data }, { on := 2, ground := Ground.guard }], guard := some (2, false) }) (v := ?_) rfl (by kernel_rfl) (by kernel_rfl) (by kernel_rfl) (fun _ _ _ h => h) (Or.inl ⟨by rfl, ?hy⟩) hHeld ?_
          case hy => intro w0 hSw; (try dsimp only at hSw); go_simp; (try with_reducible rfl)
          (try simp only [Act.put, List.setIfInBounds_toArray, List.set_cons_zero, List.set_cons_succ])
          refine wpAnyH_take (i := 6) (oi := { dst := some 24, op := Op.load 32 (Operand.tmp 23), type := 32, pos := _, after := #[{ on := 5, ground := Ground.data }, { on := 2, ground := Ground.guard }], guard := some (2, false) }) (v := ?_) rfl (by kernel_rfl) (by kernel_rfl) (by kernel_rfl) (fun _ _ _ h => h) (Or.inl ⟨by rfl, ?hy⟩) hHeld ?_
          case hy => intro w0 hSw; have d0 := hSw.1.c0; have d1 := hSw.1.c1; have d2 := hSw.1.c2; clear hSw; dsimp only at d0 d1 d2; go_simp; (try with_reducible rfl)
          (try simp only [Act.put, List.setIfInBounds_toArray, List.set_cons_zero, List.set_cons_succ])
          refine wpAnyH_take (i := 7) (oi := { dst := some 25, op := Op.build 48 #[(0, Operand.tmp 24)], type := 48, pos := _, after := #[{ on := 6, ground := Ground.data }, { on := 2, ground := Ground.guard }], guard := some (2, false) }) (v := ?_) rfl (by kernel_rfl) (by kernel_rfl) (by kernel_rfl) (fun _ _ _ h => h) (Or.inl ⟨by rfl, ?hy⟩) hHeld ?_
          case hy => intro w0 hSw; (try dsimp only at hSw); go_simp; (try with_reducible rfl)
          (try simp only [Act.put, List.setIfInBounds_toArray, List.set_cons_zero, List.set_cons_succ])
          refine wpAnyH_take (i := 8) (oi := { dst := some 26, op := Op.move (Operand.tmp 5), type := 44, pos := _, after := #[{ on := 2, ground := Ground.guard }], guard := some (2, false) }) (v := ?_) rfl (by kernel_rfl) (by kernel_rfl) (by kernel_rfl) (fun _ _ _ h => h) (Or.inl ⟨by rfl, ?hy⟩) hHeld ?_
          case hy => intro w0 hSw; (try dsimp only at hSw); go_simp; (try with_reducible rfl)
          (try simp only [Act.put, List.setIfInBounds_toArray, List.set_cons_zero, List.set_cons_succ])
          refine wpAnyH_take (i := 9) (oi := { dst := some 27, op := Op.nilCheck (Operand.tmp 26), type := 0, pos := _, after := #[{ on := 8, ground := Ground.data }, { on := 2, ground := Ground.guard }], guard := some (2, false) }) (v := ?_) rfl (by kernel_rfl) (by kernel_rfl) (by kernel_rfl) (fun _ _ _ h => h) (Or.inl ⟨by rfl, ?hy⟩) hHeld ?_
          case hy => intro w0 hSw; (try dsimp only at hSw); go_simp; (try with_reducible rfl)
          (try simp only [Act.put, List.setIfInBounds_toArray, List.set_cons_zero, List.set_cons_succ])
          refine wpAnyH_take (i := 10) (oi := { dst := some 28, op := Op.fieldAddr 50 (Operand.tmp 27) 0, type := 0, pos := _, after := #[{ on := 9, ground := Ground.data }, { on := 2, ground := Ground.guard }], guard := some (2, false) }) (v := ?_) rfl (by kernel_rfl) (by kernel_rfl) (by kernel_rfl) (fun _ _ _ h => h) (Or.inl ⟨by rfl, ?hy⟩) hHeld ?_
          case hy => intro w0 hSw; (try dsimp only at hSw); go_simp; (try with_reducible rfl)
          (try simp only [Act.put, List.setIfInBounds_toArray, List.set_cons_zero, List.set_cons_succ])
          refine wpAnyH_take (i := 11) (oi := { dst := some 29, op := Op.fieldAddr 48 (Operand.tmp 28) 0, type := 0, pos := _, after := #[{ on := 10, ground := Ground.data }, { on := 2, ground := Ground.guard }], guard := some (2, false) }) (v := ?_) rfl (by kernel_rfl) (by kernel_rfl) (by kernel_rfl) (fun _ _ _ h => h) (Or.inl ⟨by rfl, ?hy⟩) hHeld ?_
          case hy => intro w0 hSw; (try dsimp only at hSw); go_simp; (try with_reducible rfl)
          (try simp only [Act.put, List.setIfInBounds_toArray, List.set_cons_zero, List.set_cons_succ])
          refine wpAnyH_take (i := 12) (oi := { dst := some 30, op := Op.load 32 (Operand.tmp 29), type := 32, pos := _, after := #[{ on := 11, ground := Ground.data }, { on := 2, ground := Ground.guard }], guard := some (2, false) }) (v := ?_) rfl (by kernel_rfl) (by kernel_rfl) (by kernel_rfl) (fun _ _ _ h => h) (Or.inl ⟨by rfl, ?hy⟩) hHeld ?_
          case hy => intro w0 hSw; have d0 := hSw.2.c0; have d1 := hSw.2.c1; have d2 := hSw.2.c2; clear hSw; dsimp only at d0 d1 d2; go_simp; (try with_reducible rfl)
          (try simp only [Act.put, List.setIfInBounds_toArray, List.set_cons_zero, List.set_cons_succ])
          refine wpAnyH_ready (rs := [13]) (by kernel_rfl) (by simp) ?_
          refine AllReadyH.cons (o := { dst := some 31, op := Op.call { callee := Callee.value (Operand.func 36), args := #[Operand.tmp 25, Operand.tmp 30], argTypes := #[48, 32] }, type := 4, pos := _, after := #[{ on := 7, ground := Ground.data }, { on := 12, ground := Ground.data }, { on := 2, ground := Ground.chain }, { on := 2, ground := Ground.guard }], guard := some (2, false) }) rfl (fun K hK => ?_) AllReadyH.nil
          go_simp
          refine (kE _).mono ?_
          rintro e w6 ⟨rfl, hB'⟩
          replace hS : Wi3 w6 g2 (k * 3) ⟨v0, v1, v2⟩ ∧ Wi3 w6 g 0 ⟨y0, y1, y2⟩ := ⟨hS.1.below hB' Hlt.out, hS.2.below hB' Hgl.out⟩
          have HB3 := Lib.hid hB'
          clear hB'
          go_wp2_with fail
          refine hK.out _ _ hS (fun hHeld => ?_)
          clear hK K
          (try simp only [Act.put, List.setIfInBounds_toArray, List.set_cons_zero, List.set_cons_succ])
          refine wpAnyH_take (i := 14) (oi := { dst := some 32, op := Op.pick (Operand.tmp 20) (Operand.const (Value.bool true)) (Operand.tmp 31), type := 4, pos := _, after := #[{ on := 2, ground := Ground.data }, { on := 13, ground := Ground.data }], guard := none }) (v := ?_) rfl (by kernel_rfl) (by kernel_rfl) (by kernel_rfl) (fun _ _ _ h => h) (Or.inl ⟨by rfl, ?hy⟩) hHeld ?_
          case hy => intro w0 hSw; (try dsimp only at hSw); go_simp; (try with_reducible rfl)
          (try simp only [Act.put, List.setIfInBounds_toArray, List.set_cons_zero, List.set_cons_succ])
          refine wpAnyH_done (by kernel_rfl) ?_ _
          clear hHeld hS
          have HW6 := Lib.hid (HW2.out.on (below2 HB0.out HB3.out))
          have HO6 := Lib.hid (HO2.out.below (below2 HB0.out HB3.out))
          clear HW2 HO2 HB3 HB0 kE
          have c0 := HW6.out.walk.c0
          have c1 := HW6.out.walk.c1
          have c2 := HW6.out.walk.c2
          simp only at c0 c1 c2
          have ON := Lib.hid (WinsAt.one w6 y0 y1 y2 32)
          have HBn := Lib.hid (below_new w6 (.cells #[.int .i64 y0, .int .i64 y1, .int .i64 y2] 32))
          have HOn := Lib.hid (HO6.out.below HBn.out)
          have Hgs : Hid (g + 1 ≤ w6.heap.size) := Lib.hid HW6.out.walk.lt
          go_wp2_with (at_builtin; go_loud (refine wpList_append_wins rfl _ _ 22 rfl Try.underlying22 (g + 1) _ (pre ++ [(⟨v0, v1, v2⟩ : Win)]) [(⟨y0, y1, y2⟩ : Win)] rfl HOn.out (some ⟨w6.heap.size, 0, none⟩) 1 _ rfl rfl ON.out (fun e => nomatch e) (Nat.le_trans Hgs.out HBn.out.size) (by have h := Hn.out; simp at h ⊢; try omega) ?_; intro v' w5 hown' hgrow; obtain ⟨A5, c5, rfl, _⟩ := hown'.slice; obtain ⟨m5, hm5⟩ : ∃ m5, m5 = ((pre ++ [(⟨v0, v1, v2⟩ : Win)]) ++ [(⟨y0, y1, y2⟩ : Win)]).length := ⟨_, rfl⟩; rw [← hm5] at hown' ⊢; have Hm5 := Lib.hid hm5; have HO5 := Lib.hid hown'; have HB5 : Hid (Below (g + 1) w6 w5) := Lib.hid ((HBn.out.mono Hgs.out).grown hgrow (Nat.le_trans Hgs.out HBn.out.size) (fun k hk => HOn.out.ge k hk)); clear hm5 hown' hgrow))
          have HW5 := Lib.hid (HW6.out.off Hg.out HB5.out)
          go_roundw
          case rel => exact ⟨(pre ++ [⟨v0, v1, v2⟩]) ++ [⟨y0, y1, y2⟩], rest, _, A5, m5, c5, rfl, Hm5, HO5, HW5, Hf2, Lib.hid (by have h := Hn.out; simp at h ⊢; omega)⟩
          case measure => rw [Hm.out, HW5.out.walk.n]; omega
        · rw [decide_eq_false hbf] at kE
          obtain ⟨t, ht⟩ : ∃ t, max v2 y2 = t := ⟨_, rfl⟩
          have Hf2 : Hid (rest.foldl Mu.joinS (pre ++ [⟨v0, v1, t⟩]) = Mu.joinL s) := Lib.hid (by
            have := Hf.out
            rw [List.foldl_cons, Mu.joinS_near (v := ⟨v0, v1, v2⟩) (by simp) hbf, List.dropLast_concat] at this
            rw [← ht]; exact this)
          clear hbf Hf
          go_wp2_with fail
          refine wp_region_held_drew (S := (fun W : World => Wi3 W g2 (k * 3) ⟨v0, v1, v2⟩ ∧ Wi3 W g 0 ⟨y0, y1, y2⟩)) (by kernel_rfl) hS (fun hHeld => ?_)
          refine wpAnyH_take (i := 0) (oi := { dst := some 18, op := Op.move (Operand.tmp 6), type := 3, pos := _, after := #[], guard := none }) (v := ?_) rfl (by kernel_rfl) (by kernel_rfl) (by kernel_rfl) (fun _ _ _ h => h) (Or.inl ⟨by rfl, ?hy⟩) hHeld ?_
          case hy => intro w0 hSw; (try dsimp only at hSw); go_simp; (try with_reducible rfl)
          (try simp only [Act.put, List.setIfInBounds_toArray, List.set_cons_zero, List.set_cons_succ])
          refine wpAnyH_take (i := 1) (oi := { dst := some 19, op := Op.binOp BinOp.lss 3 (Operand.tmp 18) (Operand.const (Value.int IntKind.i64 0)) 3, type := 4, pos := _, after := #[{ on := 0, ground := Ground.data }], guard := none }) (v := ?_) rfl (by kernel_rfl) (by kernel_rfl) (by kernel_rfl) (fun _ _ _ h => h) (Or.inl ⟨by rfl, ?hy⟩) hHeld ?_
          case hy => intro w0 hSw; clear hSw; go_simp; (try rw [ik]); (try with_reducible rfl)
          (try simp only [Act.put, List.setIfInBounds_toArray, List.set_cons_zero, List.set_cons_succ])
          refine wpAnyH_take (i := 2) (oi := { dst := some 20, op := Op.move (Operand.tmp 19), type := 4, pos := _, after := #[{ on := 1, ground := Ground.data }], guard := none }) (v := ?_) rfl (by kernel_rfl) (by kernel_rfl) (by kernel_rfl) (fun _ _ _ h => h) (Or.inl ⟨by rfl, ?hy⟩) hHeld ?_
          case hy => intro w0 hSw; (try dsimp only at hSw); go_simp; (try with_reducible rfl)
          (try simp only [Act.put, List.setIfInBounds_toArray, List.set_cons_zero, List.set_cons_succ])
          refine wpAnyH_take (i := 3) (oi := { dst := some 21, op := Op.move (Operand.tmp 4), type := 22, pos := _, after := #[{ on := 2, ground := Ground.guard }], guard := some (2, false) }) (v := ?_) rfl (by kernel_rfl) (by kernel_rfl) (by kernel_rfl) (fun _ _ _ h => h) (Or.inl ⟨by rfl, ?hy⟩) hHeld ?_
          case hy => intro w0 hSw; (try dsimp only at hSw); go_simp; (try with_reducible rfl)
          (try simp only [Act.put, List.setIfInBounds_toArray, List.set_cons_zero, List.set_cons_succ])
          refine wpAnyH_take (i := 4) (oi := { dst := some 22, op := Op.move (Operand.tmp 6), type := 3, pos := _, after := #[{ on := 2, ground := Ground.guard }], guard := some (2, false) }) (v := ?_) rfl (by kernel_rfl) (by kernel_rfl) (by kernel_rfl) (fun _ _ _ h => h) (Or.inl ⟨by rfl, ?hy⟩) hHeld ?_
          case hy => intro w0 hSw; (try dsimp only at hSw); go_simp; (try with_reducible rfl)
          (try simp only [Act.put, List.setIfInBounds_toArray, List.set_cons_zero, List.set_cons_succ])
          refine wpAnyH_take (i := 5) (oi := { dst := some 23, op := Op.indexAddr 22 (Operand.tmp 21) (Operand.tmp 22), type := 0, pos := _, after := #[{ on := 3, ground := Ground.data }, { on := 4, ground := Ground.data }, { on := 2, ground := Ground.guard }], guard := some (2, false) }) (v := ?_) rfl (by kernel_rfl) (by kernel_rfl) (by kernel_rfl) (fun _ _ _ h => h) (Or.inl ⟨by rfl, ?hy⟩) hHeld ?_
          case hy => intro w0 hSw; (try dsimp only at hSw); go_simp; (try with_reducible rfl)
          (try simp only [Act.put, List.setIfInBounds_toArray, List.set_cons_zero, List.set_cons_succ])
          refine wpAnyH_take (i := 6) (oi := { dst := some 24, op := Op.load 32 (Operand.tmp 23), type := 32, pos := _, after := #[{ on := 5, ground := Ground.data }, { on := 2, ground := Ground.guard }], guard := some (2, false) }) (v := ?_) rfl (by kernel_rfl) (by kernel_rfl) (by kernel_rfl) (fun _ _ _ h => h) (Or.inl ⟨by rfl, ?hy⟩) hHeld ?_
          case hy => intro w0 hSw; have d0 := hSw.1.c0; have d1 := hSw.1.c1; have d2 := hSw.1.c2; clear hSw; dsimp only at d0 d1 d2; go_simp; (try with_reducible rfl)
          (try simp only [Act.put, List.setIfInBounds_toArray, List.set_cons_zero, List.set_cons_succ])
          refine wpAnyH_take (i := 7) (oi := { dst := some 25, op := Op.build 48 #[(0, Operand.tmp 24)], type := 48, pos := _, after := #[{ on := 6, ground := Ground.data }, { on := 2, ground := Ground.guard }], guard := some (2, false) }) (v := ?_) rfl (by kernel_rfl) (by kernel_rfl) (by kernel_rfl) (fun _ _ _ h => h) (Or.inl ⟨by rfl, ?hy⟩) hHeld ?_
          case hy => intro w0 hSw; (try dsimp only at hSw); go_simp; (try with_reducible rfl)
          (try simp only [Act.put, List.setIfInBounds_toArray, List.set_cons_zero, List.set_cons_succ])
          refine wpAnyH_take (i := 8) (oi := { dst := some 26, op := Op.move (Operand.tmp 5), type := 44, pos := _, after := #[{ on := 2, ground := Ground.guard }], guard := some (2, false) }) (v := ?_) rfl (by kernel_rfl) (by kernel_rfl) (by kernel_rfl) (fun _ _ _ h => h) (Or.inl ⟨by rfl, ?hy⟩) hHeld ?_
          case hy => intro w0 hSw; (try dsimp only at hSw); go_simp; (try with_reducible rfl)
          (try simp only [Act.put, List.setIfInBounds_toArray, List.set_cons_zero, List.set_cons_succ])
          refine wpAnyH_take (i := 9) (oi := { dst := some 27, op := Op.nilCheck (Operand.tmp 26), type := 0, pos := _, after := #[{ on := 8, ground := Ground.data }, { on := 2, ground := Ground.guard }], guard := some (2, false) }) (v := ?_) rfl (by kernel_rfl) (by kernel_rfl) (by kernel_rfl) (fun _ _ _ h => h) (Or.inl ⟨by rfl, ?hy⟩) hHeld ?_
          case hy => intro w0 hSw; (try dsimp only at hSw); go_simp; (try with_reducible rfl)
          (try simp only [Act.put, List.setIfInBounds_toArray, List.set_cons_zero, List.set_cons_succ])
          refine wpAnyH_take (i := 10) (oi := { dst := some 28, op := Op.fieldAddr 50 (Operand.tmp 27) 0, type := 0, pos := _, after := #[{ on := 9, ground := Ground.data }, { on := 2, ground := Ground.guard }], guard := some (2, false) }) (v := ?_) rfl (by kernel_rfl) (by kernel_rfl) (by kernel_rfl) (fun _ _ _ h => h) (Or.inl ⟨by rfl, ?hy⟩) hHeld ?_
          case hy => intro w0 hSw; (try dsimp only at hSw); go_simp; (try with_reducible rfl)
          (try simp only [Act.put, List.setIfInBounds_toArray, List.set_cons_zero, List.set_cons_succ])
          refine wpAnyH_take (i := 11) (oi := { dst := some 29, op := Op.fieldAddr 48 (Operand.tmp 28) 0, type := 0, pos := _, after := #[{ on := 10, ground := Ground.data }, { on := 2, ground := Ground.guard }], guard := some (2, false) }) (v := ?_) rfl (by kernel_rfl) (by kernel_rfl) (by kernel_rfl) (fun _ _ _ h => h) (Or.inl ⟨by rfl, ?hy⟩) hHeld ?_
          case hy => intro w0 hSw; (try dsimp only at hSw); go_simp; (try with_reducible rfl)
          (try simp only [Act.put, List.setIfInBounds_toArray, List.set_cons_zero, List.set_cons_succ])
          refine wpAnyH_take (i := 12) (oi := { dst := some 30, op := Op.load 32 (Operand.tmp 29), type := 32, pos := _, after := #[{ on := 11, ground := Ground.data }, { on := 2, ground := Ground.guard }], guard := some (2, false) }) (v := ?_) rfl (by kernel_rfl) (by kernel_rfl) (by kernel_rfl) (fun _ _ _ h => h) (Or.inl ⟨by rfl, ?hy⟩) hHeld ?_
          case hy => intro w0 hSw; have d0 := hSw.2.c0; have d1 := hSw.2.c1; have d2 := hSw.2.c2; clear hSw; dsimp only at d0 d1 d2; go_simp; (try with_reducible rfl)
          (try simp only [Act.put, List.setIfInBounds_toArray, List.set_cons_zero, List.set_cons_succ])
          refine wpAnyH_ready (rs := [13]) (by kernel_rfl) (by simp) ?_
          refine AllReadyH.cons (o := { dst := some 31, op := Op.call { callee := Callee.value (Operand.func 36), args := #[Operand.tmp 25, Operand.tmp 30], argTypes := #[48, 32] }, type := 4, pos := _, after := #[{ on := 7, ground := Ground.data }, { on := 12, ground := Ground.data }, { on := 2, ground := Ground.chain }, { on := 2, ground := Ground.guard }], guard := some (2, false) }) rfl (fun K hK => ?_) AllReadyH.nil
          go_simp
          refine (kE _).mono ?_
          rintro e w6 ⟨rfl, hB'⟩
          replace hS : Wi3 w6 g2 (k * 3) ⟨v0, v1, v2⟩ ∧ Wi3 w6 g 0 ⟨y0, y1, y2⟩ := ⟨hS.1.below hB' Hlt.out, hS.2.below hB' Hgl.out⟩
          have HB3 := Lib.hid hB'
          clear hB'
          go_wp2_with fail
          refine hK.out _ _ hS (fun hHeld => ?_)
          clear hK K
          (try simp only [Act.put, List.setIfInBounds_toArray, List.set_cons_zero, List.set_cons_succ])
          refine wpAnyH_take (i := 14) (oi := { dst := some 32, op := Op.pick (Operand.tmp 20) (Operand.const (Value.bool true)) (Operand.tmp 31), type := 4, pos := _, after := #[{ on := 2, ground := Ground.data }, { on := 13, ground := Ground.data }], guard := none }) (v := ?_) rfl (by kernel_rfl) (by kernel_rfl) (by kernel_rfl) (fun _ _ _ h => h) (Or.inl ⟨by rfl, ?hy⟩) hHeld ?_
          case hy => intro w0 hSw; (try dsimp only at hSw); go_simp; (try with_reducible rfl)
          (try simp only [Act.put, List.setIfInBounds_toArray, List.set_cons_zero, List.set_cons_succ])
          refine wpAnyH_done (by kernel_rfl) ?_ _
          clear hHeld hS
          have HW6 := Lib.hid (HW2.out.on (below2 HB0.out HB3.out))
          have HO6 := Lib.hid (HO2.out.below (below2 HB0.out HB3.out))
          clear HW2 HO2 HB3 HB0 kE
          have c2 := HW6.out.walk.c2
          simp only at c2
          obtain ⟨g3, e3, _, _, _, h3, hf⟩ := HO6.out.last
          cases e3
          rw [← Hk.out] at h3 hf
          have d2 := h3.c2
          dsimp only at d2
          clear h3
          have HO7 : Hid (OwnW (w6.setCell ⟨g2, k * 3 + 2, none⟩ (.int .i64 t)).drew (g + 1) (.slice (some ⟨g2, 0, none⟩) (k + 1) c') (pre ++ [⟨v0, v1, t⟩])) := Lib.hid (by have h := HO6.out.setTo t; rw [← Hk.out] at h; exact h.below (below_drew (Below.refl _ _) 1))
          have HB7 : Hid (Below (g + 1) w6 (w6.setCell ⟨g2, k * 3 + 2, none⟩ (.int .i64 t)).drew) := Lib.hid (below_drew (below_setCell9 w6 Hb2.out) 1)
          have HW7 := Lib.hid (HW6.out.off Hg.out HB7.out)
          clear HO6
          go_wp2_with fail
          go_region
          go_wp2
          go_roundw
          case rel => exact ⟨pre ++ [⟨v0, v1, t⟩], rest, _, some ⟨g2, 0, none⟩, k + 1, c', rfl, Lib.hid (by rw [Hk.out]; simp), HO7, HW7, Hf2, Lib.hid (by have h := Hn.out; simp at h ⊢; omega)⟩
          case measure => rw [Hm.out, HW7.out.walk.n]; omega
end Go.Proofs.Ythbkfjnpdcfepaa
