/-
  Layer 10 (mute): what cuts leave of windows.
-/
import Derived.Test.YthbkfjnpdcfepaaMuteE
namespace Go.Proofs.Ythbkfjnpdcfepaa
set_option maxRecDepth 10000
open Go.RowKit

theorem WinsAt.tail1 {w : World} {B b off c : Nat} {y : Win} {ls : List Win} (h : WinsAt w B (some ⟨b, off, none⟩) (y :: ls)) (hr : ls.length + 1 ≤ c) :
    WinsAt w B (if c = 1 then some ⟨b, off, none⟩ else some ⟨b, off + 3, none⟩) ls ∧ Roomy (if c = 1 then some ⟨b, off, none⟩ else some ⟨b, off + 3, none⟩) ls (c - 1) := by
  refine ⟨?_, fun e => ?_, by omega⟩
  · by_cases hc : c = 1
    · have hl : ls = [] := List.length_eq_zero_iff.1 (by omega)
      rw [hl]
      exact WinsAt.nil _ _ _
    · rw [if_neg hc]
      have k := h.drop 1
      rw [List.drop_one, List.tail_cons] at k
      exact k
  · split at e <;> cases e
def sliceN (v : Value) : Nat := match v with | .slice _ n _ => n | _ => 0

set_option maxHeartbeats 4000000 in
theorem mleft_any (A0 B0 : Option Addr) (l c k d : Nat) (ls cs : List Win) (w : World) (hl : l = ls.length) (hA : WinsAt w w.heap.size A0 ls) (hr : Roomy A0 ls c) (hk : k = cs.length) (hB : WinsAt w w.heap.size B0 cs) (hs : Roomy B0 cs d) (h100 : l ≤ 100) (h1000 : k ≤ 1000) :
    Calls Try.prog 26 #[.slice A0 l c, .slice B0 k d] w fun e w' => ∃ A c' m, m = (Mu.leftL ls cs).length ∧ e = .returned (.slice A m c') ∧ OwnW w' w.heap.size (.slice A m c') (Mu.leftL ls cs) ∧ Below w.heap.size w w' := by
  obtain ⟨out, hout⟩ : ∃ out, out = Mu.leftL ls cs := ⟨_, rfl⟩
  rw [← hout]
  have Hout : Hid ([] ++ Mu.leftL ls cs = out) := Lib.hid (by rw [hout]; rfl)
  have Hl := Lib.hid hl
  have Hb := Lib.hid h100
  have HC0 := Lib.hid hB
  have Hr0 := Lib.hid hs
  have Hk0 := Lib.hid hk
  have Hc0 : Hid (cs.length ≤ 1000) := Lib.hid (by omega)
  have H0 := Lib.hid (Going.begin (Below.refl w.heap.size w) hA hr)
  rw [← hl] at H0
  have T := through_any A0 l c w
  obtain ⟨g, hg⟩ : ∃ g, g = w.heap.size := ⟨_, rfl⟩
  have Hg : Hid (w.heap.size ≤ g) := Lib.hid (by omega)
  rw [← hg] at H0 T
  clear hout hl hA hr hk hB hs h100 h1000 hg
  go_enter Try.func26, Try.ntmps26
  go_wp2_with fail
  refine T.mono ?_
  rintro e w3 ⟨rfl, hw3⟩
  rw [← hw3] at H0
  clear hw3 T
  go_wp2_with fail
  go_loopw [1, 5] (fun z1 z wr => ∃ cuts A1 l1 c1 all rest x A m c', z1 = .slice A1 l1 c1 ∧ z = .slice A m c' ∧ Hid (l1 = cuts.length) ∧ Hid (WinsAt w w.heap.size A1 cuts) ∧ Hid (Roomy A1 cuts c1) ∧ Hid (cuts.length ≤ 1000) ∧ Hid (m = all.length) ∧ Hid (OwnW wr (g + 1) (.slice A m c') all) ∧ Hid (Going w g rest x wr) ∧ Hid (all ++ Mu.leftL rest cuts = out) ∧ Hid (all.length + rest.length * 1001 ≤ 100100)) (fun _ _ wr => behindN wr g)
  case atStart => exact ⟨cs, B0, k, d, [], ls, ⟨0, 0, 0⟩, none, 0, 0, rfl, rfl, Hk0, HC0, Hr0, Hc0, Lib.hid rfl, Lib.hid (OwnW.nil _ _), H0, Hout, Lib.hid (by have := Hl.out; have := Hb.out; simp only [List.length_nil]; omega)⟩
  case round =>
    clear H0 HC0 Hr0 Hc0 Hk0 Hout
    obtain ⟨cuts, A1, l1, c1, all, rest, x, A, m, c', rfl, rfl, Hl1, HC, Hr1, Hcl, Hml, HO, HW, Hf, Hn⟩ := hrel
    cases rest with
    | nil =>
      have Hf2 : Hid (all = out) := Lib.hid (by have := Hf.out; unfold Mu.leftL at this; rwa [List.append_nil] at this)
      rw [Hf2.out] at HO Hml
      clear Hf Hn
      go_wp2_with fail
      refine (next_end g x wr HW.out.walk).mono ?_
      rintro e w4 ⟨rfl, rfl⟩
      go_wp2
      go_ret
      exact ⟨A, c', m, Hml.out, rfl, HO.out.lower (Nat.le_succ_of_le Hg.out), HW.out.below⟩
    | cons y rest =>
      go_wp2_with fail
      refine (next_on g x y rest wr HW.out.walk).mono ?_
      rintro e w4 ⟨rfl, hw, hgr⟩
      have HW2 := Lib.hid (HW.out.next Hg.out hw hgr)
      have HO2 := Lib.hid (HO.out.aside hgr (Nat.lt_succ_self g))
      have Hmm : Hid (behindN wr g = rest.length + 1) := Lib.hid HW.out.walk.n
      clear hw hgr HW HO
      obtain ⟨y0, y1, y2⟩ := y
      have Hf1 : Hid (all ++ (Mu.wo ⟨y0, y1, y2⟩ (Mu.dropB ⟨y0, y1, y2⟩ cuts) ++ Mu.leftL rest (Mu.dropB ⟨y0, y1, y2⟩ cuts)) = out) := Lib.hid Hf.out
      clear Hf
      go_wp2_with fail
      obtain ⟨wo, hwo⟩ : ∃ W, W = wr := ⟨_, rfl⟩
      subst hwo
      go_loopw [1] (fun z1 wr => ∃ cuts A1 l1 c1, z1 = .slice A1 l1 c1 ∧ Hid (l1 = cuts.length) ∧ Hid (WinsAt w w.heap.size A1 cuts) ∧ Hid (Roomy A1 cuts c1) ∧ Hid (cuts.length ≤ 1000) ∧ Hid (OwnW wr (g + 1) (.slice A m c') all) ∧ Hid (Going w g rest ⟨y0, y1, y2⟩ wr) ∧ Hid (all ++ (Mu.wo ⟨y0, y1, y2⟩ (Mu.dropB ⟨y0, y1, y2⟩ cuts) ++ Mu.leftL rest (Mu.dropB ⟨y0, y1, y2⟩ cuts)) = out)) (fun z1 _ => sliceN z1)
      case atStart => exact ⟨cuts, A1, l1, c1, rfl, Hl1, HC, Hr1, Hcl, HO2, HW2, Hf1⟩
      case round =>
        clear Hl1 HC Hr1 Hcl HO2 HW2 Hf1
        obtain ⟨cuts, A1, l1, c1, rfl, Hl1, HC, Hr1, Hcl, HOi, HWi, Hf1⟩ := hrel
        obtain ⟨wi, hwi⟩ : ∃ W, W = wr := ⟨_, rfl⟩
        rw [← hwi] at HOi HWi ⊢
        clear hwi
        cases cuts with
        | nil =>
          obtain rfl : l1 = 0 := Hl1.out
          have Hd : Hid (all ++ (Mu.wo ⟨y0, y1, y2⟩ [] ++ Mu.leftL rest []) = out) := Lib.hid Hf1.out
          clear Hf1
          go_wp2_with fail
          go_quiet (fail)
          obtain ⟨W5, hW5⟩ : ∃ W, W = wi.drewN nq := ⟨_, rfl⟩
          have HB5 : Hid (Below wi.heap.size wi W5) := Lib.hid (by rw [hW5]; exact below_drew (Below.refl _ _) nq)
          rw [← hW5]
          clear hW5
          have HW5 := Lib.hid (HWi.out.on HB5.out)
          have HO5 := Lib.hid (HOi.out.below HB5.out)
          clear HWi HOi
          obtain ⟨ww, hww⟩ : ∃ ww, ww = Mu.wo ⟨y0, y1, y2⟩ [] := ⟨_, rfl⟩
          have Hww : Hid (all ++ ww ++ Mu.leftL rest [] = out) := Lib.hid (by rw [List.append_assoc, hww]; exact Hd.out)
          have Hwl : Hid (ww.length ≤ 1001) := Lib.hid (by rw [hww]; have h := Mu.wo_len [] ⟨y0, y1, y2⟩; have := Hcl.out; omega)
          have kW := mwithout_any y0 y1 y2 A1 0 c1 [] W5 Hl1.out ((HC.out.below HW5.out.below (Nat.le_refl _)).more HW5.out.below.size) Hr1.out (by have := Hcl.out; have := Hl1.out; omega)
          rw [← hww] at kW
          clear hww
          have c0 := HW5.out.walk.c0
          have c1x := HW5.out.walk.c1
          have c2 := HW5.out.walk.c2
          simp only at c0 c1x c2
          go_wp2_with fail
          refine kW.mono ?_
          rintro e w8 ⟨A8, c8, m8, hm8, rfl, hO8, hB8⟩
          have Hm8 := Lib.hid hm8
          have HW8 := Lib.hid (HW5.out.on hB8)
          have HO8 := Lib.hid (HO5.out.below hB8)
          have HX8 := Lib.hid hO8.rows
          clear hm8 hO8 hB8 kW c0 c1x c2
          go_wp2_with (at_builtin; refine wpList_append_wins rfl _ _ 22 rfl Try.underlying22 (g + 1) _ all ww rfl HO8.out A8 _ c8 rfl Hm8.out HX8.out.1 HX8.out.2.1 HW8.out.walk.lt (by have h := Hn.out; have := Hwl.out; have := Hml.out; simp only [List.length_cons] at h; omega) ?_; intro v' w9 hown' hgrow; obtain ⟨A9, c9, rfl, _⟩ := hown'.slice; obtain ⟨m9, hm9⟩ : ∃ m9, m9 = (all ++ ww).length := ⟨_, rfl⟩; rw [← hm9] at hown' ⊢; have Hm9 := Lib.hid hm9; have HO9 := Lib.hid hown'; have HB9 : Hid (Below (g + 1) w8 w9) := Lib.hid ((Below.refl _ _).grown hgrow HW8.out.walk.lt (fun k hk => HO8.out.ge k hk)); clear hm9 hown' hgrow)
          have HW9 := Lib.hid (HW8.out.off Hg.out HB9.out)
          go_roundw
          case rel => exact ⟨[], A1, 0, c1, all ++ ww, rest, _, A9, m9, c9, rfl, rfl, Hl1, HC, Hr1, Hcl, Hm9, HO9, HW9, Hww, Lib.hid (by have h := Hn.out; have := Hwl.out; simp only [List.length_cons, List.length_append] at h ⊢; omega)⟩
          case measure => rw [Hmm.out, HW9.out.walk.n]; omega
        | cons z cuts =>
          obtain ⟨z0, z1, z2⟩ := z
          obtain ⟨b2, o2, hA1, hb2, h3⟩ := HC.out 0 (by simp)
          subst hA1
          have e0 : o2 + 0 * 3 = o2 := by omega
          rw [e0] at h3
          simp only [List.getElem_cons_zero] at h3
          have Hb2 := Lib.hid hb2
          obtain ⟨n1, hn1⟩ : ∃ n1, n1 = cuts.length := ⟨_, rfl⟩
          obtain rfl : l1 = n1 + 1 := by have := Hl1.out; rw [List.length_cons, ← hn1] at this; exact this
          have Hn1 := Lib.hid hn1
          have hS : Wi3 wi.drew g 0 ⟨y0, y1, y2⟩ ∧ Wi3 wi.drew b2 o2 ⟨z0, z1, z2⟩ := ⟨HWi.out.walk.wi.drew, (h3.below HWi.out.below hb2).drew⟩
          have i0 : (0 : Int) < (n1 : Int) + 1 := by omega
          have i1 : ((n1 : Int) + 1 > 0) = True := eq_true (by omega)
          have i2 : 0 < n1 + 1 := by omega
          have i4 : (1 : Int) ≤ (n1 : Int) + 1 := by omega
          clear hn1 hb2 h3 e0
          have kB := fun W => isBehind_any y0 y1 y2 z0 z1 z2 W
          by_cases hbe : Mu.behind ⟨y0, y1, y2⟩ ⟨z0, z1, z2⟩
          · rw [decide_eq_true hbe] at kB
            have Hd : Hid (all ++ (Mu.wo ⟨y0, y1, y2⟩ (Mu.dropB ⟨y0, y1, y2⟩ cuts) ++ Mu.leftL rest (Mu.dropB ⟨y0, y1, y2⟩ cuts)) = out) := Lib.hid (by
              have h := Hf1.out
              have e : Mu.dropB ⟨y0, y1, y2⟩ (⟨z0, z1, z2⟩ :: cuts) = Mu.dropB ⟨y0, y1, y2⟩ cuts := by
                conv => lhs; unfold Mu.dropB
                rw [if_pos (by unfold Mu.behB; rw [decide_eq_true_eq]; exact hbe)]
              rw [e] at h
              exact h)
            have HT := Lib.hid (HC.out.tail1 (by have := Hr1.out.2; rw [List.length_cons] at this; exact this))
            have Hcl2 : Hid (cuts.length ≤ 1000) := Lib.hid (by have := Hcl.out; rw [List.length_cons] at this; omega)
            clear hbe Hf1
            go_wp2_with fail
            refine wp_region_held_drew (S := (fun W : World => Wi3 W g 0 ⟨y0, y1, y2⟩ ∧ Wi3 W b2 o2 ⟨z0, z1, z2⟩)) (by kernel_rfl) hS (fun hHeld => ?_)
            refine wpAnyH_take (i := 0) (oi := { dst := some 11, op := Op.move (Operand.tmp 1), type := 22, pos := _, after := #[], guard := none }) (v := ?_) rfl (by kernel_rfl) (by kernel_rfl) (by kernel_rfl) (fun _ _ _ h => h) (Or.inl ⟨by rfl, ?hy⟩) hHeld ?_
            case hy => intro w0 hSw; (try dsimp only at hSw); go_simp; (try with_reducible rfl)
            (try simp only [Act.put, List.setIfInBounds_toArray, List.set_cons_zero, List.set_cons_succ])
            refine wpAnyH_take (i := 1) (oi := { dst := some 12, op := Op.call { callee := Callee.builtin Builtin.len, args := #[Operand.tmp 11], argTypes := #[22] }, type := 3, pos := _, after := #[{ on := 0, ground := Ground.data }], guard := none }) (v := ?_) rfl (by kernel_rfl) (by kernel_rfl) (by kernel_rfl) (fun _ _ _ h => h) (Or.inl ⟨by rfl, ?hy⟩) hHeld ?_
            case hy => intro w0 hSw; (try dsimp only at hSw); go_simp; (try with_reducible rfl)
            (try simp only [Act.put, List.setIfInBounds_toArray, List.set_cons_zero, List.set_cons_succ])
            refine wpAnyH_take (i := 2) (oi := { dst := some 13, op := Op.binOp BinOp.gtr 3 (Operand.tmp 12) (Operand.const (Value.int IntKind.i64 0)) 3, type := 4, pos := _, after := #[{ on := 1, ground := Ground.data }], guard := none }) (v := ?_) rfl (by kernel_rfl) (by kernel_rfl) (by kernel_rfl) (fun _ _ _ h => h) (Or.inl ⟨by rfl, ?hy⟩) hHeld ?_
            case hy => intro w0 hSw; (try dsimp only at hSw); go_simp; (try with_reducible rfl)
            (try simp only [Act.put, List.setIfInBounds_toArray, List.set_cons_zero, List.set_cons_succ])
            refine wpAnyH_take (i := 3) (oi := { dst := some 14, op := Op.move (Operand.tmp 13), type := 4, pos := _, after := #[{ on := 2, ground := Ground.data }], guard := none }) (v := ?_) rfl (by kernel_rfl) (by kernel_rfl) (by kernel_rfl) (fun _ _ _ h => h) (Or.inl ⟨by rfl, ?hy⟩) hHeld ?_
            case hy => intro w0 hSw; (try dsimp only at hSw); go_simp; (try with_reducible rfl)
            (try simp only [Act.put, List.setIfInBounds_toArray, List.set_cons_zero, List.set_cons_succ])
            refine wpAnyH_take (i := 4) (oi := { dst := some 15, op := Op.move (Operand.tmp 6), type := 44, pos := _, after := #[{ on := 3, ground := Ground.guard }], guard := some (3, true) }) (v := ?_) rfl (by kernel_rfl) (by kernel_rfl) (by kernel_rfl) (fun _ _ _ h => h) (Or.inl ⟨by rfl, ?hy⟩) hHeld ?_
            case hy => intro w0 hSw; (try dsimp only at hSw); go_simp; (try with_reducible rfl)
            (try simp only [Act.put, List.setIfInBounds_toArray, List.set_cons_zero, List.set_cons_succ])
            refine wpAnyH_take (i := 5) (oi := { dst := some 16, op := Op.nilCheck (Operand.tmp 15), type := 0, pos := _, after := #[{ on := 4, ground := Ground.data }, { on := 3, ground := Ground.guard }], guard := some (3, true) }) (v := ?_) rfl (by kernel_rfl) (by kernel_rfl) (by kernel_rfl) (fun _ _ _ h => h) (Or.inl ⟨by rfl, ?hy⟩) hHeld ?_
            case hy => intro w0 hSw; (try dsimp only at hSw); go_simp; (try with_reducible rfl)
            (try simp only [Act.put, List.setIfInBounds_toArray, List.set_cons_zero, List.set_cons_succ])
            refine wpAnyH_take (i := 6) (oi := { dst := some 17, op := Op.fieldAddr 50 (Operand.tmp 16) 0, type := 0, pos := _, after := #[{ on := 5, ground := Ground.data }, { on := 3, ground := Ground.guard }], guard := some (3, true) }) (v := ?_) rfl (by kernel_rfl) (by kernel_rfl) (by kernel_rfl) (fun _ _ _ h => h) (Or.inl ⟨by rfl, ?hy⟩) hHeld ?_
            case hy => intro w0 hSw; (try dsimp only at hSw); go_simp; (try with_reducible rfl)
            (try simp only [Act.put, List.setIfInBounds_toArray, List.set_cons_zero, List.set_cons_succ])
            refine wpAnyH_take (i := 7) (oi := { dst := some 18, op := Op.load 48 (Operand.tmp 17), type := 48, pos := _, after := #[{ on := 6, ground := Ground.data }, { on := 3, ground := Ground.guard }], guard := some (3, true) }) (v := ?_) rfl (by kernel_rfl) (by kernel_rfl) (by kernel_rfl) (fun _ _ _ h => h) (Or.inl ⟨by rfl, ?hy⟩) hHeld ?_
            case hy => intro w0 hSw; have d0 := hSw.1.c0; have d1 := hSw.1.c1; have d2 := hSw.1.c2; clear hSw; dsimp only at d0 d1 d2; go_simp; (try with_reducible rfl)
            (try simp only [Act.put, List.setIfInBounds_toArray, List.set_cons_zero, List.set_cons_succ])
            refine wpAnyH_take (i := 8) (oi := { dst := some 19, op := Op.move (Operand.tmp 1), type := 22, pos := _, after := #[{ on := 3, ground := Ground.guard }], guard := some (3, true) }) (v := ?_) rfl (by kernel_rfl) (by kernel_rfl) (by kernel_rfl) (fun _ _ _ h => h) (Or.inl ⟨by rfl, ?hy⟩) hHeld ?_
            case hy => intro w0 hSw; (try dsimp only at hSw); go_simp; (try with_reducible rfl)
            (try simp only [Act.put, List.setIfInBounds_toArray, List.set_cons_zero, List.set_cons_succ])
            refine wpAnyH_take (i := 9) (oi := { dst := some 20, op := Op.indexAddr 22 (Operand.tmp 19) (Operand.const (Value.int IntKind.i64 0)), type := 0, pos := _, after := #[{ on := 8, ground := Ground.data }, { on := 3, ground := Ground.guard }], guard := some (3, true) }) (v := ?_) rfl (by kernel_rfl) (by kernel_rfl) (by kernel_rfl) (fun _ _ _ h => h) (Or.inl ⟨by rfl, ?hy⟩) hHeld ?_
            case hy => intro w0 hSw; (try dsimp only at hSw); go_simp; (try with_reducible rfl)
            (try simp only [Act.put, List.setIfInBounds_toArray, List.set_cons_zero, List.set_cons_succ])
            refine wpAnyH_take (i := 10) (oi := { dst := some 21, op := Op.load 32 (Operand.tmp 20), type := 32, pos := _, after := #[{ on := 9, ground := Ground.data }, { on := 3, ground := Ground.guard }], guard := some (3, true) }) (v := ?_) rfl (by kernel_rfl) (by kernel_rfl) (by kernel_rfl) (fun _ _ _ h => h) (Or.inl ⟨by rfl, ?hy⟩) hHeld ?_
            case hy => intro w0 hSw; have d0 := hSw.2.c0; have d1 := hSw.2.c1; have d2 := hSw.2.c2; clear hSw; dsimp only at d0 d1 d2; go_simp; (try with_reducible rfl)
            (try simp only [Act.put, List.setIfInBounds_toArray, List.set_cons_zero, List.set_cons_succ])
            refine wpAnyH_ready (rs := [11]) (by kernel_rfl) (by simp) ?_
            refine AllReadyH.cons (o := { dst := some 22, op := Op.call { callee := Callee.value (Operand.func 38), args := #[Operand.tmp 18, Operand.tmp 21], argTypes := #[48, 32] }, type := 4, pos := _, after := #[{ on := 7, ground := Ground.data }, { on := 10, ground := Ground.data }, { on := 3, ground := Ground.chain }, { on := 3, ground := Ground.guard }], guard := some (3, true) }) rfl (fun K hK => ?_) AllReadyH.nil
            go_simp
            refine (kB _).mono ?_
            rintro e w6 ⟨rfl, hB'⟩
            have HB6 : Hid (Below wi.heap.size wi w6) := Lib.hid (below2 (below_drew (Below.refl _ _) 1) hB')
            have HW6 := Lib.hid (HWi.out.on HB6.out)
            replace hS : Wi3 w6 g 0 ⟨y0, y1, y2⟩ ∧ Wi3 w6 b2 o2 ⟨z0, z1, z2⟩ := ⟨HW6.out.walk.wi, hS.2.below hB' (Nat.lt_of_lt_of_le Hb2.out HWi.out.below.size)⟩
            clear hB'
            go_wp2_with fail
            refine hK.out _ _ hS (fun hHeld => ?_)
            clear hK K
            (try simp only [Act.put, List.setIfInBounds_toArray, List.set_cons_zero, List.set_cons_succ])
            refine wpAnyH_take (i := 12) (oi := { dst := some 23, op := Op.pick (Operand.tmp 14) (Operand.tmp 22) (Operand.const (Value.bool false)), type := 4, pos := _, after := #[{ on := 3, ground := Ground.data }, { on := 11, ground := Ground.data }], guard := none }) (v := ?_) rfl (by kernel_rfl) (by kernel_rfl) (by kernel_rfl) (fun _ _ _ h => h) (Or.inl ⟨by rfl, ?hy⟩) hHeld ?_
            case hy => intro w0 hSw; (try dsimp only at hSw); go_simp; (try with_reducible rfl)
            (try simp only [Act.put, List.setIfInBounds_toArray, List.set_cons_zero, List.set_cons_succ])
            refine wpAnyH_done (by kernel_rfl) ?_ _
            clear hHeld hS
            have HO6 := Lib.hid (HOi.out.below HB6.out)
            clear HOi HWi kB
            go_wp2
            go_roundw
            case rel => exact ⟨cuts, _, n1, c1 - 1, rfl, Hn1, Lib.hid HT.out.1, Lib.hid HT.out.2, Hcl2, HO6, HW6, Hd⟩
            case measure => simp [sliceN]
          · rw [decide_eq_false hbe] at kB
            have Hd : Hid (all ++ (Mu.wo ⟨y0, y1, y2⟩ (⟨z0, z1, z2⟩ :: cuts) ++ Mu.leftL rest (⟨z0, z1, z2⟩ :: cuts)) = out) := Lib.hid (by
              have h := Hf1.out
              have e : Mu.dropB ⟨y0, y1, y2⟩ (⟨z0, z1, z2⟩ :: cuts) = ⟨z0, z1, z2⟩ :: cuts := by
                conv => lhs; unfold Mu.dropB
                rw [if_neg (by unfold Mu.behB; rw [decide_eq_true_eq]; exact hbe)]
              rw [e] at h
              exact h)
            clear hbe Hf1
            go_wp2_with fail
            refine wp_region_held_drew (S := (fun W : World => Wi3 W g 0 ⟨y0, y1, y2⟩ ∧ Wi3 W b2 o2 ⟨z0, z1, z2⟩)) (by kernel_rfl) hS (fun hHeld => ?_)
            refine wpAnyH_take (i := 0) (oi := { dst := some 11, op := Op.move (Operand.tmp 1), type := 22, pos := _, after := #[], guard := none }) (v := ?_) rfl (by kernel_rfl) (by kernel_rfl) (by kernel_rfl) (fun _ _ _ h => h) (Or.inl ⟨by rfl, ?hy⟩) hHeld ?_
            case hy => intro w0 hSw; (try dsimp only at hSw); go_simp; (try with_reducible rfl)
            (try simp only [Act.put, List.setIfInBounds_toArray, List.set_cons_zero, List.set_cons_succ])
            refine wpAnyH_take (i := 1) (oi := { dst := some 12, op := Op.call { callee := Callee.builtin Builtin.len, args := #[Operand.tmp 11], argTypes := #[22] }, type := 3, pos := _, after := #[{ on := 0, ground := Ground.data }], guard := none }) (v := ?_) rfl (by kernel_rfl) (by kernel_rfl) (by kernel_rfl) (fun _ _ _ h => h) (Or.inl ⟨by rfl, ?hy⟩) hHeld ?_
            case hy => intro w0 hSw; (try dsimp only at hSw); go_simp; (try with_reducible rfl)
            (try simp only [Act.put, List.setIfInBounds_toArray, List.set_cons_zero, List.set_cons_succ])
            refine wpAnyH_take (i := 2) (oi := { dst := some 13, op := Op.binOp BinOp.gtr 3 (Operand.tmp 12) (Operand.const (Value.int IntKind.i64 0)) 3, type := 4, pos := _, after := #[{ on := 1, ground := Ground.data }], guard := none }) (v := ?_) rfl (by kernel_rfl) (by kernel_rfl) (by kernel_rfl) (fun _ _ _ h => h) (Or.inl ⟨by rfl, ?hy⟩) hHeld ?_
            case hy => intro w0 hSw; (try dsimp only at hSw); go_simp; (try with_reducible rfl)
            (try simp only [Act.put, List.setIfInBounds_toArray, List.set_cons_zero, List.set_cons_succ])
            refine wpAnyH_take (i := 3) (oi := { dst := some 14, op := Op.move (Operand.tmp 13), type := 4, pos := _, after := #[{ on := 2, ground := Ground.data }], guard := none }) (v := ?_) rfl (by kernel_rfl) (by kernel_rfl) (by kernel_rfl) (fun _ _ _ h => h) (Or.inl ⟨by rfl, ?hy⟩) hHeld ?_
            case hy => intro w0 hSw; (try dsimp only at hSw); go_simp; (try with_reducible rfl)
            (try simp only [Act.put, List.setIfInBounds_toArray, List.set_cons_zero, List.set_cons_succ])
            refine wpAnyH_take (i := 4) (oi := { dst := some 15, op := Op.move (Operand.tmp 6), type := 44, pos := _, after := #[{ on := 3, ground := Ground.guard }], guard := some (3, true) }) (v := ?_) rfl (by kernel_rfl) (by kernel_rfl) (by kernel_rfl) (fun _ _ _ h => h) (Or.inl ⟨by rfl, ?hy⟩) hHeld ?_
            case hy => intro w0 hSw; (try dsimp only at hSw); go_simp; (try with_reducible rfl)
            (try simp only [Act.put, List.setIfInBounds_toArray, List.set_cons_zero, List.set_cons_succ])
            refine wpAnyH_take (i := 5) (oi := { dst := some 16, op := Op.nilCheck (Operand.tmp 15), type := 0, pos := _, after := #[{ on := 4, ground := Ground.data }, { on := 3, ground := Ground.guard }], guard := some (3, true) }) (v := ?_) rfl (by kernel_rfl) (by kernel_rfl) (by kernel_rfl) (fun _ _ _ h => h) (Or.inl ⟨by rfl, ?hy⟩) hHeld ?_
            case hy => intro w0 hSw; (try dsimp only at hSw); go_simp; (try with_reducible rfl)
            (try simp only [Act.put, List.setIfInBounds_toArray, List.set_cons_zero, List.set_cons_succ])
            refine wpAnyH_take (i := 6) (oi := { dst := some 17, op := Op.fieldAddr 50 (Operand.tmp 16) 0, type := 0, pos := _, after := #[{ on := 5, ground := Ground.data }, { on := 3, ground := Ground.guard }], guard := some (3, true) }) (v := ?_) rfl (by kernel_rfl) (by kernel_rfl) (by kernel_rfl) (fun _ _ _ h => h) (Or.inl ⟨by rfl, ?hy⟩) hHeld ?_
            case hy => intro w0 hSw; (try dsimp only at hSw); go_simp; (try with_reducible rfl)
            (try simp only [Act.put, List.setIfInBounds_toArray, List.set_cons_zero, List.set_cons_succ])
            refine wpAnyH_take (i := 7) (oi := { dst := some 18, op := Op.load 48 (Operand.tmp 17), type := 48, pos := _, after := #[{ on := 6, ground := Ground.data }, { on := 3, ground := Ground.guard }], guard := some (3, true) }) (v := ?_) rfl (by kernel_rfl) (by kernel_rfl) (by kernel_rfl) (fun _ _ _ h => h) (Or.inl ⟨by rfl, ?hy⟩) hHeld ?_
            case hy => intro w0 hSw; have d0 := hSw.1.c0; have d1 := hSw.1.c1; have d2 := hSw.1.c2; clear hSw; dsimp only at d0 d1 d2; go_simp; (try with_reducible rfl)
            (try simp only [Act.put, List.setIfInBounds_toArray, List.set_cons_zero, List.set_cons_succ])
            refine wpAnyH_take (i := 8) (oi := { dst := some 19, op := Op.move (Operand.tmp 1), type := 22, pos := _, after := #[{ on := 3, ground := Ground.guard }], guard := some (3, true) }) (v := ?_) rfl (by kernel_rfl) (by kernel_rfl) (by kernel_rfl) (fun _ _ _ h => h) (Or.inl ⟨by rfl, ?hy⟩) hHeld ?_
            case hy => intro w0 hSw; (try dsimp only at hSw); go_simp; (try with_reducible rfl)
            (try simp only [Act.put, List.setIfInBounds_toArray, List.set_cons_zero, List.set_cons_succ])
            refine wpAnyH_take (i := 9) (oi := { dst := some 20, op := Op.indexAddr 22 (Operand.tmp 19) (Operand.const (Value.int IntKind.i64 0)), type := 0, pos := _, after := #[{ on := 8, ground := Ground.data }, { on := 3, ground := Ground.guard }], guard := some (3, true) }) (v := ?_) rfl (by kernel_rfl) (by kernel_rfl) (by kernel_rfl) (fun _ _ _ h => h) (Or.inl ⟨by rfl, ?hy⟩) hHeld ?_
            case hy => intro w0 hSw; (try dsimp only at hSw); go_simp; (try with_reducible rfl)
            (try simp only [Act.put, List.setIfInBounds_toArray, List.set_cons_zero, List.set_cons_succ])
            refine wpAnyH_take (i := 10) (oi := { dst := some 21, op := Op.load 32 (Operand.tmp 20), type := 32, pos := _, after := #[{ on := 9, ground := Ground.data }, { on := 3, ground := Ground.guard }], guard := some (3, true) }) (v := ?_) rfl (by kernel_rfl) (by kernel_rfl) (by kernel_rfl) (fun _ _ _ h => h) (Or.inl ⟨by rfl, ?hy⟩) hHeld ?_
            case hy => intro w0 hSw; have d0 := hSw.2.c0; have d1 := hSw.2.c1; have d2 := hSw.2.c2; clear hSw; dsimp only at d0 d1 d2; go_simp; (try with_reducible rfl)
            (try simp only [Act.put, List.setIfInBounds_toArray, List.set_cons_zero, List.set_cons_succ])
            refine wpAnyH_ready (rs := [11]) (by kernel_rfl) (by simp) ?_
            refine AllReadyH.cons (o := { dst := some 22, op := Op.call { callee := Callee.value (Operand.func 38), args := #[Operand.tmp 18, Operand.tmp 21], argTypes := #[48, 32] }, type := 4, pos := _, after := #[{ on := 7, ground := Ground.data }, { on := 10, ground := Ground.data }, { on := 3, ground := Ground.chain }, { on := 3, ground := Ground.guard }], guard := some (3, true) }) rfl (fun K hK => ?_) AllReadyH.nil
            go_simp
            refine (kB _).mono ?_
            rintro e w6 ⟨rfl, hB'⟩
            have HB6 : Hid (Below wi.heap.size wi w6) := Lib.hid (below2 (below_drew (Below.refl _ _) 1) hB')
            have HW6 := Lib.hid (HWi.out.on HB6.out)
            replace hS : Wi3 w6 g 0 ⟨y0, y1, y2⟩ ∧ Wi3 w6 b2 o2 ⟨z0, z1, z2⟩ := ⟨HW6.out.walk.wi, hS.2.below hB' (Nat.lt_of_lt_of_le Hb2.out HWi.out.below.size)⟩
            clear hB'
            go_wp2_with fail
            refine hK.out _ _ hS (fun hHeld => ?_)
            clear hK K
            (try simp only [Act.put, List.setIfInBounds_toArray, List.set_cons_zero, List.set_cons_succ])
            refine wpAnyH_take (i := 12) (oi := { dst := some 23, op := Op.pick (Operand.tmp 14) (Operand.tmp 22) (Operand.const (Value.bool false)), type := 4, pos := _, after := #[{ on := 3, ground := Ground.data }, { on := 11, ground := Ground.data }], guard := none }) (v := ?_) rfl (by kernel_rfl) (by kernel_rfl) (by kernel_rfl) (fun _ _ _ h => h) (Or.inl ⟨by rfl, ?hy⟩) hHeld ?_
            case hy => intro w0 hSw; (try dsimp only at hSw); go_simp; (try with_reducible rfl)
            (try simp only [Act.put, List.setIfInBounds_toArray, List.set_cons_zero, List.set_cons_succ])
            refine wpAnyH_done (by kernel_rfl) ?_ _
            clear hHeld hS
            have HO6 := Lib.hid (HOi.out.below HB6.out)
            clear HOi HWi kB
            obtain ⟨ww, hww⟩ : ∃ ww, ww = Mu.wo ⟨y0, y1, y2⟩ (⟨z0, z1, z2⟩ :: cuts) := ⟨_, rfl⟩
            have Hww : Hid (all ++ ww ++ Mu.leftL rest (⟨z0, z1, z2⟩ :: cuts) = out) := Lib.hid (by rw [List.append_assoc, hww]; exact Hd.out)
            have Hwl : Hid (ww.length ≤ 1001) := Lib.hid (by rw [hww]; have h := Mu.wo_len (⟨z0, z1, z2⟩ :: cuts) ⟨y0, y1, y2⟩; have := Hcl.out; omega)
            have kW := mwithout_any y0 y1 y2 (some ⟨b2, o2, none⟩) (n1 + 1) c1 (⟨z0, z1, z2⟩ :: cuts) w6 Hl1.out ((HC.out.below HW6.out.below (Nat.le_refl _)).more HW6.out.below.size) Hr1.out (by have := Hcl.out; have := Hl1.out; omega)
            rw [← hww] at kW
            clear hww
            have c0 := HW6.out.walk.c0
            have c1x := HW6.out.walk.c1
            have c2 := HW6.out.walk.c2
            simp only at c0 c1x c2
            go_wp2_with fail
            refine kW.mono ?_
            rintro e w8 ⟨A8, c8, m8, hm8, rfl, hO8, hB8⟩
            have Hm8 := Lib.hid hm8
            have HW8 := Lib.hid (HW6.out.on hB8)
            have HO8 := Lib.hid (HO6.out.below hB8)
            have HX8 := Lib.hid hO8.rows
            clear hm8 hO8 hB8 kW c0 c1x c2
            go_wp2_with (at_builtin; refine wpList_append_wins rfl _ _ 22 rfl Try.underlying22 (g + 1) _ all ww rfl HO8.out A8 _ c8 rfl Hm8.out HX8.out.1 HX8.out.2.1 HW8.out.walk.lt (by have h := Hn.out; have := Hwl.out; have := Hml.out; simp only [List.length_cons] at h; omega) ?_; intro v' w9 hown' hgrow; obtain ⟨A9, c9, rfl, _⟩ := hown'.slice; obtain ⟨m9, hm9⟩ : ∃ m9, m9 = (all ++ ww).length := ⟨_, rfl⟩; rw [← hm9] at hown' ⊢; have Hm9 := Lib.hid hm9; have HO9 := Lib.hid hown'; have HB9 : Hid (Below (g + 1) w8 w9) := Lib.hid ((Below.refl _ _).grown hgrow HW8.out.walk.lt (fun k hk => HO8.out.ge k hk)); clear hm9 hown' hgrow)
            have HW9 := Lib.hid (HW8.out.off Hg.out HB9.out)
            go_roundw
            case rel => exact ⟨(⟨z0, z1, z2⟩ :: cuts), (some ⟨b2, o2, none⟩), (n1 + 1), c1, all ++ ww, rest, _, A9, m9, c9, rfl, rfl, Hl1, HC, Hr1, Hcl, Hm9, HO9, HW9, Hww, Lib.hid (by have h := Hn.out; have := Hwl.out; simp only [List.length_cons, List.length_append] at h ⊢; omega)⟩
            case measure => rw [Hmm.out, HW9.out.walk.n]; omega
end Go.Proofs.Ythbkfjnpdcfepaa
