/-
  Layer 4 (spot): the walks of text, Print, loose, Cut, Parse.
-/
import Derived.Test.YtpgichlaghhdeaaGreatDoorXJc
import Derived.Test.YtpgichlaghhdeaaGreatDoorShelf
import Derived.BigQuiet
import Derived.Deep.QuietTactic
import Derived.OwnWalk
namespace Go.Proofs.YtpgichlaghhdeaaGreatDoor
set_option maxRecDepth 10000
open Go.RowKit

/-- strconv's two sentinels lie in their variables. -/
structure Errs (w : World) : Prop where
  s : ∃ ev, w.cell? ⟨1, 0, none⟩ = some ev ∧ (ev = .nilIface ∨ ∃ te pe, ev = .iface te pe)
  r : ∃ ev, w.cell? ⟨2, 0, none⟩ = some ev ∧ (ev = .nilIface ∨ ∃ te pe, ev = .iface te pe)
theorem Errs.below {w w' : World} (h : Errs w) (hB : Below w.heap.size w w') : Errs w' := by
  obtain ⟨⟨e1, h1, k1⟩, ⟨e2, h2, k2⟩⟩ := h
  exact ⟨⟨e1, (hB.cell (World.block_lt_of_cell? w _ h1)).trans h1, k1⟩, ⟨e2, (hB.cell (World.block_lt_of_cell? w _ h2)).trans h2, k2⟩⟩

theorem Itoa_100 (i : Int) (h0 : 0 ≤ i) (h1 : i < 100) (w : World) :
    Calls Tryz.prog 90 #[.int .i64 i] w fun e w' => e = .returned (.string (strOf (Lib.decDigits i.toNat))) ∧ w' = w := by
  have h := Tryz.strconv_Itoa_small i.toNat (by omega) w
  rw [show ((i.toNat : Nat) : Int) = i by omega] at h
  exact h

set_option maxRecDepth 10000 in
set_option maxHeartbeats 400000 in
theorem text_any (b c : Int) (h : Sp.may b c = true) (w : World) :
    Calls Tryz.prog 88 #[.agg #[.int .i64 b, .int .i64 c]] w fun e w' => e = .returned (.string (strOf (Sp.txt b c))) ∧ Below w.heap.size w w' := by
  have hm := Sp.may_iff.1 h
  have h1 := fun W => Itoa_100 b (by omega) (by omega) W
  have h2 := fun W => Itoa_100 c (by omega) (by omega) W
  have e0 : Sp.txt b c = Lib.decDigits b.toNat ++ [47] ++ Lib.decDigits c.toNat := rfl
  rw [e0]
  have l1 : (Lib.decDigits b.toNat).length ≤ 4 ∧ (Lib.decDigits c.toNat).length ≤ 4 := by
    have := Sp.txt_len h; unfold Sp.txt at this; simp at this; omega
  obtain ⟨x, hx⟩ : ∃ x, x = Lib.decDigits b.toNat := ⟨_, rfl⟩
  obtain ⟨y, hy⟩ : ∃ y, y = Lib.decDigits c.toNat := ⟨_, rfl⟩
  rw [← hx] at h1 l1 ⊢
  rw [← hy] at h2 l1 ⊢
  have s1 : strOf x ++ ⟨#[47]⟩ = strOf (x ++ [47]) := strs_append x [47]
  have s2 : strOf (x ++ [47]) ++ strOf y = strOf (x ++ [47] ++ y) := strs_append _ _
  obtain ⟨l1, l2⟩ := l1
  have n1 : ¬ 9223372036854775807 < (strOf x).size + (⟨#[47]⟩ : ByteArray).size := by rw [strOf_size]; show ¬ _ < x.length + 1; omega
  have n2 : ¬ 9223372036854775807 < (strOf (x ++ [47])).size + (strOf y).size := by rw [strOf_size, strOf_size, List.length_append]; show ¬ _ < x.length + 1 + y.length; omega
  clear hx hy h hm e0 l1 l2
  go_enter Tryz.func88, Tryz.ntmps88
  go_wp2
  go_quiet (first
    | (go_at_call 90; refine Calls.quiet_of_same (h1 _))
    | (go_at_call 90; refine Calls.quiet_of_same (h2 _)))
  go_wp2
  go_ret
  exact ⟨by show Ending.returned (.string (strOf (x ++ 47 :: y))) = _; rw [List.append_assoc]; rfl, below_drew (below_new _ _) _⟩

theorem Print_any (b c : Int) (w : World) :
    Calls Tryz.prog 57 #[.agg #[.int .i64 b, .int .i64 c]] w fun e w' => e = .returned (.tuple #[.string (strOf (Sp.prn b c)), .int .i64 (Sp.numE b c)]) ∧ Below w.heap.size w w' := by
  cases h : Sp.may b c
  · have e0 : Sp.prn b c = [] := by unfold Sp.prn; rw [h]; rfl
    have e1 : Sp.numE b c = 1 := by unfold Sp.numE; rw [h]; rfl
    rw [e0, e1]; clear e0 e1
    have h1 := fun W => mayBe_any b c W
    rw [h] at h1
    clear h
    go_enter Tryz.func57, Tryz.ntmps57
    go_wp2_with fail
    refine (h1 _).mono ?_
    rintro e w1 ⟨rfl, hB⟩
    clear h1
    go_wp2
    go_ret2
    exact ⟨rfl, below2 (below_new2 _ _ _) hB⟩
  · have e1 : Sp.numE b c = 0 := by unfold Sp.numE; rw [h]; rfl
    have e0 : Sp.prn b c = Sp.txt b c := by unfold Sp.prn; rw [h]; rfl
    rw [e1, e0]; clear e1 e0
    have h1 := fun W => mayBe_any b c W
    have h2 := fun W => text_any b c h W
    rw [h] at h1
    obtain ⟨n, hn⟩ : ∃ n, n = Sp.txt b c := ⟨_, rfl⟩
    rw [← hn] at h2 ⊢
    clear h hn
    go_enter Tryz.func57, Tryz.ntmps57
    go_wp2_with fail
    refine (h1 _).mono ?_
    rintro e w1 ⟨rfl, hB⟩
    have hB0 := below2 (below_new2 _ _ _) hB
    have k1 := Two.new1 w (.cells #[.int .i64 b, .int .i64 c] 23) b c 108
    have kk := k1.below hB
    have k10 := kk.c0
    have k11 := kk.c1
    clear kk
    clear h1 hB k1
    go_wp2_with fail
    refine (h2 _).mono ?_
    rintro e w2 ⟨rfl, hB⟩
    go_wp2
    go_ret2
    exact ⟨rfl, below2 hB0 hB⟩

theorem bytesWorld_below' (w : World) (e : TypeId) (t : ByteArray) : Below w.heap.size w (Lib.bytesWorld w e t) := by
  first | exact Lib.bytesWorld_below _ _ _ | exact Lib.bytesWorld_below _ _ _ (Nat.le_refl _)

theorem Atoi_any (s : ByteArray) (hs : s.size ≤ 400) (w : World) (hE : Errs w) :
    Calls Tryz.prog 95 #[.string s] w fun e w' => ∃ v, e = .returned (.tuple #[.int .i64 (Sp.loose (bl s)), v]) ∧ Below w.heap.size w w' := by
  obtain ⟨⟨e1, h1, k1⟩, ⟨e2, h2, k2⟩⟩ := hE
  cases h : Lib.atoiAll (bl s) with
  | ok v =>
    refine (Tryz.strconv_Atoi_ok s (by omega) v h w).mono ?_
    rintro e w' ⟨rfl, hw⟩
    refine ⟨.nilIface, by simp only [Sp.loose, h], ?_⟩
    rcases hw with rfl | ⟨t, rfl⟩
    · exact Below.refl _ _
    · exact bytesWorld_below' _ _ _
  | range =>
    refine (Tryz.strconv_Atoi_range s (by omega) h e2 w h2 k2).mono ?_
    rintro e w' ⟨N, rfl, _, _, hB⟩
    exact ⟨_, by simp only [Sp.loose, h]; rfl, hB⟩
  | _ =>
    have h9 : Calls Tryz.prog 95 #[.string s] w _ := Any.strconv_Atoi_syntax Tryz.laysC172 s (by omega) h e1 w h1 k1
    refine h9.mono ?_
    rintro e w' ⟨N, rfl, _, _, hB⟩
    exact ⟨_, by simp only [Sp.loose, h]; rfl, hB⟩

theorem loose_any (s : ByteArray) (hs : s.size ≤ 400) (w : World) (hE : Errs w) :
    Calls Tryz.prog 94 #[.string s] w fun e w' => e = .returned (.int .i64 (Sp.loose (bl s))) ∧ Below w.heap.size w w' := by
  have h1 := fun W hW => Atoi_any s hs W hW
  obtain ⟨n, hn⟩ : ∃ n, n = Sp.loose (bl s) := ⟨_, rfl⟩
  rw [← hn] at h1 ⊢
  have HE := Lib.hid hE
  clear hn hs hE
  go_enter Tryz.func94, Tryz.ntmps94
  go_wp2_with fail
  refine (h1 _ HE.out).mono ?_
  rintro e w1 ⟨v, rfl, hB⟩
  clear h1
  go_wp2
  go_ret
  exact ⟨rfl, hB⟩

theorem ix_cases (l : List UInt8) : Lib.indexByte l 47 = -1 ∨ ∃ i : Nat, Lib.indexByte l 47 = i ∧ i < l.length := by
  have h := Lib.indexByte_ge l 47
  by_cases h1 : Lib.indexByte l 47 = -1
  · exact .inl h1
  · refine .inr ⟨(Lib.indexByte l 47).toNat, by omega, ?_⟩
    have := Lib.indexByte_some (l := l) (c := 47) (o := (Lib.indexByte l 47).toNat) (by omega)
    exact (List.getElem?_eq_some_iff.1 this.1).1

set_option maxHeartbeats 400000 in
theorem lCut_any (s : ByteArray) (hs : s.size ≤ 400) (w : World) :
    Calls Tryz.prog 115 #[.string s, .string ⟨#[47]⟩] w fun e w' => (∃ f, e = .returned (.tuple #[.string (strOf (Sp.cutA (bl s))), .string (strOf (Sp.cutB (bl s))), .bool f])) ∧ Below w.heap.size w w' := by
  have h1 := fun W => Tryz.stringslite_Index_one s 47 W
  rcases ix_cases (bl s) with hx | ⟨i, hx, hi⟩
  · have e1 : Sp.cutA (bl s) = bl s := by unfold Sp.cutA; rw [hx]; rfl
    have e2 : Sp.cutB (bl s) = [] := by unfold Sp.cutB; rw [hx]; rfl
    rw [e1, e2, strOf_bl]
    change Lib.indexByte s.data.toList 47 = -1 at hx
    rw [hx] at h1
    clear hx e1 e2 hs
    go_enter Tryz.func115, Tryz.ntmps115
    go_wp2_with fail
    refine (h1 _).mono ?_
    rintro e w1 ⟨rfl, rfl⟩
    clear h1
    go_wp2
    go_ret3
    exact ⟨⟨_, rfl⟩, Below.refl _ _⟩
  · have hi' : i < s.size := hi
    have e1 : Sp.cutA (bl s) = (bl s).take i := by unfold Sp.cutA; rw [hx, if_neg (by omega)]; rfl
    have e2 : Sp.cutB (bl s) = (bl s).drop (i + 1) := by unfold Sp.cutB; rw [hx, if_neg (by omega)]; rfl
    rw [e1, e2, ← bl_extract_to s i (by omega), ← bl_extract_from s (i + 1), strOf_bl, strOf_bl]
    change Lib.indexByte s.data.toList 47 = _ at hx
    rw [hx] at h1
    have i1 : (0 : Int) ≤ (i : Int) := by omega
    have i2 : (i : Int) ≤ (s.size : Int) := by omega
    have i3 : wrap64 ((i : Int) + 1) = (i : Int) + 1 := by unfold wrap64; omega
    have i4 : (i : Int) + 1 ≤ (s.size : Int) := by omega
    have i5 : (0 : Int) ≤ (i : Int) + 1 := by omega
    have i6 : ((i : Int) + 1).toNat = i + 1 := by omega
    clear hx hi e1 e2 hs
    go_enter Tryz.func115, Tryz.ntmps115
    go_wp2_with fail
    refine (h1 _).mono ?_
    rintro e w1 ⟨rfl, rfl⟩
    clear h1
    go_wp2
    go_quiet (fail)
    go_wp2
    go_ret3
    exact ⟨⟨_, rfl⟩, below_drew (Below.refl _ _) _⟩

theorem Cut_any (s : ByteArray) (hs : s.size ≤ 400) (w : World) :
    Calls Tryz.prog 93 #[.string s, .string ⟨#[47]⟩] w fun e w' => (∃ f, e = .returned (.tuple #[.string (strOf (Sp.cutA (bl s))), .string (strOf (Sp.cutB (bl s))), .bool f])) ∧ Below w.heap.size w w' := by
  have h1 := fun W => lCut_any s hs W
  obtain ⟨x, hx⟩ : ∃ x, x = strOf (Sp.cutA (bl s)) := ⟨_, rfl⟩
  obtain ⟨y, hy⟩ : ∃ y, y = strOf (Sp.cutB (bl s)) := ⟨_, rfl⟩
  rw [← hx, ← hy]
  rw [← hx, ← hy] at h1
  clear hx hy hs
  go_enter Tryz.func93, Tryz.ntmps93
  go_wp2_with fail
  refine (h1 _).mono ?_
  rintro e w1 ⟨⟨f, rfl⟩, hB⟩
  clear h1
  go_wp2
  go_ret3
  exact ⟨⟨_, rfl⟩, hB⟩

theorem cutA_size (s : ByteArray) : (strOf (Sp.cutA (bl s))).size ≤ s.size := by
  rw [strOf_size, ← bl_length s]
  unfold Sp.cutA; split
  · exact Nat.le_refl _
  · rw [List.length_take]; exact Nat.min_le_right _ _
theorem cutB_size (s : ByteArray) : (strOf (Sp.cutB (bl s))).size ≤ s.size := by
  rw [strOf_size, ← bl_length s]
  unfold Sp.cutB; split
  · exact Nat.zero_le _
  · rw [List.length_drop]; omega

theorem alloc2_size (w : World) (o : Obj) : (w.alloc o).heap.size = w.heap.size + 1 := by simp

set_option maxHeartbeats 1000000 in
theorem Parse_any (s : ByteArray) (hs : s.size ≤ 400) (w : World) (hE : Errs w) :
    Calls Tryz.prog 64 #[.string s] w fun e w' => e = .returned (.tuple #[.agg #[.int .i64 (Sp.parB (bl s)), .int .i64 (Sp.parC (bl s))], .int .i64 (Sp.parE (bl s))]) ∧ Below w.heap.size w w' := by
  have h0 := fun W => Cut_any s hs W
  have h1 := fun W hW => loose_any (strOf (Sp.cutA (bl s))) (Nat.le_trans (cutA_size s) hs) W hW
  have h2 := fun W hW => loose_any (strOf (Sp.cutB (bl s))) (Nat.le_trans (cutB_size s) hs) W hW
  rw [bl_strOf] at h1 h2
  obtain ⟨b, hb⟩ : ∃ b, b = Sp.loose (Sp.cutA (bl s)) := ⟨_, rfl⟩
  obtain ⟨c, hc⟩ : ∃ c, c = Sp.loose (Sp.cutB (bl s)) := ⟨_, rfl⟩
  have h3 := fun W => mayBe_any b c W
  have hok : Sp.ok (bl s) = (Sp.may b c && decide (Sp.txt b c = bl s)) := by unfold Sp.ok; rw [← hb, ← hc]
  have eB : Sp.parB (bl s) = if Sp.ok (bl s) then b else 0 := by unfold Sp.parB; rw [← hb]
  have eC : Sp.parC (bl s) = if Sp.ok (bl s) then c else 0 := by unfold Sp.parC; rw [← hc]
  have eE : Sp.parE (bl s) = if Sp.ok (bl s) then 0 else 20 := rfl
  rw [eB, eC, eE, hok]
  rw [← hb] at h1
  rw [← hc] at h2
  obtain ⟨x, hx⟩ : ∃ x, x = strOf (Sp.cutA (bl s)) := ⟨_, rfl⟩
  obtain ⟨y, hy⟩ : ∃ y, y = strOf (Sp.cutB (bl s)) := ⟨_, rfl⟩
  rw [← hx, ← hy] at h0
  rw [← hx] at h1
  rw [← hy] at h2
  have HE := Lib.hid hE
  clear hs eB eC eE hb hc hx hy hok hE
  cases hm : Sp.may b c
  · rw [hm] at h3
    simp only [Bool.false_and, Bool.false_eq_true, if_false]
    clear hm
    go_enter Tryz.func64, Tryz.ntmps64
    go_wp2_with fail
    refine (h0 _).mono ?_
    rintro e w1 ⟨⟨f, rfl⟩, hB1⟩
    have z1 := (Two.new w 0 0 23).below hB1
    have hB01 := below2 (below_new _ _) hB1
    clear h0 hB1
    go_wp2_with fail
    refine (h1 _ (HE.out.below hB01)).mono ?_
    rintro e w2 ⟨rfl, hB2⟩
    replace z1 := z1.below hB2
    have hB02 := below2 hB01 hB2
    clear h1 hB01 hB2
    go_wp2_with fail
    refine (h2 _ (HE.out.below hB02)).mono ?_
    rintro e w3 ⟨rfl, hB3⟩
    replace z1 := z1.below hB3
    have hB03 := below2 hB02 hB3
    clear h2 hB02 hB3
    go_wp2_with fail
    refine (h3 _).mono ?_
    rintro e w4 ⟨rfl, hB4⟩
    have z4 := (z1.alloc (.cells #[.int .i64 b, .int .i64 c] 108)).below hB4
    have hB04 := below2 (below2 hB03 (below_new _ _)) hB4
    clear h3 hB03 hB4 z1
    have z0 := z4.c0
    have z1 := z4.c1
    have y0 := z4.f0
    have y1 := z4.f1
    go_wp2
    (try simp only [Exit.inBlock, Exit.then]); refine bodyPost_ret (ret_spot rfl rfl (z4.set 0 0)) rfl ?_
    exact ⟨rfl, (hB04.setCell (p := ⟨w.heap.size, 0, none⟩) (Nat.le_refl _) _).setCell (p := ⟨w.heap.size, 1, none⟩) (Nat.le_refl _) _⟩
  · rw [hm] at h3
    have h4 := fun W => text_any b c hm W
    obtain ⟨t, ht⟩ : ∃ t, t = Sp.txt b c := ⟨_, rfl⟩
    rw [← ht] at h4
    simp only [Bool.true_and]
    rw [← ht]
    clear hm ht
    by_cases he : t = bl s
    · have ht2 : strOf t = s := by rw [he, strOf_bl]
      rw [ht2] at h4
      simp only [he, decide_true, if_true]
      clear he ht2
      go_enter Tryz.func64, Tryz.ntmps64
      go_wp2_with fail
      refine (h0 _).mono ?_
      rintro e w1 ⟨⟨f, rfl⟩, hB1⟩
      have z1 := (Two.new w 0 0 23).below hB1
      have hB01 := below2 (below_new _ _) hB1
      clear h0 hB1
      go_wp2_with fail
      refine (h1 _ (HE.out.below hB01)).mono ?_
      rintro e w2 ⟨rfl, hB2⟩
      replace z1 := z1.below hB2
      have hB02 := below2 hB01 hB2
      clear h1 hB01 hB2
      go_wp2_with fail
      refine (h2 _ (HE.out.below hB02)).mono ?_
      rintro e w3 ⟨rfl, hB3⟩
      replace z1 := z1.below hB3
      have hB03 := below2 hB02 hB3
      clear h2 hB02 hB3
      go_wp2_with fail
      refine (h3 _).mono ?_
      rintro e w4 ⟨rfl, hB4⟩
      have z4 := (z1.alloc (.cells #[.int .i64 b, .int .i64 c] 108)).below hB4
      have p4 := (Two.new w3 b c 108).below hB4
      have hB04 := below2 (below2 hB03 (below_new _ _)) hB4
      clear h3 hB03 hB4 z1
      have p40 := p4.c0
      have p41 := p4.c1
      go_wp2_with fail
      refine (h4 _).mono ?_
      rintro e w5 ⟨rfl, hB5⟩
      replace z4 := z4.below hB5
      replace p4 := p4.below hB5
      have hB05 := below2 hB04 hB5
      clear h4 hB04 hB5 p40 p41
      have p40 := p4.c0
      have p41 := p4.c1
      have z0 := z4.c0
      have z1 := z4.c1
      have y0 := z4.f0
      have y1 := z4.f1
      go_wp2
      (try simp only [Exit.inBlock, Exit.then]); refine bodyPost_ret (ret_spot rfl rfl (z4.set b c)) rfl ?_
      exact ⟨rfl, (hB05.setCell (p := ⟨w.heap.size, 0, none⟩) (Nat.le_refl _) _).setCell (p := ⟨w.heap.size, 1, none⟩) (Nat.le_refl _) _⟩
    · have hne : ¬ strOf t = s := fun h => he (by rw [← h, bl_strOf])
      have hne1 : ((strOf t).toList == s.toList) = false := by
        rw [beq_eq_false_iff_ne, strOf_toList, ByteArray.toList_eq]
        exact he
      simp only [decide_eq_false he, Bool.false_eq_true, if_false]
      obtain ⟨u, hu⟩ : ∃ u, u = strOf t := ⟨_, rfl⟩
      rw [← hu] at h4 hne hne1
      have Hne := Lib.hid hne
      clear he hu hne
      go_enter Tryz.func64, Tryz.ntmps64
      go_wp2_with fail
      refine (h0 _).mono ?_
      rintro e w1 ⟨⟨f, rfl⟩, hB1⟩
      have z1 := (Two.new w 0 0 23).below hB1
      have hB01 := below2 (below_new _ _) hB1
      clear h0 hB1
      go_wp2_with fail
      refine (h1 _ (HE.out.below hB01)).mono ?_
      rintro e w2 ⟨rfl, hB2⟩
      replace z1 := z1.below hB2
      have hB02 := below2 hB01 hB2
      clear h1 hB01 hB2
      go_wp2_with fail
      refine (h2 _ (HE.out.below hB02)).mono ?_
      rintro e w3 ⟨rfl, hB3⟩
      replace z1 := z1.below hB3
      have hB03 := below2 hB02 hB3
      clear h2 hB02 hB3
      go_wp2_with fail
      refine (h3 _).mono ?_
      rintro e w4 ⟨rfl, hB4⟩
      have z4 := (z1.alloc (.cells #[.int .i64 b, .int .i64 c] 108)).below hB4
      have p4 := (Two.new w3 b c 108).below hB4
      have hB04 := below2 (below2 hB03 (below_new _ _)) hB4
      clear h3 hB03 hB4 z1
      have p40 := p4.c0
      have p41 := p4.c1
      go_wp2_with fail
      refine (h4 _).mono ?_
      rintro e w5 ⟨rfl, hB5⟩
      replace z4 := z4.below hB5
      replace p4 := p4.below hB5
      have hB05 := below2 hB04 hB5
      clear h4 hB04 hB5 p40 p41
      have p40 := p4.c0
      have p41 := p4.c1
      have z0 := z4.c0
      have z1 := z4.c1
      have y0 := z4.f0
      have y1 := z4.f1
      go_wp2
      (try simp only [Exit.inBlock, Exit.then]); refine bodyPost_ret (ret_spot rfl rfl (z4.set 0 0)) rfl ?_
      exact ⟨rfl, (hB05.setCell (p := ⟨w.heap.size, 0, none⟩) (Nat.le_refl _) _).setCell (p := ⟨w.heap.size, 1, none⟩) (Nat.le_refl _) _⟩

end Go.Proofs.YtpgichlaghhdeaaGreatDoor
