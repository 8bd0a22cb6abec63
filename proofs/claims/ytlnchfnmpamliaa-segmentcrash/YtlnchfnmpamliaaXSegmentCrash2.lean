/-
  Layer 14 (segment): the law SegmentCrash, over the structure: its cases put together.
-/
import Derived.Test.YtlnchfnmpamliaaXSegmentCrash
namespace Go.Proofs.Ytlnchfnmpamliaa
set_option maxRecDepth 10000
open Go.RowKit
open Sg

/-- One more short text behind a log: it goes in, or there is no room. -/
theorem Sg.add_short {s : Seg} (hi : is s = true) (hw : (rd s.fs s.fi).2 = true) {t : ByteArray} (ht : t.size ≤ 100) (hn : (rd s.fs s.fi).1.length ≤ 1000) : addE s [t] = 0 ∨ addE s [t] = 2 ∨ addE s [t] = 81 := by
  have hb := (is_iff.1 hi).1.2.1
  have hp : Rc.putE (s.fi + (rd s.fs s.fi).1.length) (bl t) = 0 := by
    rw [Rc.putE_zero, bl_length]
    refine ⟨?_, by omega⟩
    unfold Rc.nOk; rw [decide_eq_true_iff]; omega
  have e : addE s [t] = oneE s (bl t) := by
    unfold addE; rw [if_pos hi, if_pos hw]
    show (go s [bl t]).2 = _
    by_cases h : oneE s (bl t) = 0
    · rw [go_yes h, h]; rfl
    · rw [go_not h]
  rw [e]
  unfold oneE
  rw [if_pos hw, if_pos hp]
  split
  · exact .inr (.inl rfl)
  · split
    · exact .inl rfl
    · split
      · exact .inr (.inr rfl)
      · exact .inl rfl

theorem segmentCrash_walk {E : World → Prop} (HS : Hid (SegK E)) (HC : Hid (PartedK E)) (size first : Int) (A1 : Option Addr) (N1 cap1 : Nat) (l : List ByteArray) (A2 : Option Addr) (N2 cap2 : Nat) (r : List ByteArray) (left : Int) (t : ByteArray) (w : World) (hE : E w) (hI1 : IsStrs w A1 N1 cap1 l) (hI2 : IsStrs w A2 N2 cap2 r) :
    Calls Try.prog 4 #[.int .i64 size, .int .i64 first, .slice A1 N1 cap1, .slice A2 N2 cap2, .int .i64 left, .string t] w fun e w' => e = .returned (.bool true) ∧ Below w.heap.size w w' := by
  obtain ⟨hN1, hM1, hA1, hs1⟩ := hI1.strs
  obtain ⟨hN2, hM2, hA2, hs2⟩ := hI2.strs
  have hc1 := hI1.cap13
  have hc2 := hI2.cap13
  subst hN1 hN2
  have KN0 := fun W (h : E W) => HS.out.new size first W h
  by_cases hne : Sg.newE size first = 0
  case neg =>
    have e2 : Sg.newE size first = 1 := by
      unfold Sg.newE at hne ⊢
      split at hne
      · exact absurd rfl hne
      · rename_i h; rw [if_neg h]
    have e1 : Sg.new size first = Sg.no := by
      unfold Sg.newE at hne
      split at hne
      · exact absurd rfl hne
      · rename_i h; unfold Sg.new; rw [if_neg h]
    have KN := fun W (h : E W) => Lib.hid ((KN0 W h).mono fun e w' hg => (hg.to e1 e2).rows (sz := 0) (fi := 0) (n := 0) (fs := []) rfl rfl rfl rfl)
    exact segmentCrash_new HS HC size first A1 _ cap1 l A2 _ cap2 r left t w hE hA1 hA2 KN
  obtain ⟨e1, hi0, hrd0⟩ := Sg.new_ok hne
  obtain ⟨s0, hs0⟩ : ∃ s, s = Sg.newS size first := ⟨_, rfl⟩
  rw [← hs0] at e1 hi0 hrd0
  have f1 : s0.sz = size := by rw [hs0]; rfl
  have f2 : s0.fi = first := by rw [hs0]; rfl
  have KN := fun W (h : E W) => Lib.hid ((KN0 W h).mono fun e w' hg => (hg.to e1 hne).rows f1 f2 rfl rfl)
  have hsm0 := Sg.fs_small hi0
  have hfl : s0.fs.length ≤ maxLen := Nat.le_trans hsm0.1 (by unfold maxLen; decide)
  have hfz : ∀ f ∈ s0.fs, f.kept.size ≤ maxLen ∧ f.loose.size ≤ maxLen := fun f hf => by
    have := hsm0.2 f hf; unfold Fi.small at this; unfold maxLen; omega
  have pf1 := fun W A c (hA : FilsAt W W.heap.size A s0.fs) (hB : StrsAt W W.heap.size A1 l) => Lib.hid (far14_any size first A c s0.fs A1 cap1 l W hA hfl hfz hB hM1 hs1)
  have pf2 := fun W A c (hA : FilsAt W W.heap.size A s0.fs) (hB : StrsAt W W.heap.size A2 r) => Lib.hid (far14_any size first A c s0.fs A2 cap2 r W hA hfl hfz hB hM2 hs2)
  cases hf1 : far14B s0.fs l
  case true => simp only [hf1] at pf1; exact segmentCrash_far1 HS HC size first A1 _ cap1 l A2 _ cap2 r left t w hE hA1 hA2 size first s0.fs.length s0.fs KN pf1
  cases hf2 : far14B s0.fs r
  case true => simp only [hf1] at pf1; simp only [hf2] at pf2; exact segmentCrash_far2 HS HC size first A1 _ cap1 l A2 _ cap2 r left t w hE hA1 hA2 size first s0.fs.length s0.fs KN pf1 pf2
  simp only [hf1] at pf1
  simp only [hf2] at pf2
  by_cases j3 : (100 : Int) < (t.size : Int)
  · exact segmentCrash_long HS HC size first A1 _ cap1 l A2 _ cap2 r left t w hE hA1 hA2 size first s0.fs.length s0.fs (eq_true j3) KN pf1 pf2
  obtain ⟨_, hl1, hz1⟩ := far14B_no hf1
  obtain ⟨_, hl2, hz2⟩ := far14B_no hf2
  have hz1' : ∀ s ∈ l, s.size ≤ 9000 := fun s hs => by have := (hz1 s hs).1; omega
  have hz2' : ∀ s ∈ r, s.size ≤ 9000 := fun s hs => by have := (hz2 s hs).1; omega
  obtain ⟨X, hX⟩ : ∃ s, s = Sg.add s0 l := ⟨_, rfl⟩
  obtain ⟨V, hV⟩ : ∃ s, s = Sg.sync X := ⟨_, rfl⟩
  obtain ⟨Y, hY⟩ : ∃ s, s = Sg.add V r := ⟨_, rfl⟩
  have hsmX : Sg.small X := by
    rw [hX]; by_cases h : Sg.addE s0 l = 0
    · exact Sg.fs_small (Sg.add_ok h).1
    · rw [Sg.add_bad h]; exact Sg.no_small
  have hsmV : Sg.small V := by
    rw [hV]; by_cases h : Sg.is X = true
    · exact Sg.fs_small (Sg.sync_is h).2
    · have e : Sg.sync X = Sg.no := by unfold Sg.sync; rw [if_neg h]
      rw [e]; exact Sg.no_small
  have KA := fun W A c (h : E W) hA (hR : RoomyF A s0.fs c) hB => Lib.hid ((HS.out.add s0 A s0.fs.length c A1 l.length cap1 l W h hsm0 hA rfl hR hB rfl (by omega) hc1.1 hz1').mono fun e w' hg => (hg.to hX.symm rfl).rows rfl rfl rfl rfl)
  have KV := fun W A c (h : E W) hA (hR : RoomyF A X.fs c) => Lib.hid ((HS.out.sync X A X.fs.length c W h hsmX hA rfl hR).mono fun e w' hg => (hg.to hV.symm rfl).rows rfl rfl rfl rfl)
  have KB := fun W A c (h : E W) hA (hR : RoomyF A V.fs c) hB => Lib.hid ((HS.out.add V A V.fs.length c A2 r.length cap2 r W h hsmV hA rfl hR hB rfl (by omega) hc2.1 hz2').mono fun e w' hg => (hg.to hY.symm rfl).rows rfl rfl rfl rfl)
  rw [f1, f2] at KA
  by_cases hg : Sg.addE s0 l = 0
  case neg =>
    exact segmentCrash_bad1 HS HC size first A1 _ cap1 l A2 _ cap2 r left t w hE hA1 hA2 size first s0.fs.length s0.fs _ _ _ _ _ _ _ _ _ _ _ _ (eq_false j3) _ _ _ (by rw [bne_iff_ne]; exact hg) KN pf1 pf2 KA KV KB
  obtain ⟨a1, a2, a3, a4⟩ := Sg.add_ok hg
  rw [← hX] at a1 a2 a3 a4
  rw [hrd0] at a2
  have a2' : rd X.fs X.fi = (l.map bl, true) := a2
  have heX : Sg.badE X = 0 := by unfold Sg.badE; rw [a1]; rfl
  rw [hg] at KA
  rw [heX] at KV
  by_cases hh : Sg.addE V r = 0
  case neg =>
    exact segmentCrash_bad2 HS HC size first A1 _ cap1 l A2 _ cap2 r left t w hE hA1 hA2 size first s0.fs.length s0.fs _ _ _ _ _ _ _ _ _ _ _ _ (eq_false j3) _ (by rw [bne_iff_ne]; exact hh) KN pf1 pf2 KA KV KB
  have hVi : Sg.is V = true := by rw [hV]; exact (Sg.sync_is a1).2
  have hVr : rd V.fs V.fi = (l.map bl, true) := by rw [hV, Sg.sync_rd a1, a2']
  have hVw : (rd V.fs V.fi).2 = true := by rw [hVr]
  have hVk : Sg.Kept V l.length := by
    have h := Sg.sync_kept a1 (by rw [a2'])
    rw [a2', List.length_map, ← hV] at h; exact h
  obtain ⟨b1, b2, b3, b4⟩ := Sg.add_ok hh
  rw [← hY] at b1 b2 b3 b4
  rw [hVr] at b2
  have b2' : rd Y.fs Y.fi = ((l ++ r).map bl, true) := by rw [b2, List.map_append]
  have hYw : (rd Y.fs Y.fi).2 = true := by rw [b2']
  have hYk : Sg.Kept Y l.length := by
    obtain ⟨_, _, hgo⟩ := Sg.addE_zero hh
    have h := Sg.go_kept hVi hgo hVk
    have e : Sg.add V r = (Sg.go V (r.map bl)).1 := by unfold Sg.add; rw [if_pos hh]
    rw [hY, e]; exact h
  rw [hh] at KB
  have hsmY := Sg.fs_small b1
  have heY : Sg.badE Y = 0 := by unfold Sg.badE; rw [b1]; rfl
  obtain ⟨D, hD⟩ : ∃ s, s = Sg.crash Y left := ⟨_, rfl⟩
  obtain ⟨M, hM⟩ : ∃ s, s = Sg.mend D := ⟨_, rfl⟩
  obtain ⟨d1, d2, d3, J, d4, d5, d6⟩ := Sg.crash_rd b1 hYw hYk left
  rw [← hD] at d1 d2 d3 d6
  rw [b2'] at d5 d6
  have hJz : J ≤ (l ++ r).length := by rw [List.length_map] at d5; exact d5
  have hsmD := Sg.fs_small d1
  have heD : Sg.badE D = 0 := by unfold Sg.badE; rw [d1]; rfl
  have m1 : Sg.is M = true := by rw [hM]; exact (Sg.mend_is d1).2
  have m2 : rd M.fs M.fi = (((l ++ r).take J).map bl, true) := by
    rw [hM, Sg.mend_rd d1, d6, List.map_take]
  have hsmM := Sg.fs_small m1
  have heM : Sg.badE M = 0 := by unfold Sg.badE; rw [m1]; rfl
  have mt : Sg.texts M = (l ++ r).take J := by unfold Sg.texts; rw [if_pos m1, m2]; exact Rc.map_back _
  have mJ : ((l ++ r).take J).length = J := by rw [List.length_take]; omega
  have hlen : (l ++ r).length ≤ 50 := by rw [List.length_append]; omega
  have KD := fun W A c (h : E W) hA (hR : RoomyF A Y.fs c) => Lib.hid ((HS.out.crash Y A Y.fs.length c left W h hsmY hA rfl hR).mono fun e w' hg => (hg.to hD.symm heY).rows rfl rfl rfl rfl)
  have KM := fun W A c (h : E W) hA (hR : RoomyF A D.fs c) => Lib.hid ((HS.out.mend D A D.fs.length c W h hsmD hA rfl hR).mono fun e w' hg => (hg.to hM.symm heD).rows rfl rfl rfl rfl)
  have KR := fun W A c (h : E W) hA (_ : RoomyF A M.fs c) => Lib.hid (HS.out.read M A M.fs.length c W h hsmM hA rfl)
  rw [mt, heM] at KR
  simp only [mJ] at KR
  have KT := texts14 ((l ++ r).take J) J mJ.symm (by rw [mJ]; unfold maxLen; omega)
  have hzt : ∀ x ∈ [t], x.size ≤ 9000 := fun x hx => by
    obtain rfl : x = t := by simpa using hx
    omega
  have KZ0 := fun W A c (h : E W) hA (hR : RoomyF A M.fs c) (A3 : Addr) hB => HS.out.add M A M.fs.length c (some A3) 1 1 [t] W h hsmM hA rfl hR hB rfl (by decide) (Nat.le_refl _) hzt
  have hml : (rd M.fs M.fi).1.length ≤ 1000 := by rw [m2, List.length_map, mJ]; omega
  by_cases hp : Sg.addE M [t] = 0
  · obtain ⟨z1, z2, z3, z4⟩ := Sg.add_ok hp
    obtain ⟨Z, hZ⟩ : ∃ s, s = Sg.add M [t] := ⟨_, rfl⟩
    have KZ := fun W A c (h : E W) hA (hR : RoomyF A M.fs c) (A3 : Addr) hB => Lib.hid ((KZ0 W A c h hA hR A3 hB).mono fun e w' hg => (hg.to hZ.symm hp).rows rfl rfl rfl rfl)
    have zt := Sg.add_texts hp
    rw [← hZ] at z1 zt
    have hsmZ := Sg.fs_small z1
    have heZ : Sg.badE Z = 0 := by unfold Sg.badE; rw [z1]; rfl
    have KU := fun W A c (h : E W) hA (_ : RoomyF A Z.fs c) => Lib.hid (HS.out.read Z A Z.fs.length c W h hsmZ hA rfl)
    have zl : ((l ++ r).take J ++ [t]).length = J + 1 := by rw [List.length_append, mJ]; rfl
    rw [zt, mt, heZ] at KU
    simp only [zl] at KU
    exact segmentCrash_ok HS HC size first A1 _ cap1 l A2 _ cap2 r left t w hE hA1 hA2 size first s0.fs.length s0.fs _ _ _ _ _ _ _ _ _ _ _ _ _ _ _ _ _ _ _ _ _ _ _ _ (eq_false j3) rfl rfl hl1 hl2 hc1.2 hc2.2 (l ++ r) ((l ++ r).take J) rfl _ J rfl hJz rfl (eq_false (by omega)) (eq_false (by omega)) KN pf1 pf2 KA KV KB KD KM KR KT KZ KU
  · have hno := Sg.add_bad hp
    have KO := fun W A c (h : E W) hA (_ : RoomyF A Sg.no.fs c) => Lib.hid (HS.out.read Sg.no A 0 c W h Sg.no_small hA rfl)
    have hnt : Sg.texts Sg.no = [] := rfl
    have hne0 : Sg.badE Sg.no = 1 := rfl
    rw [hnt, hne0] at KO
    rcases Sg.add_short m1 (by rw [m2]) (show t.size ≤ 100 by omega) hml with h | h | h
    · exact absurd h hp
    · have KZ := fun W A c (h9 : E W) hA (hR : RoomyF A M.fs c) (A3 : Addr) hB => Lib.hid ((KZ0 W A c h9 hA hR A3 hB).mono fun e w' hg => (hg.to hno h).rows (sz := 0) (fi := 0) (n := 0) (fs := []) rfl rfl rfl rfl)
      exact segmentCrash_full2 HS HC size first A1 _ cap1 l A2 _ cap2 r left t w hE hA1 hA2 size first s0.fs.length s0.fs _ _ _ _ _ _ _ _ _ _ _ _ _ _ _ _ _ _ _ _ (eq_false j3) rfl rfl hl1 hl2 hc1.2 hc2.2 (l ++ r) ((l ++ r).take J) rfl _ J rfl hJz rfl (eq_false (by omega)) (eq_false (by omega)) KN pf1 pf2 KA KV KB KD KM KR KT KZ KO
    · have KZ := fun W A c (h9 : E W) hA (hR : RoomyF A M.fs c) (A3 : Addr) hB => Lib.hid ((KZ0 W A c h9 hA hR A3 hB).mono fun e w' hg => (hg.to hno h).rows (sz := 0) (fi := 0) (n := 0) (fs := []) rfl rfl rfl rfl)
      exact segmentCrash_full81 HS HC size first A1 _ cap1 l A2 _ cap2 r left t w hE hA1 hA2 size first s0.fs.length s0.fs _ _ _ _ _ _ _ _ _ _ _ _ _ _ _ _ _ _ _ _ (eq_false j3) rfl rfl hl1 hl2 hc1.2 hc2.2 (l ++ r) ((l ++ r).take J) rfl _ J rfl hJz rfl (eq_false (by omega)) (eq_false (by omega)) KN pf1 pf2 KA KV KB KD KM KR KT KZ KO
end Go.Proofs.Ytlnchfnmpamliaa
