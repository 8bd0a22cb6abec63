/-
  Layer 14 (segment): the law SegmentDrop, over the structure: its cases put together.
-/
import Derived.Test.YtlnchfnmpamliaaXSegmentDropA
import Derived.Test.YtlnchfnmpamliaaXSegmentDropB
namespace Go.Proofs.Ytlnchfnmpamliaa
set_option maxRecDepth 10000
open Go.RowKit
open Sg

/-- Nothing to drop of a log that is none. -/
theorem Sg.drop_no (n : Int) : Sg.drop Sg.no n = Sg.no := rfl

theorem segmentDrop_walk {E : World → Prop} (HS : Hid (SegK E)) (HC : Hid (PartedK E)) (size first : Int) (A1 : Option Addr) (N1 cap1 : Nat) (l : List ByteArray) (upto more : Int) (t : ByteArray) (w : World) (hE : E w) (hI1 : IsStrs w A1 N1 cap1 l) :
    Calls Try.prog 5 #[.int .i64 size, .int .i64 first, .slice A1 N1 cap1, .int .i64 upto, .int .i64 more, .string t] w fun e w' => e = .returned (.bool true) ∧ Below w.heap.size w w' := by
  obtain ⟨hN1, hM1, hA1, hs1⟩ := hI1.strs
  have hc1 := hI1.cap13
  subst hN1
  have KN0 := fun W (h : E W) => HS.out.new size first W h
  by_cases hne : Sg.newE size first = 0
  case neg =>
    have e2 : Sg.newE size first = 1 := by
      unfold Sg.newE at hne ⊢
      split at hne
      · exact absurd rfl hne
      · rename_i h; rw [if_neg h]
    have e1 : Sg.new size first = Sg.no := by
      unfold Sg.newE at hne
      split at hne
      · exact absurd rfl hne
      · rename_i h; unfold Sg.new; rw [if_neg h]
    have KN := fun W (h : E W) => Lib.hid ((KN0 W h).mono fun e w' hg => (hg.to e1 e2).rows (sz := 0) (fi := 0) (n := 0) (fs := []) rfl rfl rfl rfl)
    exact segmentDrop_new HS HC size first A1 _ cap1 l upto more t w hE hA1 KN
  obtain ⟨e1, hi0, hrd0⟩ := Sg.new_ok hne
  obtain ⟨s0, hs0⟩ : ∃ s, s = Sg.newS size first := ⟨_, rfl⟩
  rw [← hs0] at e1 hi0 hrd0
  have f1 : s0.sz = size := by rw [hs0]; rfl
  have f2 : s0.fi = first := by rw [hs0]; rfl
  have KN := fun W (h : E W) => Lib.hid ((KN0 W h).mono fun e w' hg => (hg.to e1 hne).rows f1 f2 rfl rfl)
  have hsm0 := Sg.fs_small hi0
  have hfl : s0.fs.length ≤ maxLen := Nat.le_trans hsm0.1 (by unfold maxLen; decide)
  have hfz : ∀ f ∈ s0.fs, f.kept.size ≤ maxLen ∧ f.loose.size ≤ maxLen := fun f hf => by
    have := hsm0.2 f hf; unfold Fi.small at this; unfold maxLen; omega
  have pf1 := fun W A c (hA : FilsAt W W.heap.size A s0.fs) (hB : StrsAt W W.heap.size A1 l) => Lib.hid (far14_any size first A c s0.fs A1 cap1 l W hA hfl hfz hB hM1 hs1)
  cases hf1 : far14B s0.fs l
  case true => simp only [hf1] at pf1; exact segmentDrop_far1 HS HC size first A1 _ cap1 l upto more t w hE hA1 size first s0.fs.length s0.fs KN pf1
  simp only [hf1] at pf1
  by_cases j3 : (100 : Int) < (t.size : Int)
  · exact segmentDrop_long HS HC size first A1 _ cap1 l upto more t w hE hA1 size first s0.fs.length s0.fs (eq_true j3) KN pf1
  by_cases j4 : (800000000 : Int) < first
  · exact segmentDrop_late HS HC size first A1 _ cap1 l upto more t w hE hA1 size first s0.fs.length s0.fs (eq_false j3) (eq_true j4) KN pf1
  obtain ⟨_, hl1, hz1⟩ := far14B_no hf1
  have hz1' : ∀ s ∈ l, s.size ≤ 9000 := fun s hs => by have := (hz1 s hs).1; omega
  obtain ⟨X, hX⟩ : ∃ s, s = Sg.add s0 l := ⟨_, rfl⟩
  obtain ⟨B, hB⟩ : ∃ s, s = Sg.drop X upto := ⟨_, rfl⟩
  obtain ⟨C, hC⟩ : ∃ s, s = Sg.drop B more := ⟨_, rfl⟩
  have hsmX : Sg.small X := by
    rw [hX]; by_cases h : Sg.addE s0 l = 0
    · exact Sg.fs_small (Sg.add_ok h).1
    · rw [Sg.add_bad h]; exact Sg.no_small
  have KA := fun W A c (h : E W) hA (hR : RoomyF A s0.fs c) hB => Lib.hid ((HS.out.add s0 A s0.fs.length c A1 l.length cap1 l W h hsm0 hA rfl hR hB rfl (by omega) hc1.1 hz1').mono fun e w' hg => (hg.to hX.symm rfl).rows rfl rfl rfl rfl)
  rw [f1, f2] at KA
  by_cases hg : Sg.addE s0 l = 0
  case neg =>
    have hXn : X = Sg.no := by rw [hX]; exact Sg.add_bad hg
    have hBn : B = Sg.no := by rw [hB, hXn]; rfl
    have hCn : C = Sg.no := by rw [hC, hBn]; rfl
    have hsmB : Sg.small B := by rw [hBn]; exact Sg.no_small
    have heX : Sg.badE X = 1 := by rw [hXn]; rfl
    have heB : Sg.badE B = 1 := by rw [hBn]; rfl
    have KB := fun W A c (h : E W) hA (hR : RoomyF A X.fs c) => Lib.hid ((HS.out.drop X A X.fs.length c upto W h hsmX hA rfl hR).mono fun e w' hg => (hg.to hB.symm heX).rows rfl rfl rfl rfl)
    have KC := fun W A c (h : E W) hA (hR : RoomyF A B.fs c) => Lib.hid ((HS.out.drop B A B.fs.length c more W h hsmB hA rfl hR).mono fun e w' hg => (hg.to hC.symm heB).rows rfl rfl rfl rfl)
    have KD := fun k W A c (h : E W) hA (hR : RoomyF A X.fs c) => Lib.hid ((HS.out.drop X A X.fs.length c k W h hsmX hA rfl hR).mono fun e w' hg => (hg.to (show Sg.drop X k = C by rw [hXn, hCn]; rfl) heX).rows rfl rfl rfl rfl)
    by_cases hm : upto < more
    · exact segmentDrop_bad1 HS HC size first A1 _ cap1 l upto more t w hE hA1 size first s0.fs.length s0.fs _ _ _ _ _ _ _ _ _ _ _ _ (eq_false j3) (eq_false j4) (eq_true hm) _ _ (by rw [bne_iff_ne]; exact hg) KN pf1 KA KB KC (KD more)
    · exact segmentDrop_bad2 HS HC size first A1 _ cap1 l upto more t w hE hA1 size first s0.fs.length s0.fs _ _ _ _ _ _ _ _ _ _ _ _ (eq_false j3) (eq_false j4) (eq_false hm) _ _ (by rw [bne_iff_ne]; exact hg) KN pf1 KA KB KC (KD upto)
  obtain ⟨a1, a2, a3, a4⟩ := Sg.add_ok hg
  rw [← hX] at a1 a2 a3 a4
  rw [hrd0] at a2
  have a2' : rd X.fs X.fi = (l.map bl, true) := a2
  have aw : (rd X.fs X.fi).2 = true := by rw [a2']
  have heX : Sg.badE X = 0 := by unfold Sg.badE; rw [a1]; rfl
  obtain ⟨b1, kk, b2, b3, b4, b5⟩ := Sg.drop_is a1 aw upto
  rw [← hB] at b1 b3 b4
  rw [a2'] at b2 b4
  have hkk : kk ≤ l.length := by rw [List.length_map] at b2; exact b2
  have b4' : rd B.fs B.fi = ((l.drop kk).map bl, true) := by rw [b4, List.map_drop]
  have bw : (rd B.fs B.fi).2 = true := by rw [b4']
  have heB : Sg.badE B = 0 := by unfold Sg.badE; rw [b1]; rfl
  have hBf : B.fi = first + (kk : Int) := by rw [b3, a4, f2]
  have b5' : kk = 0 ∨ first + (kk : Int) ≤ upto := by rw [a4, f2] at b5; exact b5
  have hsmB := Sg.fs_small b1
  have hf0 : 0 ≤ first := by have := (is_iff.1 hi0).1.2.1.1; rw [f2] at this; exact this
  have bt : Sg.texts B = l.drop kk := by unfold Sg.texts; rw [if_pos b1, b4']; exact Rc.map_back _
  have xt : Sg.texts X = l := by unfold Sg.texts; rw [if_pos a1, a2']; exact Rc.map_back _
  have hCe : ∀ k, k = max upto more → Sg.drop X k = C := fun k hk => by rw [hC, hB, hk]; exact (Sg.drop_twice a1 aw upto more).symm
  have c1 : Sg.is C = true := by rw [hC]; exact (Sg.drop_is b1 bw more).1
  have hsmC := Sg.fs_small c1
  have hdl : (l.drop kk).length = l.length - kk := List.length_drop
  rw [hg] at KA
  have KB := fun W A c (h : E W) hA (hR : RoomyF A X.fs c) => Lib.hid ((HS.out.drop X A X.fs.length c upto W h hsmX hA rfl hR).mono fun e w' hg => (hg.to hB.symm heX).rows rfl rfl rfl rfl)
  have KC := fun W A c (h : E W) hA (hR : RoomyF A B.fs c) => Lib.hid ((HS.out.drop B A B.fs.length c more W h hsmB hA rfl hR).mono fun e w' hg => (hg.to hC.symm heB).rows rfl rfl rfl rfl)
  have KD := fun k (hk : k = max upto more) W A c (h : E W) hA (hR : RoomyF A X.fs c) => Lib.hid ((HS.out.drop X A X.fs.length c k W h hsmX hA rfl hR).mono fun e w' hg => (hg.to (hCe k hk) heX).rows rfl rfl rfl rfl)
  have KR := fun W A c (h : E W) hA (_ : RoomyF A B.fs c) => Lib.hid (HS.out.read B A B.fs.length c W h hsmB hA rfl)
  rw [bt, heB] at KR
  simp only [hdl] at KR
  have KT := texts14 (l.drop kk) (l.length - kk) hdl.symm (by rw [hdl]; unfold maxLen; omega)
  have KS := same14 C.sz C.fi C.fs C.fs.length rfl (Nat.le_trans hsmC.1 (by unfold maxLen; decide))
  have hzt : ∀ x ∈ [t], x.size ≤ 9000 := fun x hx => by
    obtain rfl : x = t := by simpa using hx
    omega
  have KY := fun W A c (h : E W) hA (hR : RoomyF A X.fs c) (A3 : Addr) hB => Lib.hid ((HS.out.add X A X.fs.length c (some A3) 1 1 [t] W h hsmX hA rfl hR hB rfl (by decide) (Nat.le_refl _) hzt).mono fun e w' hg => hg.rows rfl rfl rfl rfl)
  have KZ := fun W A c (h : E W) hA (hR : RoomyF A B.fs c) (A3 : Addr) hB => Lib.hid ((HS.out.add B A B.fs.length c (some A3) 1 1 [t] W h hsmB hA rfl hR hB rfl (by decide) (Nat.le_refl _) hzt).mono fun e w' hg => hg.rows rfl rfl rfl rfl)
  rw [hBf] at KB KC KR KZ
  have iwn : wrap64 (first + (kk : Int) - first) = (kk : Int) := by unfold wrap64; omega
  have jk1 : ((kk : Int) < 0) = False := eq_false (by omega)
  have jk2 : ((l.length : Int) < (kk : Int)) = False := eq_false (by omega)
  have hpos : 0 < kk → (upto < first + (kk : Int)) = False := fun h => eq_false (by omega)
  by_cases hy : Sg.addE X [t] = 0
  case neg =>
    have jy : (Sg.addE X [t] != 0) = true := by rw [bne_iff_ne]; exact hy
    by_cases hm : upto < more <;> by_cases hk0 : 0 < kk
    · exact segmentDrop_ap1 HS HC size first A1 _ cap1 l upto more t w hE hA1 size first s0.fs.length s0.fs _ _ _ _ _ _ _ _ _ _ _ _ (eq_false j3) (eq_false j4) (eq_true hm) _ _ _ _ _ _ _ _ (l.drop kk) kk _ rfl hc1.1 hkk rfl rfl hl1 iwn jk1 jk2 (eq_true hk0) (hpos hk0) _ _ jy KN pf1 KA KB KC (KD more (by omega)) KR KT KS KY KZ
    · exact segmentDrop_az1 HS HC size first A1 _ cap1 l upto more t w hE hA1 size first s0.fs.length s0.fs _ _ _ _ _ _ _ _ _ _ _ _ (eq_false j3) (eq_false j4) (eq_true hm) _ _ _ _ _ _ _ _ (l.drop kk) kk _ rfl hc1.1 hkk rfl rfl hl1 iwn jk1 jk2 (eq_false hk0) _ _ jy KN pf1 KA KB KC (KD more (by omega)) KR KT KS KY KZ
    · exact segmentDrop_ap2 HS HC size first A1 _ cap1 l upto more t w hE hA1 size first s0.fs.length s0.fs _ _ _ _ _ _ _ _ _ _ _ _ (eq_false j3) (eq_false j4) (eq_false hm) _ _ _ _ _ _ _ _ (l.drop kk) kk _ rfl hc1.1 hkk rfl rfl hl1 iwn jk1 jk2 (eq_true hk0) (hpos hk0) _ _ jy KN pf1 KA KB KC (KD upto (by omega)) KR KT KS KY KZ
    · exact segmentDrop_az2 HS HC size first A1 _ cap1 l upto more t w hE hA1 size first s0.fs.length s0.fs _ _ _ _ _ _ _ _ _ _ _ _ (eq_false j3) (eq_false j4) (eq_false hm) _ _ _ _ _ _ _ _ (l.drop kk) kk _ rfl hc1.1 hkk rfl rfl hl1 iwn jk1 jk2 (eq_false hk0) _ _ jy KN pf1 KA KB KC (KD upto (by omega)) KR KT KS KY KZ
  rw [hy] at KY
  by_cases hz : Sg.addE B [t] = 0
  case neg =>
    have jz : (Sg.addE B [t] != 0) = true := by rw [bne_iff_ne]; exact hz
    by_cases hm : upto < more <;> by_cases hk0 : 0 < kk
    · exact segmentDrop_bp1 HS HC size first A1 _ cap1 l upto more t w hE hA1 size first s0.fs.length s0.fs _ _ _ _ _ _ _ _ _ _ _ _ (eq_false j3) (eq_false j4) (eq_true hm) _ _ _ _ _ _ _ _ (l.drop kk) kk _ rfl hc1.1 hkk rfl rfl hl1 iwn jk1 jk2 (eq_true hk0) (hpos hk0) _ jz KN pf1 KA KB KC (KD more (by omega)) KR KT KS KY KZ
    · exact segmentDrop_bz1 HS HC size first A1 _ cap1 l upto more t w hE hA1 size first s0.fs.length s0.fs _ _ _ _ _ _ _ _ _ _ _ _ (eq_false j3) (eq_false j4) (eq_true hm) _ _ _ _ _ _ _ _ (l.drop kk) kk _ rfl hc1.1 hkk rfl rfl hl1 iwn jk1 jk2 (eq_false hk0) _ jz KN pf1 KA KB KC (KD more (by omega)) KR KT KS KY KZ
    · exact segmentDrop_bp2 HS HC size first A1 _ cap1 l upto more t w hE hA1 size first s0.fs.length s0.fs _ _ _ _ _ _ _ _ _ _ _ _ (eq_false j3) (eq_false j4) (eq_false hm) _ _ _ _ _ _ _ _ (l.drop kk) kk _ rfl hc1.1 hkk rfl rfl hl1 iwn jk1 jk2 (eq_true hk0) (hpos hk0) _ jz KN pf1 KA KB KC (KD upto (by omega)) KR KT KS KY KZ
    · exact segmentDrop_bz2 HS HC size first A1 _ cap1 l upto more t w hE hA1 size first s0.fs.length s0.fs _ _ _ _ _ _ _ _ _ _ _ _ (eq_false j3) (eq_false j4) (eq_false hm) _ _ _ _ _ _ _ _ (l.drop kk) kk _ rfl hc1.1 hkk rfl rfl hl1 iwn jk1 jk2 (eq_false hk0) _ jz KN pf1 KA KB KC (KD upto (by omega)) KR KT KS KY KZ
  rw [hz] at KZ
  obtain ⟨y1, _, _, _⟩ := Sg.add_ok hy
  obtain ⟨z1, _, _, _⟩ := Sg.add_ok hz
  have yt := Sg.add_texts hy
  have zt := Sg.add_texts hz
  rw [xt] at yt
  rw [bt] at zt
  have hsmY := Sg.fs_small y1
  have hsmZ := Sg.fs_small z1
  have heY : Sg.badE (Sg.add X [t]) = 0 := by unfold Sg.badE; rw [y1]; rfl
  have heZ : Sg.badE (Sg.add B [t]) = 0 := by unfold Sg.badE; rw [z1]; rfl
  have yl : (l ++ [t]).length = l.length + 1 := by rw [List.length_append]; rfl
  have zl : (l.drop kk ++ [t]).length = l.length - kk + 1 := by rw [List.length_append, hdl]; rfl
  have KU := fun W A c (h : E W) hA (_ : RoomyF A (Sg.add X [t]).fs c) => Lib.hid (HS.out.read (Sg.add X [t]) A (Sg.add X [t]).fs.length c W h hsmY hA rfl)
  have KV := fun W A c (h : E W) hA (_ : RoomyF A (Sg.add B [t]).fs c) => Lib.hid (HS.out.read (Sg.add B [t]) A (Sg.add B [t]).fs.length c W h hsmZ hA rfl)
  rw [yt, heY] at KU
  rw [zt, heZ] at KV
  simp only [yl] at KU
  simp only [zl] at KV
  have KT2 := texts14 (l.drop kk ++ [t]) (l.length - kk + 1) zl.symm (by rw [zl]; unfold maxLen; omega)
  by_cases hm : upto < more <;> by_cases hk0 : 0 < kk
  · exact segmentDrop_okp1 HS HC size first A1 _ cap1 l upto more t w hE hA1 size first s0.fs.length s0.fs _ _ _ _ _ _ _ _ _ _ _ _ (eq_false j3) (eq_false j4) (eq_true hm) _ _ _ _ _ _ _ _ (l.drop kk) kk _ rfl hc1.1 hkk rfl rfl hl1 iwn jk1 jk2 (eq_true hk0) (hpos hk0) KN pf1 KA KB KC (KD more (by omega)) KR KT KS KY KZ KU KV KT2
  · exact segmentDrop_okz1 HS HC size first A1 _ cap1 l upto more t w hE hA1 size first s0.fs.length s0.fs _ _ _ _ _ _ _ _ _ _ _ _ (eq_false j3) (eq_false j4) (eq_true hm) _ _ _ _ _ _ _ _ (l.drop kk) kk _ rfl hc1.1 hkk rfl rfl hl1 iwn jk1 jk2 (eq_false hk0) KN pf1 KA KB KC (KD more (by omega)) KR KT KS KY KZ KU KV KT2
  · exact segmentDrop_okp2 HS HC size first A1 _ cap1 l upto more t w hE hA1 size first s0.fs.length s0.fs _ _ _ _ _ _ _ _ _ _ _ _ (eq_false j3) (eq_false j4) (eq_false hm) _ _ _ _ _ _ _ _ (l.drop kk) kk _ rfl hc1.1 hkk rfl rfl hl1 iwn jk1 jk2 (eq_true hk0) (hpos hk0) KN pf1 KA KB KC (KD upto (by omega)) KR KT KS KY KZ KU KV KT2
  · exact segmentDrop_okz2 HS HC size first A1 _ cap1 l upto more t w hE hA1 size first s0.fs.length s0.fs _ _ _ _ _ _ _ _ _ _ _ _ (eq_false j3) (eq_false j4) (eq_false hm) _ _ _ _ _ _ _ _ (l.drop kk) kk _ rfl hc1.1 hkk rfl rfl hl1 iwn jk1 jk2 (eq_false hk0) KN pf1 KA KB KC (KD upto (by omega)) KR KT KS KY KZ KU KV KT2
end Go.Proofs.Ytlnchfnmpamliaa
