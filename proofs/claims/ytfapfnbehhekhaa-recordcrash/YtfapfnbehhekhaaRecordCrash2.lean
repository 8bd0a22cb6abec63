/-
  Layer 13 (record): the law RecordCrash, its cases put together (printed by tools/gen-reccrash.py).
-/
import Derived.Test.YtfapfnbehhekhaaRecordCrash
namespace Go.Proofs.Ytfapfnbehhekhaa
set_option maxRecDepth 10000
open Go.RowKit

theorem recordCrash_walk {E : World → Prop} (HS : Hid (RecK E)) (HC : Hid (RecordedK E)) (HF : Hid (FilR E)) (most n : Int) (A1 : Option Addr) (N1 cap1 : Nat) (l : List ByteArray) (A2 : Option Addr) (N2 cap2 : Nat) (r : List ByteArray) (left : Int) (s : ByteArray) (w : World) (hE : E w) (hI1 : IsStrs w A1 N1 cap1 l) (hI2 : IsStrs w A2 N2 cap2 r) :
    Calls Try.prog 5 #[.int .i64 most, .int .i64 n, .slice A1 N1 cap1, .slice A2 N2 cap2, .int .i64 left, .string s] w fun e w' => e = .returned (.bool true) ∧ Below w.heap.size w w' := by
  obtain ⟨hN1, hM1, hA1, hs1⟩ := hI1.strs
  obtain ⟨hN2, hM2, hA2, hs2⟩ := hI2.strs
  have hc1 := hI1.cap13
  have hc2 := hI2.cap13
  subst hN1 hN2
  have KN := fun W (h : E W) => Lib.hid (HF.out.new most W h)
  by_cases hm : 1 ≤ most ∧ most ≤ 4000
  case neg =>
    have e1 : Fi.new most = Fi.no := by unfold Fi.new; rw [if_neg hm]
    have e2 : Fi.newE most = 1 := by unfold Fi.newE; rw [if_neg hm]
    rw [e1, e2] at KN
    exact recordCrash_new HS HC most n A1 _ cap1 l A2 _ cap2 r left s w hE hA1 hA2 KN
  have e1 : Fi.new most = ⟨most, ⟨#[]⟩, ⟨#[]⟩⟩ := by unfold Fi.new; rw [if_pos hm]
  have e2 : Fi.newE most = 0 := by unfold Fi.newE; rw [if_pos hm]
  rw [e1, e2] at KN
  have f0s : Fi.small ⟨most, ⟨#[]⟩, ⟨#[]⟩⟩ := ⟨Nat.zero_le _, Nat.zero_le _⟩
  have pf1 := fun W (h : StrsAt W W.heap.size A1 l) => Lib.hid (far13_any most ⟨#[]⟩ ⟨#[]⟩ A1 cap1 l W h hM1 hs1)
  have pf2 := fun W (h : StrsAt W W.heap.size A2 r) => Lib.hid (far13_any most ⟨#[]⟩ ⟨#[]⟩ A2 cap2 r W h hM2 hs2)
  cases hf1 : farB ⟨#[]⟩ ⟨#[]⟩ l
  case true => rw [hf1] at pf1; exact recordCrash_far1 HS HC most n A1 _ cap1 l A2 _ cap2 r left s w hE hA1 hA2 KN pf1
  cases hf2 : farB ⟨#[]⟩ ⟨#[]⟩ r
  case true => rw [hf1] at pf1; rw [hf2] at pf2; exact recordCrash_far2 HS HC most n A1 _ cap1 l A2 _ cap2 r left s w hE hA1 hA2 KN pf1 pf2
  rw [hf1] at pf1; rw [hf2] at pf2
  by_cases j1 : n < 0
  · exact recordCrash_neg HS HC most n A1 _ cap1 l A2 _ cap2 r left s w hE hA1 hA2 (eq_true j1) KN pf1 pf2
  by_cases j2 : 900000000 < n
  · exact recordCrash_big HS HC most n A1 _ cap1 l A2 _ cap2 r left s w hE hA1 hA2 (eq_false j1) (eq_true j2) KN pf1 pf2
  by_cases j3 : (200 : Int) < (s.size : Int)
  · exact recordCrash_long HS HC most n A1 _ cap1 l A2 _ cap2 r left s w hE hA1 hA2 (eq_false j1) (eq_false j2) (eq_true j3) KN pf1 pf2
  obtain ⟨_, hl1, hz1⟩ := farB_no hf1
  obtain ⟨_, hl2, hz2⟩ := farB_no hf2
  have hz1' : ∀ s ∈ l, s.size ≤ 9000 := fun s hs => by have := (hz1 s hs).1; omega
  have hz2' : ∀ s ∈ r, s.size ≤ 9000 := fun s hs => by have := (hz2 s hs).1; omega
  obtain ⟨X, hX⟩ : ∃ X, X = Rc.add ⟨most, ⟨#[]⟩, ⟨#[]⟩⟩ n l := ⟨_, rfl⟩
  obtain ⟨V, hV⟩ : ∃ V, V = Fi.sync X := ⟨_, rfl⟩
  obtain ⟨n2, hn2⟩ : ∃ z, z = wrap64 (n + (l.length : Int)) := ⟨_, rfl⟩
  obtain ⟨Y, hY⟩ : ∃ Y, Y = Rc.add V n2 r := ⟨_, rfl⟩
  have hXs : Fi.small X := by rw [hX]; exact Rc.add_small _ _ _
  have hVs : Fi.small V := by
    rw [hV]
    cases hi : Fi.is X
    · have e : Fi.sync X = Fi.no := by unfold Fi.sync; rw [hi]; rfl
      rw [e]; exact Rc.no_small
    · have e : Fi.sync X = ⟨X.most, Fi.read X, ⟨#[]⟩⟩ := by unfold Fi.sync; rw [hi]; rfl
      have := Fi.is_small hi
      rw [e]; unfold Fi.small; simp only; rw [Fi.read_size]; exact ⟨by omega, Nat.zero_le _⟩
  have KA := fun W (h : E W) (hA : StrsAt W W.heap.size A1 l) => Lib.hid (HS.out.add ⟨most, ⟨#[]⟩, ⟨#[]⟩⟩ n A1 l.length cap1 l W h f0s hA rfl (by omega) hc1.1 hz1')
  have KV := fun W (h : E W) => Lib.hid (HF.out.sync X W h hXs)
  have KB := fun W (h : E W) (hA : StrsAt W W.heap.size A2 r) => Lib.hid (HS.out.add V n2 A2 r.length cap2 r W h hVs hA rfl (by omega) hc2.1 hz2')
  rw [← hX] at KA
  rw [← hV] at KV
  rw [← hY] at KB
  by_cases hg : Rc.addE ⟨most, ⟨#[]⟩, ⟨#[]⟩⟩ n l = 0
  case neg => exact recordCrash_bad1 HS HC most n A1 _ cap1 l A2 _ cap2 r left s w hE hA1 hA2 (eq_false j1) (eq_false j2) (eq_false j3) _ _ _ _ _ _ _ _ _ n2 (Lib.hid hn2.symm) _ _ _ (by rw [bne_iff_ne]; exact hg) KN pf1 pf2 KA KV KB
  have hXi : Fi.is X = true := by rw [hX]; exact Rc.add_is hg
  have hXe : Fi.badE X = 0 := by unfold Fi.badE; rw [hXi]; rfl
  have hVe : V = ⟨X.most, Fi.read X, ⟨#[]⟩⟩ := by rw [hV]; unfold Fi.sync; rw [hXi]; rfl
  rw [hg] at KA
  rw [hXe] at KV
  by_cases hh : Rc.addE V n2 r = 0
  case neg => exact recordCrash_bad2 HS HC most n A1 _ cap1 l A2 _ cap2 r left s w hE hA1 hA2 (eq_false j1) (eq_false j2) (eq_false j3) _ _ _ _ _ _ _ _ _ n2 (Lib.hid hn2.symm) _ (by rw [bne_iff_ne]; exact hh) KN pf1 pf2 KA KV KB
  rw [hh] at KB
  have hnl : n2 = n + (l.length : Int) := by rw [hn2]; unfold wrap64; omega
  obtain ⟨_, hok1, _⟩ := Rc.addE_zero.1 hg
  obtain ⟨_, hok2, _⟩ := Rc.addE_zero.1 hh
  have hokz : Rc.okAll n ((l ++ r).map bl) := by
    rw [List.map_append, Rc.okAll_append, List.length_map, ← hnl]; exact ⟨hok1, hok2⟩
  have hXr : bl (Fi.read X) = Rc.recs n (l.map bl) := by rw [hX, Rc.add_read hg]; rfl
  have hXm : X.most = most := by rw [hX, Rc.add_ok hg]
  have hYe : Y = ⟨most, Fi.read X, (⟨#[]⟩ : ByteArray) ++ strOf (Rc.recs n2 (r.map bl))⟩ := by rw [hY, Rc.add_ok hh, hVe, hXm]
  have hYi : Fi.is Y = true := by rw [hY]; exact Rc.add_is hh
  have hYs := Rc.is_small9 hYi
  obtain ⟨q, hq⟩ : ∃ q, q = Fi.many Y left := ⟨_, rfl⟩
  have hq2 : q ≤ Y.loose.size := by rw [hq]; unfold Fi.many; exact Nat.min_le_right _ _
  obtain ⟨D, hD⟩ : ∃ D, D = Fi.crash Y left := ⟨_, rfl⟩
  have hDe : D = ⟨most, Fi.read X ++ Y.loose.extract 0 q, ⟨#[]⟩⟩ := by
    rw [hD]; unfold Fi.crash; rw [if_pos hYi, ← hq, hYe]
  have hYl : bl Y.loose = Rc.recs n2 (r.map bl) := by rw [hYe]; simp only; rw [bl_append, bl_strOf]; rfl
  have hDr : bl (Fi.read D) = (Rc.recs n ((l ++ r).map bl)).take ((Rc.recs n (l.map bl)).length + q) := by
    rw [hDe]; unfold Fi.read; simp only
    rw [bl_append, bl_append, bl_extract_to _ _ hq2, hYl, List.map_append, Rc.recs_append, List.length_map, ← hnl, List.take_length_add_append]
    have e : bl (X.kept ++ X.loose) = Rc.recs n (l.map bl) := hXr
    rw [e]; show _ ++ [] = _; rw [List.append_nil]
  have hDi : Fi.is D = true := by
    have h1 := Fi.is_small hYi
    have h2 : Y.kept.size = (Fi.read X).size := by rw [hYe]
    rw [hDe]; unfold Fi.is; rw [decide_eq_true_iff]; simp only
    rw [ByteArray.size_append, ByteArray.size_extract]
    show 1 ≤ most ∧ most ≤ 4000 ∧ (((Fi.read X).size + (min q Y.loose.size - 0) : Nat) : Int) + (0 : Nat) ≤ most
    have h3 : Y.most = most := by rw [hYe]
    omega
  have hDs := Rc.is_small9 hDi
  obtain ⟨J, hJ, hsc, hJi⟩ := Rc.scan_cut hokz ((Rc.recs n (l.map bl)).length + q)
  have hJz : J ≤ (l ++ r).length := by rw [List.length_map] at hJ; exact hJ
  have hDt : Rc.texts D n = (l ++ r).take J := by
    rw [Rc.texts_yes hDi]; unfold Rc.sc; rw [hDr, hsc]
    show ((((l ++ r).map bl).take J).map strOf) = _
    rw [← List.map_take]; exact Rc.map_back _
  have hDl : (Rc.texts D n).length = J := by rw [hDt, List.length_take]; omega
  have hJ1 : l.length ≤ J := by
    refine hJi l.length (by simp) ?_
    have e : ((l ++ r).map bl).take l.length = l.map bl := by rw [← List.map_take, List.take_left]
    rw [e]; omega
  have hDb : Fi.badE D = 0 := by unfold Fi.badE; rw [hDi]; rfl
  have hYb : Fi.badE Y = 0 := by unfold Fi.badE; rw [hYi]; rfl
  have KD := fun W (h : E W) => Lib.hid (HF.out.crash Y left W h hYs)
  rw [← hD, hYb] at KD
  have KM := fun W (h : E W) => Lib.hid (HS.out.mend D n W h hDs)
  rw [hDl, hDb] at KM
  obtain ⟨M, hMe⟩ : ∃ M, M = Rc.mend D n := ⟨_, rfl⟩
  rw [← hMe] at KM
  have hMi : Fi.is M = true := by rw [hMe]; exact Rc.mend_is hDi n
  have hMs := Rc.is_small9 hMi
  have hMt : Rc.texts M n = (l ++ r).take J := by rw [hMe, Rc.mend_texts hDi, hDt]
  have hMb : Fi.badE M = 0 := by unfold Fi.badE; rw [hMi]; rfl
  have hMl : (Rc.texts M n).length = J := by rw [hMt, List.length_take]; omega
  have hMr : bl (Fi.read M) = Rc.recs n (((l ++ r).take J).map bl) := by
    have e : (Rc.sc D n).1 = ((l ++ r).take J).map bl := by
      unfold Rc.sc; rw [hDr, hsc, List.map_take]
    rw [hMe, Rc.mend_read hDi, bl_strOf, e]
  have KR := fun W (h : E W) => Lib.hid (HS.out.read M n W h hMs)
  rw [hMl, hMt, hMb] at KR
  have hlen : (l ++ r).length ≤ 60 := by rw [List.length_append]; omega
  have KT := fun (W : World) (A B : Option Addr) (c d : Nat) (hA : StrsAt W W.heap.size A ((l ++ r).take J)) (hB : StrsAt W W.heap.size B ((l ++ r).take J)) => by
    have h := Texts_any A B c d _ _ W hA hB (by rw [List.length_take]; unfold maxLen; omega)
    have e : ((l ++ r).take J).length = J := by rw [List.length_take]; omega
    rw [e] at h
    exact Lib.hid (h.mono fun e w' ⟨h1, q, h2⟩ => (⟨by rw [h1]; simp, h2 ▸ below_drew (Below.refl _ _) q⟩ : e = Ending.returned (.bool true) ∧ Below W.heap.size W w'))
  have hn3 : wrap64 (n + (J : Int)) = n + (J : Int) := by unfold wrap64; omega
  have hsz : ∀ x ∈ [s], x.size ≤ 9000 := fun x hx => by
    obtain rfl : x = s := by simpa using hx
    omega
  have KZ := fun (W : World) (A : Addr) (h : E W) (hA : StrsAt W W.heap.size (some A) [s]) => Lib.hid (HS.out.add M (n + (J : Int)) (some A) 1 1 [s] W h hMs hA rfl (by decide) (Nat.le_refl _) hsz)
  have hoks : Rc.okAll (n + (J : Int)) ([s].map bl) := (Rc.ok_iff _ _).2 ⟨by unfold Rc.numsOk; exact decide_eq_true (.inr ⟨by omega, by show n + (J : Int) + (1 : Nat) ≤ 1000000001; omega⟩), by unfold Rc.shorts; simp; omega⟩
  by_cases hp : Rc.addE M (n + (J : Int)) [s] = 0
  · rw [hp] at KZ
    have hZi := Rc.add_is hp
    have hZs := Rc.is_small9 hZi
    have KU := fun W (h : E W) => Lib.hid (HS.out.read (Rc.add M (n + (J : Int)) [s]) n W h hZs)
    have hZb : Fi.badE (Rc.add M (n + (J : Int)) [s]) = 0 := by unfold Fi.badE; rw [hZi]; rfl
    have hJt : (((l ++ r).take J).map bl).length = J := by rw [List.length_map, List.length_take]; omega
    have hZt : Rc.texts (Rc.add M (n + (J : Int)) [s]) n = (l ++ r).take J ++ [s] := by
      have e1 : bl (Fi.read (Rc.add M (n + (J : Int)) [s])) = Rc.recs n ((((l ++ r).take J) ++ [s]).map bl) := by
        rw [Rc.add_read hp, hMr, List.map_append, Rc.recs_append, hJt]
      have e2 : Rc.okAll n ((((l ++ r).take J) ++ [s]).map bl) := by
        rw [List.map_append, Rc.okAll_append, hJt]
        refine ⟨?_, hoks⟩
        have := hokz
        rw [← List.take_append_drop J (l ++ r), List.map_append, Rc.okAll_append] at this
        exact this.1
      rw [Rc.texts_yes hZi]; unfold Rc.sc; rw [e1, Rc.scan_whole e2]; exact Rc.map_back _
    have hZl : (Rc.texts (Rc.add M (n + (J : Int)) [s]) n).length = J + 1 := by
      have h := hJz
      rw [List.length_append] at h
      rw [hZt, List.length_append, List.length_take]; simp; omega
    rw [hZl, hZt, hZb] at KU
    exact recordCrash_ok HS HC most n A1 _ cap1 l A2 _ cap2 r left s w hE hA1 hA2 (eq_false j1) (eq_false j2) (eq_false j3) _ _ _ _ _ _ _ _ _ n2 (Lib.hid hn2.symm) rfl rfl hl1 hl2 hc1.2 hc2.2 (l ++ r) ((l ++ r).take J) rfl _ J rfl hJz rfl (eq_false (by omega)) (eq_false (by omega)) _ _ _ _ _ _ _ _ _ _ (Lib.hid hn3) KN pf1 pf2 KA KV KB KD KM KR KT KZ KU
  · have hp2 : Rc.addE M (n + (J : Int)) [s] = 81 := by
      obtain ⟨h1, h2⟩ := (Rc.ok_iff _ _).1 hoks
      unfold Rc.addE at hp ⊢
      rw [if_pos hMi, if_pos h1, if_pos h2] at hp ⊢
      split at hp
      · exact absurd rfl hp
      · rename_i h3; rw [if_neg h3]
    rw [hp2] at KZ
    exact recordCrash_full HS HC most n A1 _ cap1 l A2 _ cap2 r left s w hE hA1 hA2 (eq_false j1) (eq_false j2) (eq_false j3) _ _ _ _ _ _ _ _ _ n2 (Lib.hid hn2.symm) rfl rfl hl1 hl2 hc1.2 hc2.2 (l ++ r) ((l ++ r).take J) rfl _ J rfl hJz rfl (eq_false (by omega)) (eq_false (by omega)) _ _ _ _ _ _ _ _ _ _ (Lib.hid hn3) KN pf1 pf2 KA KV KB KD KM KR KT KZ
end Go.Proofs.Ytfapfnbehhekhaa
