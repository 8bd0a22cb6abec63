/-
  Layer 13 (record): the landed code: Add.
-/
import Derived.Test.YtfapfnbehhekhaaXRecW5
import Derived.Test.YtfapfnbehhekhaaXFileW7
namespace Go.Proofs.Ytfapfnbehhekhaa
set_option maxRecDepth 10000
open Go.RowKit

namespace Rc
theorem take_snoc {ss : List ByteArray} {j : Nat} (h : j < ss.length) : ss.take (j + 1) = ss.take j ++ [ss[j]] := List.take_succ_eq_append_getElem h
theorem add_step {f : Fil} {n : Int} {ss : List ByteArray} {j : Nat} (hj : j < ss.length) (h : addE f n (ss.take j) = 0) (hn : nOk (n + j) = true) (hs : ss[j].size ≤ 1000) :
    Fi.addE (add f n (ss.take j)) [strOf (rec1 (n + j) (bl ss[j]))] = addE f n (ss.take (j + 1)) ∧ Fi.add (add f n (ss.take j)) [strOf (rec1 (n + j) (bl ss[j]))] = add f n (ss.take (j + 1)) := by
  obtain ⟨h1, h2, h3⟩ := addE_zero.1 h
  have hi := add_is h
  have hlen : (ss.take j).length = j := by rw [List.length_take]; omega
  have hlen1 : (ss.take (j + 1)).length = j + 1 := by rw [List.length_take]; omega
  have hok : okAll n ((ss.take (j + 1)).map bl) := by
    rw [take_snoc hj, List.map_append, okAll_append, List.length_map, hlen]
    exact ⟨h2, ⟨hn, by rw [bl_length]; exact hs⟩, trivial⟩
  have hre : recs n ((ss.take (j + 1)).map bl) = recs n ((ss.take j).map bl) ++ rec1 (n + j) (bl ss[j]) := by
    rw [take_snoc hj, List.map_append, recs_append, List.length_map, hlen]; simp [recs]
  have hall : Fi.all [strOf (rec1 (n + j) (bl ss[j]))] = strOf (rec1 (n + j) (bl ss[j])) := by
    unfold Fi.all; apply bl_inj; rw [bl_strOf]; simp [bl_strOf]
  obtain ⟨g1, g2⟩ := (ok_iff n _).1 hok
  rw [hlen1] at g1
  have eE : Fi.addE (add f n (ss.take j)) [strOf (rec1 (n + j) (bl ss[j]))] = addE f n (ss.take (j + 1)) := by
    unfold Fi.addE addE
    rw [if_pos hi, if_pos h1, hlen1, if_pos g1, if_pos g2, hall, strOf_size, hre, List.length_append, add_ok h]
    simp only
    rw [ByteArray.size_append, strOf_size]
    congr 1
    rw [eq_iff_iff]
    constructor <;> intro hh <;> omega
  refine ⟨eE, ?_⟩
  unfold Fi.add
  rw [eE]
  by_cases he : addE f n (ss.take (j + 1)) = 0
  · rw [if_pos he, add_ok he, add_ok h, hall, hre]
    simp only
    rw [ba_assoc, ← strs_append]
  · rw [if_neg he, add_bad he]
/-- Where a beginning has no room, there is none for all. -/
theorem add_full {f : Fil} {n : Int} {ss : List ByteArray} {j : Nat} (hi : Fi.is f = true) (hok : okAll n (ss.map bl)) (h : addE f n (ss.take j) ≠ 0) : addE f n (ss.take j) = 81 ∧ addE f n ss = 81 := by
  have hokj : okAll n ((ss.take j).map bl) := by
    have e : ss.map bl = (ss.take j).map bl ++ (ss.drop j).map bl := by rw [← List.map_append, List.take_append_drop]
    rw [e, okAll_append] at hok; exact hok.1
  obtain ⟨h1, h2⟩ := (ok_iff n _).1 hok
  obtain ⟨g1, g2⟩ := (ok_iff n _).1 hokj
  have hm : (recs n ((ss.take j).map bl)).length ≤ (recs n (ss.map bl)).length := by
    rw [List.map_take]; exact recs_mono n (ss.map bl) j
  unfold addE at h ⊢
  rw [if_pos hi, if_pos g1, if_pos g2] at h ⊢
  rw [if_pos hi, if_pos h1, if_pos h2]
  split at h
  · exact absurd rfl h
  · rename_i hh
    rw [if_neg hh, if_neg (by omega)]
    exact ⟨rfl, rfl⟩
theorem add_none {f : Fil} {n : Int} (hi : Fi.is f = true) : addE f n [] = 0 ∧ add f n [] = f := by
  have h : addE f n [] = 0 := addE_zero.2 ⟨hi, trivial, by have := Fi.is_small hi; show (f.kept.size : Int) + f.loose.size + ((0 : Nat) : Int) ≤ f.most; omega⟩
  refine ⟨h, ?_⟩
  rw [add_ok h]
  obtain ⟨m, k, l⟩ := f
  show (⟨m, k, l ++ strOf []⟩ : Fil) = ⟨m, k, l⟩
  congr 1
  exact ba_nil l
end Rc
theorem filAt_other {w : World} {q k : Nat} {m : Int} {x y : ByteArray} (h : FilAt w q m x y) (hk : q ≠ k) (a b c : Value) : FilAt (((w.setCell ⟨k, 0, none⟩ a).setCell ⟨k, 1, none⟩ b).setCell ⟨k, 2, none⟩ c) q m x y := by
  obtain ⟨hlt, t, hb⟩ := h
  refine ⟨by simp [World.setCell]; exact hlt, t, ?_⟩
  rw [Below.heap_setCell _ _ _ _ (fun e => hk e), Below.heap_setCell _ _ _ _ (fun e => hk e), Below.heap_setCell _ _ _ _ (fun e => hk e)]
  exact hb
/-- What holds ahead of each text: the file so far, and none to hand back. -/
structure RAddI (w : World) (f : Fil) (wr : World) : Prop where
  cur : FilAt wr w.heap.size f.most f.kept f.loose
  out : FilAt wr (w.heap.size + 1) 0 ⟨#[]⟩ ⟨#[]⟩
  below : Below w.heap.size w wr
theorem RAddI.on {w wr w' : World} {f : Fil} (h : RAddI w f wr) (hB : Below wr.heap.size wr w') : RAddI w f w' := ⟨h.cur.below hB, h.out.below hB, below2 h.below hB⟩
theorem RAddI.set {w wr : World} {f : Fil} (h : RAddI w f wr) (m : Int) (x y : ByteArray) : RAddI w ⟨m, x, y⟩ (((wr.setCell ⟨w.heap.size, 0, none⟩ (.int .i64 m)).setCell ⟨w.heap.size, 1, none⟩ (.string x)).setCell ⟨w.heap.size, 2, none⟩ (.string y)) :=
  ⟨((h.cur.set0 m).set1 x).set2 y, filAt_other h.out (Nat.succ_ne_self _) _ _ _, below_set3 h.below (Nat.le_refl _) _ _ _⟩

set_option maxHeartbeats 1000000 in
theorem radd_bad (m : Int) (k l : ByteArray) (n : Int) (A : Option Addr) (q cap : Nat) (hs : k.size ≤ 9000 ∧ l.size ≤ 9000) (w : World) (h : Fi.is ⟨m, k, l⟩ = false) :
    Calls Try.prog 14 #[.agg #[.int .i64 m, .string k, .string l], .int .i64 n, .slice A q cap] w fun e w' => e = .returned (.tuple #[.agg #[.int .i64 0, .string ⟨#[]⟩, .string ⟨#[]⟩], .int .i64 1]) ∧ Below w.heap.size w w' := by
  have p1 := fun W => fis_any m k l hs W
  rw [h] at p1
  clear h hs
  go_enter Try.func14, Try.ntmps14
  go_wp2_with fail
  refine (p1 _).mono ?_
  rintro e w1 ⟨rfl, hB⟩
  have HF := Lib.hid ((FilAt.new1 w (.cells #[.int .i64 m, .string k, .string l] 23) 0 ⟨#[]⟩ ⟨#[]⟩ 23).below hB)
  have Hb := Lib.hid (below2 (below_new2 w _ _) hB)
  clear p1 hB
  have a0 := HF.out.f0
  have a1 := HF.out.f1
  have a2 := HF.out.f2
  have b0 := HF.out.c0
  have b1 := HF.out.c1
  have b2 := HF.out.c2
  go_wp2_with fail
  all_goals (try simp only [Exit.inBlock, Exit.then])
  all_goals refine bodyPost_ret (ret_file rfl rfl (((HF.out.set0 0).set1 _).set2 _)) rfl ?_
  all_goals exact ⟨rfl, below_set3 Hb.out (by omega) _ _ _⟩

set_option maxHeartbeats 2000000 in
theorem radd_is (m : Int) (k l : ByteArray) (n : Int) (A : Option Addr) (q cap : Nat) (ss : List ByteArray) (hs : k.size ≤ 9000 ∧ l.size ≤ 9000) (w : World) (hA : StrsAt w w.heap.size A ss) (hq : q = ss.length) (hl : q ≤ 1000) (hz : ∀ s ∈ ss, s.size ≤ 9000) (h : Fi.is ⟨m, k, l⟩ = true) :
    Calls Try.prog 14 #[.agg #[.int .i64 m, .string k, .string l], .int .i64 n, .slice A q cap] w fun e w' => e = .returned (.tuple #[(Rc.add ⟨m, k, l⟩ n ss).v, .int .i64 (Rc.addE ⟨m, k, l⟩ n ss)]) ∧ Below w.heap.size w w' := by
  have p1 := fun W => fis_any m k l hs W
  rw [h] at p1
  have p2 := fun W => rnums_any n q hl W
  have p3 := fun W (hA : StrsAt W W.heap.size A ss) => rcontains_any A cap ss W hA (hq ▸ hl)
  rw [← hq] at p3
  have P3 := Lib.hid p3
  have S0 : RAddI w ⟨m, k, l⟩ ((w.alloc (.cells #[.int .i64 m, .string k, .string l] 23)).alloc (.cells #[.int .i64 0, .string ⟨#[]⟩, .string ⟨#[]⟩] 23)) :=
    ⟨(FilAt.new w m k l 23).alloc _, FilAt.new1 w _ 0 ⟨#[]⟩ ⟨#[]⟩ _, below_new2 w _ _⟩
  have HS0 := Lib.hid S0
  have HA := Lib.hid hA
  have Hz := Lib.hid hz
  have Hi := Lib.hid h
  have Hq := Lib.hid hq
  clear hA hz hq p3 h hs S0
  cases hn : Rc.numsOk n q
  · have he : Hid (Rc.addE ⟨m, k, l⟩ n ss = 1) := Lib.hid (by unfold Rc.addE; rw [if_pos Hi.out, ← Hq.out, hn]; rfl)
    rw [hn] at p2
    clear hn P3
    go_enter Try.func14, Try.ntmps14
    go_wp2_with fail
    refine (p1 _).mono ?_
    rintro e w1 ⟨rfl, hB⟩
    have HS1 := Lib.hid (HS0.out.on hB)
    clear p1 hB HS0
    go_wp2_with fail
    refine (p2 _).mono ?_
    rintro e w2 ⟨rfl, rfl⟩
    clear p2
    have a0 := HS1.out.out.f0
    have a1 := HS1.out.out.f1
    have a2 := HS1.out.out.f2
    have b0 := HS1.out.out.c0
    have b1 := HS1.out.out.c1
    have b2 := HS1.out.out.c2
    go_wp2_with fail
    all_goals (try simp only [Exit.inBlock, Exit.then])
    all_goals refine bodyPost_ret (ret_file rfl rfl (((HS1.out.out.set0 0).set1 _).set2 _)) rfl ?_
    all_goals exact ⟨by rw [Rc.add_bad (by rw [he.out]; decide), he.out]; rfl, below_set3 HS1.out.below (by omega) _ _ _⟩
  rw [hn] at p2
  cases hsh : Rc.shorts ss
  · have he : Hid (Rc.addE ⟨m, k, l⟩ n ss = 2) := Lib.hid (by unfold Rc.addE; rw [if_pos Hi.out, ← Hq.out, if_pos hn, hsh]; rfl)
    rw [hsh] at P3
    clear hn hsh
    go_enter Try.func14, Try.ntmps14
    go_wp2_with fail
    refine (p1 _).mono ?_
    rintro e w1 ⟨rfl, hB⟩
    have HS1 := Lib.hid (HS0.out.on hB)
    clear p1 hB HS0
    go_wp2_with fail
    refine (p2 _).mono ?_
    rintro e w2 ⟨rfl, rfl⟩
    clear p2
    go_wp2_with fail
    refine (P3.out w2 ((HA.out.below HS1.out.below (Nat.le_refl _)).more HS1.out.below.size)).mono ?_
    rintro e w2 ⟨rfl, rfl⟩
    clear P3
    have a0 := HS1.out.out.f0
    have a1 := HS1.out.out.f1
    have a2 := HS1.out.out.f2
    have b0 := HS1.out.out.c0
    have b1 := HS1.out.out.c1
    have b2 := HS1.out.out.c2
    go_wp2_with fail
    all_goals (try simp only [Exit.inBlock, Exit.then])
    all_goals refine bodyPost_ret (ret_file rfl rfl (((HS1.out.out.set0 0).set1 _).set2 _)) rfl ?_
    all_goals exact ⟨by rw [Rc.add_bad (by rw [he.out]; decide), he.out]; rfl, below_set3 HS1.out.below (by omega) _ _ _⟩
  rw [hsh] at P3
  have Hok : Hid (Rc.okAll n (ss.map bl)) := Lib.hid ((Rc.ok_iff n ss).2 ⟨by rw [← Hq.out]; exact hn, hsh⟩)
  have Hnum : Hid (q = 0 ∨ (0 ≤ n ∧ n + (q : Int) ≤ 1000000001)) := Lib.hid (of_decide_eq_true hn)
  have Hsh := Lib.hid hsh
  clear hn hsh
  go_enter Try.func14, Try.ntmps14
  go_wp2_with fail
  refine (p1 _).mono ?_
  rintro e w1 ⟨rfl, hB⟩
  have HS1 := Lib.hid (HS0.out.on hB)
  clear p1 hB HS0
  go_wp2_with fail
  refine (p2 _).mono ?_
  rintro e w2 ⟨rfl, rfl⟩
  clear p2
  go_wp2_with fail
  refine (P3.out w2 ((HA.out.below HS1.out.below (Nat.le_refl _)).more HS1.out.below.size)).mono ?_
  rintro e w2 ⟨rfl, rfl⟩
  clear P3
  go_wp2_with fail
  go_loopw [28] (fun i wr => ∃ j : Nat, j ≤ q ∧ i = .int .i64 (j : Int) ∧ Hid (Rc.addE ⟨m, k, l⟩ n (ss.take j) = 0) ∧ Hid (RAddI w (Rc.add ⟨m, k, l⟩ n (ss.take j)) wr)) (fun i _ => q - (intOf i).toNat)
  case atStart => exact ⟨0, Nat.zero_le _, rfl, Lib.hid (Rc.add_none Hi.out).1, by rw [List.take_zero, (Rc.add_none Hi.out).2]; exact HS1⟩
  case round =>
    obtain ⟨j, hj, rfl, Hz0, HSr⟩ := hrel
    by_cases hlt : j < q
    · have hjl : j < ss.length := by rw [← Hq.out]; exact hlt
      have hsz : ss[j].size ≤ 1000 := of_decide_eq_true (List.all_eq_true.1 Hsh.out _ (List.getElem_mem hjl))
      have hok : Rc.nOk (n + (j : Int)) = true := Rc.nOk_iff.2 (by have := Hnum.out; omega)
      obtain ⟨b, off, rfl, hb, hc⟩ := HA.out j hjl
      have hc' := (HSr.out.below.cell (p := ⟨b, off + j, none⟩) hb).trans hc
      have hst := Rc.add_step hjl Hz0.out hok hsz
      have wn : wrap64 (n + (j : Int)) = n + (j : Int) := by have := Rc.nOk_iff.1 hok; unfold wrap64; omega
      have wj : wrap64 ((j : Int) + 1) = (j : Int) + 1 := by unfold wrap64; omega
      obtain ⟨s, hs⟩ : ∃ s, s = ss[j] := ⟨_, rfl⟩
      rw [← hs] at hsz hc' hst
      have p4 := fun W => rput_any (n + (j : Int)) s W (by omega)
      have hpE : Rc.putE (n + (j : Int)) (bl s) = 0 := Rc.putE_zero.2 ⟨hok, by rw [bl_length]; exact hsz⟩
      rw [hpE, Rc.putS_yes hpE] at p4
      have hzs : (strOf (Rc.rec1 (n + (j : Int)) (bl s))).size ≤ 9000 := by
        rw [strOf_size]; have := Rc.rec1_le hok (t := bl s) (by rw [bl_length]; exact hsz); rw [bl_length] at this; omega
      obtain ⟨z, hzz⟩ : ∃ z, z = strOf (Rc.rec1 (n + (j : Int)) (bl s)) := ⟨_, rfl⟩
      simp only [← hzz] at p4 hzs hst
      have hsm := Rc.add_small ⟨m, k, l⟩ n (ss.take j)
      have p5 := fun W A c hA hc => fadd_any (Rc.add ⟨m, k, l⟩ n (ss.take j)).most (Rc.add ⟨m, k, l⟩ n (ss.take j)).kept (Rc.add ⟨m, k, l⟩ n (ss.take j)).loose A c [z] hsm W hA (by simp) (by intro x hx; rw [List.mem_singleton.1 hx]; exact hzs) hc
      have P5 := fun W A c hA hc => Lib.hid (p5 W A c hA hc)
      rw [show (⟨(Rc.add ⟨m, k, l⟩ n (ss.take j)).most, (Rc.add ⟨m, k, l⟩ n (ss.take j)).kept, (Rc.add ⟨m, k, l⟩ n (ss.take j)).loose⟩ : Fil) = Rc.add ⟨m, k, l⟩ n (ss.take j) from rfl, hst.1, hst.2] at P5
      obtain ⟨X, hX⟩ : ∃ X, X = Rc.add ⟨m, k, l⟩ n (ss.take j) := ⟨_, rfl⟩
      rw [← hX] at P5 HSr
      obtain ⟨Y, hY⟩ : ∃ Y, Y = Rc.add ⟨m, k, l⟩ n (ss.take (j + 1)) := ⟨_, rfl⟩
      obtain ⟨E, hE⟩ : ∃ E, E = Rc.addE ⟨m, k, l⟩ n (ss.take (j + 1)) := ⟨_, rfl⟩
      rw [← hY, ← hE] at P5
      have HY := Lib.hid hY
      have HE := Lib.hid hE
      obtain ⟨xm, xk, xl⟩ := X
      obtain ⟨ym, yk, yl⟩ := Y
      unfold Fil.v filV at P5
      simp only at P5 HSr
      clear hjl hsz hok hb hst hs hpE hzs hzz hsm p5 hX hY hE hc
      go_wp2_with fail
      refine (p4 _).mono ?_
      rintro e w3 ⟨rfl, hB⟩
      have HS3 := Lib.hid (HSr.out.on hB)
      clear hB p4 hc' HSr wn
      have d0 := HS3.out.cur.c0
      have d1 := HS3.out.cur.c1
      have d2 := HS3.out.cur.c2
      simp only at d0 d1 d2
      have hs5 := StrsAt.new w3 [z] 9
      have HB3 := Lib.hid (below_new w3 (.cells #[.string z] 9))
      go_wp2_with fail
      refine (P5 _ (some ⟨w3.heap.size, 0, none⟩) 1 (by simpa using hs5) (Nat.le_refl _)).out.mono ?_
      rintro e w4 ⟨rfl, hB⟩
      have HS4 := Lib.hid (HS3.out.on (below2 HB3.out hB))
      clear hB P5 HS3 HB3 hs5 d0 d1 d2
      have HS5 := Lib.hid (HS4.out.set ym yk yl)
      have a0 := HS4.out.cur.f0
      have a1 := HS4.out.cur.f1
      have a2 := HS4.out.cur.f2
      have b0 := HS4.out.cur.c0
      have b1 := HS4.out.cur.c1
      have b2 := HS4.out.cur.c2
      simp only at b0 b1 b2
      by_cases hE0 : E = 0
      · subst hE0
        go_wp2_with fail
        go_roundw
        case rel => exact ⟨j + 1, by omega, by go_num, Lib.hid HE.out.symm, by rw [← HY.out]; exact HS5⟩
        case measure => simp [intOf]; omega
      · have jE : (E != 0) = true := by rw [bne_iff_ne]; exact hE0
        have h81 := Rc.add_full Hi.out Hok.out (j := j + 1) (by rw [← HE.out]; exact hE0)
        rw [← HE.out] at h81
        have H81 := Lib.hid h81
        clear hE0 h81
        have g0 := HS5.out.out.f0
        have g1 := HS5.out.out.f1
        have g2 := HS5.out.out.f2
        have h0 := HS5.out.out.c0
        have h1 := HS5.out.out.c1
        have h2 := HS5.out.out.c2
        go_wp2_with fail
        (try simp only [Exit.inBlock, Exit.then]); refine bodyPost_ret (ret_file rfl rfl (((HS5.out.out.set0 0).set1 _).set2 _)) rfl ?_
        exact ⟨by rw [Rc.add_bad (by rw [H81.out.2]; decide), H81.out.2, H81.out.1]; rfl, below_set3 HS5.out.below (by omega) _ _ _⟩
    · have hjq : j = q := by omega
      have htk : ss.take j = ss := List.take_of_length_le (by rw [← Hq.out]; omega)
      rw [htk] at Hz0 HSr
      obtain ⟨X, hX⟩ : ∃ X, X = Rc.add ⟨m, k, l⟩ n ss := ⟨_, rfl⟩
      rw [← hX] at HSr
      have HX := Lib.hid hX
      obtain ⟨xm, xk, xl⟩ := X
      subst hjq
      clear hX htk hlt hj
      have d0 := HSr.out.cur.c0
      have d1 := HSr.out.cur.c1
      have d2 := HSr.out.cur.c2
      simp only at d0 d1 d2
      have a0 := HSr.out.out.f0
      have a1 := HSr.out.out.f1
      have a2 := HSr.out.out.f2
      have b0 := HSr.out.out.c0
      have b1 := HSr.out.out.c1
      have b2 := HSr.out.out.c2
      go_wp2_with fail
      (try simp only [Exit.inBlock, Exit.then]); refine bodyPost_ret (ret_file rfl rfl (((HSr.out.out.set0 _).set1 _).set2 _)) rfl ?_
      exact ⟨by rw [← HX.out, Hz0.out]; rfl, below_set3 HSr.out.below (by omega) _ _ _⟩

theorem radd_any (m : Int) (k l : ByteArray) (n : Int) (A : Option Addr) (q cap : Nat) (ss : List ByteArray) (hs : k.size ≤ 9000 ∧ l.size ≤ 9000) (w : World) (hA : StrsAt w w.heap.size A ss) (hq : q = ss.length) (hl : q ≤ 1000) (hz : ∀ s ∈ ss, s.size ≤ 9000) :
    Calls Try.prog 14 #[.agg #[.int .i64 m, .string k, .string l], .int .i64 n, .slice A q cap] w fun e w' => e = .returned (.tuple #[(Rc.add ⟨m, k, l⟩ n ss).v, .int .i64 (Rc.addE ⟨m, k, l⟩ n ss)]) ∧ Below w.heap.size w w' := by
  cases h : Fi.is ⟨m, k, l⟩
  · have e2 : Rc.addE ⟨m, k, l⟩ n ss = 1 := by unfold Rc.addE; rw [h]; rfl
    rw [Rc.add_bad (by rw [e2]; decide), e2]
    exact radd_bad m k l n A q cap hs w h
  · exact radd_is m k l n A q cap ss hs w hA hq hl hz h
end Go.Proofs.Ytfapfnbehhekhaa
