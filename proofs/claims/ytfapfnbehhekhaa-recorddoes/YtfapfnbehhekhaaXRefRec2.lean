/-
  Layer 13 (record): the references' Scan.
-/
import Derived.Test.YtfapfnbehhekhaaXRefRec1
import Derived.Test.YtfapfnbehhekhaaXJc
import Derived.Test.YtfapfnbehhekhaaXRecApp
namespace Go.Proofs.Ytfapfnbehhekhaa
set_option maxRecDepth 10000
open Go.RowKit

/-- What Scan hands back. -/
def Scanned (w : World) (x : List (List UInt8) × Nat) (e : Ending) (w' : World) : Prop := ∃ A c, e = .returned (.tuple #[.slice A x.1.length c, .int .i64 (x.2 : Nat)]) ∧ StrsAt w' w'.heap.size A (x.1.map strOf) ∧ x.1.length ≤ c ∧ Below w.heap.size w w'
/-- What holds ahead of each round of the reference's Scan: ts was told, of k bytes, cur is left. -/
def RScanRel (w : World) (s : ByteArray) (first : Int) (v left i : Value) (wr : World) : Prop :=
  ∃ (k : Nat) (ts : List (List UInt8)) (cur : ByteArray) (nn : Int), k + cur.size = s.size ∧ left = .string cur ∧ i = .int .i64 nn ∧ ts.length ≤ k ∧ Rc.scan (bl s) first = Rc.glue ts k (Rc.scan (bl cur) nn) ∧ OwnTs w wr v (ts.map strOf)
theorem OwnTs.on {u w w' : World} {v : Value} {ss : List ByteArray} (h : OwnTs u w v ss) (hb : Below w.heap.size w w') : OwnTs u w' v ss := ⟨owns_below h.1 hb, h.2.trans (hb.mono h.2.size)⟩
/-- And where it is none, it has no room. -/
def Scanned2 (w : World) (x : List (List UInt8) × Nat) (e : Ending) (w' : World) : Prop := ∃ A c, e = .returned (.tuple #[.slice A x.1.length c, .int .i64 (x.2 : Nat)]) ∧ StrsAt w' w'.heap.size A (x.1.map strOf) ∧ x.1.length ≤ c ∧ Below w.heap.size w w' ∧ (A = none → c = 0)
theorem Scanned2.of {w w1 : World} {v : Value} {ts : List (List UInt8)} {k : Nat} (h : OwnTs w w1 v (ts.map strOf)) {x : List (List UInt8) × Nat} (hx : x = (ts, k)) : Scanned2 w x (.returned (.tuple #[v, .int .i64 (k : Int)])) w1 := by
  subst hx
  have hn := h.none13 (L := ts.length) (by simp)
  obtain ⟨A, c, rfl, hc, hT, hB⟩ := h.slice (L := ts.length) (by simp)
  exact ⟨A, c, rfl, hT, hc, hB, fun e => (hn c (by rw [e])).2⟩

set_option maxRecDepth 10000 in
set_option maxHeartbeats 2000000 in
theorem RScan2_any (s : ByteArray) (first : Int) (hs : s.size ≤ 18000) (w : World) :
    Calls Try.prog 13 #[.string s, .int .i64 first] w (Scanned2 w (Rc.scan (bl s) first)) := by
  have Hs := Lib.hid hs
  clear hs
  go_enter Try.func13, Try.ntmps13
  go_wp2_with fail
  go_loopw [6, 7, 8] (fun v left i wr => RScanRel w s first v left i wr) (fun _ left _ _ => lenV left)
  case atStart => exact ⟨0, [], s, first, Nat.zero_add _, rfl, rfl, Nat.zero_le _, by rw [Rc.glue_zero], OwnTs.nil w⟩
  case round =>
    obtain ⟨k, ts, cur, nn, hn, rfl, rfl, hts, hgl, hown⟩ := hrel
    have Hgl := Lib.hid hgl
    have Hts := Lib.hid hts
    have Hn := Lib.hid hn
    have Ho := Lib.hid hown
    have Hb : Hid (cur.size ≤ 18000) := Lib.hid (by have := Hs.out; omega)
    have hd : wrap64 ((s.size : Int) - (cur.size : Int)) = (k : Int) := by have := Hs.out; unfold wrap64; omega
    have Hd := Lib.hid hd
    clear hgl hts hn hown hd
    obtain ⟨kk, t, r, e, hg⟩ : ∃ k t r e, Fm.get (bl cur) = (k, t, r, e) := ⟨_, _, _, _, rfl⟩
    have hg0 := RGet_any cur wr (Nat.le_trans Hb.out (by unfold big; decide))
    rw [hg] at hg0
    have Hg := Lib.hid hg
    clear hg
    by_cases he : e = 0
    · subst he
      have hok := Fm.get_ok Hg.out
      have hlen : (bl cur).length = (Fm.frame kk t).length + r.length := by rw [hok.2.2]; simp
      have hfp := Fm.frame_pos kk t
      rw [bl_length] at hlen
      have Hm : Hid (r.length < cur.size) := Lib.hid (by omega)
      obtain ⟨z, t2, f, hi⟩ : ∃ z t2 f, Wm.getInt t = (z, t2, f) := ⟨_, _, _, rfl⟩
      have g1 := fun W => RGetInt_any (strOf t) W (by rw [strOf_size]; unfold maxLen; omega)
      rw [bl_strOf, hi] at g1
      have ht2 : t2.length ≤ 3000 := by
        rcases Wm.getInt_err t with ⟨n', r', h'⟩ | h' | h'
        · rw [hi] at h'
          simp only [Prod.mk.injEq] at h'
          obtain ⟨rfl, rfl, rfl⟩ := h'
          have := (Wm.getInt_ok hi).2
          have h3 := congrArg List.length this
          rw [List.length_append] at h3
          omega
        · rw [hi] at h'; simp only [Prod.mk.injEq] at h'; rw [h'.2.1]; exact Nat.zero_le _
        · rw [hi] at h'; simp only [Prod.mk.injEq] at h'; rw [h'.2.1]; exact Nat.zero_le _
      have g2 := fun W => RRPut_any nn (strOf t2) (by rw [strOf_size]; omega) W
      rw [bl_strOf] at g2
      obtain ⟨R, hR⟩ : ∃ R, R = strOf r := ⟨_, rfl⟩
      obtain ⟨T2, hT2⟩ : ∃ T, T = strOf t2 := ⟨_, rfl⟩
      have hRs : R.size = r.length := by rw [hR, strOf_size]
      obtain ⟨D, hD⟩ : ∃ D : Nat, D = cur.size - r.length := ⟨_, rfl⟩
      have wD : wrap64 ((cur.size : Int) - (R.size : Int)) = (D : Int) := by have := Hb.out; have := Hm.out; unfold wrap64; omega
      have hDc : D ≤ cur.size := by omega
      obtain ⟨want, hwant⟩ : ∃ W, W = strOf (Rc.putS nn t2) := ⟨_, rfl⟩
      obtain ⟨pe, hpe⟩ : ∃ p, p = Rc.putE nn t2 := ⟨_, rfl⟩
      simp only [← hT2] at g1 g2
      simp only [← hwant, ← hpe] at g2
      have Hi := Lib.hid hi
      have HR := Lib.hid hR
      have HT2 := Lib.hid hT2
      have HD := Lib.hid hD
      have Hwant := Lib.hid hwant
      have Hpe := Lib.hid hpe
      have HdR : Hid (cur.size - r.length = D) := Lib.hid hD.symm
      clear hi hT2 hwant hpe hok hlen hfp ht2 hRs
      have hone : ∀ b : Bool, b = (decide (f = 0) && (decide (pe = 0) && decide (bl want = (bl cur).take D))) → (b = false → Rc.one (bl cur) nn = none) ∧ (b = true → Rc.one (bl cur) nn = some (t2, r)) := by
        intro b hbd
        have hE1 : (Fm.get (bl cur)) = (kk, t, r, 0) := Hg.out
        have hE2 : Wm.getInt t = (z, t2, f) := Hi.out
        unfold Rc.one
        rw [hE1]; simp only; rw [hE2]; simp only
        rw [bl_length, HdR.out, ← Hpe.out]
        subst hbd
        constructor
        · intro h
          rw [if_neg]
          rintro ⟨_, h1, h2, h3⟩
          have hw : bl want = (bl cur).take D := by
            rw [Hwant.out, bl_strOf, Rc.putS_yes (by rw [← Hpe.out]; exact h2)]; exact h3
          rw [decide_eq_true h1, decide_eq_true h2, decide_eq_true hw] at h
          cases h
        · intro h
          rw [Bool.and_eq_true, Bool.and_eq_true] at h
          have h1 := of_decide_eq_true h.1
          have h2 := of_decide_eq_true h.2.1
          have h3 := of_decide_eq_true h.2.2
          rw [if_pos]
          refine ⟨trivial, h1, h2, ?_⟩
          rw [← h3, Hwant.out, bl_strOf, Rc.putS_yes (by rw [← Hpe.out]; exact h2)]
      have Hone := Lib.hid hone
      clear hone hD
      rw [show got4 (kk, t, r, 0) = .returned (.tuple #[.int .i64 kk, .string (strOf t), .string R, .int .i64 0]) from by unfold got4; rw [hR]] at hg0
      clear hR
      go_wp2_with fail
      refine hg0.mono ?_
      rintro x w1 ⟨rfl, hB1⟩
      have Ho1 := Lib.hid (Ho.out.on hB1)
      clear hg0 hB1 Ho
      go_wp2_with fail
      refine (g1 _).mono ?_
      rintro x w2 ⟨rfl, hB1⟩
      have Ho2 := Lib.hid (Ho1.out.on hB1)
      clear g1 hB1 Ho1
      go_wp2_with fail
      refine (g2 _).mono ?_
      rintro x w3 ⟨rfl, hB1⟩
      have Ho3 := Lib.hid (Ho2.out.on hB1)
      clear g2 hB1 Ho2
      by_cases hf : f = 0
      case neg =>
        have Hr : Hid (Rc.scan (bl s) first = (ts, k)) := Lib.hid (by
          rw [Hgl.out]
          exact Rc.glue_no ((Hone.out false (by rw [decide_eq_false hf]; rfl)).1 rfl))
        have j1 : (f != 0) = true := by rw [bne_iff_ne]; exact hf
        clear wD hDc hf
        go_wp2
        go_ret2
        have h := Scanned2.of Ho3.out Hr.out
        rw [← Hd.out] at h
        exact h
      by_cases hp : pe = 0
      case neg =>
        have Hr : Hid (Rc.scan (bl s) first = (ts, k)) := Lib.hid (by
          rw [Hgl.out]
          exact Rc.glue_no ((Hone.out false (by rw [decide_eq_false hp, Bool.false_and, Bool.and_false])).1 rfl))
        subst hf
        have j2 : (pe != 0) = true := by rw [bne_iff_ne]; exact hp
        clear wD hDc hp
        go_wp2
        go_ret2
        have h := Scanned2.of Ho3.out Hr.out
        rw [← Hd.out] at h
        exact h
      by_cases hw : bl want = (bl cur).take D
      case neg =>
        have Hr : Hid (Rc.scan (bl s) first = (ts, k)) := Lib.hid (by
          rw [Hgl.out]
          exact Rc.glue_no ((Hone.out false (by rw [decide_eq_false hw, Bool.and_false, Bool.and_false])).1 rfl))
        subst hf hp
        have j3 : (want.toList == (cur.extract 0 D).toList) = false := by
          rw [beq_eq_false_iff_ne, ByteArray.toList_eq, ByteArray.toList_eq]
          intro h; exact hw (by rw [← bl_extract_to cur D hDc]; exact h)
        clear hw
        go_wp2
        go_ret2
        have h := Scanned2.of Ho3.out Hr.out
        rw [← Hd.out] at h
        exact h
      have Hsome : Hid (Rc.one (bl cur) nn = some (t2, r)) := Lib.hid ((Hone.out true (by rw [decide_eq_true hf, decide_eq_true hp, decide_eq_true hw]; rfl)).2 rfl)
      have hnn := Rc.nOk_iff.1 (Rc.one_ok Hsome.out).1
      have j3 : want.toList = (cur.extract 0 D).toList := by
        rw [ByteArray.toList_eq, ByteArray.toList_eq]
        have h := bl_extract_to cur D hDc
        unfold bl at h hw
        rw [h]; exact hw
      have iw : wrap64 (nn + 1) = nn + 1 := by unfold wrap64; omega
      subst hf hp
      clear hw Hone hnn
      go_wp2_with (at_builtin
                   have hs5 := StrsAt.new w3 [T2] 9
                   refine wpList_append_strs rfl _ _ rfl w _ (ts.map strOf) [T2] (ts.map strOf ++ [T2]) rfl rfl (Ho3.out.on (below_new w3 (.cells #[.string T2] 9))) (some ⟨w3.heap.size, 0, none⟩) 1 1 rfl rfl (by simpa using hs5) (fun h => by cases h) (by have h1 := Hs.out; have h2 := Hts.out; have h3 := Hn.out; simp; omega) ?_
                   intro v' w4 hO4
                   have HO4 := Lib.hid hO4
                   clear hO4 hs5)
      go_roundw
      case rel =>
        refine ⟨k + D, ts ++ [t2], R, nn + 1, ?_, rfl, congrArg _ iw, ?_, ?_, ?_⟩
        · rw [HR.out, strOf_size]; have h1 := Hn.out; have h2 := HD.out; have h3 := Hm.out; omega
        · have h2 := HD.out; have h3 := Hm.out; have h4 := Hts.out; rw [List.length_append]; simp; omega
        · rw [Hgl.out, Rc.glue_step Hsome.out, HR.out, bl_strOf, bl_length, HdR.out]
        · rw [List.map_append]
          have h := HO4.out
          rw [HT2.out] at h
          exact h
      case measure => rw [HR.out]; exact (show (strOf r).size < cur.size by rw [strOf_size]; exact Hm.out)
    · have he' : (e != 0) = true := by rw [bne_iff_ne]; exact he
      have Hr : Hid (Rc.scan (bl s) first = (ts, k)) := Lib.hid (by
        rw [Hgl.out]
        rcases Fm.get_cases (bl cur) with ⟨k', t', r', h'⟩ | ⟨e', he2, h'⟩
        · rw [Hg.out] at h'; simp only [Prod.mk.injEq] at h'; exact absurd h'.2.2.2 he
        · exact Rc.glue_no (Rc.one_get h' he2))
      clear he
      unfold got4 at hg0
      go_wp2_with fail
      refine hg0.mono ?_
      rintro x w1 ⟨rfl, hB1⟩
      have Ho1 := Lib.hid (Ho.out.on hB1)
      clear hg0 hB1
      go_wp2
      go_ret2
      have h := Scanned2.of Ho1.out Hr.out
      rw [← Hd.out] at h
      exact h
theorem RScan_any (s : ByteArray) (first : Int) (hs : s.size ≤ 18000) (w : World) :
    Calls Try.prog 13 #[.string s, .int .i64 first] w (Scanned w (Rc.scan (bl s) first)) :=
  (RScan2_any s first hs w).mono fun _ _ ⟨A, c, h1, h2, h3, h4, _⟩ => ⟨A, c, h1, h2, h3, h4⟩
end Go.Proofs.Ytfapfnbehhekhaa
