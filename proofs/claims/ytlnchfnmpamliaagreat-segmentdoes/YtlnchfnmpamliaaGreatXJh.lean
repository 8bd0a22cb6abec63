/-
  Layer 13 (record): the references' Scan.
  Layer 14 (segment): the reference's read.
  Layer 14 (segment): the reference's Read.
-/
import Derived.Test.YtlnchfnmpamliaaGreatXJf
import Derived.Test.YtlnchfnmpamliaaGreatXJg
import Derived.Test.YtlnchfnmpamliaaGreatXRefSeg1
namespace Go.Proofs.YtlnchfnmpamliaaGreat
set_option maxRecDepth 10000
open Go.RowKit

/-- What Scan hands back. -/
def Scanned (w : World) (x : List (List UInt8) × Nat) (e : Ending) (w' : World) : Prop := ∃ A c, e = .returned (.tuple #[.slice A x.1.length c, .int .i64 (x.2 : Nat)]) ∧ StrsAt w' w'.heap.size A (x.1.map strOf) ∧ x.1.length ≤ c ∧ Below w.heap.size w w'
/-- What holds ahead of each round of the reference's Scan: ts was told, of k bytes, cur is left. -/
def RScanRel (w : World) (s : ByteArray) (first : Int) (v left i : Value) (wr : World) : Prop :=
  ∃ (k : Nat) (ts : List (List UInt8)) (cur : ByteArray) (nn : Int), k + cur.size = s.size ∧ left = .string cur ∧ i = .int .i64 nn ∧ ts.length ≤ k ∧ Rc.scan (bl s) first = Rc.glue ts k (Rc.scan (bl cur) nn) ∧ OwnTs w wr v (ts.map strOf)
theorem OwnTs.on {u w w' : World} {v : Value} {ss : List ByteArray} (h : OwnTs u w v ss) (hb : Below w.heap.size w w') : OwnTs u w' v ss := ⟨owns_below h.1 hb, h.2.trans (hb.mono h.2.size)⟩
/-- And where it is none, it has no room. -/
def Scanned2 (w : World) (x : List (List UInt8) × Nat) (e : Ending) (w' : World) : Prop := ∃ A c, e = .returned (.tuple #[.slice A x.1.length c, .int .i64 (x.2 : Nat)]) ∧ StrsAt w' w'.heap.size A (x.1.map strOf) ∧ x.1.length ≤ c ∧ Below w.heap.size w w' ∧ (A = none → c = 0)
theorem Scanned2.of {w w1 : World} {v : Value} {ts : List (List UInt8)} {k : Nat} (h : OwnTs w w1 v (ts.map strOf)) {x : List (List UInt8) × Nat} (hx : x = (ts, k)) : Scanned2 w x (.returned (.tuple #[v, .int .i64 (k : Int)])) w1 := by
  subst hx
  have hn := h.none13 (L := ts.length) (by simp)
  obtain ⟨A, c, rfl, hc, hT, hB⟩ := h.slice (L := ts.length) (by simp)
  exact ⟨A, c, rfl, hT, hc, hB, fun e => (hn c (by rw [e])).2⟩

set_option maxRecDepth 10000 in
set_option maxHeartbeats 2000000 in
theorem RScan2_any (s : ByteArray) (first : Int) (hs : s.size ≤ 18000) (w : World) :
    Calls Tryz.prog 44 #[.string s, .int .i64 first] w (Scanned2 w (Rc.scan (bl s) first)) := by
  have Hs := Lib.hid hs
  clear hs
  go_enter Tryz.func44, Tryz.ntmps44
  go_wp2_with fail
  go_loopw [6, 7, 8] (fun v left i wr => RScanRel w s first v left i wr) (fun _ left _ _ => lenV left)
  case atStart => exact ⟨0, [], s, first, Nat.zero_add _, rfl, rfl, Nat.zero_le _, by rw [Rc.glue_zero], OwnTs.nil w⟩
  case round =>
    obtain ⟨k, ts, cur, nn, hn, rfl, rfl, hts, hgl, hown⟩ := hrel
    have Hgl := Lib.hid hgl
    have Hts := Lib.hid hts
    have Hn := Lib.hid hn
    have Ho := Lib.hid hown
    have Hb : Hid (cur.size ≤ 18000) := Lib.hid (by have := Hs.out; omega)
    have hd : wrap64 ((s.size : Int) - (cur.size : Int)) = (k : Int) := by have := Hs.out; unfold wrap64; omega
    have Hd := Lib.hid hd
    clear hgl hts hn hown hd
    obtain ⟨kk, t, r, e, hg⟩ : ∃ k t r e, Fm.get (bl cur) = (k, t, r, e) := ⟨_, _, _, _, rfl⟩
    have hg0 := RGet_any cur wr (Nat.le_trans Hb.out (by unfold big; decide))
    rw [hg] at hg0
    have Hg := Lib.hid hg
    clear hg
    by_cases he : e = 0
    · subst he
      have hok := Fm.get_ok Hg.out
      have hlen : (bl cur).length = (Fm.frame kk t).length + r.length := by rw [hok.2.2]; simp
      have hfp := Fm.frame_pos kk t
      rw [bl_length] at hlen
      have Hm : Hid (r.length < cur.size) := Lib.hid (by omega)
      obtain ⟨z, t2, f, hi⟩ : ∃ z t2 f, Wm.getInt t = (z, t2, f) := ⟨_, _, _, rfl⟩
      have g1 := fun W => RGetInt_any (strOf t) W (by rw [strOf_size]; unfold maxLen; omega)
      rw [bl_strOf, hi] at g1
      have ht2 : t2.length ≤ 3000 := by
        rcases Wm.getInt_err t with ⟨n', r', h'⟩ | h' | h'
        · rw [hi] at h'
          simp only [Prod.mk.injEq] at h'
          obtain ⟨rfl, rfl, rfl⟩ := h'
          have := (Wm.getInt_ok hi).2
          have h3 := congrArg List.length this
          rw [List.length_append] at h3
          omega
        · rw [hi] at h'; simp only [Prod.mk.injEq] at h'; rw [h'.2.1]; exact Nat.zero_le _
        · rw [hi] at h'; simp only [Prod.mk.injEq] at h'; rw [h'.2.1]; exact Nat.zero_le _
      have g2 := fun W => RRPut_any nn (strOf t2) (by rw [strOf_size]; omega) W
      rw [bl_strOf] at g2
      obtain ⟨R, hR⟩ : ∃ R, R = strOf r := ⟨_, rfl⟩
      obtain ⟨T2, hT2⟩ : ∃ T, T = strOf t2 := ⟨_, rfl⟩
      have hRs : R.size = r.length := by rw [hR, strOf_size]
      obtain ⟨D, hD⟩ : ∃ D : Nat, D = cur.size - r.length := ⟨_, rfl⟩
      have wD : wrap64 ((cur.size : Int) - (R.size : Int)) = (D : Int) := by have := Hb.out; have := Hm.out; unfold wrap64; omega
      have hDc : D ≤ cur.size := by omega
      obtain ⟨want, hwant⟩ : ∃ W, W = strOf (Rc.putS nn t2) := ⟨_, rfl⟩
      obtain ⟨pe, hpe⟩ : ∃ p, p = Rc.putE nn t2 := ⟨_, rfl⟩
      simp only [← hT2] at g1 g2
      simp only [← hwant, ← hpe] at g2
      have Hi := Lib.hid hi
      have HR := Lib.hid hR
      have HT2 := Lib.hid hT2
      have HD := Lib.hid hD
      have Hwant := Lib.hid hwant
      have Hpe := Lib.hid hpe
      have HdR : Hid (cur.size - r.length = D) := Lib.hid hD.symm
      clear hi hT2 hwant hpe hok hlen hfp ht2 hRs
      have hone : ∀ b : Bool, b = (decide (f = 0) && (decide (pe = 0) && decide (bl want = (bl cur).take D))) → (b = false → Rc.one (bl cur) nn = none) ∧ (b = true → Rc.one (bl cur) nn = some (t2, r)) := by
        intro b hbd
        have hE1 : (Fm.get (bl cur)) = (kk, t, r, 0) := Hg.out
        have hE2 : Wm.getInt t = (z, t2, f) := Hi.out
        unfold Rc.one
        rw [hE1]; simp only; rw [hE2]; simp only
        rw [bl_length, HdR.out, ← Hpe.out]
        subst hbd
        constructor
        · intro h
          rw [if_neg]
          rintro ⟨_, h1, h2, h3⟩
          have hw : bl want = (bl cur).take D := by
            rw [Hwant.out, bl_strOf, Rc.putS_yes (by rw [← Hpe.out]; exact h2)]; exact h3
          rw [decide_eq_true h1, decide_eq_true h2, decide_eq_true hw] at h
          cases h
        · intro h
          rw [Bool.and_eq_true, Bool.and_eq_true] at h
          have h1 := of_decide_eq_true h.1
          have h2 := of_decide_eq_true h.2.1
          have h3 := of_decide_eq_true h.2.2
          rw [if_pos]
          refine ⟨trivial, h1, h2, ?_⟩
          rw [← h3, Hwant.out, bl_strOf, Rc.putS_yes (by rw [← Hpe.out]; exact h2)]
      have Hone := Lib.hid hone
      clear hone hD
      rw [show got4 (kk, t, r, 0) = .returned (.tuple #[.int .i64 kk, .string (strOf t), .string R, .int .i64 0]) from by unfold got4; rw [hR]] at hg0
      clear hR
      go_wp2_with fail
      refine hg0.mono ?_
      rintro x w1 ⟨rfl, hB1⟩
      have Ho1 := Lib.hid (Ho.out.on hB1)
      clear hg0 hB1 Ho
      go_wp2_with fail
      refine (g1 _).mono ?_
      rintro x w2 ⟨rfl, hB1⟩
      have Ho2 := Lib.hid (Ho1.out.on hB1)
      clear g1 hB1 Ho1
      go_wp2_with fail
      refine (g2 _).mono ?_
      rintro x w3 ⟨rfl, hB1⟩
      have Ho3 := Lib.hid (Ho2.out.on hB1)
      clear g2 hB1 Ho2
      by_cases hf : f = 0
      case neg =>
        have Hr : Hid (Rc.scan (bl s) first = (ts, k)) := Lib.hid (by
          rw [Hgl.out]
          exact Rc.glue_no ((Hone.out false (by rw [decide_eq_false hf]; rfl)).1 rfl))
        have j1 : (f != 0) = true := by rw [bne_iff_ne]; exact hf
        clear wD hDc hf
        go_wp2
        go_ret2
        have h := Scanned2.of Ho3.out Hr.out
        rw [← Hd.out] at h
        exact h
      by_cases hp : pe = 0
      case neg =>
        have Hr : Hid (Rc.scan (bl s) first = (ts, k)) := Lib.hid (by
          rw [Hgl.out]
          exact Rc.glue_no ((Hone.out false (by rw [decide_eq_false hp, Bool.false_and, Bool.and_false])).1 rfl))
        subst hf
        have j2 : (pe != 0) = true := by rw [bne_iff_ne]; exact hp
        clear wD hDc hp
        go_wp2
        go_ret2
        have h := Scanned2.of Ho3.out Hr.out
        rw [← Hd.out] at h
        exact h
      by_cases hw : bl want = (bl cur).take D
      case neg =>
        have Hr : Hid (Rc.scan (bl s) first = (ts, k)) := Lib.hid (by
          rw [Hgl.out]
          exact Rc.glue_no ((Hone.out false (by rw [decide_eq_false hw, Bool.and_false, Bool.and_false])).1 rfl))
        subst hf hp
        have j3 : (want.toList == (cur.extract 0 D).toList) = false := by
          rw [beq_eq_false_iff_ne, ByteArray.toList_eq, ByteArray.toList_eq]
          intro h; exact hw (by rw [← bl_extract_to cur D hDc]; exact h)
        clear hw
        go_wp2
        go_ret2
        have h := Scanned2.of Ho3.out Hr.out
        rw [← Hd.out] at h
        exact h
      have Hsome : Hid (Rc.one (bl cur) nn = some (t2, r)) := Lib.hid ((Hone.out true (by rw [decide_eq_true hf, decide_eq_true hp, decide_eq_true hw]; rfl)).2 rfl)
      have hnn := Rc.nOk_iff.1 (Rc.one_ok Hsome.out).1
      have j3 : want.toList = (cur.extract 0 D).toList := by
        rw [ByteArray.toList_eq, ByteArray.toList_eq]
        have h := bl_extract_to cur D hDc
        unfold bl at h hw
        rw [h]; exact hw
      have iw : wrap64 (nn + 1) = nn + 1 := by unfold wrap64; omega
      subst hf hp
      clear hw Hone hnn
      go_wp2_with (at_builtin
                   have hs5 := StrsAt.new w3 [T2] 9
                   refine wpList_append_strs rfl _ _ rfl w _ (ts.map strOf) [T2] (ts.map strOf ++ [T2]) rfl rfl (Ho3.out.on (below_new w3 (.cells #[.string T2] 9))) (some ⟨w3.heap.size, 0, none⟩) 1 1 rfl rfl (by simpa using hs5) (fun h => by cases h) (by have h1 := Hs.out; have h2 := Hts.out; have h3 := Hn.out; simp; omega) ?_
                   intro v' w4 hO4
                   have HO4 := Lib.hid hO4
                   clear hO4 hs5)
      go_roundw
      case rel =>
        refine ⟨k + D, ts ++ [t2], R, nn + 1, ?_, rfl, congrArg _ iw, ?_, ?_, ?_⟩
        · rw [HR.out, strOf_size]; have h1 := Hn.out; have h2 := HD.out; have h3 := Hm.out; omega
        · have h2 := HD.out; have h3 := Hm.out; have h4 := Hts.out; rw [List.length_append]; simp; omega
        · rw [Hgl.out, Rc.glue_step Hsome.out, HR.out, bl_strOf, bl_length, HdR.out]
        · rw [List.map_append]
          have h := HO4.out
          rw [HT2.out] at h
          exact h
      case measure => rw [HR.out]; exact (show (strOf r).size < cur.size by rw [strOf_size]; exact Hm.out)
    · have he' : (e != 0) = true := by rw [bne_iff_ne]; exact he
      have Hr : Hid (Rc.scan (bl s) first = (ts, k)) := Lib.hid (by
        rw [Hgl.out]
        rcases Fm.get_cases (bl cur) with ⟨k', t', r', h'⟩ | ⟨e', he2, h'⟩
        · rw [Hg.out] at h'; simp only [Prod.mk.injEq] at h'; exact absurd h'.2.2.2 he
        · exact Rc.glue_no (Rc.one_get h' he2))
      clear he
      unfold got4 at hg0
      go_wp2_with fail
      refine hg0.mono ?_
      rintro x w1 ⟨rfl, hB1⟩
      have Ho1 := Lib.hid (Ho.out.on hB1)
      clear hg0 hB1
      go_wp2
      go_ret2
      have h := Scanned2.of Ho1.out Hr.out
      rw [← Hd.out] at h
      exact h
theorem RScan_any (s : ByteArray) (first : Int) (hs : s.size ≤ 18000) (w : World) :
    Calls Tryz.prog 44 #[.string s, .int .i64 first] w (Scanned w (Rc.scan (bl s) first)) :=
  (RScan2_any s first hs w).mono fun _ _ ⟨A, c, h1, h2, h3, h4, _⟩ => ⟨A, c, h1, h2, h3, h4⟩
end Go.Proofs.YtlnchfnmpamliaaGreat

namespace Go.Proofs.YtlnchfnmpamliaaGreat
set_option maxRecDepth 10000
open Go.RowKit
theorem wrap14 (x : Int) (h0 : 0 ≤ x) (h1 : x ≤ 4000000000) : wrap64 x = x := by unfold wrap64; omega
namespace Sg
theorem recs_count (n : Int) (ls : List (List UInt8)) : ls.length ≤ (Rc.recs n ls).length := by
  induction ls generalizing n with
  | nil => exact Nat.zero_le _
  | cons t ls ih =>
    have h := ih (n + 1)
    have h1 : 1 ≤ (Rc.rec1 n t).length := by unfold Rc.rec1 Fm.frame; rw [List.length_append]; have := Fm.lay_pos (Sm.ofL (Fm.ahead 1 (Wm.lay n ++ t)) : Int); omega
    simp only [Rc.recs, List.length_cons, List.length_append]; omega
theorem sc_count (f : Fil) (n : Int) : (sc f n).1.length ≤ (Fi.read f).size := by
  obtain ⟨_, h2, _⟩ := Rc.scan_split (bl (Fi.read f)) n
  have h3 := Rc.scan_le (bl (Fi.read f)) n
  have h4 := recs_count n (sc f n).1
  rw [bl_length] at h3
  unfold sc at h4 ⊢
  omega
/-- Behind j files ts was read. -/
def Told (fs : List Fil) (fi : Int) (j : Nat) (ts : List (List UInt8)) : Prop := rd fs fi = (ts ++ (rd (fs.drop j) (fi + (ts.length : Int))).1, (rd (fs.drop j) (fi + (ts.length : Int))).2)
theorem told_zero (fs : List Fil) (fi : Int) : Told fs fi 0 [] := by unfold Told; simp
theorem told_yes {fs : List Fil} {fi : Int} {j : Nat} {ts : List (List UInt8)} (h : Told fs fi j ts) (hj : j < fs.length) (hw : whole fs[j] (fi + (ts.length : Int)) = true) : Told fs fi (j + 1) (ts ++ (sc fs[j] (fi + (ts.length : Int))).1) := by
  unfold Told at h ⊢
  rw [h, List.drop_eq_getElem_cons hj, rd_yes hw]
  simp only [List.length_append, List.append_assoc, Int.natCast_add, Int.add_assoc]
theorem told_no {fs : List Fil} {fi : Int} {j : Nat} {ts : List (List UInt8)} (h : Told fs fi j ts) (hj : j < fs.length) (hw : ¬ whole fs[j] (fi + (ts.length : Int)) = true) : rd fs fi = (ts ++ (sc fs[j] (fi + (ts.length : Int))).1, false) := by
  unfold Told at h
  rw [h, List.drop_eq_getElem_cons hj, rd_not hw]
theorem told_end {fs : List Fil} {fi : Int} {ts : List (List UInt8)} (h : Told fs fi fs.length ts) : rd fs fi = (ts, true) := by
  unfold Told at h
  rw [h, List.drop_length]; simp [rd]
end Sg
/-- What the reference's read hands back. -/
def Reads (w : World) (x : List (List UInt8) × Bool) (e : Ending) (w' : World) : Prop := ∃ A c q, e = .returned (.tuple #[.slice A x.1.length c, .int .i64 q, .bool x.2]) ∧ StrsAt w' w'.heap.size A (x.1.map strOf) ∧ x.1.length ≤ c ∧ Below w.heap.size w w'
theorem Reads.of {w w1 w2 : World} {v : Value} {ts : List (List UInt8)} {b : Bool} (q : Int) (h : OwnTs w1 w2 v (ts.map strOf)) (hB : Below w.heap.size w w1) {x : List (List UInt8) × Bool} (hx : x = (ts, b)) : Reads w x (.returned (.tuple #[v, .int .i64 q, .bool b])) w2 := by
  subst hx
  obtain ⟨A, c, rfl, hc, hT, hB2⟩ := h.slice (L := ts.length) (by simp)
  exact ⟨A, c, q, rfl, hT, hc, below2 hB hB2⟩

set_option maxHeartbeats 2000000 in
theorem RSread_any (sz fi : Int) (A : Option Addr) (n c : Nat) (fs : List Fil) (w : World) (hA : FilsAt w w.heap.size A fs) (hi : Sg.is ⟨sz, fi, fs⟩ = true) (hn : n = fs.length) :
    Calls Tryz.prog 29 #[.agg #[.int .i64 sz, .int .i64 fi, .slice A n c]] w (Reads w (Sg.rd fs fi)) := by
  have Hi := Lib.hid hi
  have Hn := Lib.hid hn
  have hb := (Sg.is_iff.1 hi).1
  have Hlen : Hid (n ≤ 20 ∧ 1 ≤ n) := Lib.hid (by have := hb.2.2; simp only at this; omega)
  have Hfi : Hid (0 ≤ fi ∧ fi ≤ 900000000) := Lib.hid hb.2.1
  have S0 := Lib.hid (((St.start w).more (filF14 A w.heap.size fs) ⟨hA, Nat.le_refl _⟩).new #[.int .i64 sz, .int .i64 fi, .slice A n c] 24)
  clear hA hi hn hb
  go_enter Tryz.func29, Tryz.ntmps29
  go_wp2_with fail
  obtain ⟨p0, hp0⟩ : ∃ p, p = w.heap.size := ⟨_, rfl⟩
  obtain ⟨w1, hw1⟩ : ∃ x, x = w.alloc (.cells #[.int .i64 sz, .int .i64 fi, .slice A n c] 24) := ⟨_, rfl⟩
  rw [← hw1] at S0 ⊢
  rw [← hp0] at S0 ⊢
  clear hw1 hp0
  go_loopw [5, 6] (fun v i wr => ∃ (j : Nat) (ts : List (List UInt8)), j ≤ n ∧ i = .int .i64 (j : Int) ∧ Hid (ts.length ≤ 4000 * j) ∧ Hid (Sg.Told fs fi j ts) ∧ Hid (OwnTs w1 wr v (ts.map strOf))) (fun _ i _ => n - (intOf i).toNat)
  case atStart => exact ⟨0, [], Nat.zero_le _, rfl, Lib.hid (Nat.le_refl _), Lib.hid (Sg.told_zero _ _), Lib.hid (OwnTs.nil w1)⟩
  case round =>
    obtain ⟨j, ts, hj, rfl, Hts, HL, HO⟩ := hrel
    obtain ⟨Av, cv, rfl, _, _, _⟩ := HO.out.slice (L := ts.length) (by simp)
    have S1 := Lib.hid (S0.out.on HO.out.2)
    have c2 := S1.out.cell 0 rfl 2 rfl
    by_cases hlt : j < n
    · have hlt' : j < fs.length := by have := Hn.out; omega
      obtain ⟨b, off, rfl, hb, h3⟩ := (S1.out.fact 0 rfl).1 j hlt'
      obtain ⟨⟨xm, xk, xl⟩, hx⟩ : ∃ x, x = fs[j] := ⟨_, rfl⟩
      have hfi : Fi.is ⟨xm, xk, xl⟩ = true := by rw [hx]; exact Sg.files_is Hi.out _ (List.getElem_mem hlt')
      have hz := Rc.is_small9 hfi
      rw [← hx] at h3
      have e0 := h3.c0
      have e1 := h3.c1
      have e2 := h3.c2
      simp only at e0 e1 e2
      obtain ⟨us, q, hus⟩ : ∃ us q, (us, q) = Sg.sc ⟨xm, xk, xl⟩ (fi + (ts.length : Int)) := ⟨_, _, rfl⟩
      have hcnt := Sg.sc_count ⟨xm, xk, xl⟩ (fi + (ts.length : Int))
      have hrs : (Fi.read ⟨xm, xk, xl⟩).size ≤ 4000 := by
        have h := Fi.is_small hfi
        rw [Fi.read_size]; omega
      have Hus : Hid (us.length ≤ 4000) := Lib.hid (by rw [← hus] at hcnt; simp only at hcnt; omega)
      have Hyes : Hid (q = (Fi.read ⟨xm, xk, xl⟩).size → Sg.Told fs fi (j + 1) (ts ++ us)) := Lib.hid (fun h => by
        have h2 := Sg.told_yes HL.out hlt' (by rw [← hx]; unfold Sg.whole; rw [← hus]; exact decide_eq_true h)
        rw [← hx, ← hus] at h2; exact h2)
      have Hno : Hid (q ≠ (Fi.read ⟨xm, xk, xl⟩).size → Sg.rd fs fi = (ts ++ us, false)) := Lib.hid (fun h => by
        have h2 := Sg.told_no HL.out hlt' (by rw [← hx]; unfold Sg.whole; rw [← hus]; simpa using h)
        rw [← hx, ← hus] at h2; exact h2)
      have hqle : q ≤ (Fi.read ⟨xm, xk, xl⟩).size := by
        have h := Rc.scan_le (bl (Fi.read ⟨xm, xk, xl⟩)) (fi + (ts.length : Int))
        rw [bl_length] at h
        have e : Rc.scan (bl (Fi.read ⟨xm, xk, xl⟩)) (fi + (ts.length : Int)) = (us, q) := hus.symm
        rw [e] at h; exact h
      have p1 := fun W => FRRead_any xm xk xl hz W
      obtain ⟨r, hr⟩ : ∃ r, r = Fi.read ⟨xm, xk, xl⟩ := ⟨_, rfl⟩
      have p2 := fun W => RScan2_any r (fi + (ts.length : Int)) (by rw [hr]; omega) W
      unfold Scanned2 at p2
      have e9 : Rc.scan (bl r) (fi + (ts.length : Int)) = (us, q) := by rw [hr]; exact hus.symm
      rw [e9] at p2
      rw [← hr] at p1 Hyes Hno hqle
      have Hq := Lib.hid hqle
      have hb1 : 0 ≤ fi + (ts.length : Int) ∧ fi + (ts.length : Int) ≤ 4000000000 := by have := Hlen.out; have := Hfi.out; have := Hts.out; omega
      have hb2 : 0 ≤ (j : Int) + 1 ∧ (j : Int) + 1 ≤ 4000000000 := by have := Hlen.out; omega
      have Hiw := Lib.hid (wrap14 ((j : Int) + 1) hb2.1 hb2.2)
      have Hiwf := Lib.hid (wrap14 (fi + (ts.length : Int)) hb1.1 hb1.2)
      clear h3 hb hx hz hus hcnt hrs hqle hr e9 hfi hb1 hb2
      go_wp2_with fail
      refine (p1 _).mono ?_
      rintro e w2 ⟨rfl, hB⟩
      have S2 := Lib.hid (S1.out.on hB)
      have HO2 := Lib.hid (HO.out.on hB)
      have c1 := S2.out.cell 0 rfl 1 rfl
      have iwf := Hiwf.out
      clear S1 hB p1 c2 e0 e1 e2 HO
      go_wp2_with fail
      refine (p2 _).mono ?_
      rintro e w3 ⟨A3, c3, rfl, hT, _, hB, hnil⟩
      have S3 := Lib.hid ((S2.out.on hB).more (strsF14 A3 w3.heap.size (us.map strOf)) ⟨hT, Nat.le_refl _⟩)
      have HO3 := Lib.hid (HO2.out.on hB)
      have Hnil := Lib.hid hnil
      clear S2 hB p2 c1 HO2 hT hnil iwf
      have hpl : (ts.map strOf).length + (us.map strOf).length ≤ 100000 := by rw [List.length_map, List.length_map]; have := Hts.out; have := Hus.out; have := Hlen.out; omega
      have Hpl := Lib.hid hpl
      clear hpl
      have HV : Hid (Value.int .i64 ((j : Int) + 1) = Value.int .i64 ((j + 1 : Nat) : Int)) := Lib.hid (by rw [Int.natCast_succ])
      have HM : Hid (n - (intOf (Value.int .i64 ((j : Int) + 1))).toNat < n - (intOf (Value.int .i64 (j : Int))).toNat) := Lib.hid (by simp only [intOf]; omega)
      have HT4 : Hid ((ts ++ us).length ≤ 4000 * (j + 1)) := Lib.hid (by rw [List.length_append]; have := Hts.out; have := Hus.out; omega)
      clear Hts Hus
      by_cases hq : q = r.size
      · have j5 : (q < r.size) = False := eq_false (by omega)
        have HL2 := Lib.hid (Hyes.out hq)
        have j6 : ((q : Int) < (r.size : Int)) = False := eq_false (by omega)
        clear Hyes Hno Hq hq
        go_wp2_with (refine wpList_append_strs rfl _ _ rfl w1 _ (ts.map strOf) (us.map strOf) ((ts ++ us).map strOf) (List.map_append.symm) rfl HO3.out A3 us.length c3 (by rw [List.length_map]) rfl ((S3.out.fact 0 rfl).1.more (S3.out.fact 0 rfl).2) Hnil.out Hpl.out ?_; intro v4 w4 hO4; have HO4 := Lib.hid hO4; clear hO4)
        go_roundw
        case rel => exact ⟨j + 1, ts ++ us, hlt, by rw [Hiw.out]; exact HV.out, HT4, HL2, HO4⟩
        case measure => rw [Hiw.out]; exact HM.out
      · have j5 : (q < r.size) = True := eq_true (by have := Hq.out; omega)
        have HR := Lib.hid (Hno.out hq)
        have j6 : ((q : Int) < (r.size : Int)) = True := eq_true (by have := Hq.out; omega)
        clear Hyes Hno Hq hq
        go_wp2_with (refine wpList_append_strs rfl _ _ rfl w1 _ (ts.map strOf) (us.map strOf) ((ts ++ us).map strOf) (List.map_append.symm) rfl HO3.out A3 us.length c3 (by rw [List.length_map]) rfl ((S3.out.fact 0 rfl).1.more (S3.out.fact 0 rfl).2) Hnil.out Hpl.out ?_; intro v4 w4 hO4; have HO4 := Lib.hid hO4; clear hO4)
        go_ret3
        exact Reads.of _ HO4.out S0.out.below HR.out
    · have hje : j = n := by omega
      have HR : Hid (Sg.rd fs fi = (ts, true)) := Lib.hid (Sg.told_end (by rw [← Hn.out, ← hje]; exact HL.out))
      clear hje
      go_wp2
      go_region
      go_wp2
      go_ret3
      exact Reads.of _ (HO.out.on (below_drew (Below.refl _ _) 1)) S0.out.below HR.out
end Go.Proofs.YtlnchfnmpamliaaGreat

namespace Go.Proofs.YtlnchfnmpamliaaGreat
set_option maxRecDepth 10000
open Go.RowKit

set_option maxHeartbeats 1000000 in
theorem RSRead_any (sz fi : Int) (A : Option Addr) (n c : Nat) (fs : List Fil) (w : World) (hA : FilsAt w w.heap.size A fs) (hs : Sg.small ⟨sz, fi, fs⟩) (hn : n = fs.length) :
    Calls Tryz.prog 7 #[.agg #[.int .i64 sz, .int .i64 fi, .slice A n c]] w fun e w' => ∃ A' c', e = .returned (.tuple #[.slice A' (Sg.texts ⟨sz, fi, fs⟩).length c', .int .i64 (Sg.badE ⟨sz, fi, fs⟩)]) ∧ StrsAt w' w'.heap.size A' (Sg.texts ⟨sz, fi, fs⟩) ∧ (Sg.texts ⟨sz, fi, fs⟩).length ≤ c' ∧ Below w.heap.size w w' := by
  have p1 := fun W (h : FilsAt W W.heap.size A fs) => RSIs_any sz fi A n c fs W h hs hn
  have S0 := Lib.hid (((St.start w).more (filF14 A w.heap.size fs) ⟨hA, Nat.le_refl _⟩).new #[.int .i64 sz, .int .i64 fi, .slice A n c] 24)
  by_cases hi : Sg.is ⟨sz, fi, fs⟩ = true
  · have e1 : Sg.texts ⟨sz, fi, fs⟩ = (Sg.rd fs fi).1.map strOf := by unfold Sg.texts; rw [if_pos hi]
    have e2 : Sg.badE ⟨sz, fi, fs⟩ = 0 := by unfold Sg.badE; rw [if_pos hi]
    rw [e1, e2]
    simp only [hi] at p1
    have p2 := fun W (h : FilsAt W W.heap.size A fs) => RSread_any sz fi A n c fs W h hi hn
    unfold Reads at p2
    obtain ⟨x, hx⟩ : ∃ x, x = Sg.rd fs fi := ⟨_, rfl⟩
    rw [← hx] at p2 ⊢
    clear e1 e2 hx hi hA hs hn
    go_enter Tryz.func7, Tryz.ntmps7
    go_wp2_with fail
    refine (p1 _ ((S0.out.fact 0 rfl).1.more (S0.out.fact 0 rfl).2)).mono ?_
    rintro e w1 ⟨rfl, hB⟩
    have S1 := Lib.hid (S0.out.on hB)
    clear p1 hB S0
    go_wp2_with (refine wpList_load_st rfl 24 _ rfl S1.out 0 _ _ rfl rfl _ Tryz.underlying24 rfl (by rfl) ?_)
    refine (p2 _ ((S1.out.fact 0 rfl).1.more (S1.out.fact 0 rfl).2)).mono ?_
    rintro e w2 ⟨A2, c2, q, rfl, hT, hc, hB⟩
    have Hb2 := Lib.hid (S1.out.on hB).below
    have HT := Lib.hid hT
    have Hc := Lib.hid hc
    clear p2 hB hT hc S1
    go_wp2
    go_ret2
    exact ⟨A2, c2, by rw [List.length_map]; rfl, HT.out, by rw [List.length_map]; exact Hc.out, Hb2.out⟩
  · have e1 : Sg.texts ⟨sz, fi, fs⟩ = [] := by unfold Sg.texts; rw [if_neg hi]
    have e2 : Sg.badE ⟨sz, fi, fs⟩ = 1 := by unfold Sg.badE; rw [if_neg hi]
    rw [e1, e2]
    rw [Bool.not_eq_true] at hi
    simp only [hi] at p1
    clear e1 e2 hi hA hs hn
    go_enter Tryz.func7, Tryz.ntmps7
    go_wp2_with fail
    refine (p1 _ ((S0.out.fact 0 rfl).1.more (S0.out.fact 0 rfl).2)).mono ?_
    rintro e w1 ⟨rfl, hB⟩
    have Hb := Lib.hid (S0.out.on hB).below
    clear p1 hB S0
    go_wp2
    go_ret2
    exact ⟨none, 0, rfl, StrsAt.nil _ _ _, Nat.le_refl _, Hb.out⟩
end Go.Proofs.YtlnchfnmpamliaaGreat
