/-
  Layer 13 (record): the landed code: records and its iterator, Scan.
-/
import Derived.Test.YtlnchfnmpamliaaGreatXRecW2
import Derived.Test.YtlnchfnmpamliaaGreatXDueIn
namespace Go.Proofs.YtlnchfnmpamliaaGreat
set_option maxRecDepth 10000
open Go.RowKit Go.Shelf

attribute [local go_sem] Oper.semAt_some

namespace Rc
/-- How many bytes were told to be taken. -/
def lastU (ys : List (ByteArray × Nat)) : Nat := (ys.getLast?.map (·.2)).getD 0
theorem lastU_nil : lastU [] = 0 := rfl
theorem lastU_snoc (ys : List (ByteArray × Nat)) (x : ByteArray × Nat) : lastU (ys ++ [x]) = x.2 := by simp [lastU]
/-- The texts that were told. -/
def toldT (ys : List (ByteArray × Nat)) : List (List UInt8) := ys.map (fun y => bl y.1)
theorem toldT_snoc (ys : List (ByteArray × Nat)) (x : ByteArray × Nat) : toldT (ys ++ [x]) = toldT ys ++ [bl x.1] := by simp [toldT]
theorem recs_ge (n : Int) (ls : List (List UInt8)) : ls.length ≤ (recs n ls).length := by
  induction ls generalizing n with
  | nil => exact Nat.zero_le _
  | cons t ls ih =>
    have := ih (n + 1)
    have h := rec_pos n t
    rw [recs, List.length_append, List.length_cons]; omega
theorem scan_count (l : List UInt8) (n : Int) : (scan l n).1.length ≤ l.length := by
  have h1 := (scan_split l n).2.1
  have h2 := scan_le l n
  have h3 := recs_ge n (scan l n).1
  omega
theorem glue_more {ts : List (List UInt8)} {k : Nat} {x : List (List UInt8) × Nat} : ts.length ≤ (glue ts k x).1.length := by simp [glue]
end Rc

/-- How many bytes are left. -/
def lenL : Value → Nat
  | .string s => s.size
  | _ => 0
/-- What a round of Scan keeps: what is older, and the box of the bytes. -/
def KpB (n₀ Bb : Nat) (A B : World) : Prop := Below n₀ A B ∧ B.heap[Bb]? = A.heap[Bb]?
theorem kpB_t {n₀ Bb : Nat} {A B C : World} (h : KpB n₀ Bb A B) (h' : KpB n₀ Bb B C) : KpB n₀ Bb A C := ⟨h.1.trans h'.1, h'.2.trans h.2⟩
theorem kpB_b {n₀ Bb : Nat} {w : World} (hn : n₀ ≤ w.heap.size) (hb : Bb < w.heap.size) (W : World) (l : Nat) (o o' : Obj) (hl : w.heap.size ≤ l) (h : W.heap[l]? = some o) (h1 : o.isCells = false) (h2 : o.isWalk = false) : KpB n₀ Bb W (W.putObj l o') :=
  ⟨belowK_b hn W l o o' hl h h1 h2, (grownBy_putObj' W l o').block Bb (Nat.lt_of_lt_of_le hb (Nat.le_trans hl (Nat.le_of_lt (Array.getElem?_eq_some_iff.1 h).1))) (fun e => by cases e; omega)⟩

set_option maxHeartbeats 2000000 in
theorem rrec1_in (n lp Bb Bn n₀ B0 : Nat) (s : ByteArray) (first : Int) (hs : s.size ≤ 18000) (J Jx : List (ByteArray × Nat) → World → Prop) (hJ : AbidesFrom B0 J)
    (hY : ∀ pre x W, J pre W → pre.length < (Rc.scan (bl s) first).1.length → YieldAt Fence.wide (n - 1) Tryz.prog lp #[.string x.1, .int .i64 (x.2 : Nat)] W fun e W' =>
      (e = .returned (.bool true) ∧ J (pre ++ [x]) W' ∧ KpB n₀ Bb W W') ∨ (e = .returned (.bool false) ∧ Jx (pre ++ [x]) W'))
    (W : World) (hBb : Boxed W Bb 9 (.string s)) (hBn : W.cell? ⟨Bn, 0, none⟩ = some (.int .i64 first)) (h0 : J [] W) :
    CallsIn Fence.wide n Tryz.prog 72 #[.func (.yield lp) #[] #[], .pointer (some ⟨Bb, 0, none⟩), .pointer (some ⟨Bn, 0, none⟩)] W fun e W' => (∃ v, e = .returned v) ∧
      ((∃ ys, Rc.scan (bl s) first = (Rc.toldT ys, Rc.lastU ys) ∧ J ys W') ∨ (∃ pre, pre = pre ∧ Jx pre W')) := by
  have H0 := Lib.hid h0
  have Hs := Lib.hid hs
  have HJ := Lib.hid hJ
  have HY := Lib.hid hY
  have HBb := Lib.hid hBb
  have b0 := hBb.cell
  clear h0 hs hJ hY hBb
  refine callsIn_of_wp Tryz.func72 rfl trivial ?_ rfl
  simp only [Tryz.ntmps72, List.size_toArray, List.length_cons, List.length_nil, Nat.reduceAdd, Nat.reduceSub, Array.replicate_succ, Array.replicate_zero, List.push_toArray, List.append_toArray, List.nil_append, List.cons_append]
  gi_wp2
  gi_loopw [4, 5] (fun left i wr => ∃ (pre : List (ByteArray × Nat)) (cur : ByteArray) (nn : Int), left = .string cur ∧ i = .int .i64 nn ∧ Hid (Rc.lastU pre + cur.size = s.size) ∧ Hid (Rc.scan (bl s) first = Rc.glue (Rc.toldT pre) (Rc.lastU pre) (Rc.scan (bl cur) nn)) ∧ Hid (J pre wr) ∧ Hid (Boxed wr Bb 9 (.string s))) (fun left _ _ => lenL left)
  case atStart => exact ⟨[], s, first, rfl, rfl, Lib.hid (Nat.zero_add _), Lib.hid (by rw [Rc.lastU_nil]; exact (Rc.glue_zero _).symm), H0, HBb⟩
  case round =>
    obtain ⟨pre, cur, nn, rfl, rfl, Hn, Hgl, HJr, HBr⟩ := hrel
    have g := fun W => rget_any cur nn W (by have := Hn.out; have := Hs.out; omega)
    cases ho : Rc.one (bl cur) nn with
    | none =>
      rw [ho] at g
      unfold gotRec at g
      simp only at g
      have Hr : Hid (Rc.scan (bl s) first = (Rc.toldT pre, Rc.lastU pre)) := Lib.hid (by rw [Hgl.out]; exact Rc.glue_no ho)
      clear ho b0 hBn
      gi_wp2_with fail
      refine ⟨trivial, (fun hd => nomatch hd), callsIn_wide.2 ((g _).mono ?_)⟩
      rintro e w2 ⟨rfl, hB⟩
      have HJ2 := Lib.hid (HJ.out _ _ w2 none HJr.out (grown_of_below hB) (fun r e => nomatch e))
      clear hB g
      gi_wp2
      refine ⟨fun _ h => (by cases h), ?_⟩
      gi_wp2
      refine bodyPost_ret (results_none rfl _ _ _) rfl ?_
      exact ⟨⟨_, rfl⟩, .inl ⟨pre, Hr.out, HJ2.out⟩⟩
    | some x =>
      obtain ⟨t, r⟩ := x
      rw [ho] at g
      unfold gotRec at g
      simp only at g
      have hlt := Rc.one_less ho
      rw [bl_length] at hlt
      have hgs := Rc.glue_step (ts := Rc.toldT pre) (k := Rc.lastU pre) ho
      have hnn := Rc.nOk_iff.1 (Rc.one_ok ho).1
      obtain ⟨R, hR⟩ : ∃ R, R = strOf r := ⟨_, rfl⟩
      obtain ⟨T, hT⟩ : ∃ T, T = strOf t := ⟨_, rfl⟩
      rw [← hR, ← hT] at g
      have hRs : R.size = r.length := by rw [hR, strOf_size]
      obtain ⟨D, hD⟩ : ∃ D, D = s.size - R.size := ⟨_, rfl⟩
      have wD : wrap64 ((s.size : Int) - (R.size : Int)) = (D : Int) := by have := Hn.out; have := Hs.out; unfold wrap64; omega
      have wn : wrap64 (nn + 1) = nn + 1 := by unfold wrap64; omega
      have Hm : Hid (R.size < cur.size) := Lib.hid (by omega)
      have HnD : Hid (D + R.size = s.size) := Lib.hid (by have := Hn.out; omega)
      have HglD : Hid (Rc.scan (bl s) first = Rc.glue (Rc.toldT (pre ++ [(T, D)])) D (Rc.scan (bl R) (nn + 1))) := Lib.hid (by
        rw [Hgl.out, hgs, Rc.toldT_snoc, hT, hR, bl_strOf, bl_strOf, bl_length]
        congr 1
        have := Hn.out
        omega)
      have HL : Hid (pre.length < (Rc.scan (bl s) first).1.length) := Lib.hid (by
        rw [HglD.out]
        refine Nat.lt_of_lt_of_le ?_ Rc.glue_more
        rw [Rc.toldT_snoc]; simp [Rc.toldT])
      have Hwn := Lib.hid wn
      clear ho hlt hgs hnn hR hT hRs hD b0 hBn wn
      gi_wp2_with fail
      refine ⟨trivial, (fun hd => nomatch hd), callsIn_wide.2 ((g _).mono ?_)⟩
      rintro e w2 ⟨rfl, hB⟩
      have HJ2 := Lib.hid (HJ.out _ _ w2 none HJr.out (grown_of_below hB) (fun r e => nomatch e))
      have HB2 : Hid (Boxed w2 Bb 9 (.string s)) := Lib.hid ((hB.block Bb HBr.out.lt).trans HBr.out)
      have b2 := HB2.out.cell
      clear hB g
      obtain ⟨fn, tmps, assign, body, hy, hR⟩ := HY.out pre (T, D) w2 HJ2.out HL.out
      dsimp only at hy
      gi_wp2_with fail
      refine ⟨(fun hd => nomatch hd), hR.mono ?_⟩
      rintro e W3 (⟨rfl, hJ3, hk3⟩ | ⟨rfl, hJx3⟩)
      · have HJ3 := Lib.hid hJ3
        have HB3 : Hid (Boxed W3 Bb 9 (.string s)) := Lib.hid (hk3.2.trans HB2.out)
        clear hJ3 hk3 hR hy b2 wD
        gi_wp2
        go_roundw
        case rel => exact ⟨pre ++ [(T, D)], R, nn + 1, rfl, by rw [Hwn.out], Lib.hid (by rw [Rc.lastU_snoc]; exact HnD.out), Lib.hid (by rw [Rc.lastU_snoc]; exact HglD.out), HJ3, HB3⟩
        case measure => exact Hm.out
      · have HX := Lib.hid hJx3
        clear hJx3 hR hy b2 wD
        gi_wp2
        refine bodyPost_ret (results_none rfl _ _ _) rfl ?_
        exact ⟨⟨_, rfl⟩, (by right; exact ⟨_, by trivial, HX.out⟩)⟩

theorem rrecords_in (n : Nat) (s : ByteArray) (first : Int) (w : World) :
    CallsIn Fence.wide n Tryz.prog 62 #[.string s, .int .i64 first] w fun e w' => e = .returned (.func (.func 72) #[] #[.pointer (some ⟨w.heap.size, 0, none⟩), .pointer (some ⟨w.heap.size + 1, 0, none⟩)]) ∧ w' = (w.alloc (.cells #[.string s] 9)).alloc (.cells #[.int .i64 first] 3) := by
  refine callsIn_wide.2 ?_
  go_enter Tryz.func62, Tryz.ntmps62
  go_wp2
  go_ret
  exact ⟨by trivial, rfl⟩

theorem rrecords_stops (n Bb Bn n₀ : Nat) (s : ByteArray) (first : Int) (hs : s.size ≤ 18000) (w : World) (hBb : Boxed w Bb 9 (.string s)) (hBn : Boxed w Bn 3 (.int .i64 first)) :
    SeqStopsK Fence.wide n Tryz.prog 72 #[.pointer (some ⟨Bb, 0, none⟩), .pointer (some ⟨Bn, 0, none⟩)] (fun x : ByteArray × Nat => #[.string x.1, .int .i64 (x.2 : Nat)]) (KpB n₀ Bb) (fun ys => Rc.scan (bl s) first = (Rc.toldT ys, Rc.lastU ys)) (fun pre => pre = pre) (Rc.scan (bl s) first).1.length w := fun lp J Jx W hW hJ _ hY h0 =>
  rrec1_in n lp Bb Bn n₀ _ s first hs J Jx hJ hY W ((hW.block Bb hBb.lt).trans hBb) ((hW.cell (p := ⟨Bn, 0, none⟩) hBn.lt).trans hBn.cell) h0
end Go.Proofs.YtlnchfnmpamliaaGreat
