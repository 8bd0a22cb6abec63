/-
  Layer 8 (board): the law BoardDoes, over the contracts (printed by tools/gen-boarddoes.py).
-/
import Derived.Test.YthlojadkgpmnmaaBoardDoes0
import Derived.Deep.RegionHeld3
namespace Go.Proofs.Ythlojadkgpmnmaa
open Go.RowKit

theorem OwnA.cap8 {w : World} {base : Nat} {A : Option Addr} {l c : Nat} {ls : List Alm} (h : OwnA w base (.slice A l c) ls) : l ≤ c := by
  obtain ⟨A', c', e, _, _, hc⟩ := h.slice
  cases e
  exact hc
theorem run_eql_same (x0 x1 x2 x3 x4 x5 : Int) (w : World) :
    (binOp .eql 28 (.agg #[.int .i64 x0, .int .i64 x1, .int .i64 x2, .int .i64 x3, .int .i64 x4, .int .i64 x5]) (.agg #[.int .i64 x0, .int .i64 x1, .int .i64 x2, .int .i64 x3, .int .i64 x4, .int .i64 x5])).run Try.prog w = .ok (.bool true) w := by
  go_simp
theorem RASame_b (A B : Option Addr) (ca cb l : Nat) (ls : List Alm) (w : World) (hl : l = ls.length) (hA : AlmsAt w w.heap.size A ls) (hB : AlmsAt w w.heap.size B ls) (h : l ≤ 1000) :
    Calls Try.prog 22 #[.slice A l ca, .slice B l cb] w fun e w' => e = .returned (.bool true) ∧ Below w.heap.size w w' := by
  subst hl
  refine (RASame_any A B ca cb ls w hA hB h).mono ?_
  rintro e w' ⟨rfl, q, rfl⟩
  exact ⟨rfl, below_drew (Below.refl _ _) q⟩
theorem Bd.put_le (m n : Int) (ls : List Alm) (x : Alm) : (Bd.put m n ls x).als.length ≤ ls.length + 1 := by
  unfold Bd.put
  split
  · rename_i h
    show (Bd.putL x ls).length ≤ _
    rw [Bd.put_len (Bd.rows_iff.1 (Bd.isB_iff.1 (Bd.putE_iff.1 h).1).2.2.2).2]
    split <;> omega
  · exact Nat.zero_le _
theorem Bd.drop_le (m n : Int) (ls : List Alm) (b c : Int) : (Bd.drop m n ls b c).als.length ≤ ls.length := by
  unfold Bd.drop
  split
  · exact List.length_filter_le _ _
  · exact Nat.zero_le _
theorem Bd.pass_le (m n : Int) (ls : List Alm) (t : Int) : (Bd.pass m n ls t).als.length ≤ ls.length := by
  unfold Bd.pass
  split
  · exact Nat.le_of_eq (Bd.pass_len t ls)
  · exact Nat.zero_le _
theorem Bd.new_le (m : Int) : (Bd.new m).als.length ≤ 0 := by
  unfold Bd.new
  split <;> exact Nat.le_refl _

set_option maxRecDepth 10000 in
set_option maxHeartbeats 2000000 in
theorem boardDoes_far (m n : Int) (A : Option Addr) (l c : Nat) (x0 x1 x2 x3 x4 x5 sb sc t mo : Int) (B : Option Addr) (lb cb : Nat) (w : World) (hf : 60 < l) :
    Calls Try.prog 3 #[.agg #[.int .i64 m, .int .i64 n, .slice A l c], .agg #[.int .i64 x0, .int .i64 x1, .int .i64 x2, .int .i64 x3, .int .i64 x4, .int .i64 x5], .agg #[.int .i64 sb, .int .i64 sc], .int .i64 t, .int .i64 mo, .slice B lb cb] w fun e w' => e = .returned (.bool true) ∧ Below w.heap.size w w' := by
  have HF := fun W => far_v m n A l c true (by simp; omega) W
  have HB := Lib.hid (below_new3 w (.cells #[.int .i64 m, .int .i64 n, .slice A l c] 24) (.cells #[.int .i64 x0, .int .i64 x1, .int .i64 x2, .int .i64 x3, .int .i64 x4, .int .i64 x5] 28) (.cells #[.int .i64 sb, .int .i64 sc] 26))
  clear hf
  go_enter Try.func3, Try.ntmps3
  go_wp2_with fail
  refine (HF _).mono ?_
  rintro e w1 ⟨rfl, hB⟩
  have HB1 := Lib.hid (below2 HB.out hB)
  clear hB HF
  go_wp2
  go_ret
  exact ⟨rfl, HB1.out⟩

set_option maxRecDepth 10000 in
set_option maxHeartbeats 2000000 in
theorem boardDoes_far2 (m n : Int) (A : Option Addr) (l c : Nat) (x0 x1 x2 x3 x4 x5 sb sc t mo : Int) (B : Option Addr) (lb cb : Nat) (w : World) (hf : l ≤ 60) (hf2 : 60 < lb) :
    Calls Try.prog 3 #[.agg #[.int .i64 m, .int .i64 n, .slice A l c], .agg #[.int .i64 x0, .int .i64 x1, .int .i64 x2, .int .i64 x3, .int .i64 x4, .int .i64 x5], .agg #[.int .i64 sb, .int .i64 sc], .int .i64 t, .int .i64 mo, .slice B lb cb] w fun e w' => e = .returned (.bool true) ∧ Below w.heap.size w w' := by
  have HF := fun W => far_v m n A l c false (by simp; omega) W
  have HB := Lib.hid (below_new3 w (.cells #[.int .i64 m, .int .i64 n, .slice A l c] 24) (.cells #[.int .i64 x0, .int .i64 x1, .int .i64 x2, .int .i64 x3, .int .i64 x4, .int .i64 x5] 28) (.cells #[.int .i64 sb, .int .i64 sc] 26))
  have i60 : (60 : Int) < (lb : Int) := by omega
  clear hf hf2
  go_enter Try.func3, Try.ntmps3
  go_wp2_with fail
  refine (HF _).mono ?_
  rintro e w1 ⟨rfl, hB⟩
  have HB1 := Lib.hid (below2 HB.out hB)
  clear hB HF
  go_wp2
  go_ret
  exact ⟨rfl, HB1.out⟩

set_option maxRecDepth 10000 in
set_option maxHeartbeats 8000000 in
theorem boardDoes_ok (HK : Hid BoardK) (HE : Hid SameK) (HR : Hid RefK) (m n : Int) (A : Option Addr) (l c : Nat) (ls : List Alm) (x0 x1 x2 x3 x4 x5 sb sc t mo : Int) (B : Option Addr) (lb cb : Nat) (zs : List Int) (w : World) (hl : l = ls.length) (hA : AlmsAt w w.heap.size A ls) (h0 : A = none → c = 0) (hlb : lb = zs.length) (hB : IntsAt w w.heap.size B zs) (hb0 : B = none → cb = 0) (hf : l ≤ 60) (hf2 : lb ≤ 60) :
    Calls Try.prog 3 #[.agg #[.int .i64 m, .int .i64 n, .slice A l c], .agg #[.int .i64 x0, .int .i64 x1, .int .i64 x2, .int .i64 x3, .int .i64 x4, .int .i64 x5], .agg #[.int .i64 sb, .int .i64 sc], .int .i64 t, .int .i64 mo, .slice B lb cb] w fun e w' => e = .returned (.bool true) ∧ Below w.heap.size w w' := by
  obtain ⟨⟨m1, n1, C1⟩, h1⟩ : ∃ r, r = Bd.put m n ls ⟨x0, x1, x2, x3, x4, x5⟩ := ⟨_, rfl⟩
  obtain ⟨q1, hq1⟩ : ∃ q, q = C1.length := ⟨_, rfl⟩
  obtain ⟨e1, he1⟩ : ∃ e, e = Bd.putE m n ls ⟨x0, x1, x2, x3, x4, x5⟩ := ⟨_, rfl⟩
  have le1 : q1 ≤ 61 := by have h := Bd.put_le m n ls ⟨x0, x1, x2, x3, x4, x5⟩; rw [← h1] at h; simp only at h; omega
  have hz1 : q1 = (Bd.put m n ls ⟨x0, x1, x2, x3, x4, x5⟩).als.length := by rw [← h1]; exact hq1
  obtain ⟨⟨m2, n2, C2⟩, h2⟩ : ∃ r, r = Bd.drop m n ls sb sc := ⟨_, rfl⟩
  obtain ⟨q2, hq2⟩ : ∃ q, q = C2.length := ⟨_, rfl⟩
  obtain ⟨e2, he2⟩ : ∃ e, e = Bd.dropE m n ls sb sc := ⟨_, rfl⟩
  have le2 : q2 ≤ 60 := by have h := Bd.drop_le m n ls sb sc; rw [← h2] at h; simp only at h; omega
  have hz2 : q2 = (Bd.drop m n ls sb sc).als.length := by rw [← h2]; exact hq2
  obtain ⟨⟨m3, n3, C3⟩, h3⟩ : ∃ r, r = Bd.pass m n ls t := ⟨_, rfl⟩
  obtain ⟨q3, hq3⟩ : ∃ q, q = C3.length := ⟨_, rfl⟩
  obtain ⟨e3, he3⟩ : ∃ e, e = Bd.passE m n ls t := ⟨_, rfl⟩
  have le3 : q3 ≤ 60 := by have h := Bd.pass_le m n ls t; rw [← h3] at h; simp only at h; omega
  have hz3 : q3 = (Bd.pass m n ls t).als.length := by rw [← h3]; exact hq3
  obtain ⟨⟨m4, n4, C4⟩, h4⟩ : ∃ r, r = Bd.new mo := ⟨_, rfl⟩
  obtain ⟨q4, hq4⟩ : ∃ q, q = C4.length := ⟨_, rfl⟩
  obtain ⟨e4, he4⟩ : ∃ e, e = Bd.newE mo := ⟨_, rfl⟩
  have le4 : q4 ≤ 60 := by have h := Bd.new_le mo; rw [← h4] at h; simp only at h; omega
  have hz4 : q4 = (Bd.new mo).als.length := by rw [← h4]; exact hq4
  obtain ⟨⟨⟨y0, y1, y2, y3, y4, y5⟩, ok⟩, h5⟩ : ∃ r, r = Bd.getA sb sc ls := ⟨_, rfl⟩
  obtain ⟨F, hF⟩ : ∃ F, F = Bd.ofL zs ls := ⟨_, rfl⟩
  obtain ⟨lf, hlf⟩ : ∃ x, x = F.length := ⟨_, rfl⟩
  have lf60 : lf ≤ 60 := by rw [hlf, hF]; have : (Bd.ofL zs ls).length ≤ ls.length := List.length_filter_le _ _; omega
  obtain ⟨isb, hisb⟩ : ∃ r, r = Bd.isB m n ls := ⟨_, rfl⟩
  have G0 := fun (W : World) (h : AlmsAt W W.heap.size A ls) => Lib.hid (HR.out.own m n A l c ls W ⟨hl, h, h0, by omega⟩)
  have K1 := fun (W : World) (h : AlmsAt W W.heap.size A ls) => Lib.hid (HK.out.put m n A l c ls ⟨x0, x1, x2, x3, x4, x5⟩ q1 W ⟨hl, h, h0, by omega⟩ hz1)
  have R1 := fun (W : World) (A0 : Option Addr) (c0 : Nat) (h : AlmsAt W W.heap.size A0 ls) (h1 : A0 = none → c0 = 0) (hc : l ≤ c0) => Lib.hid (HR.out.put m n A0 l c0 ls ⟨x0, x1, x2, x3, x4, x5⟩ q1 W ⟨hl, h, h1, by omega⟩ hc hz1)
  have K2 := fun (W : World) (h : AlmsAt W W.heap.size A ls) => Lib.hid (HK.out.drop m n A l c ls sb sc q2 W ⟨hl, h, h0, by omega⟩ hz2)
  have R2 := fun (W : World) (A0 : Option Addr) (c0 : Nat) (h : AlmsAt W W.heap.size A0 ls) (h1 : A0 = none → c0 = 0) => Lib.hid (HR.out.drop m n A0 l c0 ls sb sc q2 W ⟨hl, h, h1, by omega⟩ hz2)
  have K3 := fun (W : World) (h : AlmsAt W W.heap.size A ls) => Lib.hid (HK.out.pass m n A l c ls t q3 W ⟨hl, h, h0, by omega⟩ hz3)
  have R3 := fun (W : World) (A0 : Option Addr) (c0 : Nat) (h : AlmsAt W W.heap.size A0 ls) (h1 : A0 = none → c0 = 0) => Lib.hid (HR.out.pass m n A0 l c0 ls t q3 W ⟨hl, h, h1, by omega⟩ hz3)
  simp only [← h1, ← he1] at K1 R1
  simp only [← h2, ← he2] at K2 R2
  simp only [← h3, ← he3] at K3 R3
  simp only [sixV] at K1 R1
  have K5 := fun (W : World) (h : AlmsAt W W.heap.size A ls) => Lib.hid (HK.out.get m n A l c ls sb sc W ⟨hl, h, h0, by omega⟩)
  have R5 := fun (W : World) (A0 : Option Addr) (c0 : Nat) (h : AlmsAt W W.heap.size A0 ls) (h1 : A0 = none → c0 = 0) => Lib.hid (HR.out.get m n A0 l c0 ls sb sc W ⟨hl, h, h1, by omega⟩)
  simp only [← h5, sixV] at K5 R5
  have K4 := fun (W : World) => Lib.hid (HK.out.new mo q4 W hz4)
  have R4 := fun (W : World) => Lib.hid (HR.out.new mo q4 W hz4)
  simp only [← h4, ← he4] at K4 R4
  have K6 := fun (W : World) (h : AlmsAt W W.heap.size A ls) (hI : IntsAt W W.heap.size B zs) => Lib.hid ((HK.out.gather m n A l c ls B lb cb zs W ⟨hl, h, h0, by omega⟩ hlb hI (by omega)).mono fun _ _ h => (by rw [← hF] at h; exact h.l0 hlf : OwnL0 W lf F _ _))
  have R6 := fun (W : World) (A0 : Option Addr) (c0 : Nat) (h : AlmsAt W W.heap.size A0 ls) (h1 : A0 = none → c0 = 0) (B0 : Option Addr) (cb0 : Nat) (hI : IntsAt W W.heap.size B0 zs) => Lib.hid ((HR.out.gather m n A0 l c0 ls B0 lb cb0 zs W ⟨hl, h, h1, by omega⟩ hlb hI (by omega)).mono fun _ _ h => (by rw [← hF] at h; exact h.l0 hlf : OwnL0 W lf F _ _))
  have R7 := fun (W : World) (hI : IntsAt W W.heap.size B zs) => Lib.hid (HR.out.ints B lb cb zs W hlb hI hb0 (by omega))
  have K8 := fun (W : World) (h : AlmsAt W W.heap.size A ls) => Lib.hid (HK.out.is m n A l c ls W ⟨hl, h, h0, by omega⟩)
  have R8 := fun (W : World) (A0 : Option Addr) (c0 : Nat) (h : AlmsAt W W.heap.size A0 ls) (h1 : A0 = none → c0 = 0) => Lib.hid (HR.out.is m n A0 l c0 ls W ⟨hl, h, h1, by omega⟩)
  simp only [← hisb] at K8 R8
  have S1 := fun (W : World) (A1 A2 : Option Addr) (c1 c2 : Nat) (h1 : AlmsAt W W.heap.size A1 C1) (h2 : AlmsAt W W.heap.size A2 C1) => Lib.hid (HE.out m1 n1 A1 A2 q1 c1 c2 C1 W hq1 h1 h2 (by omega))
  have S2 := fun (W : World) (A1 A2 : Option Addr) (c1 c2 : Nat) (h1 : AlmsAt W W.heap.size A1 C2) (h2 : AlmsAt W W.heap.size A2 C2) => Lib.hid (HE.out m2 n2 A1 A2 q2 c1 c2 C2 W hq2 h1 h2 (by omega))
  have S3 := fun (W : World) (A1 A2 : Option Addr) (c1 c2 : Nat) (h1 : AlmsAt W W.heap.size A1 C3) (h2 : AlmsAt W W.heap.size A2 C3) => Lib.hid (HE.out m3 n3 A1 A2 q3 c1 c2 C3 W hq3 h1 h2 (by omega))
  have S4 := fun (W : World) (A1 A2 : Option Addr) (c1 c2 : Nat) (h1 : AlmsAt W W.heap.size A1 C4) (h2 : AlmsAt W W.heap.size A2 C4) => Lib.hid (HE.out m4 n4 A1 A2 q4 c1 c2 C4 W hq4 h1 h2 (by omega))
  have S5 := fun (W : World) (A1 A2 : Option Addr) (c1 c2 : Nat) (h1 : AlmsAt W W.heap.size A1 ls) (h2 : AlmsAt W W.heap.size A2 ls) => Lib.hid (HE.out m n A1 A2 l c1 c2 ls W hl h1 h2 (by omega))
  have S6 := fun (W : World) (A1 A2 : Option Addr) (c1 c2 : Nat) (h1 : AlmsAt W W.heap.size A1 F) (h2 : AlmsAt W W.heap.size A2 F) => Lib.hid (RASame_b A1 A2 c1 c2 lf F W hlf h1 h2 (by omega))
  have M1 := fun (W : World) (A1 : Option Addr) (c1 bs : Nat) (h : OwnA W bs (.slice A1 q1 c1) C1) => Lib.hid (smudge_any (.slice A1 q1 c1) bs C1 W h (by omega))
  have M2 := fun (W : World) (A1 : Option Addr) (c1 bs : Nat) (h : OwnA W bs (.slice A1 q2 c1) C2) => Lib.hid (smudge_any (.slice A1 q2 c1) bs C2 W h (by omega))
  have M3 := fun (W : World) (A1 : Option Addr) (c1 bs : Nat) (h : OwnA W bs (.slice A1 q3 c1) C3) => Lib.hid (smudge_any (.slice A1 q3 c1) bs C3 W h (by omega))
  have M6 := fun (W : World) (A1 : Option Addr) (c1 bs : Nat) (h : OwnA W bs (.slice A1 lf c1) F) => Lib.hid (smudge_any (.slice A1 lf c1) bs F W h (by omega))
  have HS0 := Lib.hid ((((St.start w).more (rowF A ls) hA).more (numF B zs) hB).box3 #[.int .i64 m, .int .i64 n, .slice A l c] #[.int .i64 x0, .int .i64 x1, .int .i64 x2, .int .i64 x3, .int .i64 x4, .int .i64 x5] #[.int .i64 sb, .int .i64 sc] 24 28 26)
  have HF := fun W => far_v m n A l c false (by simp; omega) W
  have i60 : ((60 : Int) < (lb : Int)) = False := eq_false (by omega)
  have heq := fun W => run_eql_same y0 y1 y2 y3 y4 y5 W
  have hoo : (ok == ok) = true := by cases ok <;> rfl
  have hii : (isb == isb) = true := by cases isb <;> rfl
  have hee1 : (e1 == e1) = true := by rw [beq_iff_eq]
  have hee2 : (e2 == e2) = true := by rw [beq_iff_eq]
  have hee3 : (e3 == e3) = true := by rw [beq_iff_eq]
  have hee4 : (e4 == e4) = true := by rw [beq_iff_eq]
  clear hl hA h0 hlb hB hb0 hf hf2 h1 hq1 he1 le1 hz1 h2 hq2 he2 le2 hz2 h3 hq3 he3 le3 hz3 h4 hq4 he4 le4 hz4 h5 hF hlf lf60 hisb
  go_enter Try.func3, Try.ntmps3
  go_wp2_with fail
  refine (HF _).mono ?_
  rintro e w1 ⟨rfl, hB⟩
  have HS := Lib.hid (HS0.out.on hB)
  clear hB HS0 HF
  obtain ⟨p3, hp3⟩ : ∃ p, p = w.heap.size + 1 + 1 := ⟨_, rfl⟩
  rw [← hp3] at HS ⊢
  clear hp3
  obtain ⟨p2, hp2⟩ : ∃ p, p = w.heap.size + 1 := ⟨_, rfl⟩
  rw [← hp2] at HS ⊢
  clear hp2
  obtain ⟨p1, hp1⟩ : ∃ p, p = w.heap.size := ⟨_, rfl⟩
  rw [← hp1] at HS ⊢
  clear hp1
  go_wp2_with (first
    | (refine wpList_load_st rfl 24 _ rfl HS.out 2 _ _ rfl rfl _ Try.underlying24 rfl (by rfl) ?_))
  refine ((G0 _ (HS.out.fact 1 rfl)).out).mono ?_
  rintro e w2 ⟨A0, c0, rfl, hO, hB⟩
  have N0 := Lib.hid hO.alms.2
  have HC0 : Hid (l ≤ c0) := Lib.hid hO.cap8
  replace HS := Lib.hid ((HS.out.on hB).more (rowF A0 ls) hO.alms.1)
  clear hO hB G0 i60
  go_wp2_with (first
    | (refine wpList_store_st rfl 24 _ _ rfl HS.out _ #[.int .i64 m, .int .i64 n, .slice A0 l c0] _ rfl rfl (by rfl) rfl (bd_one m n A0 l c0) ?_; intro p4 v4 hp hS hBn; (try rw [← hp]); have HBn := Lib.hid hBn; have Hp := Lib.hid hp; have H0 := HS; clear HS; have HS := Lib.hid hS; clear hS hp hBn)
    | (refine wpList_load_st rfl 24 _ rfl HS.out 3 _ _ rfl rfl _ Try.underlying24 rfl (by rfl) ?_)
    | (refine wpList_load_st rfl 28 _ rfl HS.out 2 _ _ rfl rfl _ Try.underlying28 rfl (by rfl) ?_))
  clear H0 HBn Hp
  have HW := Lib.hid HS.out.below
  have HS1 := HS
  replace HS := Lib.hid HS.out.restart
  refine ((K1 _ (HS.out.fact 2 rfl)).out).mono ?_
  rintro e w3 ⟨A1, c1, rfl, hO, hB⟩
  replace HS := Lib.hid ((HS.out.on hB).more (ownF v4.heap.size (.slice A1 q1 c1) C1) hO)
  clear hO hB K1
  go_wp2_with (first
    | (refine wpList_store_st rfl 24 _ _ rfl HS.out _ #[.int .i64 m1, .int .i64 n1, .slice A1 q1 c1] _ rfl rfl (by rfl) rfl (bd_one m1 n1 A1 q1 c1) ?_; intro p5 v5 hp hS hBn; (try rw [← hp]); have HBn := Lib.hid hBn; have Hp := Lib.hid hp; have H0 := HS; clear HS; have HS := Lib.hid hS; clear hS hp hBn)
    | (refine wpList_load_st rfl 24 _ rfl HS.out 1 _ _ rfl rfl _ Try.underlying24 rfl (by rfl) ?_)
    | (refine wpList_load_st rfl 28 _ rfl HS.out 3 _ _ rfl rfl _ Try.underlying28 rfl (by rfl) ?_))
  clear H0 HBn Hp
  refine ((R1 _ A0 c0 (HS.out.fact 1 rfl) N0.out HC0.out).out).mono ?_
  rintro e w4 ⟨A2, c2, rfl, hO, hB⟩
  replace HS := Lib.hid ((HS.out.on hB).more (rowF A2 C1) hO.alms.1)
  clear hO hB R1
  go_wp2_with (first
    | (refine wpList_store_st rfl 24 _ _ rfl HS.out _ #[.int .i64 m1, .int .i64 n1, .slice A2 q1 c2] _ rfl rfl (by rfl) rfl (bd_one m1 n1 A2 q1 c2) ?_; intro p6 v6 hp hS hBn; (try rw [← hp]); have HBn := Lib.hid hBn; have Hp := Lib.hid hp; have H0 := HS; clear HS; have HS := Lib.hid hS; clear hS hp hBn)
    | (refine wpList_load_st rfl 24 _ rfl HS.out 5 _ _ rfl rfl _ Try.underlying24 rfl (by rfl) ?_)
    | (refine wpList_load_st rfl 26 _ rfl HS.out 3 _ _ rfl rfl _ Try.underlying26 rfl (by rfl) ?_))
  clear H0 HBn Hp
  have Lcg : Hid (∀ k, (Value.slice A1 q1 c1).ownBlock = some k → k < v6.heap.size) := Lib.hid (OwnA.lt8 (HS.out.fact 1 rfl))
  have Bg : Hid (v4.heap.size ≤ v6.heap.size) := Lib.hid HS.out.below.size
  refine ((K2 _ (HS.out.fact 4 rfl)).out).mono ?_
  rintro e w5 ⟨A3, c3, rfl, hO, hB⟩
  replace HS := Lib.hid ((HS.out.on hB).more (ownF v6.heap.size (.slice A3 q2 c3) C2) hO)
  clear hO hB K2
  go_wp2_with (first
    | (refine wpList_store_st rfl 24 _ _ rfl HS.out _ #[.int .i64 m2, .int .i64 n2, .slice A3 q2 c3] _ rfl rfl (by rfl) rfl (bd_one m2 n2 A3 q2 c3) ?_; intro p7 v7 hp hS hBn; (try rw [← hp]); have HBn := Lib.hid hBn; have Hp := Lib.hid hp; have H0 := HS; clear HS; have HS := Lib.hid hS; clear hS hp hBn)
    | (refine wpList_load_st rfl 24 _ rfl HS.out 3 _ _ rfl rfl _ Try.underlying24 rfl (by rfl) ?_)
    | (refine wpList_load_st rfl 26 _ rfl HS.out 4 _ _ rfl rfl _ Try.underlying26 rfl (by rfl) ?_))
  clear H0 HBn Hp
  refine ((R2 _ A0 c0 (HS.out.fact 3 rfl) N0.out).out).mono ?_
  rintro e w6 ⟨A4, c4, rfl, hO, hB⟩
  replace HS := Lib.hid ((HS.out.on hB).more (rowF A4 C2) hO.alms.1)
  clear hO hB R2
  go_wp2_with (first
    | (refine wpList_store_st rfl 24 _ _ rfl HS.out _ #[.int .i64 m2, .int .i64 n2, .slice A4 q2 c4] _ rfl rfl (by rfl) rfl (bd_one m2 n2 A4 q2 c4) ?_; intro p8 v8 hp hS hBn; (try rw [← hp]); have HBn := Lib.hid hBn; have Hp := Lib.hid hp; have H0 := HS; clear HS; have HS := Lib.hid hS; clear hS hp hBn)
    | (refine wpList_load_st rfl 24 _ rfl HS.out 7 _ _ rfl rfl _ Try.underlying24 rfl (by rfl) ?_))
  clear H0 HBn Hp
  have Lck : Hid (∀ k, (Value.slice A1 q1 c1).ownBlock = some k → k < v8.heap.size) := Lib.hid (OwnA.lt8 (HS.out.fact 3 rfl))
  have Lgk : Hid (∀ k, (Value.slice A3 q2 c3).ownBlock = some k → k < v8.heap.size) := Lib.hid (OwnA.lt8 (HS.out.fact 1 rfl))
  have Bk : Hid (v4.heap.size ≤ v8.heap.size) := Lib.hid HS.out.below.size
  refine ((K3 _ (HS.out.fact 6 rfl)).out).mono ?_
  rintro e w7 ⟨A5, c5, rfl, hO, hB⟩
  replace HS := Lib.hid ((HS.out.on hB).more (ownF v8.heap.size (.slice A5 q3 c5) C3) hO)
  clear hO hB K3
  go_wp2_with (first
    | (refine wpList_store_st rfl 24 _ _ rfl HS.out _ #[.int .i64 m3, .int .i64 n3, .slice A5 q3 c5] _ rfl rfl (by rfl) rfl (bd_one m3 n3 A5 q3 c5) ?_; intro p9 v9 hp hS hBn; (try rw [← hp]); have HBn := Lib.hid hBn; have Hp := Lib.hid hp; have H0 := HS; clear HS; have HS := Lib.hid hS; clear hS hp hBn)
    | (refine wpList_load_st rfl 24 _ rfl HS.out 5 _ _ rfl rfl _ Try.underlying24 rfl (by rfl) ?_))
  clear H0 HBn Hp
  refine ((R3 _ A0 c0 (HS.out.fact 5 rfl) N0.out).out).mono ?_
  rintro e w8 ⟨A6, c6, rfl, hO, hB⟩
  replace HS := Lib.hid ((HS.out.on hB).more (rowF A6 C3) hO.alms.1)
  clear hO hB R3
  go_wp2_with (first
    | (refine wpList_store_st rfl 24 _ _ rfl HS.out _ #[.int .i64 m3, .int .i64 n3, .slice A6 q3 c6] _ rfl rfl (by rfl) rfl (bd_one m3 n3 A6 q3 c6) ?_; intro p10 v10 hp hS hBn; (try rw [← hp]); have HBn := Lib.hid hBn; have Hp := Lib.hid hp; have H0 := HS; clear HS; have HS := Lib.hid hS; clear hS hp hBn)
    | (refine wpList_load_st rfl 24 _ rfl HS.out 9 _ _ rfl rfl _ Try.underlying24 rfl (by rfl) ?_)
    | (refine wpList_load_st rfl 26 _ rfl HS.out 7 _ _ rfl rfl _ Try.underlying26 rfl (by rfl) ?_))
  clear H0 HBn Hp
  refine ((K5 _ (HS.out.fact 8 rfl)).out).mono ?_
  rintro e w9 ⟨rfl, hB⟩
  replace HS := Lib.hid (HS.out.on hB)
  clear hB
  clear K5
  go_wp2_with (first
    | (refine wpList_store_st rfl 28 _ _ rfl HS.out _ #[.int .i64 y0, .int .i64 y1, .int .i64 y2, .int .i64 y3, .int .i64 y4, .int .i64 y5] _ rfl rfl (by rfl) rfl (six_one ⟨y0, y1, y2, y3, y4, y5⟩) ?_; intro p11 v11 hp hS hBn; (try rw [← hp]); have HBn := Lib.hid hBn; have Hp := Lib.hid hp; have H0 := HS; clear HS; have HS := Lib.hid hS; clear hS hp hBn)
    | (refine wpList_load_st rfl 24 _ rfl HS.out 7 _ _ rfl rfl _ Try.underlying24 rfl (by rfl) ?_)
    | (refine wpList_load_st rfl 26 _ rfl HS.out 8 _ _ rfl rfl _ Try.underlying26 rfl (by rfl) ?_))
  clear H0 HBn Hp
  refine ((R5 _ A0 c0 (HS.out.fact 6 rfl) N0.out).out).mono ?_
  rintro e w10 ⟨rfl, hB⟩
  replace HS := Lib.hid (HS.out.on hB)
  clear hB
  clear R5
  go_wp2_with (first
    | (refine wpList_store_st rfl 28 _ _ rfl HS.out _ #[.int .i64 y0, .int .i64 y1, .int .i64 y2, .int .i64 y3, .int .i64 y4, .int .i64 y5] _ rfl rfl (by rfl) rfl (six_one ⟨y0, y1, y2, y3, y4, y5⟩) ?_; intro p12 v12 hp hS hBn; (try rw [← hp]); have HBn := Lib.hid hBn; have Hp := Lib.hid hp; have H0 := HS; clear HS; have HS := Lib.hid hS; clear hS hp hBn))
  clear H0 HBn Hp
  refine ((K4 _).out).mono ?_
  rintro e w11 ⟨A7, c7, rfl, hO, hB⟩
  replace HS := Lib.hid ((HS.out.on hB).more (rowF A7 C4) hO.alms.1)
  clear hO hB K4
  go_wp2_with (first
    | (refine wpList_store_st rfl 24 _ _ rfl HS.out _ #[.int .i64 m4, .int .i64 n4, .slice A7 q4 c7] _ rfl rfl (by rfl) rfl (bd_one m4 n4 A7 q4 c7) ?_; intro p13 v13 hp hS hBn; (try rw [← hp]); have HBn := Lib.hid hBn; have Hp := Lib.hid hp; have H0 := HS; clear HS; have HS := Lib.hid hS; clear hS hp hBn))
  clear H0 HBn Hp
  refine ((R4 _).out).mono ?_
  rintro e w12 ⟨A8, c8, rfl, hO, hB⟩
  replace HS := Lib.hid ((HS.out.on hB).more (rowF A8 C4) hO.alms.1)
  clear hO hB R4
  go_wp2_with (first
    | (refine wpList_store_st rfl 24 _ _ rfl HS.out _ #[.int .i64 m4, .int .i64 n4, .slice A8 q4 c8] _ rfl rfl (by rfl) rfl (bd_one m4 n4 A8 q4 c8) ?_; intro p14 v14 hp hS hBn; (try rw [← hp]); have HBn := Lib.hid hBn; have Hp := Lib.hid hp; have H0 := HS; clear HS; have HS := Lib.hid hS; clear hS hp hBn)
    | (refine wpList_load_st rfl 24 _ rfl HS.out 9 _ _ rfl rfl _ Try.underlying24 rfl (by rfl) ?_)
    | (refine wpList_load_st rfl 24 _ rfl HS.out 8 _ _ rfl rfl _ Try.underlying24 rfl (by rfl) ?_))
  clear H0 HBn Hp
  refine ((S1 _ A1 A2 c1 c2 (OwnA.alms (HS.out.fact 7 rfl)).1 (HS.out.fact 6 rfl)).out).mono ?_
  rintro e w13 ⟨rfl, hB⟩
  replace HS := Lib.hid (HS.out.on hB)
  clear hB
  clear S1
  have o0p7 := HS.out.cell 7 rfl 0 rfl
  have o1p7 := HS.out.cell 7 rfl 1 rfl
  have o2p7 := HS.out.cell 7 rfl 2 rfl
  have o0p8 := HS.out.cell 6 rfl 0 rfl
  have o1p8 := HS.out.cell 6 rfl 1 rfl
  have o2p8 := HS.out.cell 6 rfl 2 rfl
  go_wp2_with fail
  refine ((S2 _ A3 A4 c3 c4 (OwnA.alms (HS.out.fact 5 rfl)).1 (HS.out.fact 4 rfl)).out).mono ?_
  rintro e w14 ⟨rfl, hB⟩
  replace HS := Lib.hid (HS.out.on hB)
  clear hB
  clear S2 o0p7 o1p7 o2p7 o0p8 o1p8 o2p8
  have o0p9 := HS.out.cell 5 rfl 0 rfl
  have o1p9 := HS.out.cell 5 rfl 1 rfl
  have o2p9 := HS.out.cell 5 rfl 2 rfl
  have o0p10 := HS.out.cell 4 rfl 0 rfl
  have o1p10 := HS.out.cell 4 rfl 1 rfl
  have o2p10 := HS.out.cell 4 rfl 2 rfl
  go_wp2_with fail
  refine ((S3 _ A5 A6 c5 c6 (OwnA.alms (HS.out.fact 3 rfl)).1 (HS.out.fact 2 rfl)).out).mono ?_
  rintro e w15 ⟨rfl, hB⟩
  replace HS := Lib.hid (HS.out.on hB)
  clear hB
  clear S3 o0p9 o1p9 o2p9 o0p10 o1p10 o2p10
  have o0p11 := HS.out.cell 3 rfl 0 rfl
  have o1p11 := HS.out.cell 3 rfl 1 rfl
  have o2p11 := HS.out.cell 3 rfl 2 rfl
  have o3p11 := HS.out.cell 3 rfl 3 rfl
  have o4p11 := HS.out.cell 3 rfl 4 rfl
  have o5p11 := HS.out.cell 3 rfl 5 rfl
  have o0p12 := HS.out.cell 2 rfl 0 rfl
  have o1p12 := HS.out.cell 2 rfl 1 rfl
  have o2p12 := HS.out.cell 2 rfl 2 rfl
  have o3p12 := HS.out.cell 2 rfl 3 rfl
  have o4p12 := HS.out.cell 2 rfl 4 rfl
  have o5p12 := HS.out.cell 2 rfl 5 rfl
  have o0p13 := HS.out.cell 1 rfl 0 rfl
  have o1p13 := HS.out.cell 1 rfl 1 rfl
  have o2p13 := HS.out.cell 1 rfl 2 rfl
  have o0p14 := HS.out.cell 0 rfl 0 rfl
  have o1p14 := HS.out.cell 0 rfl 1 rfl
  have o2p14 := HS.out.cell 0 rfl 2 rfl
  go_wp2_with fail
  refine ((S4 _ A7 A8 c7 c8 (HS.out.fact 1 rfl) (HS.out.fact 0 rfl)).out).mono ?_
  rintro e w16 ⟨rfl, hB⟩
  replace HS := Lib.hid (HS.out.on hB)
  clear hB
  clear S4 heq hoo o0p11 o1p11 o2p11 o3p11 o4p11 o5p11 o0p12 o1p12 o2p12 o3p12 o4p12 o5p12 o0p13 o1p13 o2p13 o0p14 o1p14 o2p14
  go_wp2_with (first
    | (refine wpList_load_st rfl 24 _ rfl HS.out 13 _ _ rfl rfl _ Try.underlying24 rfl (by rfl) ?_))
  have Lcv : Hid (∀ k, (Value.slice A1 q1 c1).ownBlock = some k → k < w16.heap.size) := Lib.hid (OwnA.lt8 (HS.out.fact 7 rfl))
  have Lgv : Hid (∀ k, (Value.slice A3 q2 c3).ownBlock = some k → k < w16.heap.size) := Lib.hid (OwnA.lt8 (HS.out.fact 5 rfl))
  have Lkv : Hid (∀ k, (Value.slice A5 q3 c5).ownBlock = some k → k < w16.heap.size) := Lib.hid (OwnA.lt8 (HS.out.fact 3 rfl))
  have Bv : Hid (v4.heap.size ≤ w16.heap.size) := Lib.hid HS.out.below.size
  refine ((K6 _ (HS.out.fact 10 rfl) (HS.out.fact 9 rfl)).out).mono ?_
  rintro e w17 ⟨A9, c9, rfl, hO, hB⟩
  replace HS := Lib.hid ((HS.out.on hB).more (ownF w16.heap.size (.slice A9 lf c9) F) hO)
  clear hO hB K6
  go_wp2_with fail
  have hS := HS.out
  clear HS
  refine wp_region_held_drew (S := (fun W : World => St v4 W [(p4, #[.int .i64 m, .int .i64 n, .slice A0 l c0])] [])) (by kernel_rfl) (by first | exact hS.pick8 _ (by simp) | exact hS.drew.pick8 _ (by simp)) (fun hHeld => ?_)
  refine wpAnyH_take (i := 0) (oi := { dst := some 154, op := Op.move (Operand.tmp 34), type := 4, pos := _, after := #[], guard := none }) (v := ?_) rfl (by kernel_rfl) (by kernel_rfl) (by kernel_rfl) (fun _ _ _ h => h) (Or.inl ⟨by rfl, ?hy⟩) hHeld ?_
  case hy => intro w0 hSw; clear hSw; go_simp; (try with_reducible rfl)
  (try simp only [Act.put, List.setIfInBounds_toArray, List.set_cons_zero, List.set_cons_succ])
  refine wpAnyH_take (i := 1) (oi := { dst := some 155, op := Op.move (Operand.tmp 154), type := 4, pos := _, after := #[{ on := 0, ground := Ground.data }], guard := none }) (v := ?_) rfl (by kernel_rfl) (by kernel_rfl) (by kernel_rfl) (fun _ _ _ h => h) (Or.inl ⟨by rfl, ?hy⟩) hHeld ?_
  case hy => intro w0 hSw; clear hSw; go_simp; (try with_reducible rfl)
  (try simp only [Act.put, List.setIfInBounds_toArray, List.set_cons_zero, List.set_cons_succ])
  refine wpAnyH_take (i := 2) (oi := { dst := some 156, op := Op.move (Operand.tmp 35), type := 22, pos := _, after := #[{ on := 1, ground := Ground.guard }], guard := some (1, true) }) (v := ?_) rfl (by kernel_rfl) (by kernel_rfl) (by kernel_rfl) (fun _ _ _ h => h) (Or.inl ⟨by rfl, ?hy⟩) hHeld ?_
  case hy => intro w0 hSw; clear hSw; go_simp; (try with_reducible rfl)
  (try simp only [Act.put, List.setIfInBounds_toArray, List.set_cons_zero, List.set_cons_succ])
  refine wpAnyH_take (i := 3) (oi := { dst := some 157, op := Op.load 24 (Operand.tmp 13), type := 24, pos := _, after := #[{ on := 1, ground := Ground.guard }], guard := some (1, true) }) (v := ?_) rfl (by kernel_rfl) (by kernel_rfl) (by kernel_rfl) (fun _ _ _ h => h) (Or.inl ⟨by rfl, ?hy⟩) hHeld ?_
  case hy => intro w0 hSw; refine exec_load_st8 24 (Operand.tmp 13) ?_ hSw 0 _ _ rfl ?_ _ Try.underlying24 rfl (by rfl) <;> rfl
  (try simp only [Act.put, List.setIfInBounds_toArray, List.set_cons_zero, List.set_cons_succ])
  refine wpAnyH_take (i := 4) (oi := { dst := some 158, op := Op.move (Operand.tmp 5), type := 29, pos := _, after := #[{ on := 1, ground := Ground.guard }], guard := some (1, true) }) (v := ?_) rfl (by kernel_rfl) (by kernel_rfl) (by kernel_rfl) (fun _ _ _ h => h) (Or.inl ⟨by rfl, ?hy⟩) hHeld ?_
  case hy => intro w0 hSw; clear hSw; go_simp; (try with_reducible rfl)
  (try simp only [Act.put, List.setIfInBounds_toArray, List.set_cons_zero, List.set_cons_succ])
  refine wpAnyH_ready (rs := [5]) (by kernel_rfl) (by simp) ?_
  refine AllReadyH.cons (o := { dst := some 159, op := Op.call { callee := Callee.value (Operand.func 24), args := #[Operand.tmp 158], argTypes := #[29] }, type := 29, pos := _, after := #[{ on := 4, ground := Ground.data }, { on := 1, ground := Ground.chain }, { on := 1, ground := Ground.guard }], guard := some (1, true) }) rfl (fun K hK => ?_) AllReadyH.nil
  go_simp
  refine (R7 _ (by first | exact hS.fact 10 rfl | exact hS.drew.fact 10 rfl)).out.mono ?_
  rintro e w18 ⟨B1, cb1, rfl, hI, hB'⟩
  replace hS : St v4 w18 [(p14, #[.int .i64 m4, .int .i64 n4, .slice A8 q4 c8]), (p13, #[.int .i64 m4, .int .i64 n4, .slice A7 q4 c7]), (p12, #[.int .i64 y0, .int .i64 y1, .int .i64 y2, .int .i64 y3, .int .i64 y4, .int .i64 y5]), (p11, #[.int .i64 y0, .int .i64 y1, .int .i64 y2, .int .i64 y3, .int .i64 y4, .int .i64 y5]), (p10, #[.int .i64 m3, .int .i64 n3, .slice A6 q3 c6]), (p9, #[.int .i64 m3, .int .i64 n3, .slice A5 q3 c5]), (p8, #[.int .i64 m2, .int .i64 n2, .slice A4 q2 c4]), (p7, #[.int .i64 m2, .int .i64 n2, .slice A3 q2 c3]), (p6, #[.int .i64 m1, .int .i64 n1, .slice A2 q1 c2]), (p5, #[.int .i64 m1, .int .i64 n1, .slice A1 q1 c1]), (p4, #[.int .i64 m, .int .i64 n, .slice A0 l c0]), (p3, #[.int .i64 sb, .int .i64 sc]), (p2, #[.int .i64 x0, .int .i64 x1, .int .i64 x2, .int .i64 x3, .int .i64 x4, .int .i64 x5]), (p1, #[.int .i64 m, .int .i64 n, .slice A l c])] [ownF w16.heap.size (.slice A9 lf c9) F, rowF A8 C4, rowF A7 C4, rowF A6 C3, ownF v8.heap.size (.slice A5 q3 c5) C3, rowF A4 C2, ownF v6.heap.size (.slice A3 q2 c3) C2, rowF A2 C1, ownF v4.heap.size (.slice A1 q1 c1) C1, rowF A0 ls, numF B zs, rowF A ls] := (by first | exact hS.on hB' | exact hS.drew.on hB')
  replace hS : St v4 w18 [(p14, #[.int .i64 m4, .int .i64 n4, .slice A8 q4 c8]), (p13, #[.int .i64 m4, .int .i64 n4, .slice A7 q4 c7]), (p12, #[.int .i64 y0, .int .i64 y1, .int .i64 y2, .int .i64 y3, .int .i64 y4, .int .i64 y5]), (p11, #[.int .i64 y0, .int .i64 y1, .int .i64 y2, .int .i64 y3, .int .i64 y4, .int .i64 y5]), (p10, #[.int .i64 m3, .int .i64 n3, .slice A6 q3 c6]), (p9, #[.int .i64 m3, .int .i64 n3, .slice A5 q3 c5]), (p8, #[.int .i64 m2, .int .i64 n2, .slice A4 q2 c4]), (p7, #[.int .i64 m2, .int .i64 n2, .slice A3 q2 c3]), (p6, #[.int .i64 m1, .int .i64 n1, .slice A2 q1 c2]), (p5, #[.int .i64 m1, .int .i64 n1, .slice A1 q1 c1]), (p4, #[.int .i64 m, .int .i64 n, .slice A0 l c0]), (p3, #[.int .i64 sb, .int .i64 sc]), (p2, #[.int .i64 x0, .int .i64 x1, .int .i64 x2, .int .i64 x3, .int .i64 x4, .int .i64 x5]), (p1, #[.int .i64 m, .int .i64 n, .slice A l c])] [numF B1 zs, ownF w16.heap.size (.slice A9 lf c9) F, rowF A8 C4, rowF A7 C4, rowF A6 C3, ownF v8.heap.size (.slice A5 q3 c5) C3, rowF A4 C2, ownF v6.heap.size (.slice A3 q2 c3) C2, rowF A2 C1, ownF v4.heap.size (.slice A1 q1 c1) C1, rowF A0 ls, numF B zs, rowF A ls] := hS.more _ hI
  clear hB'
  go_wp2_with fail
  refine hK.out _ _ (by first | exact hS.pick8 _ (by simp) | exact hS.drew.pick8 _ (by simp)) (fun hHeld => ?_)
  clear hK K
  (try simp only [Act.put, List.setIfInBounds_toArray, List.set_cons_zero, List.set_cons_succ])
  refine wpAnyH_ready (rs := [6]) (by kernel_rfl) (by simp) ?_
  refine AllReadyH.cons (o := { dst := some 160, op := Op.call { callee := Callee.value (Operand.func 23), args := #[Operand.tmp 157, Operand.tmp 159], argTypes := #[24, 29] }, type := 22, pos := _, after := #[{ on := 3, ground := Ground.data }, { on := 5, ground := Ground.data }, { on := 5, ground := Ground.chain }, { on := 1, ground := Ground.guard }], guard := some (1, true) }) rfl (fun K hK => ?_) AllReadyH.nil
  go_simp
  refine (R6 _ A0 c0 (by first | exact hS.fact 10 rfl | exact hS.drew.fact 10 rfl) N0.out B1 cb1 (by first | exact hS.fact 0 rfl | exact hS.drew.fact 0 rfl)).out.mono ?_
  rintro e w19 ⟨A10, c10, rfl, hO, hB'⟩
  replace hS : St v4 w19 [(p14, #[.int .i64 m4, .int .i64 n4, .slice A8 q4 c8]), (p13, #[.int .i64 m4, .int .i64 n4, .slice A7 q4 c7]), (p12, #[.int .i64 y0, .int .i64 y1, .int .i64 y2, .int .i64 y3, .int .i64 y4, .int .i64 y5]), (p11, #[.int .i64 y0, .int .i64 y1, .int .i64 y2, .int .i64 y3, .int .i64 y4, .int .i64 y5]), (p10, #[.int .i64 m3, .int .i64 n3, .slice A6 q3 c6]), (p9, #[.int .i64 m3, .int .i64 n3, .slice A5 q3 c5]), (p8, #[.int .i64 m2, .int .i64 n2, .slice A4 q2 c4]), (p7, #[.int .i64 m2, .int .i64 n2, .slice A3 q2 c3]), (p6, #[.int .i64 m1, .int .i64 n1, .slice A2 q1 c2]), (p5, #[.int .i64 m1, .int .i64 n1, .slice A1 q1 c1]), (p4, #[.int .i64 m, .int .i64 n, .slice A0 l c0]), (p3, #[.int .i64 sb, .int .i64 sc]), (p2, #[.int .i64 x0, .int .i64 x1, .int .i64 x2, .int .i64 x3, .int .i64 x4, .int .i64 x5]), (p1, #[.int .i64 m, .int .i64 n, .slice A l c])] [numF B1 zs, ownF w16.heap.size (.slice A9 lf c9) F, rowF A8 C4, rowF A7 C4, rowF A6 C3, ownF v8.heap.size (.slice A5 q3 c5) C3, rowF A4 C2, ownF v6.heap.size (.slice A3 q2 c3) C2, rowF A2 C1, ownF v4.heap.size (.slice A1 q1 c1) C1, rowF A0 ls, numF B zs, rowF A ls] := (by first | exact hS.on hB' | exact hS.drew.on hB')
  replace hS : St v4 w19 [(p14, #[.int .i64 m4, .int .i64 n4, .slice A8 q4 c8]), (p13, #[.int .i64 m4, .int .i64 n4, .slice A7 q4 c7]), (p12, #[.int .i64 y0, .int .i64 y1, .int .i64 y2, .int .i64 y3, .int .i64 y4, .int .i64 y5]), (p11, #[.int .i64 y0, .int .i64 y1, .int .i64 y2, .int .i64 y3, .int .i64 y4, .int .i64 y5]), (p10, #[.int .i64 m3, .int .i64 n3, .slice A6 q3 c6]), (p9, #[.int .i64 m3, .int .i64 n3, .slice A5 q3 c5]), (p8, #[.int .i64 m2, .int .i64 n2, .slice A4 q2 c4]), (p7, #[.int .i64 m2, .int .i64 n2, .slice A3 q2 c3]), (p6, #[.int .i64 m1, .int .i64 n1, .slice A2 q1 c2]), (p5, #[.int .i64 m1, .int .i64 n1, .slice A1 q1 c1]), (p4, #[.int .i64 m, .int .i64 n, .slice A0 l c0]), (p3, #[.int .i64 sb, .int .i64 sc]), (p2, #[.int .i64 x0, .int .i64 x1, .int .i64 x2, .int .i64 x3, .int .i64 x4, .int .i64 x5]), (p1, #[.int .i64 m, .int .i64 n, .slice A l c])] [rowF A10 F, numF B1 zs, ownF w16.heap.size (.slice A9 lf c9) F, rowF A8 C4, rowF A7 C4, rowF A6 C3, ownF v8.heap.size (.slice A5 q3 c5) C3, rowF A4 C2, ownF v6.heap.size (.slice A3 q2 c3) C2, rowF A2 C1, ownF v4.heap.size (.slice A1 q1 c1) C1, rowF A0 ls, numF B zs, rowF A ls] := hS.more _ hO.alms.1
  clear hB'
  go_wp2_with fail
  refine hK.out _ _ (by first | exact hS.pick8 _ (by simp) | exact hS.drew.pick8 _ (by simp)) (fun hHeld => ?_)
  clear hK K
  (try simp only [Act.put, List.setIfInBounds_toArray, List.set_cons_zero, List.set_cons_succ])
  refine wpAnyH_ready (rs := [7]) (by kernel_rfl) (by simp) ?_
  refine AllReadyH.cons (o := { dst := some 161, op := Op.call { callee := Callee.value (Operand.func 22), args := #[Operand.tmp 156, Operand.tmp 160], argTypes := #[22, 22] }, type := 4, pos := _, after := #[{ on := 2, ground := Ground.data }, { on := 6, ground := Ground.data }, { on := 6, ground := Ground.chain }, { on := 1, ground := Ground.guard }], guard := some (1, true) }) rfl (fun K hK => ?_) AllReadyH.nil
  go_simp
  refine (S6 _ A9 A10 c9 c10 (by first | exact (OwnA.alms (hS.fact 2 rfl)).1 | exact (OwnA.alms (hS.drew.fact 2 rfl)).1) (by first | exact hS.fact 0 rfl | exact hS.drew.fact 0 rfl)).out.mono ?_
  rintro e w20 ⟨rfl, hB'⟩
  replace hS : St v4 w20 [(p14, #[.int .i64 m4, .int .i64 n4, .slice A8 q4 c8]), (p13, #[.int .i64 m4, .int .i64 n4, .slice A7 q4 c7]), (p12, #[.int .i64 y0, .int .i64 y1, .int .i64 y2, .int .i64 y3, .int .i64 y4, .int .i64 y5]), (p11, #[.int .i64 y0, .int .i64 y1, .int .i64 y2, .int .i64 y3, .int .i64 y4, .int .i64 y5]), (p10, #[.int .i64 m3, .int .i64 n3, .slice A6 q3 c6]), (p9, #[.int .i64 m3, .int .i64 n3, .slice A5 q3 c5]), (p8, #[.int .i64 m2, .int .i64 n2, .slice A4 q2 c4]), (p7, #[.int .i64 m2, .int .i64 n2, .slice A3 q2 c3]), (p6, #[.int .i64 m1, .int .i64 n1, .slice A2 q1 c2]), (p5, #[.int .i64 m1, .int .i64 n1, .slice A1 q1 c1]), (p4, #[.int .i64 m, .int .i64 n, .slice A0 l c0]), (p3, #[.int .i64 sb, .int .i64 sc]), (p2, #[.int .i64 x0, .int .i64 x1, .int .i64 x2, .int .i64 x3, .int .i64 x4, .int .i64 x5]), (p1, #[.int .i64 m, .int .i64 n, .slice A l c])] [rowF A10 F, numF B1 zs, ownF w16.heap.size (.slice A9 lf c9) F, rowF A8 C4, rowF A7 C4, rowF A6 C3, ownF v8.heap.size (.slice A5 q3 c5) C3, rowF A4 C2, ownF v6.heap.size (.slice A3 q2 c3) C2, rowF A2 C1, ownF v4.heap.size (.slice A1 q1 c1) C1, rowF A0 ls, numF B zs, rowF A ls] := (by first | exact hS.on hB' | exact hS.drew.on hB')
  clear hB'
  go_wp2_with fail
  refine hK.out _ _ (by first | exact hS.pick8 _ (by simp) | exact hS.drew.pick8 _ (by simp)) (fun hHeld => ?_)
  clear hK K
  (try simp only [Act.put, List.setIfInBounds_toArray, List.set_cons_zero, List.set_cons_succ])
  refine wpAnyH_take (i := 8) (oi := { dst := some 162, op := Op.pick (Operand.tmp 155) (Operand.tmp 161) (Operand.const (Value.bool false)), type := 4, pos := _, after := #[{ on := 1, ground := Ground.data }, { on := 7, ground := Ground.data }], guard := none }) (v := ?_) rfl (by kernel_rfl) (by kernel_rfl) (by kernel_rfl) (fun _ _ _ h => h) (Or.inl ⟨by rfl, ?hy⟩) hHeld ?_
  case hy => intro w0 hSw; clear hSw; go_simp; (try with_reducible rfl)
  (try simp only [Act.put, List.setIfInBounds_toArray, List.set_cons_zero, List.set_cons_succ])
  refine wpAnyH_take (i := 9) (oi := { dst := some 34, op := Op.assign (Operand.tmp 162), type := 4, pos := _, after := #[{ on := 8, ground := Ground.data }, { on := 7, ground := Ground.chain }, { on := 0, ground := Ground.phase }, { on := 1, ground := Ground.phase }, { on := 2, ground := Ground.phase }, { on := 3, ground := Ground.phase }, { on := 4, ground := Ground.phase }, { on := 5, ground := Ground.phase }, { on := 6, ground := Ground.phase }, { on := 7, ground := Ground.phase }, { on := 8, ground := Ground.phase }], guard := none }) (v := ?_) rfl (by kernel_rfl) (by kernel_rfl) (by kernel_rfl) (fun _ _ _ h => h) (Or.inl ⟨by rfl, ?hy⟩) hHeld ?_
  case hy => intro w0 hSw; clear hSw; go_simp; (try with_reducible rfl)
  (try simp only [Act.put, List.setIfInBounds_toArray, List.set_cons_zero, List.set_cons_succ])
  refine wpAnyH_done (by kernel_rfl) ?_ _
  clear hHeld R6 R7 S6
  have HS := Lib.hid hS
  clear hS
  have z2 := HS.out.cell 9 rfl 2 rfl
  go_wp2_with fail
  refine ((M1 _ A1 c1 _ (HS.out.fact 10 rfl)).out).mono ?_
  rintro e w21 ⟨rfl, hg⟩
  have Og := Lib.hid (OwnA.kept8 (HS.out.fact 8 rfl) hg (own_apart8 Lcg.out (OwnA.ge10 (HS.out.fact 8 rfl))))
  have Ok := Lib.hid (OwnA.kept8 (HS.out.fact 6 rfl) hg (own_apart8 Lck.out (OwnA.ge10 (HS.out.fact 6 rfl))))
  have Ov := Lib.hid (OwnA.kept8 (HS.out.fact 2 rfl) hg (own_apart8 Lcv.out (OwnA.ge10 (HS.out.fact 2 rfl))))
  have HT := Lib.hid (HS.out.smudged [(p7, #[.int .i64 m2, .int .i64 n2, .slice A3 q2 c3]), (p9, #[.int .i64 m3, .int .i64 n3, .slice A5 q3 c5])] (by simp) (by simp) (HS.out.fact 10 rfl) hg (Nat.le_refl _))
  clear hg z2 HS M1
  have z2 := HT.out.cell 0 rfl 2 rfl
  go_wp2_with fail
  refine ((M2 _ A3 c3 _ Og.out).out).mono ?_
  rintro e w22 ⟨rfl, hg⟩
  replace Ok := Lib.hid (Ok.out.kept8 hg (own_apart8 Lgk.out Ok.out.ge10))
  replace Ov := Lib.hid (Ov.out.kept8 hg (own_apart8 Lgv.out Ov.out.ge10))
  replace HT := Lib.hid (HT.out.smudged [(p9, #[.int .i64 m3, .int .i64 n3, .slice A5 q3 c5])] (by simp) (by simp) Og.out hg Bg.out)
  clear hg z2 Og M2
  have z2 := HT.out.cell 0 rfl 2 rfl
  go_wp2_with fail
  refine ((M3 _ A5 c5 _ Ok.out).out).mono ?_
  rintro e w23 ⟨rfl, hg⟩
  replace Ov := Lib.hid (Ov.out.kept8 hg (own_apart8 Lkv.out Ov.out.ge10))
  replace HT := Lib.hid (HT.out.smudged [] (by simp) (by simp) Ok.out hg Bk.out)
  clear hg z2 Ok M3
  go_wp2_with fail
  refine ((M6 _ A9 c9 _ Ov.out).out).mono ?_
  rintro e w24 ⟨rfl, hg⟩
  replace HT := Lib.hid (HT.out.smudged [] (by simp) (by simp) Ov.out hg Bv.out)
  have hS := HS1.out.on HT.out.below
  clear hg Ov M6 HT HS1
  go_wp2_with fail
  refine wp_region_held_drew (S := (fun W : World => St w W [(p4, #[.int .i64 m, .int .i64 n, .slice A0 l c0]), (p1, #[.int .i64 m, .int .i64 n, .slice A l c])] [])) (by kernel_rfl) (by first | exact hS.pick8 _ (by simp) | exact hS.drew.pick8 _ (by simp)) (fun hHeld => ?_)
  refine wpAnyH_ready (rs := [0]) (by kernel_rfl) (by simp) ?_
  refine AllReadyH.cons (o := { dst := some 174, op := Op.call { callee := Callee.value (Operand.func 26), args := #[], argTypes := #[] }, type := 4, pos := _, after := #[], guard := none }) rfl (fun K hK => ?_) AllReadyH.nil
  go_simp
  refine (boards_any HK HE _).mono ?_
  rintro e w25 ⟨rfl, hB'⟩
  replace hS : St w w25 [(p4, #[.int .i64 m, .int .i64 n, .slice A0 l c0]), (p3, #[.int .i64 sb, .int .i64 sc]), (p2, #[.int .i64 x0, .int .i64 x1, .int .i64 x2, .int .i64 x3, .int .i64 x4, .int .i64 x5]), (p1, #[.int .i64 m, .int .i64 n, .slice A l c])] [rowF A0 ls, numF B zs, rowF A ls] := (by first | exact hS.on hB' | exact hS.drew.on hB')
  clear hB'
  go_wp2_with fail
  refine hK.out _ _ (by first | exact hS.pick8 _ (by simp) | exact hS.drew.pick8 _ (by simp)) (fun hHeld => ?_)
  clear hK K
  (try simp only [Act.put, List.setIfInBounds_toArray, List.set_cons_zero, List.set_cons_succ])
  refine wpAnyH_take (i := 1) (oi := { dst := some 175, op := Op.move (Operand.tmp 174), type := 4, pos := _, after := #[{ on := 0, ground := Ground.data }, { on := 0, ground := Ground.chain }], guard := none }) (v := ?_) rfl (by kernel_rfl) (by kernel_rfl) (by kernel_rfl) (fun _ _ _ h => h) (Or.inl ⟨by rfl, ?hy⟩) hHeld ?_
  case hy => intro w0 hSw; clear hSw; go_simp; (try with_reducible rfl)
  (try simp only [Act.put, List.setIfInBounds_toArray, List.set_cons_zero, List.set_cons_succ])
  refine wpAnyH_take (i := 2) (oi := { dst := some 176, op := Op.move (Operand.tmp 34), type := 4, pos := _, after := #[{ on := 1, ground := Ground.guard }], guard := some (1, true) }) (v := ?_) rfl (by kernel_rfl) (by kernel_rfl) (by kernel_rfl) (fun _ _ _ h => h) (Or.inl ⟨by rfl, ?hy⟩) hHeld ?_
  case hy => intro w0 hSw; clear hSw; go_simp; (try with_reducible rfl)
  (try simp only [Act.put, List.setIfInBounds_toArray, List.set_cons_zero, List.set_cons_succ])
  refine wpAnyH_take (i := 3) (oi := { dst := some 177, op := Op.pick (Operand.tmp 175) (Operand.tmp 176) (Operand.const (Value.bool false)), type := 4, pos := _, after := #[{ on := 1, ground := Ground.data }, { on := 2, ground := Ground.data }], guard := none }) (v := ?_) rfl (by kernel_rfl) (by kernel_rfl) (by kernel_rfl) (fun _ _ _ h => h) (Or.inl ⟨by rfl, ?hy⟩) hHeld ?_
  case hy => intro w0 hSw; clear hSw; go_simp; (try with_reducible rfl)
  (try simp only [Act.put, List.setIfInBounds_toArray, List.set_cons_zero, List.set_cons_succ])
  refine wpAnyH_take (i := 4) (oi := { dst := some 178, op := Op.move (Operand.tmp 177), type := 4, pos := _, after := #[{ on := 3, ground := Ground.data }, { on := 1, ground := Ground.chain }], guard := none }) (v := ?_) rfl (by kernel_rfl) (by kernel_rfl) (by kernel_rfl) (fun _ _ _ h => h) (Or.inl ⟨by rfl, ?hy⟩) hHeld ?_
  case hy => intro w0 hSw; clear hSw; go_simp; (try with_reducible rfl)
  (try simp only [Act.put, List.setIfInBounds_toArray, List.set_cons_zero, List.set_cons_succ])
  refine wpAnyH_take (i := 5) (oi := { dst := some 179, op := Op.load 24 (Operand.tmp 6), type := 24, pos := _, after := #[{ on := 4, ground := Ground.guard }], guard := some (4, true) }) (v := ?_) rfl (by kernel_rfl) (by kernel_rfl) (by kernel_rfl) (fun _ _ _ h => h) (Or.inl ⟨by rfl, ?hy⟩) hHeld ?_
  case hy => intro w0 hSw; refine exec_load_st8 24 (Operand.tmp 6) ?_ hSw 1 _ _ rfl ?_ _ Try.underlying24 rfl (by rfl) <;> rfl
  (try simp only [Act.put, List.setIfInBounds_toArray, List.set_cons_zero, List.set_cons_succ])
  refine wpAnyH_take (i := 7) (oi := { dst := some 181, op := Op.load 24 (Operand.tmp 13), type := 24, pos := _, after := #[{ on := 4, ground := Ground.guard }], guard := some (4, true) }) (v := ?_) rfl (by kernel_rfl) (by kernel_rfl) (by kernel_rfl) (fun _ _ _ h => h) (Or.inl ⟨by rfl, ?hy⟩) hHeld ?_
  case hy => intro w0 hSw; refine exec_load_st8 24 (Operand.tmp 13) ?_ hSw 0 _ _ rfl ?_ _ Try.underlying24 rfl (by rfl) <;> rfl
  (try simp only [Act.put, List.setIfInBounds_toArray, List.set_cons_zero, List.set_cons_succ])
  refine wpAnyH_ready (rs := [6]) (by kernel_rfl) (by simp) ?_
  refine AllReadyH.cons (o := { dst := some 180, op := Op.call { callee := Callee.value (Operand.func 27), args := #[Operand.tmp 179], argTypes := #[24] }, type := 4, pos := _, after := #[{ on := 5, ground := Ground.data }, { on := 4, ground := Ground.chain }, { on := 4, ground := Ground.guard }], guard := some (4, true) }) rfl (fun K hK => ?_) AllReadyH.nil
  go_simp
  refine (K8 _ (by first | exact hS.fact 2 rfl | exact hS.drew.fact 2 rfl)).out.mono ?_
  rintro e w26 ⟨rfl, hB'⟩
  replace hS : St w w26 [(p4, #[.int .i64 m, .int .i64 n, .slice A0 l c0]), (p3, #[.int .i64 sb, .int .i64 sc]), (p2, #[.int .i64 x0, .int .i64 x1, .int .i64 x2, .int .i64 x3, .int .i64 x4, .int .i64 x5]), (p1, #[.int .i64 m, .int .i64 n, .slice A l c])] [rowF A0 ls, numF B zs, rowF A ls] := (by first | exact hS.on hB' | exact hS.drew.on hB')
  clear hB'
  go_wp2_with fail
  refine hK.out _ _ (by first | exact hS.pick8 _ (by simp) | exact hS.drew.pick8 _ (by simp)) (fun hHeld => ?_)
  clear hK K
  (try simp only [Act.put, List.setIfInBounds_toArray, List.set_cons_zero, List.set_cons_succ])
  refine wpAnyH_ready (rs := [8]) (by kernel_rfl) (by simp) ?_
  refine AllReadyH.cons (o := { dst := some 182, op := Op.call { callee := Callee.value (Operand.func 28), args := #[Operand.tmp 181], argTypes := #[24] }, type := 4, pos := _, after := #[{ on := 7, ground := Ground.data }, { on := 6, ground := Ground.chain }, { on := 4, ground := Ground.guard }], guard := some (4, true) }) rfl (fun K hK => ?_) AllReadyH.nil
  go_simp
  refine (R8 _ A0 c0 (by first | exact hS.fact 0 rfl | exact hS.drew.fact 0 rfl) N0.out).out.mono ?_
  rintro e w27 ⟨rfl, hB'⟩
  replace hS : St w w27 [(p4, #[.int .i64 m, .int .i64 n, .slice A0 l c0]), (p3, #[.int .i64 sb, .int .i64 sc]), (p2, #[.int .i64 x0, .int .i64 x1, .int .i64 x2, .int .i64 x3, .int .i64 x4, .int .i64 x5]), (p1, #[.int .i64 m, .int .i64 n, .slice A l c])] [rowF A0 ls, numF B zs, rowF A ls] := (by first | exact hS.on hB' | exact hS.drew.on hB')
  clear hB'
  go_wp2_with fail
  refine hK.out _ _ (by first | exact hS.pick8 _ (by simp) | exact hS.drew.pick8 _ (by simp)) (fun hHeld => ?_)
  clear hK K
  (try simp only [Act.put, List.setIfInBounds_toArray, List.set_cons_zero, List.set_cons_succ])
  refine wpAnyH_take (i := 9) (oi := { dst := some 183, op := Op.binOp BinOp.eql 4 (Operand.tmp 180) (Operand.tmp 182) 4, type := 4, pos := _, after := #[{ on := 6, ground := Ground.data }, { on := 8, ground := Ground.data }, { on := 4, ground := Ground.guard }], guard := some (4, true) }) (v := ?_) rfl (by kernel_rfl) (by kernel_rfl) (by kernel_rfl) (fun _ _ _ h => h) (Or.inl ⟨by rfl, ?hy⟩) hHeld ?_
  case hy => intro w0 hSw; clear hSw; go_simp; (try with_reducible rfl)
  (try simp only [Act.put, List.setIfInBounds_toArray, List.set_cons_zero, List.set_cons_succ])
  refine wpAnyH_take (i := 10) (oi := { dst := some 184, op := Op.pick (Operand.tmp 178) (Operand.tmp 183) (Operand.const (Value.bool false)), type := 4, pos := _, after := #[{ on := 4, ground := Ground.data }, { on := 9, ground := Ground.data }], guard := none }) (v := ?_) rfl (by kernel_rfl) (by kernel_rfl) (by kernel_rfl) (fun _ _ _ h => h) (Or.inl ⟨by rfl, ?hy⟩) hHeld ?_
  case hy => intro w0 hSw; clear hSw; go_simp; (try with_reducible rfl)
  (try simp only [Act.put, List.setIfInBounds_toArray, List.set_cons_zero, List.set_cons_succ])
  refine wpAnyH_take (i := 11) (oi := { dst := some 185, op := Op.move (Operand.tmp 184), type := 4, pos := _, after := #[{ on := 10, ground := Ground.data }, { on := 8, ground := Ground.chain }], guard := none }) (v := ?_) rfl (by kernel_rfl) (by kernel_rfl) (by kernel_rfl) (fun _ _ _ h => h) (Or.inl ⟨by rfl, ?hy⟩) hHeld ?_
  case hy => intro w0 hSw; clear hSw; go_simp; (try with_reducible rfl)
  (try simp only [Act.put, List.setIfInBounds_toArray, List.set_cons_zero, List.set_cons_succ])
  refine wpAnyH_take (i := 12) (oi := { dst := some 186, op := Op.load 24 (Operand.tmp 6), type := 24, pos := _, after := #[{ on := 11, ground := Ground.guard }], guard := some (11, true) }) (v := ?_) rfl (by kernel_rfl) (by kernel_rfl) (by kernel_rfl) (fun _ _ _ h => h) (Or.inl ⟨by rfl, ?hy⟩) hHeld ?_
  case hy => intro w0 hSw; refine exec_load_st8 24 (Operand.tmp 6) ?_ hSw 1 _ _ rfl ?_ _ Try.underlying24 rfl (by rfl) <;> rfl
  (try simp only [Act.put, List.setIfInBounds_toArray, List.set_cons_zero, List.set_cons_succ])
  refine wpAnyH_take (i := 13) (oi := { dst := some 187, op := Op.load 24 (Operand.tmp 13), type := 24, pos := _, after := #[{ on := 11, ground := Ground.guard }], guard := some (11, true) }) (v := ?_) rfl (by kernel_rfl) (by kernel_rfl) (by kernel_rfl) (fun _ _ _ h => h) (Or.inl ⟨by rfl, ?hy⟩) hHeld ?_
  case hy => intro w0 hSw; refine exec_load_st8 24 (Operand.tmp 13) ?_ hSw 0 _ _ rfl ?_ _ Try.underlying24 rfl (by rfl) <;> rfl
  (try simp only [Act.put, List.setIfInBounds_toArray, List.set_cons_zero, List.set_cons_succ])
  refine wpAnyH_ready (rs := [14]) (by kernel_rfl) (by simp) ?_
  refine AllReadyH.cons (o := { dst := some 188, op := Op.call { callee := Callee.value (Operand.func 20), args := #[Operand.tmp 186, Operand.tmp 187], argTypes := #[24, 24] }, type := 4, pos := _, after := #[{ on := 12, ground := Ground.data }, { on := 13, ground := Ground.data }, { on := 11, ground := Ground.chain }, { on := 11, ground := Ground.guard }], guard := some (11, true) }) rfl (fun K hK => ?_) AllReadyH.nil
  go_simp
  refine (S5 _ A A0 c c0 (by first | exact hS.fact 2 rfl | exact hS.drew.fact 2 rfl) (by first | exact hS.fact 0 rfl | exact hS.drew.fact 0 rfl)).out.mono ?_
  rintro e w28 ⟨rfl, hB'⟩
  replace hS : St w w28 [(p4, #[.int .i64 m, .int .i64 n, .slice A0 l c0]), (p3, #[.int .i64 sb, .int .i64 sc]), (p2, #[.int .i64 x0, .int .i64 x1, .int .i64 x2, .int .i64 x3, .int .i64 x4, .int .i64 x5]), (p1, #[.int .i64 m, .int .i64 n, .slice A l c])] [rowF A0 ls, numF B zs, rowF A ls] := (by first | exact hS.on hB' | exact hS.drew.on hB')
  clear hB'
  go_wp2_with fail
  refine hK.out _ _ (by first | exact hS.pick8 _ (by simp) | exact hS.drew.pick8 _ (by simp)) (fun hHeld => ?_)
  clear hK K
  (try simp only [Act.put, List.setIfInBounds_toArray, List.set_cons_zero, List.set_cons_succ])
  refine wpAnyH_take (i := 15) (oi := { dst := some 189, op := Op.pick (Operand.tmp 185) (Operand.tmp 188) (Operand.const (Value.bool false)), type := 4, pos := _, after := #[{ on := 11, ground := Ground.data }, { on := 14, ground := Ground.data }], guard := none }) (v := ?_) rfl (by kernel_rfl) (by kernel_rfl) (by kernel_rfl) (fun _ _ _ h => h) (Or.inl ⟨by rfl, ?hy⟩) hHeld ?_
  case hy => intro w0 hSw; clear hSw; go_simp; (try with_reducible rfl)
  (try simp only [Act.put, List.setIfInBounds_toArray, List.set_cons_zero, List.set_cons_succ])
  refine wpAnyH_take (i := 16) (oi := { dst := some 12, op := Op.assign (Operand.tmp 189), type := 4, pos := _, after := #[{ on := 15, ground := Ground.data }, { on := 14, ground := Ground.chain }, { on := 0, ground := Ground.phase }, { on := 1, ground := Ground.phase }, { on := 2, ground := Ground.phase }, { on := 3, ground := Ground.phase }, { on := 4, ground := Ground.phase }, { on := 5, ground := Ground.phase }, { on := 6, ground := Ground.phase }, { on := 7, ground := Ground.phase }, { on := 8, ground := Ground.phase }, { on := 9, ground := Ground.phase }, { on := 10, ground := Ground.phase }, { on := 11, ground := Ground.phase }, { on := 12, ground := Ground.phase }, { on := 13, ground := Ground.phase }, { on := 14, ground := Ground.phase }, { on := 15, ground := Ground.phase }], guard := none }) (v := ?_) rfl (by kernel_rfl) (by kernel_rfl) (by kernel_rfl) (fun _ _ _ h => h) (Or.inl ⟨by rfl, ?hy⟩) hHeld ?_
  case hy => intro w0 hSw; clear hSw; go_simp; (try with_reducible rfl)
  (try simp only [Act.put, List.setIfInBounds_toArray, List.set_cons_zero, List.set_cons_succ])
  refine wpAnyH_done (by kernel_rfl) ?_ _
  clear hHeld
  have HS := Lib.hid hS
  clear hS
  go_wp2
  go_ret
  exact ⟨rfl, HS.out.below⟩

theorem boardDoes_walk (HK : Hid BoardK) (HE : Hid SameK) (HR : Hid RefK) (m n : Int) (A : Option Addr) (c : Nat) (ls : List Alm) (x0 x1 x2 x3 x4 x5 sb sc t mo : Int) (B : Option Addr) (lb cb : Nat) (zs : List Int) (w : World) (hA : AlmsAt w w.heap.size A ls) (hB : IsRow .i64 w B lb cb zs) (h0 : A = none → c = 0) :
    Calls Try.prog 3 #[.agg #[.int .i64 m, .int .i64 n, .slice A ls.length c], .agg #[.int .i64 x0, .int .i64 x1, .int .i64 x2, .int .i64 x3, .int .i64 x4, .int .i64 x5], .agg #[.int .i64 sb, .int .i64 sc], .int .i64 t, .int .i64 mo, .slice B lb cb] w fun e w' => e = .returned (.bool true) ∧ Below w.heap.size w w' := by
  by_cases hf : 60 < ls.length
  · exact boardDoes_far m n A ls.length c x0 x1 x2 x3 x4 x5 sb sc t mo B lb cb w hf
  · by_cases hf2 : 60 < lb
    · exact boardDoes_far2 m n A ls.length c x0 x1 x2 x3 x4 x5 sb sc t mo B lb cb w (by omega) hf2
    · have h := hB.ints
      have hb0 : B = none → cb = 0 := by
        rcases hB with ⟨_, _, h, _⟩ | ⟨x, h, _⟩
        · exact fun _ => h
        · intro e; rw [h] at e; cases e
      exact boardDoes_ok HK HE HR m n A ls.length c ls x0 x1 x2 x3 x4 x5 sb sc t mo B lb cb (zs.take lb) w rfl hA h0 h.1 h.2.2.1 hb0 (by omega) (by omega)

end Go.Proofs.Ythlojadkgpmnmaa
