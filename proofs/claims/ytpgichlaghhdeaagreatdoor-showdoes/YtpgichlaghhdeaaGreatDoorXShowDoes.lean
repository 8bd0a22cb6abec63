/-
  Layer 11 (show): the law ShowDoes, over the structures (printed by tools/gen-showdoes.py).
-/
import Derived.Test.YtpgichlaghhdeaaGreatDoorXShowCount
import Derived.Test.YtpgichlaghhdeaaGreatDoorXRefShow5
import Derived.Test.YtpgichlaghhdeaaGreatDoorXRefShow7
import Derived.Test.YtpgichlaghhdeaaGreatDoorXRefSameK
import Derived.Test.YtpgichlaghhdeaaGreatDoorXJb
namespace Go.Proofs.YtpgichlaghhdeaaGreatDoor
set_option maxRecDepth 10000
open Go.RowKit

/-- Alarms that are the same; numbers that are. -/
def ASameK : Prop := ∀ (A B : Option Addr) (l c c2 : Nat) (ls : List Alm) (w : World) (_h : l = ls.length) (_h1 : AlmsAt w w.heap.size A ls) (_h2 : AlmsAt w w.heap.size B ls) (_h3 : l ≤ 1000),
    Calls Tryz.prog 18 #[.slice A l c, .slice B l c2] w fun e w' => e = .returned (.bool true) ∧ Below w.heap.size w w'
def ISameK : Prop := ∀ (A B : Option Addr) (l c c2 : Nat) (zs : List Int) (w : World) (_h : l = zs.length) (_h1 : IntsAt w w.heap.size A zs) (_h2 : IntsAt w w.heap.size B zs) (_h3 : l ≤ 1000),
    Calls Tryz.prog 21 #[.slice A l c, .slice B l c2] w fun e w' => e = .returned (.bool true) ∧ Below w.heap.size w w'
/-- What is asked of the world. -/
def eF {E : World → Prop} (HS : Hid (ShowK E)) : Fact := ⟨E, fun _ _ h hb => HS.out.mono _ _ h hb⟩
/-- Nothing that was there is turned. -/
def belF (u : World) : Fact := ⟨fun W => Below u.heap.size u W, fun _ _ h hb => below2 h hb⟩
theorem run_eql_self (x0 x1 x2 x3 x4 x5 : Int) (w : World) :
    (binOp .eql 25 (.agg #[.int .i64 x0, .int .i64 x1, .int .i64 x2, .int .i64 x3, .int .i64 x4, .int .i64 x5]) (.agg #[.int .i64 x0, .int .i64 x1, .int .i64 x2, .int .i64 x3, .int .i64 x4, .int .i64 x5])).run Tryz.prog w = .ok (.bool true) w := by
  go_simp

/-- The counts' block, as numbers. -/
theorem St.cnts {w0 w : World} {p : Nat} {ls : List Alm} {L : List (Nat × Array Value)} {M : List Fact} (h : St w0 w ((p, cntV ls) :: L) M) : IntsAt w w.heap.size (some ⟨p, 0, none⟩) ((List.range 5).map (fun q : Nat => (Sh.cnt (q : Int) ls : Int))) := fun i hi => by
  have hi5 : i < 5 := by simpa using hi
  have hc := h.cell 0 rfl i (cntV_get ls i hi5)
  refine ⟨p, 0, rfl, World.block_lt_of_cell? w _ hc, ?_⟩
  rw [Nat.zero_add, hc]
  simp
/-- A row of one's own, its alarms turned: nothing but its block. -/
def SmA (w : World) (A : Option Addr) (n : Nat) (wr : World) : Prop :=
  (n = 0 ∧ wr = w) ∨ ∃ g cur t, A = some ⟨g, 0, none⟩ ∧ w.grownBy wr (some g) ∧ wr.heap[g]? = some (.cells cur t (0, 0)) ∧ n * 6 ≤ cur.size
theorem SmA.start {w : World} {base n c : Nat} {A : Option Addr} {ls : List Alm} (h : OwnA w base (.slice A n c) ls) : SmA w A n w := by
  rcases h.2 with ⟨e, h0⟩ | ⟨g, cap, cur, e, _, hg, hcap, _, hs, _⟩
  · injection e with _ e2
    exact Or.inl ⟨e2, rfl⟩
  · injection e with e1 e2 e3
    subst e1
    exact Or.inr ⟨g, cur, _, rfl, grown_refl _ _, hg, by omega⟩
theorem SmA.at {w wr : World} {A : Option Addr} {n i : Nat} (h : SmA w A n wr) (hi : i < n) :
    ∃ g, A = some ⟨g, 0, none⟩ ∧ ∃ x, wr.cell? ⟨g, i * 6 + 3, none⟩ = some x ∧ wr.frozen? ⟨g, i * 6 + 3, none⟩ = false ∧ ∀ v, SmA w A n (wr.setCell ⟨g, i * 6 + 3, none⟩ v) := by
  rcases h with ⟨h0, _⟩ | ⟨g, cur, t, rfl, hg, hb, hs⟩
  · omega
  · refine ⟨g, rfl, cur[i * 6 + 3]'(by omega), ?_, frozen_of_row wr g _ _ _ hb, fun v => Or.inr ⟨g, _, t, rfl, ⟨hg.os, hg.tape, hg.output, by simp [World.setCell]; exact hg.size, fun k hk hne => (heap_setCell_other wr ⟨g, i * 6 + 3, none⟩ k v (fun e => hne (by rw [e]))).trans (hg.block k hk hne)⟩, heap_setCell_same wr g (i * 6 + 3) _ _ _ hb, by simpa using hs⟩⟩
    simp only [World.cell?, hb]
    exact Array.getElem?_eq_getElem (by omega)
theorem SmA.below {w wr : World} {A : Option Addr} {n c base B : Nat} {ls : List Alm} (h : SmA w A n wr) (ho : OwnA w base (.slice A n c) ls) (hB : B ≤ base) (hw : B ≤ w.heap.size) : Below B w wr := by
  rcases h with ⟨_, rfl⟩ | ⟨g, cur, t, rfl, hg, hb, hs⟩
  · exact Below.refl _ _
  · have hge := (World.ownsRow.lt ho g rfl).1
    exact ⟨hg.os, hg.tape, hg.output, hg.size, fun k hk => hg.block k (by omega) (fun e => by cases e; omega)⟩
/-- .. and a block that is another one stays. -/
theorem SmA.block {w wr : World} {A : Option Addr} {n p B : Nat} {cs : Array Value} (h : SmA w A n wr) (ht : ∀ g, A = some ⟨g, 0, none⟩ → g < B) (hp : B ≤ p) (hl : ∃ t, w.heap[p]? = some (.cells cs t (0, 0))) : ∃ t, wr.heap[p]? = some (.cells cs t (0, 0)) := by
  rcases h with ⟨_, rfl⟩ | ⟨g, cur, t, rfl, hg, hb, hs⟩
  · exact hl
  · obtain ⟨t2, h2⟩ := hl
    have := ht g rfl
    exact ⟨t2, (hg.block p (Array.getElem?_eq_some_iff.1 h2).1 (fun e => by injection e with e; omega)).trans h2⟩

theorem showDoes_far1 (x0 x1 x2 x3 x4 x5 : Int) (s : ByteArray) (m n : Int) (A : Option Addr) (l c : Nat) (B : Option Addr) (k0 d : Nat) (t : Int) (w : World) (h : 300 < s.size) : Calls Tryz.prog 3 #[.agg #[.int .i64 x0, .int .i64 x1, .int .i64 x2, .int .i64 x3, .int .i64 x4, .int .i64 x5], .string s, .agg #[.int .i64 m, .int .i64 n, .slice A l c], .slice B k0 d, .int .i64 t] w fun e w' => e = .returned (.bool true) ∧ Below w.heap.size w w' := by
  have i1 : ((300 : Int) < (s.size : Int)) = True := eq_true (by omega)
  clear h
  go_enter Tryz.func3, Tryz.ntmps3
  go_wp2
  go_ret
  exact ⟨rfl, below_new2 _ _ _⟩
theorem showDoes_far2 (x0 x1 x2 x3 x4 x5 : Int) (s : ByteArray) (m n : Int) (A : Option Addr) (l c : Nat) (B : Option Addr) (k0 d : Nat) (t : Int) (w : World) (h : s.size ≤ 300) (h2 : 60 < l) : Calls Tryz.prog 3 #[.agg #[.int .i64 x0, .int .i64 x1, .int .i64 x2, .int .i64 x3, .int .i64 x4, .int .i64 x5], .string s, .agg #[.int .i64 m, .int .i64 n, .slice A l c], .slice B k0 d, .int .i64 t] w fun e w' => e = .returned (.bool true) ∧ Below w.heap.size w w' := by
  have i1 : ((300 : Int) < (s.size : Int)) = False := eq_false (by omega)
  have i2 : ((60 : Int) < (l : Int)) = True := eq_true (by omega)
  clear h h2
  go_enter Tryz.func3, Tryz.ntmps3
  go_wp2
  go_ret
  exact ⟨rfl, below_new2 _ _ _⟩
theorem showDoes_far3 (x0 x1 x2 x3 x4 x5 : Int) (s : ByteArray) (m n : Int) (A : Option Addr) (l c : Nat) (B : Option Addr) (k0 d : Nat) (t : Int) (w : World) (h : s.size ≤ 300) (h2 : l ≤ 60) (h3 : 110 < k0) : Calls Tryz.prog 3 #[.agg #[.int .i64 x0, .int .i64 x1, .int .i64 x2, .int .i64 x3, .int .i64 x4, .int .i64 x5], .string s, .agg #[.int .i64 m, .int .i64 n, .slice A l c], .slice B k0 d, .int .i64 t] w fun e w' => e = .returned (.bool true) ∧ Below w.heap.size w w' := by
  have i1 : ((300 : Int) < (s.size : Int)) = False := eq_false (by omega)
  have i2 : ((60 : Int) < (l : Int)) = False := eq_false (by omega)
  have i3 : ((110 : Int) < (k0 : Int)) = True := eq_true (by omega)
  clear h h2 h3
  go_enter Tryz.func3, Tryz.ntmps3
  go_wp2
  go_ret
  exact ⟨rfl, below_new2 _ _ _⟩

set_option maxHeartbeats 8000000 in
theorem showDoes_ok {E : World → Prop} (HS : Hid (ShowK E)) (HC : Hid (ShownK E)) (HW : Hid BOwnK) (HP : Hid RefPK) (HK : Hid RefHK) (HX : Hid XSameK) (HA : Hid ASameK) (HI : Hid ISameK) (HB : Hid SameK)
    (x0 x1 x2 x3 x4 x5 : Int) (s : ByteArray) (m n : Int) (A : Option Addr) (l c : Nat) (ls : List Alm) (B : Option Addr) (k0 d : Nat) (ws : List Win) (t : Int) (w : World) (hE : E w) (hT : Told w A l c ls) (hU : ToldW w B k0 d ws) (h1 : s.size ≤ 300) (h2 : l ≤ 60) (h3 : k0 ≤ 110) :
    Calls Tryz.prog 3 #[.agg #[.int .i64 x0, .int .i64 x1, .int .i64 x2, .int .i64 x3, .int .i64 x4, .int .i64 x5], .string s, .agg #[.int .i64 m, .int .i64 n, .slice A l c], .slice B k0 d, .int .i64 t] w fun e w' => e = .returned (.bool true) ∧ Below w.heap.size w w' := by
  have S0 := Lib.hid (((((St.start w).more (rowF A ls) hT.2.1).more (winF B ws) hU.2.1).more (eF HS) hE).box2 #[.int .i64 x0, .int .i64 x1, .int .i64 x2, .int .i64 x3, .int .i64 x4, .int .i64 x5] #[.int .i64 m, .int .i64 n, .slice A l c] 25 28)
  have i1 : ((300 : Int) < (s.size : Int)) = False := eq_false (by omega)
  have i2 : ((60 : Int) < (l : Int)) = False := eq_false (by omega)
  have i3 : ((110 : Int) < (k0 : Int)) = False := eq_false (by omega)
  have Hs400 : Hid (s.size ≤ 400) := Lib.hid (by omega)
  have Hl60 := Lib.hid h2
  have Hl := Lib.hid hT.1
  have Hn0 := Lib.hid hT.2.2.1
  have Hl1 := Lib.hid hT.2.2.2
  have Hu := Lib.hid hU.1
  have Hu2 := Lib.hid hU.2.2
  obtain ⟨T, hTx⟩ : ∃ T, T = strOf (Sh.line ⟨x0, x1, x2, x3, x4, x5⟩) := ⟨_, rfl⟩
  obtain ⟨eT, heT⟩ : ∃ eT, eT = Sh.lineE ⟨x0, x1, x2, x3, x4, x5⟩ := ⟨_, rfl⟩
  have kL := fun W h => HS.out.line x0 x1 x2 x3 x4 x5 W h
  have kM := fun W => RLine_any (Lib.hid HP.out.line) x0 x1 x2 x3 x4 x5 W
  simp only [← hTx, ← heT] at kL kM
  obtain ⟨Y, hY⟩ : ∃ Y, Y = Sh.parA (bl s) := ⟨_, rfl⟩
  obtain ⟨eY, heY⟩ : ∃ eY, eY = Sh.parE (bl s) := ⟨_, rfl⟩
  have kP := fun W h => HS.out.parse s Hs400.out W h
  have kQ := fun W => RParse11_any HP s Hs400.out W
  simp only [← hY, ← heY] at kP kQ
  obtain ⟨v0, v1, v2, v3, v4, v5⟩ := Y
  obtain ⟨hd, hhd⟩ : ∃ hd, hd = Sh.heard m n ls ws := ⟨_, rfl⟩
  obtain ⟨eh, heh⟩ : ∃ eh, eh = Sh.heardE m n ls ws := ⟨_, rfl⟩
  have hhl : hd.length ≤ 60 := by
    rw [hhd]
    unfold Sh.heard
    split
    · have := Sh.heard_len ws n ls; have := hT.1; omega
    · simp
  have Hhl := Lib.hid hhl
  have kH := fun W h (hA : AlmsAt W W.heap.size A ls) (hB : WinsAt W W.heap.size B ws) => HS.out.heard m n A l c ls B k0 d ws W h ⟨Hl.out, hA, Hn0.out, Hl1.out⟩ ⟨Hu.out, hB, Hu2.out⟩
  simp only [← hhd, ← heh] at kH
  obtain ⟨xs, hxs⟩ : ∃ xs, xs = Sh.linesS m n ls ws t := ⟨_, rfl⟩
  obtain ⟨ex, hex⟩ : ∃ ex, ex = Sh.linesE m n ls ws t := ⟨_, rfl⟩
  have hxl : xs.length ≤ 1000 := by
    rw [hxs]
    unfold Sh.linesS Sh.lines
    split
    · rw [List.length_map, List.length_map, List.length_take]
      have := Sh.heard_len ws n ls; have := hT.1; omega
    · simp
  have Hxl := Lib.hid hxl
  have kN := fun W h (hA : AlmsAt W W.heap.size A ls) (hB : WinsAt W W.heap.size B ws) => HS.out.lines m n A l c ls B k0 d ws t W h ⟨Hl.out, hA, Hn0.out, Hl1.out⟩ ⟨Hu.out, hB, Hu2.out⟩
  simp only [← hxs, ← hex] at kN
  have kC := fun W h (hA : AlmsAt W W.heap.size A ls) => HS.out.count m n A l c ls W h ⟨Hl.out, hA, Hn0.out, Hl1.out⟩
  have kO := fun W (hA : AlmsAt W W.heap.size A ls) => HW.out m n A l c ls W ⟨Hl.out, hA, Hn0.out, Hl1.out⟩
  have Hhd := Lib.hid hhd
  have Heh := Lib.hid heh
  have Hxs := Lib.hid hxs
  have Hex := Lib.hid hex
  have KL := Lib.hid kL
  have KM := Lib.hid kM
  have KP := Lib.hid kP
  have KQ := Lib.hid kQ
  have KH := Lib.hid kH
  have KN := Lib.hid kN
  have KC := Lib.hid kC
  have KO := Lib.hid kO
  have z1 : (eT == eT) = true := beq_self_eq_true eT
  have z2 : (eY == eY) = true := beq_self_eq_true eY
  have z3 : (eh == eh) = true := beq_self_eq_true eh
  have z4 : (ex == ex) = true := beq_self_eq_true ex
  have heq := fun W => run_eql_self v0 v1 v2 v3 v4 v5 W
  have d2 := S0.out.cell 0 rfl 2 rfl
  clear hE hT hU h1 h2 h3 hTx heT hY heY hhd heh hxs hex hhl hxl kL kM kP kQ kH kN kC kO
  go_enter Tryz.func3, Tryz.ntmps3
  go_wp2_with (refine wpList_load_st rfl 28 _ rfl S0.out 0 _ _ rfl rfl _ Tryz.underlying28 rfl (by rfl) ?_)
  refine (KO.out _ (S0.out.fact 2 rfl)).mono ?_
  rintro e w1 ⟨A1, c1, rfl, hO, hB⟩
  have Hn1 := Lib.hid hO.alms.2
  have S1 := Lib.hid ((S0.out.on hB).more (rowF A1 ls) (hO.alms.1))
  clear hB hO S0 d2
  go_wp2_with (first
    | (refine wpList_store_st rfl 28 _ _ rfl S1.out _ #[.int .i64 m, .int .i64 n, .slice A1 l c1] _ rfl rfl (by rfl) rfl (by simp [Value.oneCell']) ?_; intro p1 w2 hp hS hBn; (try rw [← hp]); have S2 := Lib.hid hS; clear hS hp hBn)
    | (refine wpList_load_st rfl 25 _ rfl S2.out 2 _ _ rfl rfl _ Tryz.underlying25 rfl (by rfl) ?_))
  refine (KL.out _ (S2.out.fact 1 rfl)).mono ?_
  rintro e w3 ⟨rfl, hB⟩
  have S3 := Lib.hid (S2.out.on hB)
  clear hB S2 S1
  go_wp2_with (refine wpList_load_st rfl 25 _ rfl S3.out 2 _ _ rfl rfl _ Tryz.underlying25 rfl (by rfl) ?_)
  refine (KM.out _).mono ?_
  rintro e w4 ⟨rfl, hB⟩
  have S4 := Lib.hid (S3.out.on hB)
  clear hB S3 
  go_wp2_with fail
  refine (KP.out _ (S4.out.fact 1 rfl)).mono ?_
  rintro e w5 ⟨rfl, hB⟩
  have S5 := Lib.hid (S4.out.on hB)
  clear hB S4 
  go_wp2_with (refine wpList_store_st rfl 25 _ _ rfl S5.out _ #[.int .i64 v0, .int .i64 v1, .int .i64 v2, .int .i64 v3, .int .i64 v4, .int .i64 v5] _ rfl rfl (by rfl) rfl (six_one ⟨v0, v1, v2, v3, v4, v5⟩) ?_; intro p2 w6 hp hS hBn; (try rw [← hp]); have S6 := Lib.hid hS; clear hS hp hBn)
  refine (KQ.out _).mono ?_
  rintro e w7 ⟨rfl, hB⟩
  have S7 := Lib.hid (S6.out.on hB)
  clear hB S6 S5
  go_wp2_with (first
    | (refine wpList_store_st rfl 25 _ _ rfl S7.out _ #[.int .i64 v0, .int .i64 v1, .int .i64 v2, .int .i64 v3, .int .i64 v4, .int .i64 v5] _ rfl rfl (by rfl) rfl (six_one ⟨v0, v1, v2, v3, v4, v5⟩) ?_; intro p3 w8 hp hS hBn; (try rw [← hp]); have S8 := Lib.hid hS; clear hS hp hBn)
    | (refine wpList_load_st rfl 28 _ rfl S8.out 3 _ _ rfl rfl _ Tryz.underlying28 rfl (by rfl) ?_))
  have S8k := S8
  refine (KH.out _ (S8.out.fact 1 rfl) (S8.out.fact 3 rfl) (S8.out.fact 2 rfl)).mono ?_
  rintro e w9 ⟨A2, q2, c2, hq2, rfl, hO, hB⟩
  have S9 := Lib.hid ((((S8.out.on hB).more (rowF A2 hd) (hO.alms.1)).more (ownF w8.heap.size (.slice A2 q2 c2) hd) (hO)).more (belF w8) (hB))
  clear hB hO S8 S7
  have Hq2 := Lib.hid hq2
  have S9b := Lib.hid (S9.out.more (belF w9) (Below.refl _ _))
  have Hblk : Hid (∀ g, A2 = some ⟨g, 0, none⟩ → g < w9.heap.size) := Lib.hid (fun g e => by
    have h : OwnA w9 w8.heap.size (.slice A2 q2 c2) hd := S9.out.fact 1 rfl
    rw [e] at h
    exact (World.ownsRow.lt h g rfl).2)
  clear hq2 S9
  go_wp2_with (refine wpList_load_st rfl 28 _ rfl S9b.out 2 _ _ rfl rfl _ Tryz.underlying28 rfl (by rfl) ?_)
  have kR := RHeard_any HK m n A1 l c1 ls B k0 d ws _ ⟨Hl.out, S9b.out.fact 4 rfl, Hn1.out, Hl1.out⟩ ⟨Hu.out, S9b.out.fact 6 rfl, Hu2.out⟩
  rw [← Hhd.out, ← Heh.out] at kR
  refine (kR).mono ?_
  rintro e w10 ⟨A3, q3, c3, hq3, rfl, hO, hB⟩
  have S10 := Lib.hid ((S9b.out.on hB).more (rowF A3 hd) (hO.alms.1))
  clear hB S9b hO kR
  obtain rfl : q2 = q3 := Hq2.out.trans hq3.symm
  clear hq3
  go_wp2_with (refine wpList_load_st rfl 28 _ rfl S10.out 3 _ _ rfl rfl _ Tryz.underlying28 rfl (by rfl) ?_)
  refine (KN.out _ (S10.out.fact 6 rfl) (S10.out.fact 8 rfl) (S10.out.fact 7 rfl)).mono ?_
  rintro e w11 ⟨A4, q4, c4, hq4, rfl, hX4, hn4, hc4, hB⟩
  have S11 := Lib.hid ((S10.out.on hB).more (texF A4 xs) (hX4))
  clear hB S10 hX4 hn4 hc4
  have Hq4 := Lib.hid hq4
  clear hq4
  go_wp2_with (refine wpList_load_st rfl 28 _ rfl S11.out 2 _ _ rfl rfl _ Tryz.underlying28 rfl (by rfl) ?_)
  have kR := RLines_any (Lib.hid HP.out.line) HK m n A1 l c1 ls B k0 d ws t _ ⟨Hl.out, S11.out.fact 6 rfl, Hn1.out, Hl1.out⟩ ⟨Hu.out, S11.out.fact 8 rfl, Hu2.out⟩
  rw [← Hxs.out, ← Hex.out] at kR
  refine (kR).mono ?_
  rintro e w12 ⟨A5, q5, c5, hq5, rfl, hX5, hn5, hc5, hB⟩
  have S12 := Lib.hid ((S11.out.on hB).more (texF A5 xs) (hX5))
  clear hB S11 hX5 hn5 hc5 kR
  obtain rfl : q4 = q5 := Hq4.out.trans hq5.symm
  clear hq5
  go_wp2_with (refine wpList_load_st rfl 28 _ rfl S12.out 3 _ _ rfl rfl _ Tryz.underlying28 rfl (by rfl) ?_)
  refine (KC.out _ (S12.out.fact 8 rfl) (S12.out.fact 10 rfl)).mono ?_
  rintro e w13 ⟨rfl, hB⟩
  have S13 := Lib.hid (S12.out.on hB)
  clear hB S12 
  have Hp9 : Hid (w9.heap.size ≤ w13.heap.size) := Lib.hid (S13.out.fact 3 rfl : Below w9.heap.size w9 w13).size
  go_upto_region 13 with (refine wpList_store_st rfl 41 _ _ rfl S13.out _ (cntV ls) _ rfl rfl (by rfl) rfl (cntV_one ls) ?_; intro p4 w14 hp hS hBn; have Hp4 : Hid (w9.heap.size ≤ p4) := Lib.hid (by rw [hp]; exact Hp9.out); (try rw [← hp]); have S14 := Lib.hid hS; clear hS hp hBn)
  clear S13 Hp9 KL KM KP KQ KH KN KC KO
  have a0 : w14.cell? ⟨p2, 0, none⟩ = some (.int .i64 v0) := S14.out.cell 2 rfl 0 rfl
  have b0 : w14.cell? ⟨p3, 0, none⟩ = some (.int .i64 v0) := S14.out.cell 1 rfl 0 rfl
  have a1 : w14.cell? ⟨p2, 1, none⟩ = some (.int .i64 v1) := S14.out.cell 2 rfl 1 rfl
  have b1 : w14.cell? ⟨p3, 1, none⟩ = some (.int .i64 v1) := S14.out.cell 1 rfl 1 rfl
  have a2 : w14.cell? ⟨p2, 2, none⟩ = some (.int .i64 v2) := S14.out.cell 2 rfl 2 rfl
  have b2 : w14.cell? ⟨p3, 2, none⟩ = some (.int .i64 v2) := S14.out.cell 1 rfl 2 rfl
  have a3 : w14.cell? ⟨p2, 3, none⟩ = some (.int .i64 v3) := S14.out.cell 2 rfl 3 rfl
  have b3 : w14.cell? ⟨p3, 3, none⟩ = some (.int .i64 v3) := S14.out.cell 1 rfl 3 rfl
  have a4 : w14.cell? ⟨p2, 4, none⟩ = some (.int .i64 v4) := S14.out.cell 2 rfl 4 rfl
  have b4 : w14.cell? ⟨p3, 4, none⟩ = some (.int .i64 v4) := S14.out.cell 1 rfl 4 rfl
  have a5 : w14.cell? ⟨p2, 5, none⟩ = some (.int .i64 v5) := S14.out.cell 2 rfl 5 rfl
  have b5 : w14.cell? ⟨p3, 5, none⟩ = some (.int .i64 v5) := S14.out.cell 1 rfl 5 rfl
  go_wp2_with fail
  refine (HA.out A2 A3 q2 c2 c3 hd _ Hq2.out (S14.out.fact 6 rfl) (S14.out.fact 2 rfl) (by have := Hhl.out; have := Hq2.out; omega)).mono ?_
  rintro e w15 ⟨rfl, hB⟩
  have S15 := Lib.hid (S14.out.on hB)
  clear hB S14 a0 a1 a2 a3 a4 a5 b0 b1 b2 b3 b4 b5
  go_wp2_with fail
  refine (HX.out A4 A5 q4 c4 c5 xs _ Hq4.out (S15.out.fact 1 rfl) (S15.out.fact 0 rfl) (by have := Hxl.out; have := Hq4.out; omega)).mono ?_
  rintro e w16 ⟨rfl, hB⟩
  have S16 := Lib.hid (S15.out.on hB)
  clear hB S15
  have HO16 : Hid (OwnA w16 w8.heap.size (.slice A2 q2 c2) hd) := Lib.hid (S16.out.fact 5 rfl)
  have HB16 : Hid (Below w8.heap.size w8 w16) := Lib.hid (S16.out.fact 4 rfl)
  have HL16 := Lib.hid (S16.out.live (p4, cntV ls) (by simp))
  have HSm := Lib.hid (SmA.start HO16.out)
  clear S16
  go_wp2_with fail
  go_loopw [30] (fun iv wr => ∃ i : Nat, i ≤ q2 ∧ iv = .int .i64 (i : Int) ∧ Hid (SmA w16 A2 q2 wr)) (fun iv _ => q2 - (intOf iv).toNat)
  case atStart => exact ⟨0, Nat.zero_le _, rfl, HSm⟩
  case round =>
    clear HSm
    obtain ⟨i, hi, rfl, HSr⟩ := hrel
    by_cases hlt : i < q2
    · obtain ⟨g, rfl, x, hx, hfz, hset⟩ := HSr.out.at hlt
      have Hi := Lib.hid hlt
      have j1 : (i : Int) < (q2 : Int) := by omega
      have j0 : (0 : Int) ≤ (i : Int) := by omega
      have hn1 : i ≤ 1000 := by have := Hhl.out; have := Hq2.out; omega
      have Iw : Hid (wrap64 ((i : Int) + 1) = (i : Int) + 1) := Lib.hid (by unfold wrap64; omega)
      have HS2 := Lib.hid (hset (.int .i64 77))
      clear hset hlt hi hn1 HSr
      go_wp2
      go_roundw
      case rel => exact ⟨i + 1, Hi.out, by first | rfl | (rw [Iw.out]; rfl), HS2⟩
      case measure => have := Hi.out; (try rw [Iw.out]); simp [intOf]; omega
    · have ik : ((i : Int) < (q2 : Int)) = False := eq_false (by omega)
      have hbw : Below w8.heap.size w8 wr := HB16.out.trans (HSr.out.below HO16.out (Nat.le_refl _) HB16.out.size)
      have hpl := HSr.out.block Hblk.out Hp4.out HL16.out
      have S17 := Lib.hid ((S8k.out.on hbw).add hpl)
      clear hi hlt hbw hpl HSr HO16 HB16 HL16 S8k
      go_wp2_with fail
      have hS : St w wr.drew [(p4, cntV ls), (p3, #[.int .i64 v0, .int .i64 v1, .int .i64 v2, .int .i64 v3, .int .i64 v4, .int .i64 v5]), (p2, #[.int .i64 v0, .int .i64 v1, .int .i64 v2, .int .i64 v3, .int .i64 v4, .int .i64 v5]), (p1, #[.int .i64 m, .int .i64 n, .slice A1 l c1]), (w.heap.size + 1, #[.int .i64 m, .int .i64 n, .slice A l c]), (w.heap.size, #[.int .i64 x0, .int .i64 x1, .int .i64 x2, .int .i64 x3, .int .i64 x4, .int .i64 x5])] [rowF A1 ls, eF HS, winF B ws, rowF A ls] := S17.out.drew
      clear S17
      refine wp_region_held_drew (S := (fun W : World => St w W [(p4, cntV ls), (p3, #[.int .i64 v0, .int .i64 v1, .int .i64 v2, .int .i64 v3, .int .i64 v4, .int .i64 v5]), (p2, #[.int .i64 v0, .int .i64 v1, .int .i64 v2, .int .i64 v3, .int .i64 v4, .int .i64 v5]), (p1, #[.int .i64 m, .int .i64 n, .slice A1 l c1]), (w.heap.size + 1, #[.int .i64 m, .int .i64 n, .slice A l c]), (w.heap.size, #[.int .i64 x0, .int .i64 x1, .int .i64 x2, .int .i64 x3, .int .i64 x4, .int .i64 x5])] [rowF A1 ls, eF HS, winF B ws, rowF A ls])) (by kernel_rfl) hS (fun hHeld => ?_)
      refine wpAnyH_ready (rs := [0]) (by kernel_rfl) (by simp) ?_
      refine AllReadyH.cons (o := { dst := some 143, op := Op.call { callee := Callee.value (Operand.func 20), args := #[], argTypes := #[] }, type := 4, pos := _, after := #[], guard := none }) rfl (fun K hK => ?_) AllReadyH.nil
      go_simp
      refine (HC.out _ (hS.fact 1 rfl)).mono ?_
      rintro e y1 ⟨rfl, hB'⟩
      replace hS := hS.on hB'
      clear hB'
      go_wp2_with fail
      refine hK.out _ _ hS (fun hHeld => ?_)
      clear hK K
      (try simp only [Act.put, List.setIfInBounds_toArray, List.set_cons_zero, List.set_cons_succ])
      refine wpAnyH_take (i := 1) (oi := { dst := some 144, op := Op.move (Operand.tmp 143), type := 4, pos := _, after := #[{ on := 0, ground := Ground.data }, { on := 0, ground := Ground.chain }], guard := none }) (v := ?_) rfl (by kernel_rfl) (by kernel_rfl) (by kernel_rfl) (fun _ _ _ h => h) (Or.inl ⟨by rfl, ?hy⟩) hHeld ?_
      case hy => intro w0 hSw; (try dsimp only at hSw); go_simp; (try with_reducible rfl)
      (try simp only [Act.put, List.setIfInBounds_toArray, List.set_cons_zero, List.set_cons_succ])
      refine wpAnyH_take (i := 2) (oi := { dst := some 145, op := Op.move (Operand.tmp 29), type := 4, pos := _, after := #[{ on := 1, ground := Ground.guard }], guard := some (1, true) }) (v := ?_) rfl (by kernel_rfl) (by kernel_rfl) (by kernel_rfl) (fun _ _ _ h => h) (Or.inl ⟨by rfl, ?hy⟩) hHeld ?_
      case hy => intro w0 hSw; (try dsimp only at hSw); go_simp; (try with_reducible rfl)
      (try simp only [Act.put, List.setIfInBounds_toArray, List.set_cons_zero, List.set_cons_succ])
      refine wpAnyH_take (i := 3) (oi := { dst := some 146, op := Op.pick (Operand.tmp 144) (Operand.tmp 145) (Operand.const (Value.bool false)), type := 4, pos := _, after := #[{ on := 1, ground := Ground.data }, { on := 2, ground := Ground.data }], guard := none }) (v := ?_) rfl (by kernel_rfl) (by kernel_rfl) (by kernel_rfl) (fun _ _ _ h => h) (Or.inl ⟨by rfl, ?hy⟩) hHeld ?_
      case hy => intro w0 hSw; (try dsimp only at hSw); go_simp; (try with_reducible rfl)
      (try simp only [Act.put, List.setIfInBounds_toArray, List.set_cons_zero, List.set_cons_succ])
      refine wpAnyH_take (i := 4) (oi := { dst := some 147, op := Op.move (Operand.tmp 146), type := 4, pos := _, after := #[{ on := 3, ground := Ground.data }, { on := 1, ground := Ground.chain }], guard := none }) (v := ?_) rfl (by kernel_rfl) (by kernel_rfl) (by kernel_rfl) (fun _ _ _ h => h) (Or.inl ⟨by rfl, ?hy⟩) hHeld ?_
      case hy => intro w0 hSw; (try dsimp only at hSw); go_simp; (try with_reducible rfl)
      (try simp only [Act.put, List.setIfInBounds_toArray, List.set_cons_zero, List.set_cons_succ])
      refine wpAnyH_take (i := 5) (oi := { dst := some 148, op := Op.slice 41 (Operand.tmp 28) none none none, type := 47, pos := _, after := #[{ on := 4, ground := Ground.guard }], guard := some (4, true) }) (v := ?_) rfl (by kernel_rfl) (by kernel_rfl) (by kernel_rfl) (fun _ _ _ h => h) (Or.inl ⟨by rfl, ?hy⟩) hHeld ?_
      case hy => intro w0 hSw; (try dsimp only at hSw); go_simp; (try with_reducible rfl)
      (try simp only [Act.put, List.setIfInBounds_toArray, List.set_cons_zero, List.set_cons_succ])
      refine wpAnyH_take (i := 6) (oi := { dst := some 149, op := Op.load 28 (Operand.tmp 11), type := 28, pos := _, after := #[{ on := 4, ground := Ground.guard }], guard := some (4, true) }) (v := ?_) rfl (by kernel_rfl) (by kernel_rfl) (by kernel_rfl) (fun _ _ _ h => h) (Or.inl ⟨by rfl, ?hy⟩) hHeld ?_
      case hy => intro w0 hSw; have d0 := hSw.cell 3 rfl 0 rfl; have d1 := hSw.cell 3 rfl 1 rfl; have d2 := hSw.cell 3 rfl 2 rfl; clear hSw; go_simp; (try with_reducible rfl)
      (try simp only [Act.put, List.setIfInBounds_toArray, List.set_cons_zero, List.set_cons_succ])
      refine wpAnyH_ready (rs := [7]) (by kernel_rfl) (by simp) ?_
      refine AllReadyH.cons (o := { dst := some 150, op := Op.call { callee := Callee.value (Operand.func 22), args := #[Operand.tmp 149], argTypes := #[28] }, type := 47, pos := _, after := #[{ on := 6, ground := Ground.data }, { on := 4, ground := Ground.chain }, { on := 4, ground := Ground.guard }], guard := some (4, true) }) rfl (fun K hK => ?_) AllReadyH.nil
      go_simp
      refine (RCount_any m n A1 l c1 ls _ ⟨Hl.out, hS.fact 0 rfl, Hn1.out, Hl1.out⟩).mono ?_
      rintro e y2 ⟨A6, c6, rfl, hI, hB'⟩
      replace hS := hS.on hB'
      have HIy := Lib.hid hI
      clear hB' hI
      go_wp2_with fail
      refine hK.out _ _ hS (fun hHeld => ?_)
      clear hK K
      (try simp only [Act.put, List.setIfInBounds_toArray, List.set_cons_zero, List.set_cons_succ])
      refine wpAnyH_ready (rs := [8]) (by kernel_rfl) (by simp) ?_
      refine AllReadyH.cons (o := { dst := some 151, op := Op.call { callee := Callee.value (Operand.func 21), args := #[Operand.tmp 148, Operand.tmp 150], argTypes := #[47, 47] }, type := 4, pos := _, after := #[{ on := 5, ground := Ground.data }, { on := 7, ground := Ground.data }, { on := 7, ground := Ground.chain }, { on := 4, ground := Ground.guard }], guard := some (4, true) }) rfl (fun K hK => ?_) AllReadyH.nil
      go_simp
      refine (HI.out (some ⟨p4, 0, none⟩) A6 5 5 c6 _ _ rfl (hS.cnts) HIy.out (by omega)).mono ?_
      rintro e y3 ⟨rfl, hB'⟩
      replace hS := hS.on hB'
      clear hB' HIy
      go_wp2_with fail
      refine hK.out _ _ hS (fun hHeld => ?_)
      clear hK K
      (try simp only [Act.put, List.setIfInBounds_toArray, List.set_cons_zero, List.set_cons_succ])
      refine wpAnyH_take (i := 9) (oi := { dst := some 152, op := Op.pick (Operand.tmp 147) (Operand.tmp 151) (Operand.const (Value.bool false)), type := 4, pos := _, after := #[{ on := 4, ground := Ground.data }, { on := 8, ground := Ground.data }], guard := none }) (v := ?_) rfl (by kernel_rfl) (by kernel_rfl) (by kernel_rfl) (fun _ _ _ h => h) (Or.inl ⟨by rfl, ?hy⟩) hHeld ?_
      case hy => intro w0 hSw; (try dsimp only at hSw); go_simp; (try with_reducible rfl)
      (try simp only [Act.put, List.setIfInBounds_toArray, List.set_cons_zero, List.set_cons_succ])
      refine wpAnyH_take (i := 10) (oi := { dst := some 153, op := Op.move (Operand.tmp 152), type := 4, pos := _, after := #[{ on := 9, ground := Ground.data }, { on := 8, ground := Ground.chain }], guard := none }) (v := ?_) rfl (by kernel_rfl) (by kernel_rfl) (by kernel_rfl) (fun _ _ _ h => h) (Or.inl ⟨by rfl, ?hy⟩) hHeld ?_
      case hy => intro w0 hSw; (try dsimp only at hSw); go_simp; (try with_reducible rfl)
      (try simp only [Act.put, List.setIfInBounds_toArray, List.set_cons_zero, List.set_cons_succ])
      refine wpAnyH_take (i := 11) (oi := { dst := some 154, op := Op.load 28 (Operand.tmp 7), type := 28, pos := _, after := #[{ on := 10, ground := Ground.guard }], guard := some (10, true) }) (v := ?_) rfl (by kernel_rfl) (by kernel_rfl) (by kernel_rfl) (fun _ _ _ h => h) (Or.inl ⟨by rfl, ?hy⟩) hHeld ?_
      case hy => intro w0 hSw; have d0 := hSw.cell 4 rfl 0 rfl; have d1 := hSw.cell 4 rfl 1 rfl; have d2 := hSw.cell 4 rfl 2 rfl; clear hSw; go_simp; (try with_reducible rfl)
      (try simp only [Act.put, List.setIfInBounds_toArray, List.set_cons_zero, List.set_cons_succ])
      refine wpAnyH_take (i := 12) (oi := { dst := some 155, op := Op.load 28 (Operand.tmp 11), type := 28, pos := _, after := #[{ on := 10, ground := Ground.guard }], guard := some (10, true) }) (v := ?_) rfl (by kernel_rfl) (by kernel_rfl) (by kernel_rfl) (fun _ _ _ h => h) (Or.inl ⟨by rfl, ?hy⟩) hHeld ?_
      case hy => intro w0 hSw; have d0 := hSw.cell 3 rfl 0 rfl; have d1 := hSw.cell 3 rfl 1 rfl; have d2 := hSw.cell 3 rfl 2 rfl; clear hSw; go_simp; (try with_reducible rfl)
      (try simp only [Act.put, List.setIfInBounds_toArray, List.set_cons_zero, List.set_cons_succ])
      refine wpAnyH_ready (rs := [13]) (by kernel_rfl) (by simp) ?_
      refine AllReadyH.cons (o := { dst := some 156, op := Op.call { callee := Callee.value (Operand.func 23), args := #[Operand.tmp 154, Operand.tmp 155], argTypes := #[28, 28] }, type := 4, pos := _, after := #[{ on := 11, ground := Ground.data }, { on := 12, ground := Ground.data }, { on := 10, ground := Ground.chain }, { on := 10, ground := Ground.guard }], guard := some (10, true) }) rfl (fun K hK => ?_) AllReadyH.nil
      go_simp
      refine (HB.out m n A A1 l c c1 ls _ Hl.out (hS.fact 3 rfl) (hS.fact 0 rfl) Hl1.out).mono ?_
      rintro e y4 ⟨rfl, hB'⟩
      replace hS := hS.on hB'
      clear hB'
      go_wp2_with fail
      refine hK.out _ _ hS (fun hHeld => ?_)
      clear hK K
      (try simp only [Act.put, List.setIfInBounds_toArray, List.set_cons_zero, List.set_cons_succ])
      refine wpAnyH_take (i := 14) (oi := { dst := some 157, op := Op.pick (Operand.tmp 153) (Operand.tmp 156) (Operand.const (Value.bool false)), type := 4, pos := _, after := #[{ on := 10, ground := Ground.data }, { on := 13, ground := Ground.data }], guard := none }) (v := ?_) rfl (by kernel_rfl) (by kernel_rfl) (by kernel_rfl) (fun _ _ _ h => h) (Or.inl ⟨by rfl, ?hy⟩) hHeld ?_
      case hy => intro w0 hSw; (try dsimp only at hSw); go_simp; (try with_reducible rfl)
      (try simp only [Act.put, List.setIfInBounds_toArray, List.set_cons_zero, List.set_cons_succ])
      refine wpAnyH_take (i := 15) (oi := { dst := some 10, op := Op.assign (Operand.tmp 157), type := 4, pos := _, after := #[{ on := 14, ground := Ground.data }, { on := 13, ground := Ground.chain }, { on := 0, ground := Ground.phase }, { on := 1, ground := Ground.phase }, { on := 2, ground := Ground.phase }, { on := 3, ground := Ground.phase }, { on := 4, ground := Ground.phase }, { on := 5, ground := Ground.phase }, { on := 6, ground := Ground.phase }, { on := 7, ground := Ground.phase }, { on := 8, ground := Ground.phase }, { on := 9, ground := Ground.phase }, { on := 10, ground := Ground.phase }, { on := 11, ground := Ground.phase }, { on := 12, ground := Ground.phase }, { on := 13, ground := Ground.phase }, { on := 14, ground := Ground.phase }], guard := none }) (v := ?_) rfl (by kernel_rfl) (by kernel_rfl) (by kernel_rfl) (fun _ _ _ h => h) (Or.inl ⟨by rfl, ?hy⟩) hHeld ?_
      case hy => intro w0 hSw; (try dsimp only at hSw); go_simp; (try with_reducible rfl)
      (try simp only [Act.put, List.setIfInBounds_toArray, List.set_cons_zero, List.set_cons_succ])
      refine wpAnyH_done (by kernel_rfl) ?_ _
      clear hHeld
      have HSe := Lib.hid hS
      clear hS
      go_wp2
      go_ret
      exact ⟨rfl, HSe.out.below⟩

theorem showDoes_walk {E : World → Prop} (HS : Hid (ShowK E)) (HC : Hid (ShownK E)) (HW : Hid BOwnK) (HP : Hid RefPK) (HK : Hid RefHK) (HX : Hid XSameK) (HA : Hid ASameK) (HI : Hid ISameK) (HB : Hid SameK)
    (x0 x1 x2 x3 x4 x5 : Int) (s : ByteArray) (m n : Int) (A : Option Addr) (c : Nat) (ls : List Alm) (B : Option Addr) (d : Nat) (ws : List Win) (t : Int) (w : World) (hE : E w) (hA : AlmsAt w w.heap.size A ls) (h0 : A = none → c = 0) (hW : WinsAt w w.heap.size B ws) (hR : Roomy B ws d) :
    Calls Tryz.prog 3 #[.agg #[.int .i64 x0, .int .i64 x1, .int .i64 x2, .int .i64 x3, .int .i64 x4, .int .i64 x5], .string s, .agg #[.int .i64 m, .int .i64 n, .slice A ls.length c], .slice B ws.length d, .int .i64 t] w fun e w' => e = .returned (.bool true) ∧ Below w.heap.size w w' := by
  by_cases h1 : 300 < s.size
  · exact showDoes_far1 x0 x1 x2 x3 x4 x5 s m n A ls.length c B ws.length d t w h1
  by_cases h2 : 60 < ls.length
  · exact showDoes_far2 x0 x1 x2 x3 x4 x5 s m n A ls.length c B ws.length d t w (by omega) h2
  by_cases h3 : 110 < ws.length
  · exact showDoes_far3 x0 x1 x2 x3 x4 x5 s m n A ls.length c B ws.length d t w (by omega) (by omega) h3
  exact showDoes_ok HS HC HW HP HK HX HA HI HB x0 x1 x2 x3 x4 x5 s m n A ls.length c ls B ws.length d ws t w hE ⟨rfl, hA, h0, by omega⟩ ⟨rfl, hW, hR, by omega⟩ (by omega) (by omega) (by omega)
end Go.Proofs.YtpgichlaghhdeaaGreatDoor
