/-
  Layer 11 (show): the law ShowCount, over the structures (printed by tools/gen-showcount.py).
-/
import Derived.Test.YtpgichlaghhdeaaGreatDoorXShowRung
import Derived.Test.YtpgichlaghhdeaaGreatDoorXJb
namespace Go.Proofs.YtpgichlaghhdeaaGreatDoor
set_option maxRecDepth 10000
open Go.RowKit

/-- A board of one's own. -/
def BOwnK : Prop := ∀ (m n : Int) (A : Option Addr) (l c : Nat) (ls : List Alm) (w : World) (_h : Told w A l c ls), Calls Tryz.prog 8 #[.agg #[.int .i64 m, .int .i64 n, .slice A l c]] w fun e w' => ∃ A' c', e = .returned (.agg #[.int .i64 m, .int .i64 n, .slice A' l c']) ∧ OwnA w' w.heap.size (.slice A' l c') ls ∧ Below w.heap.size w w'
/-- The counts as an array's cells. -/
def cntV (ls : List Alm) : Array Value := #[.int .i64 (Sh.cnt 0 ls : Int), .int .i64 (Sh.cnt 1 ls : Int), .int .i64 (Sh.cnt 2 ls : Int), .int .i64 (Sh.cnt 3 ls : Int), .int .i64 (Sh.cnt 4 ls : Int)]
theorem cntV_one (ls : List Alm) : (cntV ls).all (·.oneCell') = true := by simp [cntV, Value.oneCell']
theorem cntV_get (ls : List Alm) (k : Nat) (h : k < 5) : (cntV ls)[k]? = some (.int .i64 (Sh.cnt (k : Int) ls : Int)) := by
  match k, h with
  | 0, _ => rfl
  | 1, _ => rfl
  | 2, _ => rfl
  | 3, _ => rfl
  | 4, _ => rfl
/-- One cell is written of a block that stands ahead of a row of one's own, or behind. -/
theorem wpList_setcellO {P : Program} {ops : Array Oper} {rest : List Oper} {o : Oper} {a : Act} {w u : World} {Q : Exit → Act → World → Prop} (hgd : o.guard = none) (ty : TypeId) (x y : Operand) (ho : o.op = .store ty x y)
    {w0 : World} {k : Nat} {cs : Array Value} {L : List (Nat × Array Value)} {M : List Fact} (h0 : St w0 u L M) (hS : St w0 w ((k, cs) :: L) M) (hb : Below u.heap.size u w) (hk : u.heap.size ≤ k) (j : Nat) (v old : Value) (base : Nat) (r : Value) (ls : List Alm) (hO : OwnA w base r ls) (hne : ∀ i, r.ownBlock = some i → i ≠ k)
    (hx : a.eval x = .pointer (some ⟨k, j, none⟩)) (hy : a.eval y = v) (hj : cs[j]? = some old) (hi : (P.info? ty).map (·.size) = some 1) (h1 : v.oneCell' = true)
    (h : ∀ w', St w0 w' ((k, cs.setIfInBounds j v) :: L) M → Below u.heap.size u w' → OwnA w' base r ls → wpList P ops Q rest (a.put o.dst undef) w') : wpList P ops Q (o :: rest) a w := by
  refine wpList_plain hgd fun K hK => ?_
  have hc := hS.cell 0 rfl j hj
  have hf := hS.free 0 rfl j
  unfold Oper.wp execOp
  simp only [ho, hx, hy, Instr.storeAt, Instr.sureAddr, Sem.run_bind, Sem.run_pure, Result.andThen_ok, run_storeVar_cell w k j ty v (by rw [hc]; rfl) hf hi h1]
  exact hK _ _ (h _ (h0.cellSet hS hb hk j v) (below_setCell hb hk j v) (World.ownsRow.kept (row := some k) hO (grown_setCell8 w k j v) (Or.inr (fun e => hne k e rfl))))

/-- A row of one's own is not a block of another size. -/
theorem OwnA.apart {w : World} {base k : Nat} {v : Value} {ls : List Alm} {cs : Array Value} (h : OwnA w base v ls) (hk : ∃ t, w.heap[k]? = some (.cells cs t (0, 0))) (hs : cs.size % 6 ≠ 0) : ∀ i, v.ownBlock = some i → i ≠ k := fun i hi e => by
  subst e
  unfold OwnA at h
  obtain ⟨t, ht⟩ := hk
  rcases h.2 with ⟨hv, _⟩ | ⟨g, cap, cur, hv, _, hg, _, _, hsz, _⟩
  · rw [hv] at hi; cases hi
  · rw [hv] at hi
    cases hi
    rw [ht] at hg
    cases hg
    omega
theorem grown_live {w w' : World} {row : Option Nat} {k : Nat} {cs : Array Value} (hg : w.grownBy w' row) (hk : ∃ t, w.heap[k]? = some (.cells cs t (0, 0))) (hne : ∀ i, row = some i → i ≠ k) : ∃ t, w'.heap[k]? = some (.cells cs t (0, 0)) := by
  obtain ⟨t, ht⟩ := hk
  exact ⟨t, (hg.block k (Array.getElem?_eq_some_iff.1 ht).1 (fun e => hne k e.symm rfl)).trans ht⟩
theorem showCount_far (m n : Int) (A : Option Addr) (l c : Nat) (x0 x1 x2 x3 x4 x5 : Int) (w : World) (hf : 60 < l) : Calls Tryz.prog 7 #[.agg #[.int .i64 m, .int .i64 n, .slice A l c], .agg #[.int .i64 x0, .int .i64 x1, .int .i64 x2, .int .i64 x3, .int .i64 x4, .int .i64 x5]] w fun e w' => e = .returned (.bool true) ∧ Below w.heap.size w w' := by
  have i1 : ((60 : Int) < (l : Int)) = True := eq_true (by omega)
  clear hf
  go_enter Tryz.func7, Tryz.ntmps7
  go_wp2
  go_ret
  exact ⟨rfl, below_new2 _ _ _⟩

set_option maxHeartbeats 4000000 in
theorem showCount_near {E : World → Prop} (HS : Hid (ShowK E)) (HC : Hid (ShownK E)) (HW : Hid BOwnK) (m n : Int) (A : Option Addr) (l c : Nat) (ls : List Alm) (x0 x1 x2 x3 x4 x5 : Int) (w : World) (hE : E w) (ht : Told w A l c ls) (hf : l ≤ 60) :
    Calls Tryz.prog 7 #[.agg #[.int .i64 m, .int .i64 n, .slice A l c], .agg #[.int .i64 x0, .int .i64 x1, .int .i64 x2, .int .i64 x3, .int .i64 x4, .int .i64 x5]] w fun e w' => e = .returned (.bool true) ∧ Below w.heap.size w w' := by
  have S0 := Lib.hid (((St.start w).more (rowF A ls) ht.2.1).box2 #[.int .i64 m, .int .i64 n, .slice A l c] #[.int .i64 x0, .int .i64 x1, .int .i64 x2, .int .i64 x3, .int .i64 x4, .int .i64 x5] 28 25)
  have HE0 := Lib.hid (HS.out.mono _ _ hE (below_new2 w (.cells #[.int .i64 m, .int .i64 n, .slice A l c] 28) (.cells #[.int .i64 x0, .int .i64 x1, .int .i64 x2, .int .i64 x3, .int .i64 x4, .int .i64 x5] 25)))
  have i1 : ((60 : Int) < (l : Int)) = False := eq_false (by omega)
  obtain ⟨hl, -, hn, -⟩ := ht
  have K1 := fun (W : World) (h : E W) (hA : AlmsAt W W.heap.size A ls) => Lib.hid (show Calls Tryz.prog 17 #[.agg #[.int .i64 m, .int .i64 n, .slice A l c]] W fun e w' => e = .returned (.agg (cntV ls)) ∧ Below W.heap.size W w' from HS.out.count m n A l c ls W h ⟨hl, hA, hn, by omega⟩)
  have K2 := fun (W : World) (hA : AlmsAt W W.heap.size A ls) => Lib.hid (HW.out m n A l c ls W ⟨hl, hA, hn, by omega⟩)
  have Hle : Hid ((ls ++ [(⟨x0, x1, x2, x3, x4, x5⟩ : Alm)]).length = l + 1) := Lib.hid (by rw [List.length_append, hl]; rfl)
  have K3 := fun (W : World) (A2 : Option Addr) (c2 : Nat) (h : E W) (hA : AlmsAt W W.heap.size A2 (ls ++ [(⟨x0, x1, x2, x3, x4, x5⟩ : Alm)])) (h2 : A2 = none → c2 = 0) => Lib.hid (show Calls Tryz.prog 17 #[.agg #[.int .i64 m, .int .i64 n, .slice A2 (l + 1) c2]] W fun e w' => e = .returned (.agg (cntV (ls ++ [(⟨x0, x1, x2, x3, x4, x5⟩ : Alm)]))) ∧ Below W.heap.size W w' from HS.out.count m n A2 (l + 1) c2 (ls ++ [(⟨x0, x1, x2, x3, x4, x5⟩ : Alm)]) W h ⟨Hle.out.symm, hA, h2, by omega⟩)
  have Hf := Lib.hid hf
  have Hl := Lib.hid hl
  clear hl hn hE hf
  go_enter Tryz.func7, Tryz.ntmps7
  go_wp2_with (first
    | (refine wpList_loadc8 rfl 26 _ rfl S0.out 1 _ _ rfl 2 _ rfl rfl Tryz.isAgg26 ?_)
    | (refine wpList_load_st rfl 28 _ rfl S0.out 1 _ _ rfl rfl _ Tryz.underlying28 rfl (by rfl) ?_))
  refine (K1 _ HE0.out (S0.out.fact 0 rfl)).out.mono ?_
  rintro e w1 ⟨rfl, hB⟩
  have S1 := Lib.hid (S0.out.on hB)
  have HE1 := Lib.hid (HS.out.mono _ _ HE0.out hB)
  clear hB S0 HE0
  obtain ⟨p1, hp1⟩ : ∃ p, p = w.heap.size + 1 := ⟨_, rfl⟩
  rw [← hp1] at S1 ⊢
  obtain ⟨p0, hp0⟩ : ∃ p, p = w.heap.size := ⟨_, rfl⟩
  rw [← hp0] at S1 ⊢
  clear hp1 hp0 K1
  go_wp2_with (first
    | (refine wpList_store_st rfl 41 _ _ rfl S1.out _ (cntV ls) _ rfl rfl (by rfl) rfl (cntV_one ls) ?_; intro p5 w2 hp hS hBn; (try rw [← hp]); have S2 := Lib.hid hS; have HE2 := Lib.hid (HS.out.mono _ _ HE1.out hBn); clear hS hp hBn)
    | (refine wpList_load_st rfl 28 _ rfl S2.out 2 _ _ rfl rfl _ Tryz.underlying28 rfl (by rfl) ?_))
  refine (K2 w2 (S2.out.fact 0 rfl)).out.mono ?_
  rintro e w3 ⟨A1, c1, rfl, hO, hB⟩
  have S3 := Lib.hid (S2.out.on hB)
  have HE3 := Lib.hid (HS.out.mono _ _ HE2.out hB)
  have O3 := Lib.hid hO
  have B3 := Lib.hid hB
  clear hO
  clear hB K2
  go_wp2_with (first
    | (refine wpList_store_st rfl 28 _ _ rfl S3.out _ #[.int .i64 m, .int .i64 n, .slice A1 l c1] _ rfl rfl (by rfl) rfl (by simp [Value.oneCell']) ?_; intro p6 w4 hp hS hBn; have O4 := Lib.hid (O3.out.below hBn); have B4 := Lib.hid (below2 B3.out hBn); (try rw [← hp]); have S4 := Lib.hid hS; have HE4 := Lib.hid (HS.out.mono _ _ HE3.out hBn); have H26 : Hid (w2.heap.size ≤ p6) := Lib.hid (by rw [hp]; exact B3.out.size); clear hS hp hBn)
    | (refine wpList_loadc8 rfl 26 _ rfl S4.out 0 _ _ rfl 2 _ rfl rfl Tryz.isAgg26 ?_; have HN4 := Lib.hid (below_new w4 (.cells #[.int .i64 x0, .int .i64 x1, .int .i64 x2, .int .i64 x3, .int .i64 x4, .int .i64 x5] 25)); have S4b := Lib.hid (S4.out.on HN4.out); have O4b := Lib.hid (O4.out.below HN4.out); have B4b := Lib.hid (below2 B4.out HN4.out); have T4 := Lib.hid (AlmsAt.one11 w4 x0 x1 x2 x3 x4 x5 25))
    | (refine wpList_load_st rfl 25 _ rfl S4.out 2 _ _ rfl rfl _ Tryz.underlying25 rfl (by rfl) ?_)
    | (at_builtin; refine wpList_append_alms rfl _ _ rfl w2.heap.size (.slice A1 l c1) ls [(⟨x0, x1, x2, x3, x4, x5⟩ : Alm)] rfl O4b.out (some ⟨w4.heap.size, 0, none⟩) 1 _ rfl rfl T4.out (fun e => nomatch e) B4b.out.size (by have := Hl.out; have := Hf.out; simp only [List.length_cons, List.length_nil]; omega) ?_; intro v5 w5 hown5 hg5; have hB5 : Below w2.heap.size w2 w5 := B4b.out.grown hg5 B4b.out.size (fun j hj => O4b.out.ge9 j hj); obtain ⟨A6, c6, hv6, _, _, _⟩ := hown5.slice; rw [Hle.out] at hv6; subst hv6; have hS5 : St w w5 ((p6, #[.int .i64 m, .int .i64 n, .slice A1 l c1]) :: [(p5, cntV ls), (p1, #[.int .i64 x0, .int .i64 x1, .int .i64 x2, .int .i64 x3, .int .i64 x4, .int .i64 x5]), (p0, #[.int .i64 m, .int .i64 n, .slice A l c])]) [rowF A ls] := (S2.out.on hB5).add (grown_live hg5 (S4b.out.live (p6, #[.int .i64 m, .int .i64 n, .slice A1 l c1]) (by simp)) (O4b.out.apart (S4b.out.live (p6, #[.int .i64 m, .int .i64 n, .slice A1 l c1]) (by simp)) (by simp))); have S5 := Lib.hid hS5; have B5 := Lib.hid hB5; have O5 := Lib.hid hown5; have Hne : Hid (∀ i, (Value.slice A6 (l + 1) c6).ownBlock = some i → i ≠ p6) := Lib.hid (hown5.apart (hS5.live (p6, #[.int .i64 m, .int .i64 n, .slice A1 l c1]) (by simp)) (by simp)); clear hS5 hB5 hown5 hg5)
    | (refine wpList_setcellO rfl 26 _ _ rfl S2.out S5.out B5.out H26.out 2 (.slice A6 (l + 1) c6) _ w2.heap.size _ (ls ++ [(⟨x0, x1, x2, x3, x4, x5⟩ : Alm)]) O5.out Hne.out rfl rfl rfl (by rfl) rfl ?_; intro w6 hS6 hB6 hO6; have S6 : Hid (St w w6 [(p6, #[.int .i64 m, .int .i64 n, .slice A6 (l + 1) c6]), (p5, cntV ls), (p1, #[.int .i64 x0, .int .i64 x1, .int .i64 x2, .int .i64 x3, .int .i64 x4, .int .i64 x5]), (p0, #[.int .i64 m, .int .i64 n, .slice A l c])] [rowF A ls]) := Lib.hid hS6; have B6 := Lib.hid hB6; have O6 := Lib.hid hO6; clear hS6 hB6 hO6)
    | (refine wpList_load_st rfl 28 _ rfl S6.out 0 _ _ rfl rfl _ Tryz.underlying28 rfl (by rfl) ?_))
  have HE6 := Lib.hid (HS.out.mono _ _ HE2.out B6.out)
  refine (K3 w6 A6 c6 HE6.out O6.out.alms.1 O6.out.alms.2).out.mono ?_
  rintro e w7 ⟨rfl, hB⟩
  have S7 := Lib.hid (S6.out.on hB)
  have HE7 := Lib.hid (HS.out.mono _ _ HE6.out hB)
  clear hB S6 HE6
  clear K3 S1 S2 S3 S4 S4b S5 HE1 HE2 HE3 HE4 O3 O4 O4b O5 O6 B3 B4 B4b B5 B6 HN4 T4 H26 Hne
  go_wp2_with (refine wpList_store_st rfl 41 _ _ rfl S7.out _ (cntV (ls ++ [(⟨x0, x1, x2, x3, x4, x5⟩ : Alm)])) _ rfl rfl (by rfl) rfl (cntV_one _) ?_; intro p7 w8 hp hS hBn; (try rw [← hp]); have S8 := Lib.hid hS; have HE8 := Lib.hid (HS.out.mono _ _ HE7.out hBn); clear hS hp hBn)
  go_loopw [8] (fun i wr => ∃ (k : Nat), k ≤ 5 ∧ i = .int .i64 (k : Int) ∧ Hid (Below w8.heap.size w8 wr)) (fun i _ => 6 - (intOf i).toNat)
  case atStart => exact ⟨0, by omega, rfl, Lib.hid (Below.refl _ _)⟩
  case round =>
    obtain ⟨k, hk, rfl, HBr⟩ := hrel
    have SR := Lib.hid (S8.out.on HBr.out)
    by_cases hlt : k < 5
    · have j1 : ((k : Int) ≤ 4) = True := eq_true (by omega)
      have j2 : (k : Int) < 5 := by omega
      have j3 : (0 : Int) ≤ (k : Int) := by omega
      have d3 := SR.out.cell 3 rfl 2 rfl
      have e7 := SR.out.cell 0 rfl k (cntV_get (ls ++ [(⟨x0, x1, x2, x3, x4, x5⟩ : Alm)]) k hlt)
      have e5 := SR.out.cell 2 rfl k (cntV_get ls k hlt)
      rw [Sh.cnt_snoc] at e7
      have hv := Sh.cnt_le (k : Int) ls
      obtain ⟨v, hv0⟩ : ∃ v, v = Sh.cnt (k : Int) ls := ⟨_, rfl⟩
      rw [← hv0] at e7 e5 hv
      have Ik : Hid (wrap64 ((k : Int) + 1) = (k : Int) + 1) := Lib.hid (by unfold wrap64; omega)
      have Hk := Lib.hid hlt
      have i5 : ((v : Int) < 0) = False := eq_false (by omega)
      have hv2 : v ≤ 60 := by have := Hl.out; have := Hf.out; omega
      simp only at e7
      clear hv hv0 hlt hk
      by_cases hb : x2 = (k : Int)
      · have hbb : (x2 == (k : Int)) = true := beq_iff_eq.2 hb
        have hbp : (x2 = (k : Int)) = True := eq_true hb
        rw [if_pos hb, Int.natCast_add] at e7
        have W1 : IntKind.i64.wrap ((v : Int) + 1) = (v : Int) + 1 := by rw [IntKind.wrap_i64]; omega
        clear hb hv2
        go_wp2_with fail
        go_region
        go_wp2
        go_roundw
        case rel => exact ⟨k + 1, Hk.out, by first | rfl | (rw [Ik.out]; rfl), Lib.hid (below_drew HBr.out 1)⟩
        case measure => have := Hk.out; (try rw [Ik.out]); simp [intOf]; omega
      · have hbb : (x2 == (k : Int)) = false := by rw [beq_eq_false_iff_ne]; exact hb
        have hbp : (x2 = (k : Int)) = False := eq_false hb
        rw [if_neg hb, Nat.add_zero] at e7
        have W1 : IntKind.i64.wrap ((v : Int) + 0) = (v : Int) := by rw [IntKind.wrap_i64]; omega
        have W2 : IntKind.i64.wrap (v : Int) = (v : Int) := by rw [IntKind.wrap_i64]; omega
        clear hb hv2
        go_wp2_with fail
        go_region
        go_wp2
        go_roundw
        case rel => exact ⟨k + 1, Hk.out, by first | rfl | (rw [Ik.out]; rfl), Lib.hid (below_drew HBr.out 1)⟩
        case measure => have := Hk.out; (try rw [Ik.out]); simp [intOf]; omega
    · obtain rfl : k = 5 := by omega
      clear hk hlt
      go_wp2_with fail
      refine (HC.out _ (HS.out.mono _ _ HE8.out HBr.out)).mono ?_
      rintro e w9 ⟨rfl, hB⟩
      have S9 := Lib.hid (SR.out.on hB)
      clear hB S8 SR HE8
      have ha := Sh.cnt_all ls
      obtain ⟨c0, h0⟩ : ∃ v, v = Sh.cnt 0 ls := ⟨_, rfl⟩
      obtain ⟨c1, h1⟩ : ∃ v, v = Sh.cnt 1 ls := ⟨_, rfl⟩
      obtain ⟨c2, h2⟩ : ∃ v, v = Sh.cnt 2 ls := ⟨_, rfl⟩
      obtain ⟨c3, h3⟩ : ∃ v, v = Sh.cnt 3 ls := ⟨_, rfl⟩
      obtain ⟨c4, h4⟩ : ∃ v, v = Sh.cnt 4 ls := ⟨_, rfl⟩
      have e0 : w9.cell? ⟨p5, 0, none⟩ = some (.int .i64 (c0 : Int)) := by rw [h0]; exact S9.out.cell 2 rfl 0 rfl
      have e1 : w9.cell? ⟨p5, 1, none⟩ = some (.int .i64 (c1 : Int)) := by rw [h1]; exact S9.out.cell 2 rfl 1 rfl
      have e2 : w9.cell? ⟨p5, 2, none⟩ = some (.int .i64 (c2 : Int)) := by rw [h2]; exact S9.out.cell 2 rfl 2 rfl
      have e3 : w9.cell? ⟨p5, 3, none⟩ = some (.int .i64 (c3 : Int)) := by rw [h3]; exact S9.out.cell 2 rfl 3 rfl
      have e4 : w9.cell? ⟨p5, 4, none⟩ = some (.int .i64 (c4 : Int)) := by rw [h4]; exact S9.out.cell 2 rfl 4 rfl
      have eB := S9.out.cell 4 rfl 2 rfl
      rw [← h0, ← h1, ← h2, ← h3, ← h4, ← Hl.out] at ha
      have hf60 := Hf.out
      have W1 : IntKind.i64.wrap ((c0 : Int) + (c1 : Int)) = (c0 : Int) + (c1 : Int) := by rw [IntKind.wrap_i64]; omega
      have W2 : IntKind.i64.wrap ((c0 : Int) + (c1 : Int) + (c2 : Int)) = (c0 : Int) + (c1 : Int) + (c2 : Int) := by rw [IntKind.wrap_i64]; omega
      have W3 : IntKind.i64.wrap ((c0 : Int) + (c1 : Int) + (c2 : Int) + (c3 : Int)) = (c0 : Int) + (c1 : Int) + (c2 : Int) + (c3 : Int) := by rw [IntKind.wrap_i64]; omega
      have W4 : IntKind.i64.wrap ((c0 : Int) + (c1 : Int) + (c2 : Int) + (c3 : Int) + (c4 : Int)) = (c0 : Int) + (c1 : Int) + (c2 : Int) + (c3 : Int) + (c4 : Int) := by rw [IntKind.wrap_i64]; omega
      have t1 : ((c0 : Int) + (c1 : Int) + (c2 : Int) + (c3 : Int) + (c4 : Int) ≤ (l : Int)) = True := eq_true (by omega)
      clear ha hf60 h0 h1 h2 h3 h4
      go_wp2
      go_ret
      exact ⟨rfl, S9.out.below⟩

theorem showCount_walk {E : World → Prop} (HS : Hid (ShowK E)) (HC : Hid (ShownK E)) (HW : Hid BOwnK) (m n : Int) (A : Option Addr) (c : Nat) (ls : List Alm) (x0 x1 x2 x3 x4 x5 : Int) (w : World) (hE : E w) (hA : AlmsAt w w.heap.size A ls) (h0 : A = none → c = 0) :
    Calls Tryz.prog 7 #[.agg #[.int .i64 m, .int .i64 n, .slice A ls.length c], .agg #[.int .i64 x0, .int .i64 x1, .int .i64 x2, .int .i64 x3, .int .i64 x4, .int .i64 x5]] w fun e w' => e = .returned (.bool true) ∧ Below w.heap.size w w' := by
  by_cases hf : 60 < ls.length
  · exact showCount_far m n A ls.length c x0 x1 x2 x3 x4 x5 w hf
  · exact showCount_near HS HC HW m n A ls.length c ls x0 x1 x2 x3 x4 x5 w hE ⟨rfl, hA, h0, by omega⟩ (by omega)

end Go.Proofs.YtpgichlaghhdeaaGreatDoor
