/-
  Layer 9 (due): the law DuePass, over the contracts.
-/
import Derived.Test.YtplpadblhjdpcaaXJa
import Derived.Test.YtplpadblhjdpcaaXJc
import Derived.Deep.DeepCutAuto
import Derived.Deep.RegionHeld3
import Derived.BigQuiet
import Derived.Deep.QuietTactic
namespace Go.Proofs.Ytplpadblhjdpcaa
set_option maxRecDepth 10000
open Go.RowKit

theorem duePass_far (m n : Int) (A : Option Addr) (l c : Nat) (ls : List Alm) (t : Int) (w : World) (hA : AlmsAt w w.heap.size A ls) (hf : 60 < l) :
    Calls Try.prog 3 #[.agg #[.int .i64 m, .int .i64 n, .slice A l c], .int .i64 t] w fun e w' => e = .returned (.bool true) ∧ Below w.heap.size w w' := by
  have HS0 := Lib.hid (((St.start w).more (rowF A ls) hA).new #[.int .i64 m, .int .i64 n, .slice A l c] 24)
  have HF := fun W => far9_v m n A l c true (by simp; omega) W
  clear hf hA
  go_enter Try.func3, Try.ntmps3
  go_wp2_with fail
  refine (HF _).mono ?_
  rintro e w1 ⟨rfl, hB⟩
  have HS := Lib.hid (HS0.out.on hB)
  clear hB HS0 HF
  obtain ⟨p1, hp1⟩ : ∃ p, p = w.heap.size := ⟨_, rfl⟩
  rw [← hp1] at HS ⊢
  clear hp1
  go_wp2
  go_ret
  exact ⟨rfl, HS.out.below⟩

set_option maxHeartbeats 4000000 in
theorem duePass_err (HC : Hid ComingK) (m n : Int) (A : Option Addr) (l c : Nat) (ls : List Alm) (t : Int) (w : World) (hA : AlmsAt w w.heap.size A ls) (hf : l ≤ 60) (e1 e2 : Int) (m2 n2 : Int) (C2 : List Alm) (T1 : List Trn) (q1 q2 : Nat)
    (G1 : ∀ (W : World) (_h : AlmsAt W W.heap.size A ls), Hid (Calls Try.prog 8 #[.agg #[.int .i64 m, .int .i64 n, .slice A l c], .int .i64 t] W (GivesT W q1 T1 e1)))
    (G2 : ∀ (W : World) (_h : AlmsAt W W.heap.size A ls), Hid (Calls Try.prog 9 #[.agg #[.int .i64 m, .int .i64 n, .slice A l c], .int .i64 t] W (GivesB W ⟨m2, n2, C2⟩ q2 e2)))
    (hE : ((e1 == 0) = false ∧ (e1 != 0) = true) ∨ (((e1 == 0) = true ∧ (e1 != 0) = false) ∧ e2 = 1)) :
    Calls Try.prog 3 #[.agg #[.int .i64 m, .int .i64 n, .slice A l c], .int .i64 t] w fun e w' => e = .returned (.bool true) ∧ Below w.heap.size w w' := by
  have HS0 := Lib.hid (((St.start w).more (rowF A ls) hA).new #[.int .i64 m, .int .i64 n, .slice A l c] 24)
  have HF := fun W => far9_v m n A l c false (by simp; omega) W
  have HE := Lib.hid hE
  clear hA hf hE
  go_enter Try.func3, Try.ntmps3
  go_wp2_with fail
  refine (HF _).mono ?_
  rintro e w1 ⟨rfl, hB⟩
  have HS := Lib.hid (HS0.out.on hB)
  clear hB HS0 HF
  obtain ⟨p1, hp1⟩ : ∃ p, p = w.heap.size := ⟨_, rfl⟩
  rw [← hp1] at HS ⊢
  clear hp1
  go_wp2_with (refine wpList_load_st rfl 24 _ rfl HS.out 0 _ _ rfl rfl _ Try.underlying24 rfl (by rfl) ?_)
  refine (G1 _ (HS.out.fact 0 rfl)).out.mono ?_
  rintro e w2 ⟨A1, c1, rfl, hO, hB⟩
  replace HS := Lib.hid ((HS.out.on hB).more (turnF A1 T1) hO.rows.1)
  clear hO hB G1
  go_wp2_with (refine wpList_load_st rfl 24 _ rfl HS.out 0 _ _ rfl rfl _ Try.underlying24 rfl (by rfl) ?_)
  refine (G2 _ (HS.out.fact 1 rfl)).out.mono ?_
  rintro e w3 ⟨A2, c2, rfl, hO, hB⟩
  replace HS := Lib.hid ((HS.out.on hB).more (rowF A2 C2) hO.alms.1)
  clear hO hB G2
  have key := HE.out
  clear HE
  rcases key with ⟨a1, b1⟩ | ⟨⟨a1, b1⟩, rfl⟩
  all_goals
    go_wp2_with (refine wpList_store_st rfl 24 _ _ rfl HS.out _ #[.int .i64 m2, .int .i64 n2, .slice A2 q2 c2] _ rfl rfl (by rfl) rfl (bd_one m2 n2 A2 q2 c2) ?_; intro p4 v4 hp hS hBn; (try rw [← hp]); clear HS; have HS := Lib.hid hS; clear hS hp hBn)
    refine (HC.out _).mono ?_
    rintro e w6 ⟨rfl, hB⟩
    replace HS := Lib.hid (HS.out.on hB)
    clear hB
    go_wp2
    go_ret
    exact ⟨rfl, HS.out.below⟩

/-- What holds ahead of each round of the outer loop. -/
def PRel9 (w5 : World) (i : Value) (wr : World) : Prop := ∃ k : Nat, i = .int .i64 (k : Int) ∧ Hid (Below w5.heap.size w5 wr)
/-- .. of the inner one. -/
def PIn9 (wi : World) (T : List Trn) (b c ph : Int) (q : Nat) (pv i : Value) (wr : World) : Prop := ∃ (j r : Nat), j ≤ q ∧ pv = .int .i64 (Du.lastP b c ph (T.take j)) ∧ i = .int .i64 (j : Int) ∧ wr = wi.drewN r

def CutP9 (w w5 : World) (m n t : Int) (A1 A2 : Option Addr) (l c c2 : Nat) (ls C : List Alm) (T : List Trn) (p1 p4 b0 o0 k : Nat) (x0 x1 x2 x3 x4 x5 y0 y1 y2 y3 y4 y5 : Int) (s12 s13 : Value) (wx : World) : Prop :=
  ∃ p, s12 = .pointer (some ⟨p, 0, none⟩) ∧ s13 = .bool true ∧ Hid (St w wx ((p, (sixV ⟨y0, y1, y2, y3, y4, y5⟩)) :: [(p4, #[.int .i64 m, .int .i64 t, .slice A2 l c2]), (p1, #[.int .i64 m, .int .i64 n, .slice (some ⟨b0, o0, none⟩) l c])]) [rowF A2 C, turnF A1 T, rowF (some ⟨b0, o0, none⟩) ls]) ∧ Hid (Al6 wx b0 (o0 + k * 6) ⟨x0, x1, x2, x3, x4, x5⟩) ∧ Hid (Below w5.heap.size w5 wx)

set_option maxHeartbeats 8000000 in
theorem duePass_ok (HD : Hid DueK) (HB9 : Hid BoardK9) (HP9 : Hid PassK9) (HC : Hid ComingK) (m n : Int) (A : Option Addr) (l c : Nat) (ls : List Alm) (t : Int) (w : World) (hl : l = ls.length) (hA : AlmsAt w w.heap.size A ls) (h0 : A = none → c = 0) (hf : l ≤ 60) (hE : Du.turnsE m n ls t = 0) (hE2 : Bd.passE m n ls t = 0) :
    Calls Try.prog 3 #[.agg #[.int .i64 m, .int .i64 n, .slice A l c], .int .i64 t] w fun e w' => e = .returned (.bool true) ∧ Below w.heap.size w w' := by
  have HS0 := Lib.hid (((St.start w).more (rowF A ls) hA).new #[.int .i64 m, .int .i64 n, .slice A l c] 24)
  have HF := fun W => far9_v m n A l c false (by simp; omega) W
  obtain ⟨T, hT⟩ : ∃ T, T = Du.turns m n ls t := ⟨_, rfl⟩
  obtain ⟨q, hq⟩ : ∃ q, q = T.length := ⟨_, rfl⟩
  obtain ⟨C, hC⟩ : ∃ C, C = Bd.passL t ls := ⟨_, rfl⟩
  have hlC : l = C.length := by rw [hC, Bd.pass_len]; exact hl
  have hpE := Bd.passE_iff.1 hE2
  have hpw := (Bd.rows_iff.1 (Bd.isB_iff.1 hpE.1).2.2.2).2
  have Hx : Hid (∀ k (hk : k < ls.length), Bd.getA ls[k].b ls[k].c C = (Am.pass ls[k] t, true) ∧ Du.atP ls[k].b ls[k].c t ls = (Am.pass ls[k] t).ph ∧ Bd.has ls[k].b ls[k].c ls = true ∧ Du.lastP ls[k].b ls[k].c ls[k].ph T = (Am.pass ls[k] t).ph) := Lib.hid (fun k hk => by
    have g := Bd.getA_at hpw k hk
    have hh : Bd.has ls[k].b ls[k].c ls = true := by unfold Bd.has; rw [g]
    refine ⟨by rw [hC]; exact Bd.pass_get hE2 k hk, ?_, hh, by rw [hT]; exact Du.last hE (List.getElem_mem hk)⟩
    unfold Du.atP
    rw [hh, g]
    rfl)
  have e2 : Bd.pass m n ls t = ⟨m, t, C⟩ := by unfold Bd.pass; rw [if_pos hE2, hC]
  have G1 := fun (W : World) (h : AlmsAt W W.heap.size A ls) => Lib.hid (by have k := HD.out.turns m n A l c ls t q W ⟨hl, h, h0, by omega⟩ (by rw [hq, hT]); rw [hE, ← hT] at k; exact k)
  have G2 := fun (W : World) (h : AlmsAt W W.heap.size A ls) => Lib.hid (by have k := HP9.out m n A l c ls t l W ⟨hl, h, h0, by omega⟩ (by rw [e2]; exact hlC); rw [e2, hE2] at k; exact k)
  have G3 := fun (W : World) (A2 : Option Addr) (c2 : Nat) (b ch : Int) (x : Alm) (hx : Bd.getA b ch C = (x, true)) (h : AlmsAt W W.heap.size A2 C) (h1 : A2 = none → c2 = 0) => Lib.hid (by have k := HB9.out.get m t A2 l c2 C b ch W ⟨hlC, h, h1, by omega⟩; rw [hx] at k; exact k)
  have G4 := fun (W : World) (b ch p : Int) (hp : Du.atP b ch t ls = p) (hh : Bd.has b ch ls = true) (h : AlmsAt W W.heap.size A ls) => Lib.hid (by have k := HD.out.at' m n A l c ls b ch t W ⟨hl, h, h0, by omega⟩; rw [hp, hh] at k; exact k)
  have Hl := Lib.hid hl
  have Hf := Lib.hid hf
  have Hq := Lib.hid hq
  have Hq2 : Hid (q ≤ 1000) := Lib.hid (by rw [hq, hT]; unfold Du.turns; rw [if_pos hE, Du.order_len]; have := Du.turnsL_len t ls; omega)
  clear hA hf hE hE2 hT hq hC hlC hpE hpw e2 hl h0
  go_enter Try.func3, Try.ntmps3
  go_wp2_with fail
  refine (HF _).mono ?_
  rintro e w1 ⟨rfl, hB⟩
  have HS := Lib.hid (HS0.out.on hB)
  clear hB HS0 HF
  obtain ⟨p1, hp1⟩ : ∃ p, p = w.heap.size := ⟨_, rfl⟩
  rw [← hp1] at HS ⊢
  clear hp1
  go_wp2_with (refine wpList_load_st rfl 24 _ rfl HS.out 0 _ _ rfl rfl _ Try.underlying24 rfl (by rfl) ?_)
  refine (G1 _ (HS.out.fact 0 rfl)).out.mono ?_
  rintro e w2 ⟨A1, c1, rfl, hO, hB⟩
  replace HS := Lib.hid ((HS.out.on hB).more (turnF A1 T) hO.rows.1)
  clear hO hB G1
  go_wp2_with (refine wpList_load_st rfl 24 _ rfl HS.out 0 _ _ rfl rfl _ Try.underlying24 rfl (by rfl) ?_)
  refine (G2 _ (HS.out.fact 1 rfl)).out.mono ?_
  rintro e w3 ⟨A2, c2, rfl, hO, hB⟩
  have N2 := Lib.hid hO.alms.2
  replace HS := Lib.hid ((HS.out.on hB).more (rowF A2 C) hO.alms.1)
  clear hO hB G2
  go_wp2_with (refine wpList_store_st rfl 24 _ _ rfl HS.out _ #[.int .i64 m, .int .i64 t, .slice A2 l c2] _ rfl rfl (by rfl) rfl (bd_one m t A2 l c2) ?_; intro p4 v4 hp hS hBn; (try rw [← hp]); clear HS; have HS := Lib.hid hS; clear hS hp hBn)
  obtain ⟨w5, hw5⟩ : ∃ W, W = v4 := ⟨_, rfl⟩
  rw [← hw5] at HS ⊢
  clear hw5
  go_loopw [9] (fun i wr => PRel9 w5 i wr) (fun i _ => l - (intOf i).toNat)
  case atStart => exact ⟨0, rfl, Lib.hid (Below.refl _ _)⟩
  case round =>
    obtain ⟨k, rfl, HB⟩ := hrel
    have HSr := Lib.hid (HS.out.on HB.out)
    have s2 := HSr.out.cell 1 rfl 2 rfl
    by_cases hlt : k < l
    · have kl : k < ls.length := by rw [← Hl.out]; exact hlt
      have HA : Hid (AlmsAt wr wr.heap.size A ls) := Lib.hid (HSr.out.fact 2 rfl)
      obtain ⟨b0, o0, rfl, hb0, h6⟩ := HA.out k kl
      have hx := Hx.out k kl
      obtain ⟨x, hxe⟩ : ∃ x, x = ls[k]'kl := ⟨_, rfl⟩
      rw [← hxe] at h6 hx
      clear hxe
      obtain ⟨x0, x1, x2, x3, x4, x5⟩ := x
      obtain ⟨y, hy⟩ : ∃ y, y = Am.pass ⟨x0, x1, x2, x3, x4, x5⟩ t := ⟨_, rfl⟩
      simp only [← hy] at hx
      clear hy
      obtain ⟨y0, y1, y2, y3, y4, y5⟩ := y
      obtain ⟨hx1, hx2, hx3, hx4⟩ := hx
      have g3 := fun (W : World) (h : AlmsAt W W.heap.size A2 C) => G3 W A2 c2 x0 x1 ⟨y0, y1, y2, y3, y4, y5⟩ hx1 h N2.out
      have g4 := fun (W : World) (h : AlmsAt W W.heap.size (some ⟨b0, o0, none⟩) ls) => G4 W x0 x1 y2 hx2 hx3 h
      have Hlast : Hid (Du.lastP x0 x1 x2 T = y2) := Lib.hid hx4
      have d0 := h6.c0
      have d1 := h6.c1
      have d2 := h6.c2
      have d3 := h6.c3
      have d4 := h6.c4
      have d5 := h6.c5
      simp only at d0 d1 d2 d3 d4 d5
      have i1 : (k : Int) < (l : Int) := by omega
      have i3 : (0 : Int) ≤ (k : Int) := by omega
      have Ik : Hid (wrap64 ((k : Int) + 1) = (k : Int) + 1) := Lib.hid (by have := Hf.out; unfold wrap64; omega)
      have Hk := Lib.hid hlt
      have H6 := Lib.hid h6
      have Hb0 := Lib.hid hb0
      clear kl hlt hx1 hx2 hx3 hx4 Hx G3 G4 h6 hb0
      go_wp2_with fail
      go_loopw [10, 11] (fun pv i wj => PIn9 wr T x0 x1 x2 q pv i wj) (fun _ i _ => q - (intOf i).toNat)
      case atStart => exact ⟨0, 0, Nat.zero_le _, rfl, rfl, rfl⟩
      case round =>
        obtain ⟨j, r, hj, rfl, rfl, rfl⟩ := hrel
        by_cases hjl : j < q
        · have jl : j < T.length := by rw [← Hq.out]; exact hjl
          have HA1 : Hid (TrnsAt wr wr.heap.size A1 T) := Lib.hid (HSr.out.fact 1 rfl)
          obtain ⟨b1, o1, rfl, hb1, h4⟩ := HA1.out j jl
          have Hs := Lib.hid (Du.lastP_take_succ x0 x1 x2 T j jl)
          obtain ⟨u, hu⟩ : ∃ u, u = T[j] := ⟨_, rfl⟩
          rw [← hu] at h4 Hs
          clear hu
          obtain ⟨u0, u1, u2, u3⟩ := u
          have f0 := h4.c0
          have f1 := h4.c1
          have f2 := h4.c2
          have f3 := h4.c3
          simp only at f0 f1 f2 f3
          have j1 : (j : Int) < (q : Int) := by omega
          have j3 : (0 : Int) ≤ (j : Int) := by omega
          have Ij : Hid (wrap64 ((j : Int) + 1) = (j : Int) + 1) := Lib.hid (by have := Hq2.out; unfold wrap64; omega)
          have Hj := Lib.hid hjl
          obtain ⟨z, hz⟩ : ∃ z, z = decide (u1 = x0 ∧ u2 = x1) := ⟨_, rfl⟩
          have hqz := fun W => run_eql_sp u1 u2 x0 x1 z hz W
          have Ha : Hid (Du.isAt x0 x1 ⟨u0, u1, u2, u3⟩ = z) := Lib.hid (by rw [hz]; unfold Du.isAt; by_cases h1 : u1 = x0 <;> by_cases h2 : u2 = x1 <;> simp [h1, h2])
          clear h4 jl hj hjl hz hb1
          cases z
          · have He : Hid (Du.lastP x0 x1 x2 (T.take (j + 1)) = Du.lastP x0 x1 x2 (T.take j)) := Lib.hid (by rw [Hs.out, Ha.out]; rfl)
            clear Hs Ha
            go_wp2
            go_quiet (fail)
            go_wp2
            go_roundw
            case rel => exact ⟨j + 1, _, Hj.out, by rw [He.out], by first | rfl | (rw [Ij.out]; rfl), rfl⟩
            case measure => have := Hj.out; (try rw [Ij.out]); simp [intOf]; omega
          · have He : Hid (Du.lastP x0 x1 x2 (T.take (j + 1)) = u3) := Lib.hid (by rw [Hs.out, Ha.out]; rfl)
            clear Hs Ha
            go_wp2
            go_quiet (fail)
            go_wp2
            go_roundw
            case rel => exact ⟨j + 1, _, Hj.out, by rw [He.out], by first | rfl | (rw [Ij.out]; rfl), rfl⟩
            case measure => have := Hj.out; (try rw [Ij.out]); simp [intOf]; omega
        · have ij : ((j : Int) < (q : Int)) = False := eq_false (by omega)
          have He : Hid (Du.lastP x0 x1 x2 (T.take j) = y2) := Lib.hid (by rw [List.take_of_length_le (by have := Hq.out; omega)]; exact Hlast.out)
          rw [He.out]
          replace HSr := Lib.hid (HSr.out.drewN r)
          replace HB := Lib.hid (below_drew HB.out r)
          replace H6 : Hid (Al6 (wr.drewN r) b0 (o0 + k * 6) ⟨x0, x1, x2, x3, x4, x5⟩) := Lib.hid (H6.out.below (below_drew (Below.refl _ _) r) Hb0.out)
          replace Hb0 : Hid (b0 < (wr.drewN r).heap.size) := Lib.hid Hb0.out
          clear He hj hjl HA d0 d1 d2 d3 d4 d5 s2
          obtain ⟨wj, hwj⟩ : ∃ W, W = wr.drewN r := ⟨_, rfl⟩
          rw [← hwj] at HSr HB H6 Hb0 ⊢
          clear hwj
          go_wp2_with fail
          go_cut [12, 13] (fun s12 s13 wx => CutP9 w w5 m n t A1 A2 l c c2 ls C T p1 p4 b0 o0 k x0 x1 x2 x3 x4 x5 y0 y1 y2 y3 y4 y5 s12 s13 wx)
          case first =>
            have hS := HSr.out
            have hBB := HB.out
            have h6 := H6.out
            have hb0 := Hb0.out
            clear HSr HB H6 Hb0
            refine wp_region_held_drew (S := (fun W : World => St w W [(p4, #[.int .i64 m, .int .i64 t, .slice A2 l c2]), (p1, #[.int .i64 m, .int .i64 n, .slice (some ⟨b0, o0, none⟩) l c])] [] ∧ Al6 W b0 (o0 + k * 6) ⟨x0, x1, x2, x3, x4, x5⟩)) (by kernel_rfl) (by first | exact ⟨hS.pick8 _ (by simp), h6⟩ | exact ⟨hS.drew.pick8 _ (by simp), h6.drew⟩) (fun hHeld => ?_)
            refine wpAnyH_take (i := 0) (oi := { dst := some 82, op := Op.load 24 (Operand.tmp 7), type := 24, pos := _, after := #[], guard := none }) (v := ?_) rfl (by kernel_rfl) (by kernel_rfl) (by kernel_rfl) (fun _ _ _ h => h) (Or.inl ⟨by rfl, ?hy⟩) hHeld ?_
            case hy => intro w0 hSw; refine exec_load_st8 24 (Operand.tmp 7) ?_ hSw.1 0 _ _ rfl ?_ _ Try.underlying24 rfl (by rfl) <;> rfl
            (try simp only [Act.put, List.setIfInBounds_toArray, List.set_cons_zero, List.set_cons_succ])
            refine wpAnyH_take (i := 1) (oi := { dst := some 83, op := Op.fieldAddr 24 (Operand.tmp 2) 2, type := 0, pos := _, after := #[], guard := none }) (v := ?_) rfl (by kernel_rfl) (by kernel_rfl) (by kernel_rfl) (fun _ _ _ h => h) (Or.inl ⟨by rfl, ?hy⟩) hHeld ?_
            case hy => intro w0 hSw; clear hSw; go_simp; (try with_reducible rfl)
            (try simp only [Act.put, List.setIfInBounds_toArray, List.set_cons_zero, List.set_cons_succ])
            refine wpAnyH_take (i := 2) (oi := { dst := some 84, op := Op.load 22 (Operand.tmp 83), type := 22, pos := _, after := #[{ on := 1, ground := Ground.data }], guard := none }) (v := ?_) rfl (by kernel_rfl) (by kernel_rfl) (by kernel_rfl) (fun _ _ _ h => h) (Or.inl ⟨by rfl, ?hy⟩) hHeld ?_
            case hy => intro w0 hSw; have q2 := hSw.1.cell 1 rfl 2 rfl; clear hSw; go_simp; (try with_reducible rfl)
            (try simp only [Act.put, List.setIfInBounds_toArray, List.set_cons_zero, List.set_cons_succ])
            refine wpAnyH_take (i := 3) (oi := { dst := some 85, op := Op.move (Operand.tmp 9), type := 3, pos := _, after := #[], guard := none }) (v := ?_) rfl (by kernel_rfl) (by kernel_rfl) (by kernel_rfl) (fun _ _ _ h => h) (Or.inl ⟨by rfl, ?hy⟩) hHeld ?_
            case hy => intro w0 hSw; clear hSw; go_simp; (try with_reducible rfl)
            (try simp only [Act.put, List.setIfInBounds_toArray, List.set_cons_zero, List.set_cons_succ])
            refine wpAnyH_take (i := 4) (oi := { dst := some 86, op := Op.indexAddr 22 (Operand.tmp 84) (Operand.tmp 85), type := 0, pos := _, after := #[{ on := 2, ground := Ground.data }, { on := 3, ground := Ground.data }], guard := none }) (v := ?_) rfl (by kernel_rfl) (by kernel_rfl) (by kernel_rfl) (fun _ _ _ h => h) (Or.inl ⟨by rfl, ?hy⟩) hHeld ?_
            case hy => intro w0 hSw; clear hSw; go_simp; (try with_reducible rfl)
            (try simp only [Act.put, List.setIfInBounds_toArray, List.set_cons_zero, List.set_cons_succ])
            refine wpAnyH_take (i := 5) (oi := { dst := some 87, op := Op.fieldAddr 36 (Operand.tmp 86) 0, type := 0, pos := _, after := #[{ on := 4, ground := Ground.data }], guard := none }) (v := ?_) rfl (by kernel_rfl) (by kernel_rfl) (by kernel_rfl) (fun _ _ _ h => h) (Or.inl ⟨by rfl, ?hy⟩) hHeld ?_
            case hy => intro w0 hSw; clear hSw; go_simp; (try with_reducible rfl)
            (try simp only [Act.put, List.setIfInBounds_toArray, List.set_cons_zero, List.set_cons_succ])
            refine wpAnyH_take (i := 6) (oi := { dst := some 88, op := Op.load 34 (Operand.tmp 87), type := 34, pos := _, after := #[{ on := 5, ground := Ground.data }], guard := none }) (v := ?_) rfl (by kernel_rfl) (by kernel_rfl) (by kernel_rfl) (fun _ _ _ h => h) (Or.inl ⟨by rfl, ?hy⟩) hHeld ?_
            case hy => intro w0 hSw; have q0 := hSw.2.c0; have q1 := hSw.2.c1; dsimp only at q0 q1; clear hSw; go_simp; (try with_reducible rfl)
            (try simp only [Act.put, List.setIfInBounds_toArray, List.set_cons_zero, List.set_cons_succ])
            refine wpAnyH_ready (rs := [7, 11]) (by kernel_rfl) (by simp) ?_
            refine AllReadyH.cons (o := { dst := some 89, op := Op.call { callee := Callee.value (Operand.func 11), args := #[Operand.tmp 82, Operand.tmp 88], argTypes := #[24, 34] }, type := 39, pos := _, after := #[{ on := 0, ground := Ground.data }, { on := 6, ground := Ground.data }], guard := none }) rfl (fun K hK => ?_) (AllReadyH.cons (o := { dst := some 12, op := Op.alloc 36, type := 0, pos := _, after := #[], guard := none }) rfl (fun K hK => ?_) AllReadyH.nil)
            · go_simp
              refine (g3 _ (by first | exact hS.fact 0 rfl | exact hS.drew.fact 0 rfl)).out.mono ?_
              rintro e w7 ⟨rfl, hB'⟩
              replace h6 : Al6 w7 b0 (o0 + k * 6) ⟨x0, x1, x2, x3, x4, x5⟩ := (by first | exact h6.below hB' hb0 | exact h6.drew.below hB' hb0)
              have hb7 : b0 < w7.heap.size := Nat.lt_of_lt_of_le hb0 hB'.size
              replace hBB : Below w5.heap.size w5 w7 := (by first | exact below2 hBB hB' | exact below2 (below_drew hBB 1) hB')
              replace hS : St w w7 [(p4, #[.int .i64 m, .int .i64 t, .slice A2 l c2]), (p1, #[.int .i64 m, .int .i64 n, .slice (some ⟨b0, o0, none⟩) l c])] [rowF A2 C, turnF A1 T, rowF (some ⟨b0, o0, none⟩) ls] := (by first | exact hS.on hB' | exact hS.drew.on hB')
              clear hB'
              go_wp2_with fail
              refine hK.out _ _ (by first | exact ⟨hS.pick8 _ (by simp), h6⟩ | exact ⟨hS.drew.pick8 _ (by simp), h6.drew⟩) (fun hHeld => ?_)
              clear hK K
              (try simp only [Act.put, List.setIfInBounds_toArray, List.set_cons_zero, List.set_cons_succ])
              refine wpAnyH_take (i := 8) (oi := { dst := some 81, op := Op.move (Operand.tmp 89), type := 39, pos := _, after := #[{ on := 7, ground := Ground.data }], guard := none }) (v := ?_) rfl (by kernel_rfl) (by kernel_rfl) (by kernel_rfl) (fun _ _ _ h => h) (Or.inl ⟨by rfl, ?hy⟩) hHeld ?_
              case hy => intro w0 hSw; clear hSw; go_simp; (try with_reducible rfl)
              (try simp only [Act.put, List.setIfInBounds_toArray, List.set_cons_zero, List.set_cons_succ])
              refine wpAnyH_take (i := 9) (oi := { dst := some 90, op := Op.extract (Operand.tmp 81) 0, type := 36, pos := _, after := #[{ on := 8, ground := Ground.data }], guard := none }) (v := ?_) rfl (by kernel_rfl) (by kernel_rfl) (by kernel_rfl) (fun _ _ _ h => h) (Or.inl ⟨by rfl, ?hy⟩) hHeld ?_
              case hy => intro w0 hSw; clear hSw; go_simp; (try with_reducible rfl)
              (try simp only [Act.put, List.setIfInBounds_toArray, List.set_cons_zero, List.set_cons_succ])
              refine wpAnyH_take (i := 10) (oi := { dst := some 91, op := Op.extract (Operand.tmp 81) 1, type := 4, pos := _, after := #[{ on := 8, ground := Ground.data }, { on := 12, ground := Ground.gcOnly Departure.lateStores }], guard := none }) (v := ?_) rfl (by kernel_rfl) (by kernel_rfl) (by kernel_rfl) (fun _ _ _ h => h) (Or.inl ⟨by rfl, ?hy⟩) hHeld ?_
              case hy => intro w0 hSw; clear hSw; go_simp; (try with_reducible rfl)
              (try simp only [Act.put, List.setIfInBounds_toArray, List.set_cons_zero, List.set_cons_succ])
              refine wpAnyH_ready (rs := [11]) (by kernel_rfl) (by simp) ?_
              refine AllReadyH.cons (o := { dst := some 12, op := Op.alloc 36, type := 0, pos := _, after := #[], guard := none }) rfl (fun K hK => ?_) AllReadyH.nil
              go_simp
              have hS0 := hS
              have hbU := below_new w7 (.cells #[.int .i64 0, .int .i64 0, .int .i64 0, .int .i64 0, .int .i64 0, .int .i64 0] 36)
              have hkU : w7.heap.size ≤ w7.heap.size := Nat.le_refl _
              have hbp : b0 ≠ w7.heap.size := by omega
              have hkB : w5.heap.size ≤ w7.heap.size := hBB.size
              replace hS := hS.new #[.int .i64 0, .int .i64 0, .int .i64 0, .int .i64 0, .int .i64 0, .int .i64 0] 36
              replace h6 := h6.below hbU hb7
              replace hBB := below2 hBB hbU
              refine hK.out _ _ (by first | exact ⟨hS.pick8 _ (by simp), h6⟩ | exact ⟨hS.drew.pick8 _ (by simp), h6.drew⟩) (fun hHeld => ?_)
              clear hK K
              (try simp only [Act.put, List.setIfInBounds_toArray, List.set_cons_zero, List.set_cons_succ])
              refine wpAnyH_ready (rs := [12]) (by kernel_rfl) (by simp) ?_
              refine AllReadyH.cons (o := { dst := none, op := Op.store 36 (Operand.tmp 12) (Operand.tmp 90), type := 0, pos := _, after := #[{ on := 11, ground := Ground.data }, { on := 9, ground := Ground.data }, { on := 7, ground := Ground.chain }, { on := 0, ground := Ground.phase }, { on := 1, ground := Ground.phase }, { on := 2, ground := Ground.phase }, { on := 3, ground := Ground.phase }, { on := 4, ground := Ground.phase }, { on := 5, ground := Ground.phase }, { on := 6, ground := Ground.phase }, { on := 7, ground := Ground.phase }, { on := 8, ground := Ground.phase }, { on := 9, ground := Ground.phase }, { on := 10, ground := Ground.textOnly Departure.lateStores }, { on := 11, ground := Ground.phase }], guard := none }) rfl (fun K hK => ?_) AllReadyH.nil
              rw [if_pos (by rfl)]
              obtain ⟨tz, hz⟩ := hS.live (w7.heap.size, #[.int .i64 0, .int .i64 0, .int .i64 0, .int .i64 0, .int .i64 0, .int .i64 0]) (by simp)
              refine wp_store_row 36 _ _ rfl w7.heap.size (sixV ⟨y0, y1, y2, y3, y4, y5⟩) rfl rfl tz _ hz (by rfl) rfl (six_one ⟨y0, y1, y2, y3, y4, y5⟩) ?_
              replace hS := hS0.rowSet hS hbU hkU (cs := (sixV ⟨y0, y1, y2, y3, y4, y5⟩))
              replace h6 := h6.row (k := w7.heap.size) (sixV ⟨y0, y1, y2, y3, y4, y5⟩) hbp
              replace hBB := below_setRow hBB hkB (sixV ⟨y0, y1, y2, y3, y4, y5⟩)
              clear hz
              refine hK.out _ _ (by first | exact ⟨hS.pick8 _ (by simp), h6⟩ | exact ⟨hS.drew.pick8 _ (by simp), h6.drew⟩) (fun hHeld => ?_)
              clear hK K
              (try simp only [Act.put])
              refine wpAnyH_take (i := 13) (oi := { dst := some 13, op := Op.assign (Operand.tmp 91), type := 4, pos := _, after := #[{ on := 10, ground := Ground.data }, { on := 12, ground := Ground.chain }, { on := 0, ground := Ground.phase }, { on := 1, ground := Ground.phase }, { on := 2, ground := Ground.phase }, { on := 3, ground := Ground.phase }, { on := 4, ground := Ground.phase }, { on := 5, ground := Ground.phase }, { on := 6, ground := Ground.phase }, { on := 7, ground := Ground.phase }, { on := 8, ground := Ground.phase }, { on := 9, ground := Ground.phase }, { on := 10, ground := Ground.phase }, { on := 11, ground := Ground.phase }, { on := 12, ground := Ground.phase }], guard := none }) (v := ?_) rfl (by kernel_rfl) (by kernel_rfl) (by kernel_rfl) (fun _ _ _ h => h) (Or.inl ⟨by rfl, ?hy⟩) hHeld ?_
              case hy => intro w0 hSw; clear hSw; go_simp; (try with_reducible rfl)
              (try simp only [Act.put, List.setIfInBounds_toArray, List.set_cons_zero, List.set_cons_succ])
              refine wpAnyH_done (by kernel_rfl) ?_ _
              clear hHeld
              go_wp2_with fail
              go_meet
              exact ⟨_, rfl, rfl, Lib.hid hS, Lib.hid h6, Lib.hid hBB⟩
            · go_simp
              have hS0 := hS
              have hbU0 : Below wj.heap.size wj (wj.alloc (.cells #[.int .i64 0, .int .i64 0, .int .i64 0, .int .i64 0, .int .i64 0, .int .i64 0] 36)).drew := below_drew (below_new wj (.cells #[.int .i64 0, .int .i64 0, .int .i64 0, .int .i64 0, .int .i64 0, .int .i64 0] 36)) 1
              have hkU : wj.heap.size ≤ wj.heap.size := Nat.le_refl _
              have hbp : b0 ≠ wj.heap.size := by omega
              have hkB : w5.heap.size ≤ wj.heap.size := hBB.size
              replace hS : St w (wj.alloc (.cells #[.int .i64 0, .int .i64 0, .int .i64 0, .int .i64 0, .int .i64 0, .int .i64 0] 36)).drew ((wj.heap.size, #[.int .i64 0, .int .i64 0, .int .i64 0, .int .i64 0, .int .i64 0, .int .i64 0]) :: [(p4, #[.int .i64 m, .int .i64 t, .slice A2 l c2]), (p1, #[.int .i64 m, .int .i64 n, .slice (some ⟨b0, o0, none⟩) l c])]) [rowF A2 C, turnF A1 T, rowF (some ⟨b0, o0, none⟩) ls] := (hS.new #[.int .i64 0, .int .i64 0, .int .i64 0, .int .i64 0, .int .i64 0, .int .i64 0] 36).drew
              replace h6 : Al6 (wj.alloc (.cells #[.int .i64 0, .int .i64 0, .int .i64 0, .int .i64 0, .int .i64 0, .int .i64 0] 36)).drew b0 (o0 + k * 6) ⟨x0, x1, x2, x3, x4, x5⟩ := (h6.below (below_new wj (.cells #[.int .i64 0, .int .i64 0, .int .i64 0, .int .i64 0, .int .i64 0, .int .i64 0] 36)) hb0).drew
              have hb8 : b0 < ((wj.alloc (.cells #[.int .i64 0, .int .i64 0, .int .i64 0, .int .i64 0, .int .i64 0, .int .i64 0] 36)).drew).heap.size := Nat.lt_of_lt_of_le hb0 hbU0.size
              replace hBB : Below w5.heap.size w5 (wj.alloc (.cells #[.int .i64 0, .int .i64 0, .int .i64 0, .int .i64 0, .int .i64 0, .int .i64 0] 36)).drew := below2 hBB hbU0
              refine hK.out _ _ (by first | exact ⟨hS.pick8 _ (by simp), h6⟩ | exact ⟨hS.drew.pick8 _ (by simp), h6.drew⟩) (fun hHeld => ?_)
              clear hK K
              (try simp only [Act.put, List.setIfInBounds_toArray, List.set_cons_zero, List.set_cons_succ])
              refine wpAnyH_ready (rs := [7]) (by kernel_rfl) (by simp) ?_
              refine AllReadyH.cons (o := { dst := some 89, op := Op.call { callee := Callee.value (Operand.func 11), args := #[Operand.tmp 82, Operand.tmp 88], argTypes := #[24, 34] }, type := 39, pos := _, after := #[{ on := 0, ground := Ground.data }, { on := 6, ground := Ground.data }], guard := none }) rfl (fun K hK => ?_) AllReadyH.nil
              go_simp
              refine (g3 _ (by first | exact hS.fact 0 rfl | exact hS.drew.fact 0 rfl)).out.mono ?_
              rintro e w8 ⟨rfl, hB'⟩
              replace h6 : Al6 w8 b0 (o0 + k * 6) ⟨x0, x1, x2, x3, x4, x5⟩ := (by first | exact h6.below hB' hb8 | exact h6.drew.below hB' hb8)
              have hb7 : b0 < w8.heap.size := Nat.lt_of_lt_of_le hb8 hB'.size
              replace hBB : Below w5.heap.size w5 w8 := below2 hBB hB'
              have hbU := below2 hbU0 hB'
              replace hS : St w w8 ((wj.heap.size, #[.int .i64 0, .int .i64 0, .int .i64 0, .int .i64 0, .int .i64 0, .int .i64 0]) :: [(p4, #[.int .i64 m, .int .i64 t, .slice A2 l c2]), (p1, #[.int .i64 m, .int .i64 n, .slice (some ⟨b0, o0, none⟩) l c])]) [rowF A2 C, turnF A1 T, rowF (some ⟨b0, o0, none⟩) ls] := (by first | exact hS.on hB' | exact hS.drew.on hB')
              clear hB'
              go_wp2_with fail
              refine hK.out _ _ (by first | exact ⟨hS.pick8 _ (by simp), h6⟩ | exact ⟨hS.drew.pick8 _ (by simp), h6.drew⟩) (fun hHeld => ?_)
              clear hK K
              (try simp only [Act.put, List.setIfInBounds_toArray, List.set_cons_zero, List.set_cons_succ])
              refine wpAnyH_take (i := 8) (oi := { dst := some 81, op := Op.move (Operand.tmp 89), type := 39, pos := _, after := #[{ on := 7, ground := Ground.data }], guard := none }) (v := ?_) rfl (by kernel_rfl) (by kernel_rfl) (by kernel_rfl) (fun _ _ _ h => h) (Or.inl ⟨by rfl, ?hy⟩) hHeld ?_
              case hy => intro w0 hSw; clear hSw; go_simp; (try with_reducible rfl)
              (try simp only [Act.put, List.setIfInBounds_toArray, List.set_cons_zero, List.set_cons_succ])
              refine wpAnyH_take (i := 9) (oi := { dst := some 90, op := Op.extract (Operand.tmp 81) 0, type := 36, pos := _, after := #[{ on := 8, ground := Ground.data }], guard := none }) (v := ?_) rfl (by kernel_rfl) (by kernel_rfl) (by kernel_rfl) (fun _ _ _ h => h) (Or.inl ⟨by rfl, ?hy⟩) hHeld ?_
              case hy => intro w0 hSw; clear hSw; go_simp; (try with_reducible rfl)
              (try simp only [Act.put, List.setIfInBounds_toArray, List.set_cons_zero, List.set_cons_succ])
              refine wpAnyH_take (i := 10) (oi := { dst := some 91, op := Op.extract (Operand.tmp 81) 1, type := 4, pos := _, after := #[{ on := 8, ground := Ground.data }, { on := 12, ground := Ground.gcOnly Departure.lateStores }], guard := none }) (v := ?_) rfl (by kernel_rfl) (by kernel_rfl) (by kernel_rfl) (fun _ _ _ h => h) (Or.inl ⟨by rfl, ?hy⟩) hHeld ?_
              case hy => intro w0 hSw; clear hSw; go_simp; (try with_reducible rfl)
              (try simp only [Act.put, List.setIfInBounds_toArray, List.set_cons_zero, List.set_cons_succ])
              refine wpAnyH_ready (rs := [12]) (by kernel_rfl) (by simp) ?_
              refine AllReadyH.cons (o := { dst := none, op := Op.store 36 (Operand.tmp 12) (Operand.tmp 90), type := 0, pos := _, after := #[{ on := 11, ground := Ground.data }, { on := 9, ground := Ground.data }, { on := 7, ground := Ground.chain }, { on := 0, ground := Ground.phase }, { on := 1, ground := Ground.phase }, { on := 2, ground := Ground.phase }, { on := 3, ground := Ground.phase }, { on := 4, ground := Ground.phase }, { on := 5, ground := Ground.phase }, { on := 6, ground := Ground.phase }, { on := 7, ground := Ground.phase }, { on := 8, ground := Ground.phase }, { on := 9, ground := Ground.phase }, { on := 10, ground := Ground.textOnly Departure.lateStores }, { on := 11, ground := Ground.phase }], guard := none }) rfl (fun K hK => ?_) AllReadyH.nil
              rw [if_pos (by rfl)]
              obtain ⟨tz, hz⟩ := hS.live (wj.heap.size, #[.int .i64 0, .int .i64 0, .int .i64 0, .int .i64 0, .int .i64 0, .int .i64 0]) (by simp)
              refine wp_store_row 36 _ _ rfl wj.heap.size (sixV ⟨y0, y1, y2, y3, y4, y5⟩) rfl rfl tz _ hz (by rfl) rfl (six_one ⟨y0, y1, y2, y3, y4, y5⟩) ?_
              replace hS := hS0.rowSet hS hbU hkU (cs := (sixV ⟨y0, y1, y2, y3, y4, y5⟩))
              replace h6 := h6.row (k := wj.heap.size) (sixV ⟨y0, y1, y2, y3, y4, y5⟩) hbp
              replace hBB := below_setRow hBB hkB (sixV ⟨y0, y1, y2, y3, y4, y5⟩)
              clear hz
              refine hK.out _ _ (by first | exact ⟨hS.pick8 _ (by simp), h6⟩ | exact ⟨hS.drew.pick8 _ (by simp), h6.drew⟩) (fun hHeld => ?_)
              clear hK K
              (try simp only [Act.put])
              refine wpAnyH_take (i := 13) (oi := { dst := some 13, op := Op.assign (Operand.tmp 91), type := 4, pos := _, after := #[{ on := 10, ground := Ground.data }, { on := 12, ground := Ground.chain }, { on := 0, ground := Ground.phase }, { on := 1, ground := Ground.phase }, { on := 2, ground := Ground.phase }, { on := 3, ground := Ground.phase }, { on := 4, ground := Ground.phase }, { on := 5, ground := Ground.phase }, { on := 6, ground := Ground.phase }, { on := 7, ground := Ground.phase }, { on := 8, ground := Ground.phase }, { on := 9, ground := Ground.phase }, { on := 10, ground := Ground.phase }, { on := 11, ground := Ground.phase }, { on := 12, ground := Ground.phase }], guard := none }) (v := ?_) rfl (by kernel_rfl) (by kernel_rfl) (by kernel_rfl) (fun _ _ _ h => h) (Or.inl ⟨by rfl, ?hy⟩) hHeld ?_
              case hy => intro w0 hSw; clear hSw; go_simp; (try with_reducible rfl)
              (try simp only [Act.put, List.setIfInBounds_toArray, List.set_cons_zero, List.set_cons_succ])
              refine wpAnyH_done (by kernel_rfl) ?_ _
              clear hHeld
              go_wp2_with fail
              go_meet
              exact ⟨_, rfl, rfl, Lib.hid hS, Lib.hid h6, Lib.hid hBB⟩
          case rest =>
            obtain ⟨p, rfl, rfl, HSc, H6c, HBc⟩ := hcut
            clear HSr HB H6 Hb0 HS g3
            have hb0 : b0 < wc.heap.size := by obtain ⟨_, _, e9, h9, _⟩ := (HSc.out.fact 2 rfl) k (by have := Hk.out; have := Hl.out; omega); cases e9; exact h9
            go_wp2_with fail
            have hS := HSc.out
            have hBB := HBc.out
            have h6 := H6c.out
            clear HSc HBc H6c
            refine wp_region_held_drew (S := (fun W : World => St w W [(p4, #[.int .i64 m, .int .i64 t, .slice A2 l c2]), (p1, #[.int .i64 m, .int .i64 n, .slice (some ⟨b0, o0, none⟩) l c])] [] ∧ Al6 W b0 (o0 + k * 6) ⟨x0, x1, x2, x3, x4, x5⟩)) (by kernel_rfl) (by first | exact ⟨hS.pick8 _ (by simp), h6⟩ | exact ⟨hS.drew.pick8 _ (by simp), h6.drew⟩) (fun hHeld => ?_)
            refine wpAnyH_take (i := 0) (oi := { dst := some 93, op := Op.load 24 (Operand.tmp 2), type := 24, pos := _, after := #[], guard := none }) (v := ?_) rfl (by kernel_rfl) (by kernel_rfl) (by kernel_rfl) (fun _ _ _ h => h) (Or.inl ⟨by rfl, ?hy⟩) hHeld ?_
            case hy => intro w0 hSw; refine exec_load_st8 24 (Operand.tmp 2) ?_ hSw.1 1 _ _ rfl ?_ _ Try.underlying24 rfl (by rfl) <;> rfl
            (try simp only [Act.put, List.setIfInBounds_toArray, List.set_cons_zero, List.set_cons_succ])
            refine wpAnyH_take (i := 1) (oi := { dst := some 94, op := Op.fieldAddr 24 (Operand.tmp 2) 2, type := 0, pos := _, after := #[], guard := none }) (v := ?_) rfl (by kernel_rfl) (by kernel_rfl) (by kernel_rfl) (fun _ _ _ h => h) (Or.inl ⟨by rfl, ?hy⟩) hHeld ?_
            case hy => intro w0 hSw; clear hSw; go_simp; (try with_reducible rfl)
            (try simp only [Act.put, List.setIfInBounds_toArray, List.set_cons_zero, List.set_cons_succ])
            refine wpAnyH_take (i := 2) (oi := { dst := some 95, op := Op.load 22 (Operand.tmp 94), type := 22, pos := _, after := #[{ on := 1, ground := Ground.data }], guard := none }) (v := ?_) rfl (by kernel_rfl) (by kernel_rfl) (by kernel_rfl) (fun _ _ _ h => h) (Or.inl ⟨by rfl, ?hy⟩) hHeld ?_
            case hy => intro w0 hSw; have q2 := hSw.1.cell 1 rfl 2 rfl; clear hSw; go_simp; (try with_reducible rfl)
            (try simp only [Act.put, List.setIfInBounds_toArray, List.set_cons_zero, List.set_cons_succ])
            refine wpAnyH_take (i := 3) (oi := { dst := some 96, op := Op.move (Operand.tmp 9), type := 3, pos := _, after := #[], guard := none }) (v := ?_) rfl (by kernel_rfl) (by kernel_rfl) (by kernel_rfl) (fun _ _ _ h => h) (Or.inl ⟨by rfl, ?hy⟩) hHeld ?_
            case hy => intro w0 hSw; clear hSw; go_simp; (try with_reducible rfl)
            (try simp only [Act.put, List.setIfInBounds_toArray, List.set_cons_zero, List.set_cons_succ])
            refine wpAnyH_take (i := 4) (oi := { dst := some 97, op := Op.indexAddr 22 (Operand.tmp 95) (Operand.tmp 96), type := 0, pos := _, after := #[{ on := 2, ground := Ground.data }, { on := 3, ground := Ground.data }], guard := none }) (v := ?_) rfl (by kernel_rfl) (by kernel_rfl) (by kernel_rfl) (fun _ _ _ h => h) (Or.inl ⟨by rfl, ?hy⟩) hHeld ?_
            case hy => intro w0 hSw; clear hSw; go_simp; (try with_reducible rfl)
            (try simp only [Act.put, List.setIfInBounds_toArray, List.set_cons_zero, List.set_cons_succ])
            refine wpAnyH_take (i := 5) (oi := { dst := some 98, op := Op.fieldAddr 36 (Operand.tmp 97) 0, type := 0, pos := _, after := #[{ on := 4, ground := Ground.data }], guard := none }) (v := ?_) rfl (by kernel_rfl) (by kernel_rfl) (by kernel_rfl) (fun _ _ _ h => h) (Or.inl ⟨by rfl, ?hy⟩) hHeld ?_
            case hy => intro w0 hSw; clear hSw; go_simp; (try with_reducible rfl)
            (try simp only [Act.put, List.setIfInBounds_toArray, List.set_cons_zero, List.set_cons_succ])
            refine wpAnyH_take (i := 6) (oi := { dst := some 99, op := Op.load 34 (Operand.tmp 98), type := 34, pos := _, after := #[{ on := 5, ground := Ground.data }], guard := none }) (v := ?_) rfl (by kernel_rfl) (by kernel_rfl) (by kernel_rfl) (fun _ _ _ h => h) (Or.inl ⟨by rfl, ?hy⟩) hHeld ?_
            case hy => intro w0 hSw; have q0 := hSw.2.c0; have q1 := hSw.2.c1; dsimp only at q0 q1; clear hSw; go_simp; (try with_reducible rfl)
            (try simp only [Act.put, List.setIfInBounds_toArray, List.set_cons_zero, List.set_cons_succ])
            refine wpAnyH_take (i := 7) (oi := { dst := some 100, op := Op.move (Operand.tmp 1), type := 3, pos := _, after := #[], guard := none }) (v := ?_) rfl (by kernel_rfl) (by kernel_rfl) (by kernel_rfl) (fun _ _ _ h => h) (Or.inl ⟨by rfl, ?hy⟩) hHeld ?_
            case hy => intro w0 hSw; clear hSw; go_simp; (try with_reducible rfl)
            (try simp only [Act.put, List.setIfInBounds_toArray, List.set_cons_zero, List.set_cons_succ])
            refine wpAnyH_ready (rs := [8]) (by kernel_rfl) (by simp) ?_
            refine AllReadyH.cons (o := { dst := some 101, op := Op.call { callee := Callee.value (Operand.func 12), args := #[Operand.tmp 93, Operand.tmp 99, Operand.tmp 100], argTypes := #[24, 34, 3] }, type := 41, pos := _, after := #[{ on := 0, ground := Ground.data }, { on := 6, ground := Ground.data }, { on := 7, ground := Ground.data }], guard := none }) rfl (fun K hK => ?_) AllReadyH.nil
            go_simp
            refine (g4 _ (by first | exact hS.fact 2 rfl | exact hS.drew.fact 2 rfl)).out.mono ?_
            rintro e w9 ⟨rfl, hB'⟩
            replace h6 : Al6 w9 b0 (o0 + k * 6) ⟨x0, x1, x2, x3, x4, x5⟩ := (by first | exact h6.below hB' hb0 | exact h6.drew.below hB' hb0)
            replace hBB : Below w5.heap.size w5 w9 := (by first | exact below2 hBB hB' | exact below2 (below_drew hBB 1) hB')
            replace hS : St w w9 ((p, (sixV ⟨y0, y1, y2, y3, y4, y5⟩)) :: [(p4, #[.int .i64 m, .int .i64 t, .slice A2 l c2]), (p1, #[.int .i64 m, .int .i64 n, .slice (some ⟨b0, o0, none⟩) l c])]) [rowF A2 C, turnF A1 T, rowF (some ⟨b0, o0, none⟩) ls] := (by first | exact hS.on hB' | exact hS.drew.on hB')
            clear hB' g4
            go_wp2_with fail
            refine hK.out _ _ (by first | exact ⟨hS.pick8 _ (by simp), h6⟩ | exact ⟨hS.drew.pick8 _ (by simp), h6.drew⟩) (fun hHeld => ?_)
            clear hK K
            (try simp only [Act.put, List.setIfInBounds_toArray, List.set_cons_zero, List.set_cons_succ])
            refine wpAnyH_take (i := 9) (oi := { dst := some 92, op := Op.move (Operand.tmp 101), type := 41, pos := _, after := #[{ on := 8, ground := Ground.data }], guard := none }) (v := ?_) rfl (by kernel_rfl) (by kernel_rfl) (by kernel_rfl) (fun _ _ _ h => h) (Or.inl ⟨by rfl, ?hy⟩) hHeld ?_
            case hy => intro w0 hSw; clear hSw; go_simp; (try with_reducible rfl)
            (try simp only [Act.put, List.setIfInBounds_toArray, List.set_cons_zero, List.set_cons_succ])
            refine wpAnyH_take (i := 10) (oi := { dst := some 102, op := Op.extract (Operand.tmp 92) 0, type := 3, pos := _, after := #[{ on := 9, ground := Ground.data }], guard := none }) (v := ?_) rfl (by kernel_rfl) (by kernel_rfl) (by kernel_rfl) (fun _ _ _ h => h) (Or.inl ⟨by rfl, ?hy⟩) hHeld ?_
            case hy => intro w0 hSw; clear hSw; go_simp; (try with_reducible rfl)
            (try simp only [Act.put, List.setIfInBounds_toArray, List.set_cons_zero, List.set_cons_succ])
            refine wpAnyH_take (i := 11) (oi := { dst := some 103, op := Op.extract (Operand.tmp 92) 1, type := 4, pos := _, after := #[{ on := 9, ground := Ground.data }, { on := 12, ground := Ground.gcOnly Departure.lateStores }], guard := none }) (v := ?_) rfl (by kernel_rfl) (by kernel_rfl) (by kernel_rfl) (fun _ _ _ h => h) (Or.inl ⟨by rfl, ?hy⟩) hHeld ?_
            case hy => intro w0 hSw; clear hSw; go_simp; (try with_reducible rfl)
            (try simp only [Act.put, List.setIfInBounds_toArray, List.set_cons_zero, List.set_cons_succ])
            refine wpAnyH_take (i := 12) (oi := { dst := some 14, op := Op.assign (Operand.tmp 102), type := 3, pos := _, after := #[{ on := 10, ground := Ground.data }, { on := 8, ground := Ground.chain }, { on := 0, ground := Ground.phase }, { on := 1, ground := Ground.phase }, { on := 2, ground := Ground.phase }, { on := 3, ground := Ground.phase }, { on := 4, ground := Ground.phase }, { on := 5, ground := Ground.phase }, { on := 6, ground := Ground.phase }, { on := 7, ground := Ground.phase }, { on := 8, ground := Ground.phase }, { on := 9, ground := Ground.phase }, { on := 10, ground := Ground.phase }, { on := 11, ground := Ground.textOnly Departure.lateStores }], guard := none }) (v := ?_) rfl (by kernel_rfl) (by kernel_rfl) (by kernel_rfl) (fun _ _ _ h => h) (Or.inl ⟨by rfl, ?hy⟩) hHeld ?_
            case hy => intro w0 hSw; clear hSw; go_simp; (try with_reducible rfl)
            (try simp only [Act.put, List.setIfInBounds_toArray, List.set_cons_zero, List.set_cons_succ])
            refine wpAnyH_take (i := 13) (oi := { dst := some 15, op := Op.assign (Operand.tmp 103), type := 4, pos := _, after := #[{ on := 11, ground := Ground.data }, { on := 12, ground := Ground.chain }, { on := 0, ground := Ground.phase }, { on := 1, ground := Ground.phase }, { on := 2, ground := Ground.phase }, { on := 3, ground := Ground.phase }, { on := 4, ground := Ground.phase }, { on := 5, ground := Ground.phase }, { on := 6, ground := Ground.phase }, { on := 7, ground := Ground.phase }, { on := 8, ground := Ground.phase }, { on := 9, ground := Ground.phase }, { on := 10, ground := Ground.phase }, { on := 11, ground := Ground.phase }, { on := 12, ground := Ground.phase }], guard := none }) (v := ?_) rfl (by kernel_rfl) (by kernel_rfl) (by kernel_rfl) (fun _ _ _ h => h) (Or.inl ⟨by rfl, ?hy⟩) hHeld ?_
            case hy => intro w0 hSw; clear hSw; go_simp; (try with_reducible rfl)
            (try simp only [Act.put, List.setIfInBounds_toArray, List.set_cons_zero, List.set_cons_succ])
            refine wpAnyH_done (by kernel_rfl) ?_ _
            clear hHeld h6
            have HSd := Lib.hid hS
            have HBd := Lib.hid hBB
            clear hS hBB
            have r1 : w9.cell? ⟨p, 2, none⟩ = some (.int .i64 y2) := HSd.out.cell 0 rfl 2 rfl
            have e2 : (y2 == y2) = true := by rw [beq_iff_eq]
            go_wp2
            go_roundw
            case rel => exact ⟨k + 1, by first | rfl | (rw [Ik.out]; rfl), HBd⟩
            case measure => have := Hk.out; (try rw [Ik.out]); simp [intOf]; omega
    · have ik : ((k : Int) < (l : Int)) = False := eq_false (by omega)
      clear hlt HS
      go_wp2_with fail
      refine (HC.out _).mono ?_
      rintro e w6 ⟨rfl, hB⟩
      have HS := Lib.hid (HSr.out.on hB)
      clear hB s2 HSr HB
      go_wp2
      go_ret
      exact ⟨rfl, HS.out.below⟩

theorem duePass_walk (HD : Hid DueK) (HB9 : Hid BoardK9) (HP9 : Hid PassK9) (HC : Hid ComingK) (m n : Int) (A : Option Addr) (c : Nat) (ls : List Alm) (t : Int) (w : World) (hA : AlmsAt w w.heap.size A ls) (h0 : A = none → c = 0) :
    Calls Try.prog 3 #[.agg #[.int .i64 m, .int .i64 n, .slice A ls.length c], .int .i64 t] w fun e w' => e = .returned (.bool true) ∧ Below w.heap.size w w' := by
  by_cases hf : 60 < ls.length
  · exact duePass_far m n A ls.length c ls t w hA hf
  have hf' : ls.length ≤ 1000 := by omega
  obtain ⟨⟨m2, n2, C2⟩, h2⟩ : ∃ r, r = Bd.pass m n ls t := ⟨_, rfl⟩
  have E := fun hE => duePass_err HC m n A ls.length c ls t w hA (by omega) (Du.turnsE m n ls t) (Bd.passE m n ls t) m2 n2 C2 _ _ C2.length
    (fun W h => Lib.hid (HD.out.turns m n A ls.length c ls t _ W ⟨rfl, h, h0, hf'⟩ rfl))
    (fun W h => Lib.hid (by have k := HP9.out m n A ls.length c ls t C2.length W ⟨rfl, h, h0, hf'⟩ (by rw [← h2]); rw [← h2] at k; exact k)) hE
  by_cases hE : Du.turnsE m n ls t = 0
  · by_cases hE2 : Bd.passE m n ls t = 0
    · exact duePass_ok HD HB9 HP9 HC m n A ls.length c ls t w rfl hA h0 (by omega) hE hE2
    · refine E (Or.inr ⟨⟨by rw [hE]; rfl, by rw [hE]; rfl⟩, ?_⟩)
      have hi := Du.turnsE_iff.1 hE
      rcases Bd.passE_vals (m := m) (n := n) (ls := ls) (t := t) with h | h | h
      · exact absurd h hE2
      · exact h
      · exfalso
        unfold Bd.passE at h
        rw [hi.1, Am.isT_iff.2 hi.2.1] at h
        rw [if_neg (by simp), if_neg (by omega)] at h
        split at h <;> omega
  · have h1 : (Du.turnsE m n ls t == 0) = false := by rw [beq_eq_false_iff_ne]; exact hE
    exact E (Or.inl ⟨h1, by rw [bne, h1]; rfl⟩)
end Go.Proofs.Ytplpadblhjdpcaa
