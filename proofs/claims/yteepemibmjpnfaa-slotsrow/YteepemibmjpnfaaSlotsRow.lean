/-
  Layer 15 (slots): the law SlotsRow, over the structure.
-/
import Derived.Test.YteepemibmjpnfaaSlotsBack
import Derived.Test.YteepemibmjpnfaaSloStore
import Derived.Test.YteepemibmjpnfaaStepRow
namespace Go.Proofs.Yteepemibmjpnfaa
set_option maxRecDepth 10000
open Go.RowKit

theorem St.blk15 {w0 w : World} {L : List (Nat × Array Value)} {M : List Fact} (h : St w0 w L M) (i : Nat) {k : Nat} {cs : Array Value} (hi : L[i]? = some (k, cs)) : ∃ t, w.heap[k]? = some (.cells cs t (0, 0)) := h.live (k, cs) (List.mem_of_getElem? hi)
theorem slots_bad15 {E : World → Prop} (HS : Hid (SlotsK E)) (HC : Hid (SlottedK E)) (most : Int) (A : Option Addr) (N cap : Nat) (w : World) (hE : E w) (cs : Slo) (e1 : Int) (je : (e1 != 0) = true)
    (K1 : ∀ (W : World) (_h : E W), Hid (Calls Try.prog 17 #[.int .i64 most] W fun e w' => e = .returned (.tuple #[.agg #[.int .i64 cs.a.most, .string cs.a.kept, .string cs.a.loose, .int .i64 cs.b.most, .string cs.b.kept, .string cs.b.loose], .int .i64 e1]) ∧ Below W.heap.size W w')) :
    Calls Try.prog 6 #[.int .i64 most, .slice A N cap] w fun e w' => e = .returned (.bool true) ∧ Below w.heap.size w w' := by
  have S0 := Lib.hid ((St.start w).more (eSl HS) hE)
  obtain ⟨⟨a0, a1, a2⟩, ⟨b0, b1, b2⟩⟩ := cs
  simp only at K1
  clear hE
  go_enter Try.func6, Try.ntmps6
  go_wp2_with fail
  refine (K1 _ (S0.out.fact 0 rfl)).out.mono ?_
  rintro e w1 ⟨rfl, hB⟩
  have S1 := Lib.hid ((S0.out.on hB).new #[.int .i64 a0, .string a1, .string a2, .int .i64 b0, .string b1, .string b2] 25)
  clear hB S0 K1
  go_wp2_with fail
  refine (HC.out _ (S1.out.fact 0 rfl)).mono ?_
  rintro e w2 ⟨rfl, hB⟩
  have S2 := Lib.hid (S1.out.on hB)
  clear hB S1
  go_wp2
  go_ret
  exact ⟨rfl, S2.out.below⟩

set_option maxRecDepth 10000 in
set_option maxHeartbeats 4000000 in
theorem slotsRow_walk {E : World → Prop} (HS : Hid (SlotsK E)) (HC : Hid (SlottedK E)) (most : Int) (A : Option Addr) (cap : Nat) (ls : List Stp) (w : World) (hE : E w) (hA : StpsAt w w.heap.size A ls) (hl : ls.length ≤ maxLen ∧ ∀ f ∈ ls, f.t.size ≤ maxLen) :
    Calls Try.prog 6 #[.int .i64 most, .slice A ls.length cap] w fun e w' => e = .returned (.bool true) ∧ Below w.heap.size w w' := by
  have K1 := fun W (h : E W) => Lib.hid (HS.out.new most W h)
  by_cases hn : Fi.newE most = 0
  case neg => exact slots_bad15 HS HC most A _ cap w hE (Sl.newS most) _ (by rw [bne_iff_ne]; exact hn) K1
  rw [hn] at K1
  obtain ⟨hcalm, hT0, _⟩ := Sl.new_calm hn
  have S0 := Lib.hid ((St.start w).more (eSl HS) hE)
  have HE := Lib.hid hE
  obtain ⟨sl, hsl⟩ : ∃ sl, sl = Sl.newS most := ⟨_, rfl⟩
  rw [← hsl] at hcalm hT0 K1
  have Hcalm := Lib.hid hcalm
  have HT0 := Lib.hid hT0
  obtain ⟨⟨a0, a1, a2⟩, ⟨b0, b1, b2⟩⟩ := sl
  unfold Sl.v at K1
  simp only at K1
  have HA := Lib.hid hA
  obtain ⟨N, hN⟩ : ∃ N, N = ls.length := ⟨_, rfl⟩
  have HN := Lib.hid hN
  rw [← hN]
  have hNl : N ≤ maxLen := by rw [hN]; exact hl.1
  unfold maxLen at hNl
  have Hz : Hid (∀ f ∈ ls, f.t.size ≤ maxLen) := Lib.hid hl.2
  clear hE hA hn hsl hcalm hT0 hN hl
  by_cases h30 : 30 < N
  · have i1 : ((30 : Int) < (N : Int)) = True := eq_true (by omega)
    clear h30
    go_enter Try.func6, Try.ntmps6
    go_wp2_with fail
    refine (K1 _ (S0.out.fact 0 rfl)).out.mono ?_
    rintro e w1 ⟨rfl, hB⟩
    have S1 := Lib.hid ((S0.out.on hB).new #[.int .i64 a0, .string a1, .string a2, .int .i64 b0, .string b1, .string b2] 25)
    clear hB S0 K1
    go_wp2_with fail
    refine (HC.out _ (S1.out.fact 0 rfl)).mono ?_
    rintro e w2 ⟨rfl, hB⟩
    have S2 := Lib.hid (S1.out.on hB)
    clear hB S1
    go_wp2
    go_ret
    exact ⟨rfl, S2.out.below⟩
  have i1 : ((30 : Int) < (N : Int)) = False := eq_false (by omega)
  have HN30 : Hid (N ≤ 30) := Lib.hid (by omega)
  clear h30 hNl
  go_enter Try.func6, Try.ntmps6
  go_wp2_with fail
  refine (K1 _ (S0.out.fact 0 rfl)).out.mono ?_
  rintro e w1 ⟨rfl, hB⟩
  have S1 := (S0.out.on hB).new #[.int .i64 a0, .string a1, .string a2, .int .i64 b0, .string b1, .string b2] 25
  have S1b : Hid (St w (w1.alloc (.cells #[.int .i64 a0, .string a1, .string a2, .int .i64 b0, .string b1, .string b2] 25)) [(w1.heap.size, #[.int .i64 a0, .string a1, .string a2, .int .i64 b0, .string b1, .string b2])] []) := Lib.hid ⟨S1.live, (fun _ h => nomatch h), S1.below⟩
  have Hp0 : Hid (w.heap.size ≤ w1.heap.size) := Lib.hid hB.size
  obtain ⟨p0, hp0⟩ : ∃ p, p = w1.heap.size := ⟨_, rfl⟩
  clear hB S0 K1 S1
  go_wp2_with fail
  rw [← hp0] at S1b Hp0 ⊢
  clear i1 hp0
  go_loopw [7, 8] (fun nw i wr => ∃ (j : Nat) (now : ByteArray) (sl : Slo), j ≤ N ∧ nw = .string now ∧ i = .int .i64 (j : Int) ∧ Hid (Sl.calm sl) ∧ Hid (Sl.loadT sl = bl now) ∧ Hid (St w wr [(p0, Sl.v sl)] [])) (fun _ i _ => N - (intOf i).toNat)
  case atStart => exact ⟨0, ⟨#[]⟩, ⟨⟨a0, a1, a2⟩, ⟨b0, b1, b2⟩⟩, Nat.zero_le _, rfl, rfl, Hcalm, Lib.hid (by rw [HT0.out]; rfl), S1b⟩
  case round =>
    obtain ⟨j, now, sl, hj, rfl, rfl, HCa, HLo, S2⟩ := hrel
    clear S1b Hcalm HT0
    have hEr : E wr := HS.out.mono w wr HE.out S2.out.below
    have HEr := Lib.hid hEr
    have hsm : Sl.small sl := Sl.is_small HCa.out.1
    obtain ⟨⟨⟨a0, a1, a2⟩, ⟨b0, b1, b2⟩⟩, hsl⟩ : ∃ x, x = sl := ⟨_, rfl⟩
    have Hsl := Lib.hid hsl
    rw [← hsl] at S2
    unfold Sl.v at S2
    simp only at S2
    have c0 := S2.out.cell 0 rfl 0 rfl
    have c1 := S2.out.cell 0 rfl 1 rfl
    have c2 := S2.out.cell 0 rfl 2 rfl
    have c3 := S2.out.cell 0 rfl 3 rfl
    have c4 := S2.out.cell 0 rfl 4 rfl
    have c5 := S2.out.cell 0 rfl 5 rfl
    by_cases hlt : j < N
    · have hlt' : j < ls.length := by have := HN.out; omega
      obtain ⟨b, off, rfl, hb, h3⟩ := HA.out j hlt'
      have h3' := h3.below S2.out.below hb
      obtain ⟨⟨t, d, n⟩, hx⟩ : ∃ x, x = ls[j] := ⟨_, rfl⟩
      rw [← hx] at h3'
      have e0 := h3'.c0
      have e1 := h3'.c1
      have e2 := h3'.c2
      simp only at e0 e1 e2
      have HVa : Hid (Value.int .i64 ((j : Int) + 1) = Value.int .i64 ((j + 1 : Nat) : Int)) := Lib.hid (by rw [Int.natCast_succ])
      have HMe : Hid (N - (intOf (Value.int .i64 ((j : Int) + 1))).toNat < N - (intOf (Value.int .i64 (j : Int))).toNat) := Lib.hid (by simp only [intOf]; omega)
      have Hiw : Hid (wrap64 ((j : Int) + 1) = (j : Int) + 1) := Lib.hid (by have := HN30.out; unfold wrap64; omega)
      have Hlt := Lib.hid hlt
      have i2 : (j : Int) < (N : Int) := by omega
      have i3 : (0 : Int) ≤ (j : Int) := by omega
      clear h3 h3' hb hx hlt hj hlt' hEr hsl
      by_cases h200 : 200 < t.size
      · have i4 : ((200 : Int) < (t.size : Int)) = True := eq_true (by omega)
        have hE1 := HS.out.mono _ _ HEr.out (below_new wr (.cells #[.string t, .int .i64 d, .int .i64 n] 42))
        have HB1 := Lib.hid (below2 S2.out.below (below_new wr (.cells #[.string t, .int .i64 d, .int .i64 n] 42)))
        clear h200
        go_wp2_with fail
        refine (HC.out _ hE1).mono ?_
        rintro e w2 ⟨rfl, hB⟩
        have HB2 := Lib.hid (below2 HB1.out hB)
        clear hB
        go_wp2
        go_ret
        exact ⟨rfl, HB2.out⟩
      have i4 : ((200 : Int) < (t.size : Int)) = False := eq_false (by omega)
      have K2 := fun W (h : E W) => Lib.hid (HS.out.save sl t d W h hsm (by omega))
      obtain ⟨x, hx⟩ : ∃ x, x = Sl.save sl (bl t) d := ⟨_, rfl⟩
      obtain ⟨dn, hdn⟩ : ∃ x, x = Sl.done sl (bl t) d := ⟨_, rfl⟩
      obtain ⟨f, hf⟩ : ∃ x, x = Sl.saveE sl (bl t) := ⟨_, rfl⟩
      rw [← hx, ← hdn, ← hf, ← Hsl.out] at K2
      have hEr1 := Lib.hid (HS.out.mono _ _ HEr.out (below_new wr (.cells #[.string t, .int .i64 d, .int .i64 n] 42)))
      have S3 := Lib.hid (S2.out.new #[.string t, .int .i64 d, .int .i64 n] 42)
      have Hq3 : Hid (p0 < wr.heap.size) := Lib.hid (by obtain ⟨_, h1⟩ := S2.out.blk15 0 rfl; exact (Array.getElem?_eq_some_iff.1 h1).1)
      clear c0 c1 c2 c3 c4 c5
      have c0 := S3.out.cell 1 rfl 0 rfl
      have c1 := S3.out.cell 1 rfl 1 rfl
      have c2 := S3.out.cell 1 rfl 2 rfl
      have c3 := S3.out.cell 1 rfl 3 rfl
      have c4 := S3.out.cell 1 rfl 4 rfl
      have c5 := S3.out.cell 1 rfl 5 rfl
      have Hdn := Lib.hid hdn
      have HT := Lib.hid (show t.size ≤ 200 by omega)
      unfold Sl.v at K2
      simp only at K2
      by_cases h0 : f = 0
      case neg =>
        have j1 : (f != 0) = true := by rw [bne_iff_ne]; exact h0
        obtain ⟨⟨x0, x1, x2⟩, ⟨y0, y1, y2⟩⟩ := x
        simp only at K2
        clear h0 hf hdn hx h200 hsm
        go_wp2_with fail
        obtain ⟨w3, hw3⟩ : ∃ x, x = wr.alloc (.cells #[.string t, .int .i64 d, .int .i64 n] 42) := ⟨_, rfl⟩
        rw [← hw3] at hEr1 S3 ⊢
        clear hw3 c0 c1 c2 c3 c4 c5 e0 e1 e2
        refine (K2 _ hEr1.out).out.mono ?_
        rintro e w4 ⟨rfl, hB⟩
        have S4 := Lib.hid (((S3.out.on hB).new #[.int .i64 x0, .string x1, .string x2, .int .i64 y0, .string y1, .string y2] 25).sub (L' := [(p0, #[.int .i64 a0, .string a1, .string a2, .int .i64 b0, .string b1, .string b2])]) (by intro u hu; simp only [List.mem_singleton] at hu; subst hu; simp))
        clear hB S3 K2
        go_wp2_with fail
        go_roundw
        case rel => exact ⟨j + 1, now, sl, Hlt.out, rfl, by rw [Hiw.out]; exact HVa.out, HCa, HLo, by rw [← Hsl.out]; exact S4⟩
        case measure => rw [Hiw.out]; exact HMe.out
      subst h0
      have hcl := Sl.crash_load d n HCa.out hf.symm
      have hxi : Sl.is x = true := by rw [hx]; exact Sl.save_good hf.symm
      rw [← hx, ← hdn] at hcl
      have K3 := fun W (h : E W) => Lib.hid (HS.out.crash x n W h (Sl.is_small hxi))
      obtain ⟨y, hy⟩ : ∃ y, y = Sl.crash x n := ⟨_, rfl⟩
      rw [← hy] at K3 hcl
      have eb : Sl.badE x = 0 := by unfold Sl.badE; rw [if_pos hxi]
      rw [eb] at K3
      obtain ⟨hyc, hyl⟩ := hcl
      have K4 := fun W (h : E W) => Lib.hid (HS.out.load y W h (Sl.is_small hyc.1))
      have eb2 : Sl.badE y = 0 := by unfold Sl.badE; rw [if_pos hyc.1]
      rw [eb2] at K4
      obtain ⟨t2, ht2⟩ : ∃ t2, t2 = strOf (Sl.loadT y) := ⟨_, rfl⟩
      obtain ⟨m2, hm2⟩ : ∃ m2, m2 = Sl.loadN y := ⟨_, rfl⟩
      rw [← ht2, ← hm2] at K4
      have Hyc := Lib.hid hyc
      have Hyl : Hid (Sl.loadT y = bl t2) := Lib.hid (by rw [ht2, bl_strOf])
      have hcase : t2 = t ∨ (dn = false ∧ t2 = now) := by
        rcases hyl with ⟨_, h⟩ | ⟨h1, _, h⟩
        · left; apply bl_inj; rw [← Hyl.out, h]
        · right; exact ⟨h1, by apply bl_inj; rw [← Hyl.out, h, HLo.out]⟩
      have Hcase := Lib.hid hcase
      obtain ⟨ys, hys⟩ : ∃ ys, ys = y := ⟨_, rfl⟩
      have Hys := Lib.hid hys
      rw [← hys] at K3 K4
      obtain ⟨⟨x0, x1, x2⟩, ⟨x3, x4, x5⟩⟩ := x
      obtain ⟨⟨y0, y1, y2⟩, ⟨y3, y4, y5⟩⟩ := ys
      unfold Sl.v at K3 K4
      simp only at K2 K3 K4
      clear hf hx h200 hsm hxi eb eb2 hyl hyc ht2 hm2 hcase hys hy hdn
      go_wp2_with fail
      obtain ⟨w3, hw3⟩ : ∃ x, x = wr.alloc (.cells #[.string t, .int .i64 d, .int .i64 n] 42) := ⟨_, rfl⟩
      obtain ⟨q3, hq3⟩ : ∃ q, q = wr.heap.size := ⟨_, rfl⟩
      rw [← hw3] at hEr1 S3 ⊢
      rw [← hq3] at S3 Hq3 ⊢
      clear hw3 hq3 c0 c1 c2 c3 c4 c5 e0 e1 e2
      refine (K2 _ hEr1.out).out.mono ?_
      rintro e w4 ⟨rfl, hB⟩
      have S4 := Lib.hid ((S3.out.on hB).new #[.int .i64 x0, .string x1, .string x2, .int .i64 x3, .string x4, .string x5] 25)
      have E4 := Lib.hid (HS.out.mono _ _ hEr1.out (below2 hB (below_new w4 (.cells #[.int .i64 x0, .string x1, .string x2, .int .i64 x3, .string x4, .string x5] 25))))
      clear hB S3 K2 hEr1
      have e2 := S4.out.cell 1 rfl 2 rfl
      have d0 := S4.out.cell 0 rfl 0 rfl
      have d1 := S4.out.cell 0 rfl 1 rfl
      have d2 := S4.out.cell 0 rfl 2 rfl
      have d3 := S4.out.cell 0 rfl 3 rfl
      have d4 := S4.out.cell 0 rfl 4 rfl
      have d5 := S4.out.cell 0 rfl 5 rfl
      go_wp2_with fail
      obtain ⟨w5, hw5⟩ : ∃ x, x = w4.alloc (.cells #[.int .i64 x0, .string x1, .string x2, .int .i64 x3, .string x4, .string x5] 25) := ⟨_, rfl⟩
      obtain ⟨q4, hq4⟩ : ∃ q, q = w4.heap.size := ⟨_, rfl⟩
      rw [← hw5] at S4 E4 ⊢
      rw [← hq4] at S4 ⊢
      clear hw5 hq4 e2 d0 d1 d2 d3 d4 d5
      refine (K3 _ E4.out).out.mono ?_
      rintro e w6 ⟨rfl, hB⟩
      have S6 := Lib.hid ((S4.out.on hB).new #[.int .i64 y0, .string y1, .string y2, .int .i64 y3, .string y4, .string y5] 25)
      have E6 := Lib.hid (HS.out.mono _ _ E4.out (below2 hB (below_new w6 (.cells #[.int .i64 y0, .string y1, .string y2, .int .i64 y3, .string y4, .string y5] 25))))
      clear hB S4 K3 E4
      have d0 := S6.out.cell 0 rfl 0 rfl
      have d1 := S6.out.cell 0 rfl 1 rfl
      have d2 := S6.out.cell 0 rfl 2 rfl
      have d3 := S6.out.cell 0 rfl 3 rfl
      have d4 := S6.out.cell 0 rfl 4 rfl
      have d5 := S6.out.cell 0 rfl 5 rfl
      go_wp2_with fail
      obtain ⟨w7, hw7⟩ : ∃ x, x = w6.alloc (.cells #[.int .i64 y0, .string y1, .string y2, .int .i64 y3, .string y4, .string y5] 25) := ⟨_, rfl⟩
      obtain ⟨q6, hq6⟩ : ∃ q, q = w6.heap.size := ⟨_, rfl⟩
      rw [← hw7] at S6 E6 ⊢
      rw [← hq6] at S6 ⊢
      clear hw7 hq6 d0 d1 d2 d3 d4 d5
      refine (K4 _ E6.out).out.mono ?_
      rintro e w8 ⟨rfl, hB⟩
      have S8 := Lib.hid (S6.out.on hB)
      clear hB S6 K4 E6
      have d0 := S8.out.cell 0 rfl 0 rfl
      have d1 := S8.out.cell 0 rfl 1 rfl
      have d2 := S8.out.cell 0 rfl 2 rfl
      have d3 := S8.out.cell 0 rfl 3 rfl
      have d4 := S8.out.cell 0 rfl 4 rfl
      have d5 := S8.out.cell 0 rfl 5 rfl
      have e0 := S8.out.cell 2 rfl 0 rfl
      have S9 : Hid (St w w8 [(p0, #[.int .i64 a0, .string a1, .string a2, .int .i64 b0, .string b1, .string b2])] []) := Lib.hid (S8.out.sub (by intro u hu; simp only [List.mem_singleton] at hu; subst hu; simp))
      clear S8
      by_cases ht : t2 = t
      · subst ht
        clear Hcase
        go_wp2_with (refine wpList_storew_st rfl 25 _ _ rfl S9.out Hp0.out (by intro u hu; cases hu) #[.int .i64 y0, .string y1, .string y2, .int .i64 y3, .string y4, .string y5] rfl rfl (by rfl) rfl (sl_one15 _ _ _ _ _ _) ?_; intro w9 hS9; have S10 := Lib.hid hS9; clear hS9 d0 d1 d2 d3 d4 d5 e0)
        go_roundw
        case rel => exact ⟨j + 1, t2, y, Hlt.out, rfl, by rw [Hiw.out]; exact HVa.out, Hyc, Hyl, by rw [← Hys.out]; exact S10⟩
        case measure => rw [Hiw.out]; exact HMe.out
      · obtain ⟨hd, hnow⟩ : dn = false ∧ t2 = now := by
          rcases Hcase.out with h | h
          · exact absurd h ht
          · exact h
        subst hd hnow
        have j1 : (t2.toList == t.toList) = false := by
          rw [beq_eq_false_iff_ne]; intro h; exact ht (ba_toList h)
        have j2 : ¬ t2.toList = t.toList := fun h => ht (ba_toList h)
        clear Hcase ht
        go_wp2_with (refine wpList_storew_st rfl 25 _ _ rfl S9.out Hp0.out (by intro u hu; cases hu) #[.int .i64 y0, .string y1, .string y2, .int .i64 y3, .string y4, .string y5] rfl rfl (by rfl) rfl (sl_one15 _ _ _ _ _ _) ?_; intro w9 hS9; have S10 := Lib.hid hS9; clear hS9 d0 d1 d2 d3 d4 d5 e0)
        go_roundw
        case rel => exact ⟨j + 1, t2, y, Hlt.out, rfl, by rw [Hiw.out]; exact HVa.out, Hyc, Hyl, by rw [← Hys.out]; exact S10⟩
        case measure => rw [Hiw.out]; exact HMe.out
    · have j1 : ((j : Int) < (N : Int)) = False := eq_false (by omega)
      have K4 := fun W (h : E W) => Lib.hid (HS.out.load sl W h hsm)
      have eb2 : Sl.badE sl = 0 := by unfold Sl.badE; rw [if_pos HCa.out.1]
      rw [eb2, HLo.out, strOf_bl] at K4
      obtain ⟨m2, hm2⟩ : ∃ m2, m2 = Sl.loadN sl := ⟨_, rfl⟩
      rw [← hm2, ← hsl] at K4
      unfold Sl.v at K4
      simp only at K4
      clear eb2 hm2 hlt hsm hsl
      go_wp2_with fail
      refine (K4 _ hEr).out.mono ?_
      rintro e w3 ⟨rfl, hB⟩
      have E3 := Lib.hid (HS.out.mono _ _ HEr.out hB)
      have S3 := Lib.hid (S2.out.on hB)
      clear hB K4 hEr c0 c1 c2 c3 c4 c5 S2
      go_wp2_with fail
      refine (HC.out _ E3.out).mono ?_
      rintro e w4 ⟨rfl, hB⟩
      have S4 := Lib.hid (S3.out.on hB)
      clear hB S3
      go_wp2
      go_ret
      exact ⟨rfl, S4.out.below⟩
end Go.Proofs.Yteepemibmjpnfaa
