/-
  Layer 7 (rank): Top.
-/
import Derived.Test.YtlkopnbkmpgafaaRankC1
namespace Go.Proofs.Ytlkopnbkmpgafaa
open Go.RowKit

theorem run_slice_toR (A : Option Addr) (n cap j : Nat) (hj : j ≤ cap) (w : World) :
    (Instr.sliceAt 43 (.slice A n cap) none (some (.int .i64 (j : Int))) none).run Try.prog w = .ok (sliced A 0 j cap 6) w := by
  have hs : (sizeOf 45).run Try.prog w = .ok 6 w := by kernel_rfl
  have hb : (Instr.sliceBound (.int .i64 (j : Int)) cap .sliceAcap).run Try.prog w = .ok j w := by simp [Instr.sliceBound, asIntOf, hj]
  simp [Instr.sliceAt, Instr.slice, Instr.sliceBounds, run_underlying Try.underlying43, hs, hb, Result.andThen, sliced]
theorem wpList_slice_toR {ops : Array Oper} {rest : List Oper} {o : Oper} {a : Act} {w : World} {Q : Exit → Act → World → Prop} (hgd : o.guard = none) (x y : Operand) (ho : o.op = .slice 43 x none (some y) none)
    (A : Option Addr) (n cap j B : Nat) (ls : List Alm) (hx : a.eval x = .slice A n cap) (hy : a.eval y = .int .i64 (j : Int)) (hA : AlmsAt w B A ls) (hnil : A = none → cap = 0) (hnc : n ≤ cap) (hn : n = ls.length) (hj : j ≤ n)
    (h : ∀ A2, AlmsAt w B A2 (ls.take j) → (A2 = none → cap = 0) → wpList Try.prog ops Q rest (a.put o.dst (.slice A2 j cap)) w) : wpList Try.prog ops Q (o :: rest) a w := by
  refine wpList_plain hgd fun K hK => ?_
  have hrun := run_slice_toR A n cap j (by omega) w
  unfold Oper.wp
  simp only [execOp, ho, hx, hy, Option.map_none, Option.map_some, Sem.run_bind, hrun, Result.andThen_ok, Sem.run_pure]
  refine hK _ _ ?_
  have hh := h (if cap = 0 then A else A.map (·.add (0 * 6)))
  have e : (if cap = 0 then A else A.map (·.add (0 * 6))) = A := by
    split
    · rfl
    · cases A with
      | none => rfl
      | some ad => rw [Option.map_some]; congr 1
  rw [e] at hh
  unfold sliced
  rw [e, Nat.sub_zero, Nat.sub_zero]
  exact hh (hA.take j) hnil

theorem KTop_zero (k : Int) (A : Option Addr) (n cap : Nat) (ls : List Alm) (w : World) (hk : k < 1) :
    Calls Try.prog 10 #[.int .i64 k, .slice A n cap] w (OwnedA w (Rk.top k ls)) := by
  have He : Hid (Rk.top k ls = []) := Lib.hid (by unfold Rk.top; rw [show k.toNat = 0 by omega]; rfl)
  go_enter Try.func10, Try.ntmps10
  go_wp2
  go_ret
  exact ⟨_, rfl, by rw [He.out]; exact OwnA.nil _ _, Below.refl _ _⟩

set_option maxHeartbeats 1000000 in
theorem KTop_some (j q : Nat) (A : Option Addr) (m cap : Nat) (ls : List Alm) (w : World) (hj : 1 ≤ j) (hq : q = min j m) (hm : m = ls.length) (hA : AlmsAt w w.heap.size A ls) (hl : ls.length ≤ 1000) :
    Calls Try.prog 10 #[.int .i64 (j : Int), .slice A m cap] w (OwnedA w (Rk.top (j : Int) ls)) := by
  have g := korder_one A m cap ls w hm hA hl
  have i1 : ((j : Int) < 1) = False := eq_false (by omega)
  have Lo : Hid (m = (Rk.sort ls).length) := Lib.hid (by rw [Rk.sort_len]; exact hm)
  have Hl : Hid (m ≤ 1000) := Lib.hid (by omega)
  have HT : Hid (Rk.top (j : Int) ls = (Rk.sort ls).take q) := Lib.hid (by
    unfold Rk.top
    rw [Int.toNat_natCast, hq]
    rcases Nat.le_total j m with h | h
    · rw [Nat.min_eq_left h]
    · rw [Nat.min_eq_right h, List.take_of_length_le (by rw [Rk.sort_len]; omega), List.take_of_length_le (by rw [Rk.sort_len]; omega)])
  obtain ⟨o, ho⟩ : ∃ o, o = Rk.sort ls := ⟨_, rfl⟩
  rw [← ho] at Lo HT g
  rw [HT.out]
  have Hq : Hid (q ≤ m) := Lib.hid (by omega)
  have Lq : Hid (q = (o.take q).length) := Lib.hid (by have := Lo.out; rw [List.length_take]; omega)
  have HK := fun W A c h2 => Lib.hid (kalarms_any A q c (o.take q) W Lq.out h2 (Nat.le_trans Hq.out Hl.out))
  have hmin : min (j : Int) (m : Int) = (q : Int) := by omega
  clear ho hA hl hm hj HT hq
  go_enter Try.func10, Try.ntmps10
  go_wp2_with fail
  refine g.mono ?_
  rintro e w1 ⟨A1, cap1, rfl, hA1, hn1, hc1, hB⟩
  have HA1 := Lib.hid hA1
  have Hn1 := Lib.hid hn1
  have Hc1 := Lib.hid hc1
  have HB := Lib.hid hB
  clear g hA1 hn1 hc1 hB
  go_wp2_with (refine wpList_slice_toR rfl _ _ rfl _ _ _ q _ o rfl rfl HA1.out Hn1.out Hc1.out Lo.out Hq.out ?_; intro A2 hA2 hn2; have HA2 := Lib.hid hA2; clear hA2 hn2)
  refine (HK _ _ _ HA2.out).out.mono ?_
  rintro e w2 ⟨v, rfl, h1, h2⟩
  have H1 := Lib.hid (h1.lower HB.out.size)
  have H2 := Lib.hid (below2 HB.out h2)
  clear h1 h2
  go_wp2
  go_ret
  exact ⟨_, rfl, H1.out, H2.out⟩
theorem kk_top (k : Int) (A : Option Addr) (n cap : Nat) (ls : List Alm) (w : World) (hn : n = ls.length) (hA : AlmsAt w w.heap.size A ls) (_hnil : A = none → cap = 0) (hl : ls.length ≤ 1000) :
    Calls Try.prog 10 #[.int .i64 k, .slice A n cap] w (OwnedA w (Rk.top k ls)) := by
  by_cases hk : k < 1
  · exact KTop_zero k A n cap ls w hk
  · obtain ⟨j, rfl⟩ : ∃ j : Nat, k = (j : Int) := ⟨k.toNat, by omega⟩
    exact KTop_some j _ A n cap ls w (by omega) rfl hn hA hl
end Go.Proofs.Ytlkopnbkmpgafaa
