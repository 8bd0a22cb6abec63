/-
  Layer 7 (rank): the law RankSorts, over the contracts (printed by tools/gen-ranksorts.py).
-/
import Derived.Test.YtlkopnbkmpgafaaRankTop
import Derived.Deep.RegionHeld3
namespace Go.Proofs.Ytlkopnbkmpgafaa
open Go.RowKit

theorem run_eql_al (x0 x1 x2 x3 x4 x5 y0 y1 y2 y3 y4 y5 : Int) (w : World) :
    (binOp .eql 34 (.agg #[.int .i64 x0, .int .i64 x1, .int .i64 x2, .int .i64 x3, .int .i64 x4, .int .i64 x5]) (.agg #[.int .i64 y0, .int .i64 y1, .int .i64 y2, .int .i64 y3, .int .i64 y4, .int .i64 y5])).run Try.prog w = .ok (.bool (decide ((⟨x0, x1, x2, x3, x4, x5⟩ : Alm) = ⟨y0, y1, y2, y3, y4, y5⟩))) w := by
  go_simp
  repeat' split
  all_goals simp [*]
/-- How often an alarm is among the first ones. -/
def cntA (a : Alm) (ls : List Alm) (k : Nat) : Nat := (ls.take k).countP (fun x => decide (x = a))
theorem cntA_succ (a : Alm) (ls : List Alm) (k : Nat) (h : k < ls.length) : cntA a ls (k + 1) = cntA a ls k + (if decide (ls[k] = a) = true then 1 else 0) := by
  unfold cntA
  rw [List.take_succ_eq_append_getElem h, List.countP_append, List.countP_singleton]
theorem cntA_le (a : Alm) (ls : List Alm) (k : Nat) : cntA a ls k ≤ k := by
  unfold cntA
  exact Nat.le_trans List.countP_le_length (by rw [List.length_take]; omega)
theorem cntA_perm {ls ms : List Alm} (a : Alm) (h : ls.Perm ms) : cntA a ls ls.length = cntA a ms ms.length := by
  unfold cntA
  rw [List.take_length, List.take_length]
  exact h.countP_eq _
/-- What holds ahead of each round of the first loop. -/
def SoRel (w2 : World) (a : Alm) (X : List Alm) (m : Nat) (x i : Value) (wr : World) : Prop :=
  ∃ k : Nat, k ≤ m ∧ i = .int .i64 (k : Int) ∧ x = .int .i64 (cntA a X k : Int) ∧ Below w2.heap.size w2 wr
/-- .. and of the second one. -/
def SpRel (w3 : World) (a : Alm) (ls : List Alm) (m : Nat) (x i : Value) (wr : World) : Prop :=
  ∃ k n : Nat, k ≤ m ∧ i = .int .i64 (k : Int) ∧ x = .int .i64 (cntA a ls k : Int) ∧ wr = w3.drewN n

set_option linter.unusedVariables false in
set_option maxRecDepth 10000 in
set_option maxHeartbeats 8000000 in
theorem rankSorts_go (HK : Hid RankK) (A : Option Addr) (ca : Nat) (ls : List Alm) (a0 a1 a2 a3 a4 a5 : Int) (w : World) (hA : AlmsAt w w.heap.size A ls) (ha : A = none → ca = 0) (hl : ls.length ≤ 60) :
    Calls Try.prog 5 #[.slice A ls.length ca, .agg #[.int .i64 a0, .int .i64 a1, .int .i64 a2, .int .i64 a3, .int .i64 a4, .int .i64 a5]] w fun e w' => e = .returned (.bool true) ∧ Below w.heap.size w w' := by
  obtain ⟨m, hm⟩ : ∃ x, x = ls.length := ⟨_, rfl⟩
  rw [← hm]
  have i60 : ((60 : Int) < (m : Int)) = False := eq_false (by omega)
  obtain ⟨X, hX⟩ : ∃ X, X = Rk.sort ls := ⟨_, rfl⟩
  have lenX : X.length = ls.length := by rw [hX, Rk.sort_len]
  have hXX : Rk.sort X = X := by rw [hX]; exact Rk.sort_sort ls
  have HS : Hid (Rk.Sorted X) := Lib.hid (by rw [hX]; exact Rk.sort_sorted ls)
  have HC : Hid (cntA (⟨a0, a1, a2, a3, a4, a5⟩ : Alm) X m = cntA (⟨a0, a1, a2, a3, a4, a5⟩ : Alm) ls m) := Lib.hid (by have h := cntA_perm (⟨a0, a1, a2, a3, a4, a5⟩ : Alm) (Rk.sort_perm ls); rw [← hX, lenX, ← hm] at h; exact h)
  have G1 := fun (W : World) (h : AlmsAt W W.heap.size A ls) => Lib.hid ((KSort_n HK A m ca ls W hm h ha (by omega)).mono fun _ _ h => (by rw [← hX] at h; exact h.givesN (by omega) : GivesN W m X _ _))
  have G2 := fun (W : World) (A' : Option Addr) (c' : Nat) (h : AlmsAt W W.heap.size A' X) (h0 : A' = none → c' = 0) => Lib.hid ((KSort_n HK A' m c' X W (by omega) h h0 (by omega)).mono fun _ _ h => (by rw [hXX] at h; exact h.gives (by omega) : GivesA W m X _ _))
  have G3 := fun (W : World) (A1 A2 : Option Addr) (c1 c2 : Nat) (h1 : AlmsAt W W.heap.size A1 X) (h2 : AlmsAt W W.heap.size A2 X) => Lib.hid (RASame_n A1 A2 m m c1 c2 X W (by omega) (by omega) h1 h2 (by omega))
  have Hm := Lib.hid hm
  have HlX : Hid (X.length = m) := Lib.hid (by omega)
  have Hm60 : Hid (m ≤ 60) := Lib.hid (by omega)
  have ka := Six.new w a0 a1 a2 a3 a4 a5 34
  have hBB := below_new w (.cells #[.int .i64 a0, .int .i64 a1, .int .i64 a2, .int .i64 a3, .int .i64 a4, .int .i64 a5] 34)
  replace hA := hA.on hBB
  clear hX lenX ha hl hm hXX
  go_enter Try.func5, Try.ntmps5
  go_wp2_with fail
  refine (G1 _ hA).out.mono ?_
  rintro e w2 ⟨As, cs, rfl, hXr, hXn, hB'⟩
  have HA := Lib.hid (hA.on hB')
  have KA := Lib.hid (ka.below hB')
  have HBB := Lib.hid (below2 hBB hB')
  have HX := Lib.hid hXr
  have HXn := Lib.hid hXn
  clear hB' G1 hA ka hBB hXr hXn
  go_wp2_with fail
  go_loopw [6, 8] (fun x i wr => SoRel w2 (⟨a0, a1, a2, a3, a4, a5⟩ : Alm) X m x i wr) (fun _ i _ => m - (intOf i).toNat)
  case atStart => exact ⟨0, Nat.zero_le _, rfl, rfl, Below.refl _ _⟩
  case round =>
    obtain ⟨k, hk, rfl, rfl, hBi⟩ := hrel
    have HBi := Lib.hid hBi
    by_cases hlt : k < m
    · have Hk := Lib.hid hlt
      have kl : k < X.length := by rw [HlX.out]; exact hlt
      have Hs := Lib.hid (cntA_succ (⟨a0, a1, a2, a3, a4, a5⟩ : Alm) X k kl)
      obtain ⟨g, og, rfl, hg, hxx⟩ := HX.out k kl
      have Hgl := Lib.hid hg
      replace hxx := hxx.below hBi hg
      have i1 : (k : Int) < (m : Int) := by omega
      have i3 : (0 : Int) ≤ (k : Int) := by omega
      have Iw : Hid (wrap64 ((k : Int) + 1) = (k : Int) + 1) := Lib.hid (by have := Hm60.out; unfold wrap64; omega)
      rcases Nat.eq_zero_or_pos k with h0 | h0
      · subst h0
        obtain ⟨x, hx⟩ : ∃ x, x = X[0]'kl := ⟨_, rfl⟩
        rw [← hx] at hxx Hs
        rw [Nat.zero_mul, Nat.add_zero] at hxx
        obtain ⟨x0, x1, x2, x3, x4, x5⟩ := x
        clear hx kl hk hlt hg hBi
        go_wp2_with fail
        refine wp_region_held_drew (S := (fun _ : World => True)) (by kernel_rfl) trivial (fun hHeld => ?_)
        refine wpAnyH_take (i := 0) (oi := { dst := some 21, op := Op.move (Operand.tmp 8), type := 3, pos := _, after := #[], guard := none }) (v := ?_) rfl (by kernel_rfl) (by kernel_rfl) (by kernel_rfl) (fun _ _ _ h => h) (Or.inl ⟨by rfl, ?hy⟩) hHeld ?_
        case hy => intro w0 hSw; (try dsimp only at hSw); go_simp; (try with_reducible rfl)
        (try simp only [Act.put, List.setIfInBounds_toArray, List.set_cons_zero, List.set_cons_succ])
        refine wpAnyH_take (i := 1) (oi := { dst := some 22, op := Op.binOp BinOp.gtr 3 (Operand.tmp 21) (Operand.const (Value.int IntKind.i64 0)) 3, type := 4, pos := _, after := #[{ on := 0, ground := Ground.data }], guard := none }) (v := ?_) rfl (by kernel_rfl) (by kernel_rfl) (by kernel_rfl) (fun _ _ _ h => h) (Or.inl ⟨by rfl, ?hy⟩) hHeld ?_
        case hy => intro w0 hSw; (try dsimp only at hSw); go_simp; (try with_reducible rfl)
        (try simp only [Act.put, List.setIfInBounds_toArray, List.set_cons_zero, List.set_cons_succ])
        refine wpAnyH_take (i := 2) (oi := { dst := some 23, op := Op.move (Operand.tmp 22), type := 4, pos := _, after := #[{ on := 1, ground := Ground.data }], guard := none }) (v := ?_) rfl (by kernel_rfl) (by kernel_rfl) (by kernel_rfl) (fun _ _ _ h => h) (Or.inl ⟨by rfl, ?hy⟩) hHeld ?_
        case hy => intro w0 hSw; (try dsimp only at hSw); go_simp; (try with_reducible rfl)
        (try simp only [Act.put, List.setIfInBounds_toArray, List.set_cons_zero, List.set_cons_succ])
        refine wpAnyH_take (i := 3) (oi := { dst := some 24, op := Op.move (Operand.tmp 5), type := 22, pos := _, after := #[{ on := 2, ground := Ground.guard }], guard := some (2, true) }) (v := undef) rfl (by kernel_rfl) (by kernel_rfl) (by kernel_rfl) (fun _ _ _ h => h) (Or.inr ⟨by rfl, rfl⟩) hHeld ?_
        (try simp only [Act.put, List.setIfInBounds_toArray, List.set_cons_zero, List.set_cons_succ])
        refine wpAnyH_take (i := 4) (oi := { dst := some 25, op := Op.move (Operand.tmp 8), type := 3, pos := _, after := #[{ on := 2, ground := Ground.guard }], guard := some (2, true) }) (v := undef) rfl (by kernel_rfl) (by kernel_rfl) (by kernel_rfl) (fun _ _ _ h => h) (Or.inr ⟨by rfl, rfl⟩) hHeld ?_
        (try simp only [Act.put, List.setIfInBounds_toArray, List.set_cons_zero, List.set_cons_succ])
        refine wpAnyH_take (i := 5) (oi := { dst := some 26, op := Op.binOp BinOp.sub 3 (Operand.tmp 25) (Operand.const (Value.int IntKind.i64 1)) 3, type := 3, pos := _, after := #[{ on := 4, ground := Ground.data }, { on := 2, ground := Ground.guard }], guard := some (2, true) }) (v := undef) rfl (by kernel_rfl) (by kernel_rfl) (by kernel_rfl) (fun _ _ _ h => h) (Or.inr ⟨by rfl, rfl⟩) hHeld ?_
        (try simp only [Act.put, List.setIfInBounds_toArray, List.set_cons_zero, List.set_cons_succ])
        refine wpAnyH_take (i := 6) (oi := { dst := some 27, op := Op.indexAddr 22 (Operand.tmp 24) (Operand.tmp 26), type := 0, pos := _, after := #[{ on := 3, ground := Ground.data }, { on := 5, ground := Ground.data }, { on := 2, ground := Ground.guard }], guard := some (2, true) }) (v := undef) rfl (by kernel_rfl) (by kernel_rfl) (by kernel_rfl) (fun _ _ _ h => h) (Or.inr ⟨by rfl, rfl⟩) hHeld ?_
        (try simp only [Act.put, List.setIfInBounds_toArray, List.set_cons_zero, List.set_cons_succ])
        refine wpAnyH_take (i := 7) (oi := { dst := some 28, op := Op.load 34 (Operand.tmp 27), type := 34, pos := _, after := #[{ on := 6, ground := Ground.data }, { on := 2, ground := Ground.guard }], guard := some (2, true) }) (v := undef) rfl (by kernel_rfl) (by kernel_rfl) (by kernel_rfl) (fun _ _ _ h => h) (Or.inr ⟨by rfl, rfl⟩) hHeld ?_
        (try simp only [Act.put, List.setIfInBounds_toArray, List.set_cons_zero, List.set_cons_succ])
        refine wpAnyH_take (i := 8) (oi := { dst := some 29, op := Op.move (Operand.tmp 5), type := 22, pos := _, after := #[{ on := 2, ground := Ground.guard }], guard := some (2, true) }) (v := undef) rfl (by kernel_rfl) (by kernel_rfl) (by kernel_rfl) (fun _ _ _ h => h) (Or.inr ⟨by rfl, rfl⟩) hHeld ?_
        (try simp only [Act.put, List.setIfInBounds_toArray, List.set_cons_zero, List.set_cons_succ])
        refine wpAnyH_take (i := 9) (oi := { dst := some 30, op := Op.move (Operand.tmp 8), type := 3, pos := _, after := #[{ on := 2, ground := Ground.guard }], guard := some (2, true) }) (v := undef) rfl (by kernel_rfl) (by kernel_rfl) (by kernel_rfl) (fun _ _ _ h => h) (Or.inr ⟨by rfl, rfl⟩) hHeld ?_
        (try simp only [Act.put, List.setIfInBounds_toArray, List.set_cons_zero, List.set_cons_succ])
        refine wpAnyH_take (i := 10) (oi := { dst := some 31, op := Op.indexAddr 22 (Operand.tmp 29) (Operand.tmp 30), type := 0, pos := _, after := #[{ on := 8, ground := Ground.data }, { on := 9, ground := Ground.data }, { on := 2, ground := Ground.guard }], guard := some (2, true) }) (v := undef) rfl (by kernel_rfl) (by kernel_rfl) (by kernel_rfl) (fun _ _ _ h => h) (Or.inr ⟨by rfl, rfl⟩) hHeld ?_
        (try simp only [Act.put, List.setIfInBounds_toArray, List.set_cons_zero, List.set_cons_succ])
        refine wpAnyH_take (i := 11) (oi := { dst := some 32, op := Op.load 34 (Operand.tmp 31), type := 34, pos := _, after := #[{ on := 10, ground := Ground.data }, { on := 2, ground := Ground.guard }], guard := some (2, true) }) (v := undef) rfl (by kernel_rfl) (by kernel_rfl) (by kernel_rfl) (fun _ _ _ h => h) (Or.inr ⟨by rfl, rfl⟩) hHeld ?_
        (try simp only [Act.put, List.setIfInBounds_toArray, List.set_cons_zero, List.set_cons_succ])
        refine wpAnyH_take (i := 12) (oi := { dst := some 33, op := Op.call { callee := Callee.value (Operand.func 18), args := #[Operand.tmp 28, Operand.tmp 32], argTypes := #[34, 34] }, type := 3, pos := _, after := #[{ on := 7, ground := Ground.data }, { on := 11, ground := Ground.data }, { on := 2, ground := Ground.chain }, { on := 2, ground := Ground.guard }], guard := some (2, true) }) (v := undef) rfl (by kernel_rfl) (by kernel_rfl) (by kernel_rfl) (fun _ _ _ h => h) (Or.inr ⟨by rfl, rfl⟩) hHeld ?_
        (try simp only [Act.put, List.setIfInBounds_toArray, List.set_cons_zero, List.set_cons_succ])
        refine wpAnyH_take (i := 13) (oi := { dst := some 34, op := Op.binOp BinOp.gtr 3 (Operand.tmp 33) (Operand.const (Value.int IntKind.i64 0)) 3, type := 4, pos := _, after := #[{ on := 12, ground := Ground.data }, { on := 2, ground := Ground.guard }], guard := some (2, true) }) (v := undef) rfl (by kernel_rfl) (by kernel_rfl) (by kernel_rfl) (fun _ _ _ h => h) (Or.inr ⟨by rfl, rfl⟩) hHeld ?_
        (try simp only [Act.put, List.setIfInBounds_toArray, List.set_cons_zero, List.set_cons_succ])
        refine wpAnyH_take (i := 14) (oi := { dst := some 35, op := Op.pick (Operand.tmp 23) (Operand.tmp 34) (Operand.const (Value.bool false)), type := 4, pos := _, after := #[{ on := 2, ground := Ground.data }, { on := 13, ground := Ground.data }], guard := none }) (v := ?_) rfl (by kernel_rfl) (by kernel_rfl) (by kernel_rfl) (fun _ _ _ h => h) (Or.inl ⟨by rfl, ?hy⟩) hHeld ?_
        case hy => intro w0 hSw; (try dsimp only at hSw); go_simp; (try with_reducible rfl)
        (try simp only [Act.put, List.setIfInBounds_toArray, List.set_cons_zero, List.set_cons_succ])
        refine wpAnyH_done (by kernel_rfl) ?_ _
        clear hHeld
        obtain ⟨wx, hwx⟩ : ∃ W, W = wr.drew := ⟨_, rfl⟩
        have hD : Below wr.heap.size wr wx := by rw [hwx]; exact ⟨rfl, rfl, rfl, Nat.le_refl _, fun _ _ => rfl⟩
        replace hxx := hxx.below hD (Nat.lt_of_lt_of_le Hgl.out HBi.out.size)
        have hBx := below2 HBi.out hD
        rw [← hwx]
        clear hwx hD
        have ka := KA.out.below hBx
        have k0 := ka.c0
        have k1 := ka.c1
        have k2 := ka.c2
        have k3 := ka.c3
        have k4 := ka.c4
        have k5 := ka.c5
        have c0 := hxx.c0
        have c1 := hxx.c1
        have c2 := hxx.c2
        have c3 := hxx.c3
        have c4 := hxx.c4
        have c5 := hxx.c5
        (try simp only at c0 c1 c2 c3 c4 c5 k0 k1 k2 k3 k4 k5)
        have HBw := Lib.hid hBx
        clear ka hxx
        obtain ⟨z, hz⟩ : ∃ z, z = decide ((⟨x0, x1, x2, x3, x4, x5⟩ : Alm) = ⟨a0, a1, a2, a3, a4, a5⟩) := ⟨_, rfl⟩
        have hE := fun W => run_eql_al x0 x1 x2 x3 x4 x5 a0 a1 a2 a3 a4 a5 W
        rw [← hz] at hE Hs
        clear hz
        cases z
        · have He : Hid (cntA (⟨a0, a1, a2, a3, a4, a5⟩ : Alm) X (0 + 1) = cntA (⟨a0, a1, a2, a3, a4, a5⟩ : Alm) X 0) := Lib.hid (by rw [Hs.out]; rfl)
          clear Hs
          go_wp2
          go_quiet (fail)
          go_wp2
          go_roundw
          case rel => exact ⟨0 + 1, Hk.out, by first | rfl | (rw [Iw.out]; rfl), by rw [He.out], by first | exact below_drew HBw.out _ | exact below_drew (below_drew HBw.out _) _⟩
          case measure => have := Hk.out; (try rw [Iw.out]); simp [intOf]; omega
        · have He : Hid (cntA (⟨a0, a1, a2, a3, a4, a5⟩ : Alm) X (0 + 1) = cntA (⟨a0, a1, a2, a3, a4, a5⟩ : Alm) X 0 + 1) := Lib.hid (by rw [Hs.out]; rfl)
          have Ic : Hid (wrap64 ((cntA (⟨a0, a1, a2, a3, a4, a5⟩ : Alm) X 0 : Int) + 1) = (cntA (⟨a0, a1, a2, a3, a4, a5⟩ : Alm) X 0 : Int) + 1) := Lib.hid (by have := cntA_le (⟨a0, a1, a2, a3, a4, a5⟩ : Alm) X 0; have := Hk.out; have := Hm60.out; unfold wrap64; omega)
          clear Hs
          go_wp2
          go_quiet (fail)
          go_wp2
          go_roundw
          case rel => exact ⟨0 + 1, Hk.out, by first | rfl | (rw [Iw.out]; rfl), by rw [He.out]; first | rfl | (rw [Ic.out]; rfl), by first | exact below_drew HBw.out _ | exact below_drew (below_drew HBw.out _) _⟩
          case measure => have := Hk.out; (try rw [Iw.out]); simp [intOf]; omega
      · obtain ⟨t, rfl⟩ : ∃ t, k = t + 1 := ⟨k - 1, by omega⟩
        have tl : t < X.length := by omega
        obtain ⟨g', og', e', _, hyy⟩ := HX.out t tl
        cases e'
        replace hyy := hyy.below hBi hg
        have hle : Rk.cmp (X[t]'tl) (X[t + 1]'kl) ≤ 0 := List.pairwise_iff_getElem.1 HS.out t (t + 1) tl kl (by omega)
        obtain ⟨x, hx⟩ : ∃ x, x = X[t + 1]'kl := ⟨_, rfl⟩
        obtain ⟨y, hy⟩ : ∃ y, y = X[t]'tl := ⟨_, rfl⟩
        rw [← hx] at hxx Hs hle
        rw [← hy] at hyy hle
        obtain ⟨x0, x1, x2, x3, x4, x5⟩ := x
        obtain ⟨y0, y1, y2, y3, y4, y5⟩ := y
        have gC := fun W => KCompare_any HK y0 y1 y2 y3 y4 y5 x0 x1 x2 x3 x4 x5 W
        obtain ⟨v, hv⟩ : ∃ v, v = Rk.cmp ⟨y0, y1, y2, y3, y4, y5⟩ ⟨x0, x1, x2, x3, x4, x5⟩ := ⟨_, rfl⟩
        rw [← hv] at gC hle
        have jv : ((0 : Int) < v) = False := eq_false (by omega)
        have it : (t : Int) < (m : Int) := by omega
        have it0 : (0 : Int) ≤ (t : Int) := by omega
        have ip : ((0 : Int) < (t : Int) + 1) = True := eq_true (by omega)
        have Iw1 : Hid (IntKind.i64.wrap (t : Int) = (t : Int)) := Lib.hid (by have := Hm60.out; rw [IntKind.wrap_i64]; omega)
        have i1' : (t : Int) + 1 < (m : Int) := by omega
        replace Iw : Hid (wrap64 ((t : Int) + 1 + 1) = (t : Int) + 1 + 1) := Lib.hid (by have := Hm60.out; unfold wrap64; omega)
        have i3' : (0 : Int) ≤ (t : Int) + 1 := by omega
        clear hx hy hv hle kl tl hk hlt h0 hg hBi
        go_wp2_with fail
        refine wp_region_held_drew (S := (fun W : World => Al6 W g (og + t * 6) ⟨y0, y1, y2, y3, y4, y5⟩ ∧ Al6 W g (og + (t + 1) * 6) ⟨x0, x1, x2, x3, x4, x5⟩)) (by kernel_rfl) ⟨⟨hyy.c0, hyy.c1, hyy.c2, hyy.c3, hyy.c4, hyy.c5⟩, ⟨hxx.c0, hxx.c1, hxx.c2, hxx.c3, hxx.c4, hxx.c5⟩⟩ (fun hHeld => ?_)
        refine wpAnyH_take (i := 0) (oi := { dst := some 21, op := Op.move (Operand.tmp 8), type := 3, pos := _, after := #[], guard := none }) (v := ?_) rfl (by kernel_rfl) (by kernel_rfl) (by kernel_rfl) (fun _ _ _ h => h) (Or.inl ⟨by rfl, ?hy⟩) hHeld ?_
        case hy => intro w0 hSw; (try dsimp only at hSw); go_simp; (try with_reducible rfl)
        (try simp only [Act.put, List.setIfInBounds_toArray, List.set_cons_zero, List.set_cons_succ])
        refine wpAnyH_take (i := 1) (oi := { dst := some 22, op := Op.binOp BinOp.gtr 3 (Operand.tmp 21) (Operand.const (Value.int IntKind.i64 0)) 3, type := 4, pos := _, after := #[{ on := 0, ground := Ground.data }], guard := none }) (v := ?_) rfl (by kernel_rfl) (by kernel_rfl) (by kernel_rfl) (fun _ _ _ h => h) (Or.inl ⟨by rfl, ?hy⟩) hHeld ?_
        case hy => intro w0 hSw; (try dsimp only at hSw); go_simp; (try with_reducible rfl)
        (try simp only [Act.put, List.setIfInBounds_toArray, List.set_cons_zero, List.set_cons_succ])
        refine wpAnyH_take (i := 2) (oi := { dst := some 23, op := Op.move (Operand.tmp 22), type := 4, pos := _, after := #[{ on := 1, ground := Ground.data }], guard := none }) (v := ?_) rfl (by kernel_rfl) (by kernel_rfl) (by kernel_rfl) (fun _ _ _ h => h) (Or.inl ⟨by rfl, ?hy⟩) hHeld ?_
        case hy => intro w0 hSw; (try dsimp only at hSw); go_simp; (try with_reducible rfl)
        (try simp only [Act.put, List.setIfInBounds_toArray, List.set_cons_zero, List.set_cons_succ])
        refine wpAnyH_take (i := 3) (oi := { dst := some 24, op := Op.move (Operand.tmp 5), type := 22, pos := _, after := #[{ on := 2, ground := Ground.guard }], guard := some (2, true) }) (v := ?_) rfl (by kernel_rfl) (by kernel_rfl) (by kernel_rfl) (fun _ _ _ h => h) (Or.inl ⟨by rfl, ?hy⟩) hHeld ?_
        case hy => intro w0 hSw; (try dsimp only at hSw); go_simp; (try with_reducible rfl)
        (try simp only [Act.put, List.setIfInBounds_toArray, List.set_cons_zero, List.set_cons_succ])
        refine wpAnyH_take (i := 4) (oi := { dst := some 25, op := Op.move (Operand.tmp 8), type := 3, pos := _, after := #[{ on := 2, ground := Ground.guard }], guard := some (2, true) }) (v := ?_) rfl (by kernel_rfl) (by kernel_rfl) (by kernel_rfl) (fun _ _ _ h => h) (Or.inl ⟨by rfl, ?hy⟩) hHeld ?_
        case hy => intro w0 hSw; (try dsimp only at hSw); go_simp; (try with_reducible rfl)
        (try simp only [Act.put, List.setIfInBounds_toArray, List.set_cons_zero, List.set_cons_succ])
        refine wpAnyH_take (i := 5) (oi := { dst := some 26, op := Op.binOp BinOp.sub 3 (Operand.tmp 25) (Operand.const (Value.int IntKind.i64 1)) 3, type := 3, pos := _, after := #[{ on := 4, ground := Ground.data }, { on := 2, ground := Ground.guard }], guard := some (2, true) }) (v := ?_) rfl (by kernel_rfl) (by kernel_rfl) (by kernel_rfl) (fun _ _ _ h => h) (Or.inl ⟨by rfl, ?hy⟩) hHeld ?_
        case hy => intro w0 hSw; go_simp; (try rw [Iw1.out]); (try with_reducible rfl)
        (try simp only [Act.put, List.setIfInBounds_toArray, List.set_cons_zero, List.set_cons_succ])
        refine wpAnyH_take (i := 6) (oi := { dst := some 27, op := Op.indexAddr 22 (Operand.tmp 24) (Operand.tmp 26), type := 0, pos := _, after := #[{ on := 3, ground := Ground.data }, { on := 5, ground := Ground.data }, { on := 2, ground := Ground.guard }], guard := some (2, true) }) (v := ?_) rfl (by kernel_rfl) (by kernel_rfl) (by kernel_rfl) (fun _ _ _ h => h) (Or.inl ⟨by rfl, ?hy⟩) hHeld ?_
        case hy => intro w0 hSw; (try dsimp only at hSw); go_simp; (try with_reducible rfl)
        (try simp only [Act.put, List.setIfInBounds_toArray, List.set_cons_zero, List.set_cons_succ])
        refine wpAnyH_take (i := 7) (oi := { dst := some 28, op := Op.load 34 (Operand.tmp 27), type := 34, pos := _, after := #[{ on := 6, ground := Ground.data }, { on := 2, ground := Ground.guard }], guard := some (2, true) }) (v := ?_) rfl (by kernel_rfl) (by kernel_rfl) (by kernel_rfl) (fun _ _ _ h => h) (Or.inl ⟨by rfl, ?hy⟩) hHeld ?_
        case hy => intro w0 hSw; have q0 := hSw.1.c0; have q1 := hSw.1.c1; have q2 := hSw.1.c2; have q3 := hSw.1.c3; have q4 := hSw.1.c4; have q5 := hSw.1.c5; (try simp only at q0 q1 q2 q3 q4 q5); clear hSw; go_simp; (try with_reducible rfl)
        (try simp only [Act.put, List.setIfInBounds_toArray, List.set_cons_zero, List.set_cons_succ])
        refine wpAnyH_take (i := 8) (oi := { dst := some 29, op := Op.move (Operand.tmp 5), type := 22, pos := _, after := #[{ on := 2, ground := Ground.guard }], guard := some (2, true) }) (v := ?_) rfl (by kernel_rfl) (by kernel_rfl) (by kernel_rfl) (fun _ _ _ h => h) (Or.inl ⟨by rfl, ?hy⟩) hHeld ?_
        case hy => intro w0 hSw; (try dsimp only at hSw); go_simp; (try with_reducible rfl)
        (try simp only [Act.put, List.setIfInBounds_toArray, List.set_cons_zero, List.set_cons_succ])
        refine wpAnyH_take (i := 9) (oi := { dst := some 30, op := Op.move (Operand.tmp 8), type := 3, pos := _, after := #[{ on := 2, ground := Ground.guard }], guard := some (2, true) }) (v := ?_) rfl (by kernel_rfl) (by kernel_rfl) (by kernel_rfl) (fun _ _ _ h => h) (Or.inl ⟨by rfl, ?hy⟩) hHeld ?_
        case hy => intro w0 hSw; (try dsimp only at hSw); go_simp; (try with_reducible rfl)
        (try simp only [Act.put, List.setIfInBounds_toArray, List.set_cons_zero, List.set_cons_succ])
        refine wpAnyH_take (i := 10) (oi := { dst := some 31, op := Op.indexAddr 22 (Operand.tmp 29) (Operand.tmp 30), type := 0, pos := _, after := #[{ on := 8, ground := Ground.data }, { on := 9, ground := Ground.data }, { on := 2, ground := Ground.guard }], guard := some (2, true) }) (v := ?_) rfl (by kernel_rfl) (by kernel_rfl) (by kernel_rfl) (fun _ _ _ h => h) (Or.inl ⟨by rfl, ?hy⟩) hHeld ?_
        case hy => intro w0 hSw; (try dsimp only at hSw); go_simp; (try with_reducible rfl)
        (try simp only [Act.put, List.setIfInBounds_toArray, List.set_cons_zero, List.set_cons_succ])
        refine wpAnyH_take (i := 11) (oi := { dst := some 32, op := Op.load 34 (Operand.tmp 31), type := 34, pos := _, after := #[{ on := 10, ground := Ground.data }, { on := 2, ground := Ground.guard }], guard := some (2, true) }) (v := ?_) rfl (by kernel_rfl) (by kernel_rfl) (by kernel_rfl) (fun _ _ _ h => h) (Or.inl ⟨by rfl, ?hy⟩) hHeld ?_
        case hy => intro w0 hSw; have q0 := hSw.2.c0; have q1 := hSw.2.c1; have q2 := hSw.2.c2; have q3 := hSw.2.c3; have q4 := hSw.2.c4; have q5 := hSw.2.c5; (try simp only at q0 q1 q2 q3 q4 q5); clear hSw; go_simp; (try with_reducible rfl)
        (try simp only [Act.put, List.setIfInBounds_toArray, List.set_cons_zero, List.set_cons_succ])
        refine wpAnyH_ready (rs := [12]) (by kernel_rfl) (by simp) ?_
        refine AllReadyH.cons (o := { dst := some 33, op := Op.call { callee := Callee.value (Operand.func 18), args := #[Operand.tmp 28, Operand.tmp 32], argTypes := #[34, 34] }, type := 3, pos := _, after := #[{ on := 7, ground := Ground.data }, { on := 11, ground := Ground.data }, { on := 2, ground := Ground.chain }, { on := 2, ground := Ground.guard }], guard := some (2, true) }) rfl (fun K hK => ?_) AllReadyH.nil
        go_simp
        refine (gC _).mono ?_
        rintro e wx ⟨rfl, hB'⟩
        replace hyy := hyy.below (by first | exact below_undrew hB' | exact hB') (Nat.lt_of_lt_of_le Hgl.out HBi.out.size)
        replace hxx := hxx.below (by first | exact below_undrew hB' | exact hB') (Nat.lt_of_lt_of_le Hgl.out HBi.out.size)
        have hBx : Below w2.heap.size w2 wx := below2 HBi.out (by first | exact below_undrew hB' | exact hB')
        clear hB' gC
        go_wp2_with fail
        refine hK.out _ _ ⟨⟨hyy.c0, hyy.c1, hyy.c2, hyy.c3, hyy.c4, hyy.c5⟩, ⟨hxx.c0, hxx.c1, hxx.c2, hxx.c3, hxx.c4, hxx.c5⟩⟩ (fun hHeld => ?_)
        clear hK K
        (try simp only [Act.put, List.setIfInBounds_toArray, List.set_cons_zero, List.set_cons_succ])
        refine wpAnyH_take (i := 13) (oi := { dst := some 34, op := Op.binOp BinOp.gtr 3 (Operand.tmp 33) (Operand.const (Value.int IntKind.i64 0)) 3, type := 4, pos := _, after := #[{ on := 12, ground := Ground.data }, { on := 2, ground := Ground.guard }], guard := some (2, true) }) (v := ?_) rfl (by kernel_rfl) (by kernel_rfl) (by kernel_rfl) (fun _ _ _ h => h) (Or.inl ⟨by rfl, ?hy⟩) hHeld ?_
        case hy => intro w0 hSw; (try dsimp only at hSw); go_simp; (try with_reducible rfl)
        (try simp only [Act.put, List.setIfInBounds_toArray, List.set_cons_zero, List.set_cons_succ])
        refine wpAnyH_take (i := 14) (oi := { dst := some 35, op := Op.pick (Operand.tmp 23) (Operand.tmp 34) (Operand.const (Value.bool false)), type := 4, pos := _, after := #[{ on := 2, ground := Ground.data }, { on := 13, ground := Ground.data }], guard := none }) (v := ?_) rfl (by kernel_rfl) (by kernel_rfl) (by kernel_rfl) (fun _ _ _ h => h) (Or.inl ⟨by rfl, ?hy⟩) hHeld ?_
        case hy => intro w0 hSw; (try dsimp only at hSw); go_simp; (try with_reducible rfl)
        (try simp only [Act.put, List.setIfInBounds_toArray, List.set_cons_zero, List.set_cons_succ])
        refine wpAnyH_done (by kernel_rfl) ?_ _
        clear hHeld hyy jv it it0 ip Iw1
        have ka := KA.out.below hBx
        have k0 := ka.c0
        have k1 := ka.c1
        have k2 := ka.c2
        have k3 := ka.c3
        have k4 := ka.c4
        have k5 := ka.c5
        have c0 := hxx.c0
        have c1 := hxx.c1
        have c2 := hxx.c2
        have c3 := hxx.c3
        have c4 := hxx.c4
        have c5 := hxx.c5
        (try simp only at c0 c1 c2 c3 c4 c5 k0 k1 k2 k3 k4 k5)
        have HBw := Lib.hid hBx
        clear ka hxx
        obtain ⟨z, hz⟩ : ∃ z, z = decide ((⟨x0, x1, x2, x3, x4, x5⟩ : Alm) = ⟨a0, a1, a2, a3, a4, a5⟩) := ⟨_, rfl⟩
        have hE := fun W => run_eql_al x0 x1 x2 x3 x4 x5 a0 a1 a2 a3 a4 a5 W
        rw [← hz] at hE Hs
        clear hz
        cases z
        · have He : Hid (cntA (⟨a0, a1, a2, a3, a4, a5⟩ : Alm) X (t + 1 + 1) = cntA (⟨a0, a1, a2, a3, a4, a5⟩ : Alm) X (t + 1)) := Lib.hid (by rw [Hs.out]; rfl)
          clear Hs
          go_wp2
          go_quiet (fail)
          go_wp2
          go_roundw
          case rel => exact ⟨t + 1 + 1, Hk.out, by first | rfl | (rw [Iw.out]; rfl), by rw [He.out], by first | exact below_drew HBw.out _ | exact below_drew (below_drew HBw.out _) _⟩
          case measure => have := Hk.out; (try rw [Iw.out]); simp [intOf]; omega
        · have He : Hid (cntA (⟨a0, a1, a2, a3, a4, a5⟩ : Alm) X (t + 1 + 1) = cntA (⟨a0, a1, a2, a3, a4, a5⟩ : Alm) X (t + 1) + 1) := Lib.hid (by rw [Hs.out]; rfl)
          have Ic : Hid (wrap64 ((cntA (⟨a0, a1, a2, a3, a4, a5⟩ : Alm) X (t + 1) : Int) + 1) = (cntA (⟨a0, a1, a2, a3, a4, a5⟩ : Alm) X (t + 1) : Int) + 1) := Lib.hid (by have := cntA_le (⟨a0, a1, a2, a3, a4, a5⟩ : Alm) X (t + 1); have := Hk.out; have := Hm60.out; unfold wrap64; omega)
          clear Hs
          go_wp2
          go_quiet (fail)
          go_wp2
          go_roundw
          case rel => exact ⟨t + 1 + 1, Hk.out, by first | rfl | (rw [Iw.out]; rfl), by rw [He.out]; first | rfl | (rw [Ic.out]; rfl), by first | exact below_drew HBw.out _ | exact below_drew (below_drew HBw.out _) _⟩
          case measure => have := Hk.out; (try rw [Iw.out]); simp [intOf]; omega
    · obtain rfl : k = m := by omega
      have ik : ((k : Int) < (k : Int)) = False := eq_false (by omega)
      clear hk hlt
      have HAr := Lib.hid (HA.out.on hBi)
      have KAr := Lib.hid (KA.out.below hBi)
      have HXr := Lib.hid (HX.out.on hBi)
      have HBr := Lib.hid (below2 HBB.out hBi)
      clear hBi
      obtain ⟨w3, hw3⟩ : ∃ W, W = wr := ⟨_, rfl⟩
      subst hw3
      obtain ⟨nX, hnX⟩ : ∃ n : Nat, n = cntA (⟨a0, a1, a2, a3, a4, a5⟩ : Alm) X k := ⟨_, rfl⟩
      rw [← hnX] at HC ⊢
      clear hnX
      go_wp2_with fail
      go_loopw [7, 9] (fun x i wr => SpRel w3 (⟨a0, a1, a2, a3, a4, a5⟩ : Alm) ls k x i wr) (fun _ i _ => k - (intOf i).toNat)
      case atStart => exact ⟨0, 0, Nat.zero_le _, rfl, rfl, rfl⟩
      case round =>
        obtain ⟨j, n, hj, rfl, rfl, rfl⟩ := hrel
        by_cases hlt : j < k
        · have Hk := Lib.hid hlt
          have jl : j < ls.length := by rw [← Hm.out]; exact hlt
          have Hs := Lib.hid (cntA_succ (⟨a0, a1, a2, a3, a4, a5⟩ : Alm) ls j jl)
          obtain ⟨g, og, rfl, hg, h6⟩ := HAr.out j jl
          obtain ⟨x, hx⟩ : ∃ x, x = ls[j]'jl := ⟨_, rfl⟩
          rw [← hx] at h6 Hs
          obtain ⟨x0, x1, x2, x3, x4, x5⟩ := x
          have c0 := h6.c0
          have c1 := h6.c1
          have c2 := h6.c2
          have c3 := h6.c3
          have c4 := h6.c4
          have c5 := h6.c5
          have k0 := KAr.out.c0
          have k1 := KAr.out.c1
          have k2 := KAr.out.c2
          have k3 := KAr.out.c3
          have k4 := KAr.out.c4
          have k5 := KAr.out.c5
          (try simp only at c0 c1 c2 c3 c4 c5 k0 k1 k2 k3 k4 k5)
          have i1 : (j : Int) < (k : Int) := by omega
          have i3 : (0 : Int) ≤ (j : Int) := by omega
          have Iw : Hid (wrap64 ((j : Int) + 1) = (j : Int) + 1) := Lib.hid (by have := Hm60.out; unfold wrap64; omega)
          obtain ⟨z, hz⟩ : ∃ z, z = decide ((⟨x0, x1, x2, x3, x4, x5⟩ : Alm) = ⟨a0, a1, a2, a3, a4, a5⟩) := ⟨_, rfl⟩
          have hE := fun W => run_eql_al x0 x1 x2 x3 x4 x5 a0 a1 a2 a3 a4 a5 W
          rw [← hz] at hE Hs
          clear hz hx h6 jl hg hj hlt
          cases z
          · have He : Hid (cntA (⟨a0, a1, a2, a3, a4, a5⟩ : Alm) ls (j + 1) = cntA (⟨a0, a1, a2, a3, a4, a5⟩ : Alm) ls j) := Lib.hid (by rw [Hs.out]; rfl)
            clear Hs
            go_wp2
            go_quiet (fail)
            go_wp2
            go_roundw
            case rel => exact ⟨j + 1, _, Hk.out, by first | rfl | (rw [Iw.out]; rfl), by rw [He.out], rfl⟩
            case measure => have := Hk.out; (try rw [Iw.out]); simp [intOf]; omega
          · have He : Hid (cntA (⟨a0, a1, a2, a3, a4, a5⟩ : Alm) ls (j + 1) = cntA (⟨a0, a1, a2, a3, a4, a5⟩ : Alm) ls j + 1) := Lib.hid (by rw [Hs.out]; rfl)
            have Ic : Hid (wrap64 ((cntA (⟨a0, a1, a2, a3, a4, a5⟩ : Alm) ls j : Int) + 1) = (cntA (⟨a0, a1, a2, a3, a4, a5⟩ : Alm) ls j : Int) + 1) := Lib.hid (by have := cntA_le (⟨a0, a1, a2, a3, a4, a5⟩ : Alm) ls j; have := Hk.out; have := Hm60.out; unfold wrap64; omega)
            clear Hs
            go_wp2
            go_quiet (fail)
            go_wp2
            go_roundw
            case rel => exact ⟨j + 1, _, Hk.out, by first | rfl | (rw [Iw.out]; rfl), by rw [He.out]; first | rfl | (rw [Ic.out]; rfl), rfl⟩
            case measure => have := Hk.out; (try rw [Iw.out]); simp [intOf]; omega
        · obtain rfl : j = k := by omega
          have ij : ((j : Int) < (j : Int)) = False := eq_false (by omega)
          rw [← HC.out]
          clear hj hlt
          have hD : Below w3.heap.size w3 (w3.drewN n) := below_drew (Below.refl _ _) _
          have HX4 := Lib.hid (HXr.out.on hD)
          have HB4 := Lib.hid (below2 HBr.out hD)
          clear hD
          go_wp2_with fail
          refine (ranked_any HK _).mono ?_
          rintro e w5 ⟨rfl, hB'⟩
          have HX5 := Lib.hid (HX4.out.on hB')
          have HB5 := Lib.hid (below2 HB4.out hB')
          clear hB' HX4 HB4
          go_wp2_with fail
          refine (G2 _ _ _ HX5.out HXn.out).out.mono ?_
          rintro e w6 ⟨A6, c6, rfl, h6, hB'⟩
          have HX6 := Lib.hid (HX5.out.on hB')
          have HB6 := Lib.hid (below2 HB5.out hB')
          clear hB' HX5 HB5
          go_wp2_with fail
          refine (G3 _ _ _ _ _ h6 HX6.out).out.mono ?_
          rintro e w7 ⟨rfl, hB'⟩
          have HF := Lib.hid (below2 HB6.out hB')
          clear hB' h6
          go_wp2
          go_ret
          exact ⟨rfl, HF.out⟩

set_option maxHeartbeats 1000000 in
theorem rankSorts_walk (HK : Hid RankK) (A : Option Addr) (ca : Nat) (ls : List Alm) (a0 a1 a2 a3 a4 a5 : Int) (w : World) (hA : AlmsAt w w.heap.size A ls) (ha : A = none → ca = 0) :
    Calls Try.prog 5 #[.slice A ls.length ca, .agg #[.int .i64 a0, .int .i64 a1, .int .i64 a2, .int .i64 a3, .int .i64 a4, .int .i64 a5]] w fun e w' => e = .returned (.bool true) ∧ Below w.heap.size w w' := by
  rcases Nat.lt_or_ge 60 ls.length with h1 | h1
  · have i1 : (60 : Int) < (ls.length : Int) := by omega
    clear hA ha
    go_enter Try.func5, Try.ntmps5
    go_wp2
    go_ret
    exact ⟨rfl, below_new _ _⟩
  · exact rankSorts_go HK A ca ls a0 a1 a2 a3 a4 a5 w hA ha h1
end Go.Proofs.Ytlkopnbkmpgafaa
