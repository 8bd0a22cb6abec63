/-
  Layer 7 (rank): the law RankDoes, over the contracts (printed by tools/gen-rankdoes.py).
-/
import Derived.Test.YtlkopnbkmpgafaaRankSmudge
import Derived.Deep.RegionHeld3
namespace Go.Proofs.Ytlkopnbkmpgafaa
open Go.RowKit

/-- What a call ends with that hands back these alarms, in memory of their own. -/
def GivesO (w : World) (n : Nat) (ls : List Alm) (e : Ending) (w' : World) : Prop := ∃ A c, e = .returned (.slice A n c) ∧ OwnA w' w.heap.size (.slice A n c) ls ∧ AlmsAt w' w'.heap.size A ls ∧ (A = none → c = 0) ∧ Below w.heap.size w w'
theorem OwnedA.givesO {w : World} {n : Nat} {ls : List Alm} {e : Ending} {w' : World} (h : OwnedA w ls e w') (hn : n = ls.length) : GivesO w n ls e w' := by
  obtain ⟨v, rfl, ho, hB⟩ := h
  obtain ⟨A, c, rfl, hA, h0, _⟩ := ho.slice
  subst hn
  exact ⟨A, c, rfl, ho, hA, h0, hB⟩
theorem OwnA.lt {w : World} {base : Nat} {v : Value} {ls : List Alm} (h : OwnA w base v ls) : ∀ k, v.ownBlock = some k → k < w.heap.size := fun k hk => (World.ownsRow.lt h k hk).2
theorem own_apart {a b : Value} {n : Nat} (h1 : ∀ k, a.ownBlock = some k → k < n) (h2 : ∀ k, b.ownBlock = some k → n ≤ k) : b.ownBlock = none ∨ b.ownBlock ≠ a.ownBlock := by
  cases hb : b.ownBlock with
  | none => exact Or.inl rfl
  | some k =>
    refine Or.inr (fun e => ?_)
    have := h1 k e.symm
    have := h2 k hb
    omega
theorem OwnA.kept {w w' : World} {base : Nat} {v : Value} {ls : List Alm} {row : Option Nat} (h : OwnA w base v ls) (hg : w.grownBy w' row) (hne : v.ownBlock = none ∨ v.ownBlock ≠ row) : OwnA w' base v ls := World.ownsRow.kept h hg hne
theorem Calls.both {P : Program} {f : FuncId} {args : Array Value} {w : World} {R R' : Ending → World → Prop} (h : Calls P f args w R) (hm : ∀ e w', R e w' → R' e w') : Calls P f args w R' := h.mono hm

set_option linter.unusedVariables false in
set_option maxRecDepth 10000 in
set_option maxHeartbeats 8000000 in
theorem rankDoes_a (HK : Hid RankK) (A B : Option Addr) (ca cb : Nat) (ls ms : List Alm) (n b c : Int) (w : World) (hA : AlmsAt w w.heap.size A ls) (hB : AlmsAt w w.heap.size B ms) (ha : A = none → ca = 0) (hb : B = none → cb = 0) (hl : ls.length ≤ 60) (hl2 : ms.length ≤ 60) (hla0 : ls.length = 0) :
    Calls Try.prog 3 #[.slice A ls.length ca, .slice B ms.length cb, .int .i64 n, .agg #[.int .i64 b, .int .i64 c]] w fun e w' => e = .returned (.bool true) ∧ Below w.heap.size w w' := by
  obtain ⟨la, hla⟩ : ∃ x, x = ls.length := ⟨_, rfl⟩
  obtain ⟨lb, hlb⟩ : ∃ x, x = ms.length := ⟨_, rfl⟩
  rw [← hla, ← hlb]
  have i60 : ((60 : Int) < (la : Int)) = False := eq_false (by omega)
  have j60 : ((60 : Int) < (lb : Int)) = False := eq_false (by omega)
  have iz : ((0 : Int) < (la : Int)) = False := eq_false (by omega)
  have iz2 : (0 < la) = False := eq_false (by omega)
  obtain ⟨X, hX⟩ : ∃ X, X = Rk.sort ls := ⟨_, rfl⟩
  obtain ⟨lx, hlx⟩ : ∃ x, x = X.length := ⟨_, rfl⟩
  obtain ⟨Y, hY⟩ : ∃ Y, Y = Rk.top n ls := ⟨_, rfl⟩
  obtain ⟨ly, hly⟩ : ∃ x, x = Y.length := ⟨_, rfl⟩
  obtain ⟨M, hM⟩ : ∃ M, M = Rk.merge ls ms := ⟨_, rfl⟩
  obtain ⟨lm, hlm⟩ : ∃ x, x = M.length := ⟨_, rfl⟩
  obtain ⟨p, hp⟩ : ∃ p, p = (Rk.place ls b c).1 := ⟨_, rfl⟩
  obtain ⟨q, hq⟩ : ∃ q, q = (Rk.place ls b c).2 := ⟨_, rfl⟩
  have lenX : X.length = ls.length := by rw [hX, Rk.sort_len]
  have lenY : Y.length ≤ ls.length := by rw [hY]; exact Rk.top_len n ls
  have lenM : M.length = ls.length + ms.length := by rw [hM]; unfold Rk.merge; rw [Rk.sort_len, List.length_append]
  have G1 := fun (W : World) (h : AlmsAt W W.heap.size A ls) => Lib.hid ((RAOwn_n A la ca ls W hla h ha (by omega)).mono fun _ _ h => h.givesO hla)
  have G2 := fun (W : World) (h : AlmsAt W W.heap.size A ls) => Lib.hid ((KSort_n HK A la ca ls W hla h ha (by omega)).mono fun _ _ h => (by rw [← hX] at h; exact h.givesO hlx : GivesO W lx X _ _))
  have G3 := fun (W : World) (h : AlmsAt W W.heap.size A ls) => Lib.hid ((KTop_n HK n A la ca ls W hla h ha (by omega)).mono fun _ _ h => (by rw [← hY] at h; exact h.givesO hly : GivesO W ly Y _ _))
  have G4 := fun (W : World) (h : AlmsAt W W.heap.size A ls) => Lib.hid (KPlace_n HK A la ca ls b c W hla h ha (by omega))
  have G5 := fun (W : World) (A' : Option Addr) (c' : Nat) (h : AlmsAt W W.heap.size A' ls) => Lib.hid (RPlace_any A' la c' ls b c W hla h (by omega))
  rw [← hp, ← hq] at G4 G5
  have G6 := fun (W : World) (h : AlmsAt W W.heap.size A ls) (h2 : AlmsAt W W.heap.size B ms) => Lib.hid ((KMerge_n HK A B la lb ca cb ls ms W hla hlb h h2 ha hb (by omega) (by omega)).mono fun _ _ h => (by rw [← hM] at h; exact h.givesO hlm : GivesO W lm M _ _))
  have G7 := fun (W : World) (A' : Option Addr) (c' : Nat) (h : AlmsAt W W.heap.size A' ls) => Lib.hid ((RASort_n A' la c' ls W hla h (by omega)).mono fun _ _ h => (by rw [← hX] at h; exact h.givesO hlx : GivesO W lx X _ _))
  have S7 := fun (W : World) (A1 A2 : Option Addr) (c1 c2 : Nat) (h1 : AlmsAt W W.heap.size A1 X) (h2 : AlmsAt W W.heap.size A2 X) => Lib.hid (RASame_n A1 A2 lx lx c1 c2 X W hlx hlx h1 h2 (by omega))
  have G8 := fun (W : World) (A' : Option Addr) (c' : Nat) (h : AlmsAt W W.heap.size A' ls) => Lib.hid ((RTop_any n A' la c' ls W hla h (by omega)).mono fun _ _ h => (by rw [← hY] at h; exact h.givesO hly : GivesO W ly Y _ _))
  have S8 := fun (W : World) (A1 A2 : Option Addr) (c1 c2 : Nat) (h1 : AlmsAt W W.heap.size A1 Y) (h2 : AlmsAt W W.heap.size A2 Y) => Lib.hid (RASame_n A1 A2 ly ly c1 c2 Y W hly hly h1 h2 (by omega))
  have G9 := fun (W : World) (A' : Option Addr) (c' : Nat) (h : AlmsAt W W.heap.size A' ls) (h0 : A' = none → c' = 0) (h2 : AlmsAt W W.heap.size B ms) => Lib.hid ((RMerge_any A' B la lb c' cb ls ms W hla hlb h h2 h0 hb (by omega) (by omega)).mono fun _ _ h => (by rw [← hM] at h; exact h.givesO hlm : GivesO W lm M _ _))
  have S9 := fun (W : World) (A1 A2 : Option Addr) (c1 c2 : Nat) (h1 : AlmsAt W W.heap.size A1 M) (h2 : AlmsAt W W.heap.size A2 M) => Lib.hid (RASame_n A1 A2 lm lm c1 c2 M W hlm hlm h1 h2 (by omega))
  have S10 := fun (W : World) (A1 A2 : Option Addr) (c1 c2 : Nat) (h1 : AlmsAt W W.heap.size A1 ls) (h2 : AlmsAt W W.heap.size A2 ls) => Lib.hid (RASame_n A1 A2 la la c1 c2 ls W hla hla h1 h2 (by omega))
  have Lx : Hid (X.length ≤ 1000) := Lib.hid (by omega)
  have Ly : Hid (Y.length ≤ 1000) := Lib.hid (by omega)
  have Lm : Hid (M.length ≤ 1000) := Lib.hid (by omega)
  have HA0 := Lib.hid hA
  have ks := Two.new w b c 24
  have hBB := below_new w (.cells #[.int .i64 b, .int .i64 c] 24)
  replace hA := hA.on hBB
  replace hB := hB.on hBB
  clear ha hb hl hl2 hla hlb hX hY hM hlx hly hlm hp hq lenX lenY lenM hla0
  go_enter Try.func3, Try.ntmps3
  go_wp2_with fail
  refine ((G1 _ hA).out).mono ?_
  rintro e w1 ⟨Ao, co, rfl, _, hO, hOn, hB'⟩
  replace hA := hA.on hB'
  replace hB := hB.on hB'
  replace ks := ks.below hB'
  replace hBB := below2 hBB hB'
  clear hB' G1
  have HO1 := Lib.hid hO
  have Hz01 : Hid (w.heap.size ≤ w1.heap.size) := Lib.hid hBB.size
  have HOn := Lib.hid hOn
  clear hOn
  have hB1 := Below.refl w1.heap.size w1
  go_wp2_with fail
  refine ((G2 _ hA).out).mono ?_
  rintro e w2 ⟨Aa, cxa, rfl, oa, hSr, _, hB'⟩
  replace hA := hA.on hB'
  replace hB := hB.on hB'
  replace hO := hO.on hB'
  replace ks := ks.below hB'
  replace hBB := below2 hBB hB'
  replace hB1 := below2 hB1 hB'
  clear hB' G2
  have Hla := Lib.hid oa.lt
  have Hz12 : Hid (w1.heap.size ≤ w2.heap.size) := Lib.hid hB1.size
  have hB2 := Below.refl w2.heap.size w2
  go_wp2_with fail
  refine ((G3 _ hA).out).mono ?_
  rintro e w3 ⟨Ab, cxb, rfl, ob, hTr, _, hB'⟩
  replace hA := hA.on hB'
  replace hB := hB.on hB'
  replace hO := hO.on hB'
  replace hSr := hSr.on hB'
  replace oa := oa.below hB'
  replace ks := ks.below hB'
  replace hBB := below2 hBB hB'
  replace hB2 := below2 hB2 hB'
  replace hB1 := below2 hB1 hB'
  clear hB' G3
  have Hlb := Lib.hid ob.lt
  have Hz23 : Hid (w2.heap.size ≤ w3.heap.size) := Lib.hid hB2.size
  clear hB2
  have hB3 := Below.refl w3.heap.size w3
  have k0 := ks.c0
  have k1 := ks.c1
  go_wp2_with fail
  refine ((G4 _ hA).out).mono ?_
  rintro e w4 ⟨rfl, hB'⟩
  clear k0 k1
  replace hA := hA.on hB'
  replace hB := hB.on hB'
  replace hO := hO.on hB'
  replace hSr := hSr.on hB'
  replace hTr := hTr.on hB'
  replace oa := oa.below hB'
  replace ob := ob.below hB'
  replace ks := ks.below hB'
  replace hBB := below2 hBB hB'
  replace hB1 := below2 hB1 hB'
  replace hB3 := below2 hB3 hB'
  clear hB' G4
  have k0 := ks.c0
  have k1 := ks.c1
  go_wp2_with fail
  refine ((G5 _ _ _ hO).out).mono ?_
  rintro e w5 ⟨rfl, hB'⟩
  clear k0 k1
  replace hA := hA.on hB'
  replace hB := hB.on hB'
  replace hO := hO.on hB'
  replace hSr := hSr.on hB'
  replace hTr := hTr.on hB'
  replace oa := oa.below hB'
  replace ob := ob.below hB'
  replace ks := ks.below hB'
  replace hBB := below2 hBB hB'
  replace hB1 := below2 hB1 hB'
  replace hB3 := below2 hB3 hB'
  clear hB' G5
  clear ks
  have Hz3 : Hid (w3.heap.size ≤ w5.heap.size) := Lib.hid hB3.size
  clear hB3
  go_wp2_with fail
  refine ((G6 _ hA hB).out).mono ?_
  rintro e w6 ⟨Am, cxm, rfl, ox, hMr, _, hB'⟩
  replace hA := hA.on hB'
  replace hB := hB.on hB'
  replace hO := hO.on hB'
  replace hSr := hSr.on hB'
  replace hTr := hTr.on hB'
  replace oa := oa.below hB'
  replace ob := ob.below hB'
  replace hBB := below2 hBB hB'
  replace hB1 := below2 hB1 hB'
  clear hB' G6
  go_wp2_with fail
  refine ((G7 _ _ _ hO).out).mono ?_
  rintro e w7 ⟨A7, c7, rfl, _, h7, _, hB'⟩
  replace hA := hA.on hB'
  replace hB := hB.on hB'
  replace hO := hO.on hB'
  replace hSr := hSr.on hB'
  replace hTr := hTr.on hB'
  replace hMr := hMr.on hB'
  replace oa := oa.below hB'
  replace ob := ob.below hB'
  replace ox := ox.below hB'
  replace hBB := below2 hBB hB'
  replace hB1 := below2 hB1 hB'
  clear hB' G7
  go_wp2_with fail
  refine ((S7 _ _ _ _ _ hSr h7).out).mono ?_
  rintro e w8 ⟨rfl, hB'⟩
  replace hA := hA.on hB'
  replace hB := hB.on hB'
  replace hO := hO.on hB'
  replace hSr := hSr.on hB'
  replace hTr := hTr.on hB'
  replace hMr := hMr.on hB'
  replace h7 := h7.on hB'
  replace oa := oa.below hB'
  replace ob := ob.below hB'
  replace ox := ox.below hB'
  replace hBB := below2 hBB hB'
  replace hB1 := below2 hB1 hB'
  clear hB' S7
  clear h7 hSr
  go_wp2_with fail
  refine ((G8 _ _ _ hO).out).mono ?_
  rintro e w9 ⟨A8, c8, rfl, _, h8, _, hB'⟩
  replace hA := hA.on hB'
  replace hB := hB.on hB'
  replace hO := hO.on hB'
  replace hTr := hTr.on hB'
  replace hMr := hMr.on hB'
  replace oa := oa.below hB'
  replace ob := ob.below hB'
  replace ox := ox.below hB'
  replace hBB := below2 hBB hB'
  replace hB1 := below2 hB1 hB'
  clear hB' G8
  go_wp2_with fail
  refine ((S8 _ _ _ _ _ hTr h8).out).mono ?_
  rintro e w10 ⟨rfl, hB'⟩
  replace hA := hA.on hB'
  replace hB := hB.on hB'
  replace hO := hO.on hB'
  replace hTr := hTr.on hB'
  replace hMr := hMr.on hB'
  replace h8 := h8.on hB'
  replace oa := oa.below hB'
  replace ob := ob.below hB'
  replace ox := ox.below hB'
  replace hBB := below2 hBB hB'
  replace hB1 := below2 hB1 hB'
  clear hB' S8
  clear h8 hTr
  go_wp2_with fail
  refine ((G9 _ _ _ hO HOn.out hB).out).mono ?_
  rintro e w11 ⟨A9, c9, rfl, _, h9, _, hB'⟩
  replace hA := hA.on hB'
  replace hB := hB.on hB'
  replace hO := hO.on hB'
  replace hMr := hMr.on hB'
  replace oa := oa.below hB'
  replace ob := ob.below hB'
  replace ox := ox.below hB'
  replace hBB := below2 hBB hB'
  replace hB1 := below2 hB1 hB'
  clear hB' G9
  go_wp2_with fail
  refine ((S9 _ _ _ _ _ hMr h9).out).mono ?_
  rintro e w12 ⟨rfl, hB'⟩
  replace hA := hA.on hB'
  replace hB := hB.on hB'
  replace hO := hO.on hB'
  replace hMr := hMr.on hB'
  replace h9 := h9.on hB'
  replace oa := oa.below hB'
  replace ob := ob.below hB'
  replace ox := ox.below hB'
  replace hBB := below2 hBB hB'
  replace hB1 := below2 hB1 hB'
  clear hB' S9
  clear h9 hMr
  go_wp2_with fail
  refine wp_region_held_drew (S := (fun _ : World => True)) (by kernel_rfl) trivial (fun hHeld => ?_)
  refine wpAnyH_take (i := 0) (oi := { dst := some 76, op := Op.move (Operand.tmp 0), type := 22, pos := _, after := #[], guard := none }) (v := ?_) rfl (by kernel_rfl) (by kernel_rfl) (by kernel_rfl) (fun _ _ _ h => h) (Or.inl ⟨by rfl, ?hy⟩) hHeld ?_
  case hy => intro w0 hSw; (try dsimp only at hSw); go_simp; (try with_reducible rfl)
  (try simp only [Act.put, List.setIfInBounds_toArray, List.set_cons_zero, List.set_cons_succ])
  refine wpAnyH_take (i := 1) (oi := { dst := some 77, op := Op.call { callee := Callee.builtin Builtin.len, args := #[Operand.tmp 76], argTypes := #[22] }, type := 3, pos := _, after := #[{ on := 0, ground := Ground.data }], guard := none }) (v := ?_) rfl (by kernel_rfl) (by kernel_rfl) (by kernel_rfl) (fun _ _ _ h => h) (Or.inl ⟨by rfl, ?hy⟩) hHeld ?_
  case hy => intro w0 hSw; (try dsimp only at hSw); go_simp; (try with_reducible rfl)
  (try simp only [Act.put, List.setIfInBounds_toArray, List.set_cons_zero, List.set_cons_succ])
  refine wpAnyH_take (i := 2) (oi := { dst := some 78, op := Op.binOp BinOp.gtr 3 (Operand.tmp 77) (Operand.const (Value.int IntKind.i64 0)) 3, type := 4, pos := _, after := #[{ on := 1, ground := Ground.data }], guard := none }) (v := ?_) rfl (by kernel_rfl) (by kernel_rfl) (by kernel_rfl) (fun _ _ _ h => h) (Or.inl ⟨by rfl, ?hy⟩) hHeld ?_
  case hy => intro w0 hSw; (try dsimp only at hSw); go_simp; (try with_reducible rfl)
  (try simp only [Act.put, List.setIfInBounds_toArray, List.set_cons_zero, List.set_cons_succ])
  refine wpAnyH_take (i := 3) (oi := { dst := some 79, op := Op.move (Operand.tmp 78), type := 4, pos := _, after := #[{ on := 2, ground := Ground.data }], guard := none }) (v := ?_) rfl (by kernel_rfl) (by kernel_rfl) (by kernel_rfl) (fun _ _ _ h => h) (Or.inl ⟨by rfl, ?hy⟩) hHeld ?_
  case hy => intro w0 hSw; (try dsimp only at hSw); go_simp; (try with_reducible rfl)
  (try simp only [Act.put, List.setIfInBounds_toArray, List.set_cons_zero, List.set_cons_succ])
  refine wpAnyH_take (i := 4) (oi := { dst := some 80, op := Op.move (Operand.tmp 1), type := 22, pos := _, after := #[{ on := 3, ground := Ground.guard }], guard := some (3, true) }) (v := undef) rfl (by kernel_rfl) (by kernel_rfl) (by kernel_rfl) (fun _ _ _ h => h) (Or.inr ⟨by rfl, rfl⟩) hHeld ?_
  (try simp only [Act.put, List.setIfInBounds_toArray, List.set_cons_zero, List.set_cons_succ])
  refine wpAnyH_take (i := 5) (oi := { dst := some 81, op := Op.call { callee := Callee.builtin Builtin.len, args := #[Operand.tmp 80], argTypes := #[22] }, type := 3, pos := _, after := #[{ on := 4, ground := Ground.data }, { on := 3, ground := Ground.guard }], guard := some (3, true) }) (v := undef) rfl (by kernel_rfl) (by kernel_rfl) (by kernel_rfl) (fun _ _ _ h => h) (Or.inr ⟨by rfl, rfl⟩) hHeld ?_
  (try simp only [Act.put, List.setIfInBounds_toArray, List.set_cons_zero, List.set_cons_succ])
  refine wpAnyH_take (i := 6) (oi := { dst := some 82, op := Op.binOp BinOp.gtr 3 (Operand.tmp 81) (Operand.const (Value.int IntKind.i64 0)) 3, type := 4, pos := _, after := #[{ on := 5, ground := Ground.data }, { on := 3, ground := Ground.guard }], guard := some (3, true) }) (v := undef) rfl (by kernel_rfl) (by kernel_rfl) (by kernel_rfl) (fun _ _ _ h => h) (Or.inr ⟨by rfl, rfl⟩) hHeld ?_
  (try simp only [Act.put, List.setIfInBounds_toArray, List.set_cons_zero, List.set_cons_succ])
  refine wpAnyH_take (i := 7) (oi := { dst := some 83, op := Op.pick (Operand.tmp 79) (Operand.tmp 82) (Operand.const (Value.bool false)), type := 4, pos := _, after := #[{ on := 3, ground := Ground.data }, { on := 6, ground := Ground.data }], guard := none }) (v := ?_) rfl (by kernel_rfl) (by kernel_rfl) (by kernel_rfl) (fun _ _ _ h => h) (Or.inl ⟨by rfl, ?hy⟩) hHeld ?_
  case hy => intro w0 hSw; (try dsimp only at hSw); go_simp; (try with_reducible rfl)
  (try simp only [Act.put, List.setIfInBounds_toArray, List.set_cons_zero, List.set_cons_succ])
  refine wpAnyH_take (i := 8) (oi := { dst := some 84, op := Op.move (Operand.tmp 83), type := 4, pos := _, after := #[{ on := 7, ground := Ground.data }, { on := 3, ground := Ground.chain }], guard := none }) (v := ?_) rfl (by kernel_rfl) (by kernel_rfl) (by kernel_rfl) (fun _ _ _ h => h) (Or.inl ⟨by rfl, ?hy⟩) hHeld ?_
  case hy => intro w0 hSw; (try dsimp only at hSw); go_simp; (try with_reducible rfl)
  (try simp only [Act.put, List.setIfInBounds_toArray, List.set_cons_zero, List.set_cons_succ])
  refine wpAnyH_take (i := 9) (oi := { dst := some 85, op := Op.move (Operand.tmp 0), type := 22, pos := _, after := #[{ on := 8, ground := Ground.guard }], guard := some (8, true) }) (v := undef) rfl (by kernel_rfl) (by kernel_rfl) (by kernel_rfl) (fun _ _ _ h => h) (Or.inr ⟨by rfl, rfl⟩) hHeld ?_
  (try simp only [Act.put, List.setIfInBounds_toArray, List.set_cons_zero, List.set_cons_succ])
  refine wpAnyH_take (i := 10) (oi := { dst := some 86, op := Op.indexAddr 22 (Operand.tmp 85) (Operand.const (Value.int IntKind.i64 0)), type := 0, pos := _, after := #[{ on := 9, ground := Ground.data }, { on := 8, ground := Ground.guard }], guard := some (8, true) }) (v := undef) rfl (by kernel_rfl) (by kernel_rfl) (by kernel_rfl) (fun _ _ _ h => h) (Or.inr ⟨by rfl, rfl⟩) hHeld ?_
  (try simp only [Act.put, List.setIfInBounds_toArray, List.set_cons_zero, List.set_cons_succ])
  refine wpAnyH_take (i := 11) (oi := { dst := some 87, op := Op.load 34 (Operand.tmp 86), type := 34, pos := _, after := #[{ on := 10, ground := Ground.data }, { on := 8, ground := Ground.guard }], guard := some (8, true) }) (v := undef) rfl (by kernel_rfl) (by kernel_rfl) (by kernel_rfl) (fun _ _ _ h => h) (Or.inr ⟨by rfl, rfl⟩) hHeld ?_
  (try simp only [Act.put, List.setIfInBounds_toArray, List.set_cons_zero, List.set_cons_succ])
  refine wpAnyH_take (i := 12) (oi := { dst := some 88, op := Op.move (Operand.tmp 1), type := 22, pos := _, after := #[{ on := 8, ground := Ground.guard }], guard := some (8, true) }) (v := undef) rfl (by kernel_rfl) (by kernel_rfl) (by kernel_rfl) (fun _ _ _ h => h) (Or.inr ⟨by rfl, rfl⟩) hHeld ?_
  (try simp only [Act.put, List.setIfInBounds_toArray, List.set_cons_zero, List.set_cons_succ])
  refine wpAnyH_take (i := 13) (oi := { dst := some 89, op := Op.indexAddr 22 (Operand.tmp 88) (Operand.const (Value.int IntKind.i64 0)), type := 0, pos := _, after := #[{ on := 12, ground := Ground.data }, { on := 8, ground := Ground.guard }], guard := some (8, true) }) (v := undef) rfl (by kernel_rfl) (by kernel_rfl) (by kernel_rfl) (fun _ _ _ h => h) (Or.inr ⟨by rfl, rfl⟩) hHeld ?_
  (try simp only [Act.put, List.setIfInBounds_toArray, List.set_cons_zero, List.set_cons_succ])
  refine wpAnyH_take (i := 14) (oi := { dst := some 90, op := Op.load 34 (Operand.tmp 89), type := 34, pos := _, after := #[{ on := 13, ground := Ground.data }, { on := 8, ground := Ground.guard }], guard := some (8, true) }) (v := undef) rfl (by kernel_rfl) (by kernel_rfl) (by kernel_rfl) (fun _ _ _ h => h) (Or.inr ⟨by rfl, rfl⟩) hHeld ?_
  (try simp only [Act.put, List.setIfInBounds_toArray, List.set_cons_zero, List.set_cons_succ])
  refine wpAnyH_take (i := 15) (oi := { dst := some 91, op := Op.call { callee := Callee.value (Operand.func 18), args := #[Operand.tmp 87, Operand.tmp 90], argTypes := #[34, 34] }, type := 3, pos := _, after := #[{ on := 11, ground := Ground.data }, { on := 14, ground := Ground.data }, { on := 8, ground := Ground.chain }, { on := 8, ground := Ground.guard }], guard := some (8, true) }) (v := undef) rfl (by kernel_rfl) (by kernel_rfl) (by kernel_rfl) (fun _ _ _ h => h) (Or.inr ⟨by rfl, rfl⟩) hHeld ?_
  (try simp only [Act.put, List.setIfInBounds_toArray, List.set_cons_zero, List.set_cons_succ])
  refine wpAnyH_take (i := 16) (oi := { dst := some 92, op := Op.move (Operand.tmp 0), type := 22, pos := _, after := #[{ on := 8, ground := Ground.guard }], guard := some (8, true) }) (v := undef) rfl (by kernel_rfl) (by kernel_rfl) (by kernel_rfl) (fun _ _ _ h => h) (Or.inr ⟨by rfl, rfl⟩) hHeld ?_
  (try simp only [Act.put, List.setIfInBounds_toArray, List.set_cons_zero, List.set_cons_succ])
  refine wpAnyH_take (i := 17) (oi := { dst := some 93, op := Op.indexAddr 22 (Operand.tmp 92) (Operand.const (Value.int IntKind.i64 0)), type := 0, pos := _, after := #[{ on := 16, ground := Ground.data }, { on := 8, ground := Ground.guard }], guard := some (8, true) }) (v := undef) rfl (by kernel_rfl) (by kernel_rfl) (by kernel_rfl) (fun _ _ _ h => h) (Or.inr ⟨by rfl, rfl⟩) hHeld ?_
  (try simp only [Act.put, List.setIfInBounds_toArray, List.set_cons_zero, List.set_cons_succ])
  refine wpAnyH_take (i := 18) (oi := { dst := some 94, op := Op.load 34 (Operand.tmp 93), type := 34, pos := _, after := #[{ on := 17, ground := Ground.data }, { on := 8, ground := Ground.guard }], guard := some (8, true) }) (v := undef) rfl (by kernel_rfl) (by kernel_rfl) (by kernel_rfl) (fun _ _ _ h => h) (Or.inr ⟨by rfl, rfl⟩) hHeld ?_
  (try simp only [Act.put, List.setIfInBounds_toArray, List.set_cons_zero, List.set_cons_succ])
  refine wpAnyH_take (i := 19) (oi := { dst := some 95, op := Op.move (Operand.tmp 1), type := 22, pos := _, after := #[{ on := 8, ground := Ground.guard }], guard := some (8, true) }) (v := undef) rfl (by kernel_rfl) (by kernel_rfl) (by kernel_rfl) (fun _ _ _ h => h) (Or.inr ⟨by rfl, rfl⟩) hHeld ?_
  (try simp only [Act.put, List.setIfInBounds_toArray, List.set_cons_zero, List.set_cons_succ])
  refine wpAnyH_take (i := 20) (oi := { dst := some 96, op := Op.indexAddr 22 (Operand.tmp 95) (Operand.const (Value.int IntKind.i64 0)), type := 0, pos := _, after := #[{ on := 19, ground := Ground.data }, { on := 8, ground := Ground.guard }], guard := some (8, true) }) (v := undef) rfl (by kernel_rfl) (by kernel_rfl) (by kernel_rfl) (fun _ _ _ h => h) (Or.inr ⟨by rfl, rfl⟩) hHeld ?_
  (try simp only [Act.put, List.setIfInBounds_toArray, List.set_cons_zero, List.set_cons_succ])
  refine wpAnyH_take (i := 21) (oi := { dst := some 97, op := Op.load 34 (Operand.tmp 96), type := 34, pos := _, after := #[{ on := 20, ground := Ground.data }, { on := 8, ground := Ground.guard }], guard := some (8, true) }) (v := undef) rfl (by kernel_rfl) (by kernel_rfl) (by kernel_rfl) (fun _ _ _ h => h) (Or.inr ⟨by rfl, rfl⟩) hHeld ?_
  (try simp only [Act.put, List.setIfInBounds_toArray, List.set_cons_zero, List.set_cons_succ])
  refine wpAnyH_take (i := 22) (oi := { dst := some 98, op := Op.call { callee := Callee.value (Operand.func 19), args := #[Operand.tmp 94, Operand.tmp 97], argTypes := #[34, 34] }, type := 3, pos := _, after := #[{ on := 18, ground := Ground.data }, { on := 21, ground := Ground.data }, { on := 15, ground := Ground.chain }, { on := 8, ground := Ground.guard }], guard := some (8, true) }) (v := undef) rfl (by kernel_rfl) (by kernel_rfl) (by kernel_rfl) (fun _ _ _ h => h) (Or.inr ⟨by rfl, rfl⟩) hHeld ?_
  (try simp only [Act.put, List.setIfInBounds_toArray, List.set_cons_zero, List.set_cons_succ])
  refine wpAnyH_take (i := 23) (oi := { dst := some 99, op := Op.binOp BinOp.neq 3 (Operand.tmp 91) (Operand.tmp 98) 3, type := 4, pos := _, after := #[{ on := 15, ground := Ground.data }, { on := 22, ground := Ground.data }, { on := 8, ground := Ground.guard }], guard := some (8, true) }) (v := undef) rfl (by kernel_rfl) (by kernel_rfl) (by kernel_rfl) (fun _ _ _ h => h) (Or.inr ⟨by rfl, rfl⟩) hHeld ?_
  (try simp only [Act.put, List.setIfInBounds_toArray, List.set_cons_zero, List.set_cons_succ])
  refine wpAnyH_take (i := 24) (oi := { dst := some 100, op := Op.pick (Operand.tmp 84) (Operand.tmp 99) (Operand.const (Value.bool false)), type := 4, pos := _, after := #[{ on := 8, ground := Ground.data }, { on := 23, ground := Ground.data }], guard := none }) (v := ?_) rfl (by kernel_rfl) (by kernel_rfl) (by kernel_rfl) (fun _ _ _ h => h) (Or.inl ⟨by rfl, ?hy⟩) hHeld ?_
  case hy => intro w0 hSw; (try dsimp only at hSw); go_simp; (try with_reducible rfl)
  (try simp only [Act.put, List.setIfInBounds_toArray, List.set_cons_zero, List.set_cons_succ])
  refine wpAnyH_done (by kernel_rfl) ?_ _
  clear hHeld
  obtain ⟨w13, hw13⟩ : ∃ W, W = w12.drew := ⟨_, rfl⟩
  have hD : Below w12.heap.size w12 w13 := by rw [hw13]; exact ⟨rfl, rfl, rfl, Nat.le_refl _, fun _ _ => rfl⟩
  rw [← hw13]
  clear hw13
  replace hA := hA.on hD
  replace hB := hB.on hD
  replace hO := hO.on hD
  replace oa := oa.below hD
  replace ob := ob.below hD
  replace ox := ox.below hD
  replace hBB := below2 hBB hD
  replace hB1 := below2 hB1 hD
  clear hD
  have HBB := Lib.hid hBB
  have HB1 := Lib.hid hB1
  have HOa := Lib.hid oa
  have HOb := Lib.hid ob
  have HOx := Lib.hid ox
  clear hA hB hO hBB hB1 oa ob ox
  go_wp2_with fail
  refine (smudge_any _ _ X _ HOa.out Lx.out).mono ?_
  rintro e v1 ⟨rfl, hg⟩
  replace HB1 := Lib.hid (HB1.out.grown hg HB1.out.size HOa.out.ge)
  replace HOb := Lib.hid (HOb.out.kept hg (own_apart Hla.out HOb.out.ge))
  replace HOx := Lib.hid (HOx.out.kept hg (own_apart Hla.out (fun k hk => Nat.le_trans (Nat.le_trans Hz23.out Hz3.out) (HOx.out.ge k hk))))
  replace HBB := Lib.hid (HBB.out.grown hg HBB.out.size (fun k hk => Nat.le_trans Hz01.out (HOa.out.ge k hk)))
  clear hg HOa
  go_wp2_with fail
  refine (smudge_any _ _ Y _ HOb.out Ly.out).mono ?_
  rintro e v2 ⟨rfl, hg⟩
  replace HB1 := Lib.hid (HB1.out.grown hg HB1.out.size (fun k hk => Nat.le_trans Hz12.out (HOb.out.ge k hk)))
  replace HOx := Lib.hid (HOx.out.kept hg (own_apart Hlb.out (fun k hk => Nat.le_trans Hz3.out (HOx.out.ge k hk))))
  replace HBB := Lib.hid (HBB.out.grown hg HBB.out.size (fun k hk => Nat.le_trans (Nat.le_trans Hz01.out Hz12.out) (HOb.out.ge k hk)))
  clear hg HOb
  go_wp2_with fail
  refine (smudge_any _ _ M _ HOx.out Lm.out).mono ?_
  rintro e v3 ⟨rfl, hg⟩
  replace HB1 := Lib.hid (HB1.out.grown hg HB1.out.size (fun k hk => Nat.le_trans (Nat.le_trans Hz12.out (Nat.le_trans Hz23.out Hz3.out)) (HOx.out.ge k hk)))
  replace HBB := Lib.hid (HBB.out.grown hg HBB.out.size (fun k hk => Nat.le_trans (Nat.le_trans Hz01.out (Nat.le_trans Hz12.out (Nat.le_trans Hz23.out Hz3.out))) (HOx.out.ge k hk)))
  clear hg HOx
  have hA := (HA0.out.below HBB.out (Nat.le_refl _)).more HBB.out.size
  have hO := (HO1.out.below HB1.out (Nat.le_refl _)).more HB1.out.size
  have hBB := HBB.out
  clear HBB HB1
  go_wp2_with fail
  refine (ranked_any HK _).mono ?_
  rintro e v4 ⟨rfl, hB'⟩
  replace hA := hA.on hB'
  replace hO := hO.on hB'
  replace hBB := below2 hBB hB'
  clear hB'
  go_wp2_with fail
  refine (S10 _ _ _ _ _ hA hO).out.mono ?_
  rintro e v5 ⟨rfl, hB'⟩
  have HF := Lib.hid (below2 hBB hB')
  clear hB' hA hO hBB S10
  go_wp2
  go_ret
  exact ⟨rfl, HF.out⟩

set_option linter.unusedVariables false in
set_option maxRecDepth 10000 in
set_option maxHeartbeats 8000000 in
theorem rankDoes_b (HK : Hid RankK) (A B : Option Addr) (ca cb : Nat) (ls ms : List Alm) (n b c : Int) (w : World) (hA : AlmsAt w w.heap.size A ls) (hB : AlmsAt w w.heap.size B ms) (ha : A = none → ca = 0) (hb : B = none → cb = 0) (hl : ls.length ≤ 60) (hl2 : ms.length ≤ 60) (hla0 : 0 < ls.length) (hlb0 : ms.length = 0) :
    Calls Try.prog 3 #[.slice A ls.length ca, .slice B ms.length cb, .int .i64 n, .agg #[.int .i64 b, .int .i64 c]] w fun e w' => e = .returned (.bool true) ∧ Below w.heap.size w w' := by
  obtain ⟨la, hla⟩ : ∃ x, x = ls.length := ⟨_, rfl⟩
  obtain ⟨lb, hlb⟩ : ∃ x, x = ms.length := ⟨_, rfl⟩
  rw [← hla, ← hlb]
  have i60 : ((60 : Int) < (la : Int)) = False := eq_false (by omega)
  have j60 : ((60 : Int) < (lb : Int)) = False := eq_false (by omega)
  have iz : ((0 : Int) < (la : Int)) = True := eq_true (by omega)
  have jz : ((0 : Int) < (lb : Int)) = False := eq_false (by omega)
  have iz2 : (0 < la) = True := eq_true (by omega)
  have jz2 : (0 < lb) = False := eq_false (by omega)
  obtain ⟨X, hX⟩ : ∃ X, X = Rk.sort ls := ⟨_, rfl⟩
  obtain ⟨lx, hlx⟩ : ∃ x, x = X.length := ⟨_, rfl⟩
  obtain ⟨Y, hY⟩ : ∃ Y, Y = Rk.top n ls := ⟨_, rfl⟩
  obtain ⟨ly, hly⟩ : ∃ x, x = Y.length := ⟨_, rfl⟩
  obtain ⟨M, hM⟩ : ∃ M, M = Rk.merge ls ms := ⟨_, rfl⟩
  obtain ⟨lm, hlm⟩ : ∃ x, x = M.length := ⟨_, rfl⟩
  obtain ⟨p, hp⟩ : ∃ p, p = (Rk.place ls b c).1 := ⟨_, rfl⟩
  obtain ⟨q, hq⟩ : ∃ q, q = (Rk.place ls b c).2 := ⟨_, rfl⟩
  have lenX : X.length = ls.length := by rw [hX, Rk.sort_len]
  have lenY : Y.length ≤ ls.length := by rw [hY]; exact Rk.top_len n ls
  have lenM : M.length = ls.length + ms.length := by rw [hM]; unfold Rk.merge; rw [Rk.sort_len, List.length_append]
  have G1 := fun (W : World) (h : AlmsAt W W.heap.size A ls) => Lib.hid ((RAOwn_n A la ca ls W hla h ha (by omega)).mono fun _ _ h => h.givesO hla)
  have G2 := fun (W : World) (h : AlmsAt W W.heap.size A ls) => Lib.hid ((KSort_n HK A la ca ls W hla h ha (by omega)).mono fun _ _ h => (by rw [← hX] at h; exact h.givesO hlx : GivesO W lx X _ _))
  have G3 := fun (W : World) (h : AlmsAt W W.heap.size A ls) => Lib.hid ((KTop_n HK n A la ca ls W hla h ha (by omega)).mono fun _ _ h => (by rw [← hY] at h; exact h.givesO hly : GivesO W ly Y _ _))
  have G4 := fun (W : World) (h : AlmsAt W W.heap.size A ls) => Lib.hid (KPlace_n HK A la ca ls b c W hla h ha (by omega))
  have G5 := fun (W : World) (A' : Option Addr) (c' : Nat) (h : AlmsAt W W.heap.size A' ls) => Lib.hid (RPlace_any A' la c' ls b c W hla h (by omega))
  rw [← hp, ← hq] at G4 G5
  have G6 := fun (W : World) (h : AlmsAt W W.heap.size A ls) (h2 : AlmsAt W W.heap.size B ms) => Lib.hid ((KMerge_n HK A B la lb ca cb ls ms W hla hlb h h2 ha hb (by omega) (by omega)).mono fun _ _ h => (by rw [← hM] at h; exact h.givesO hlm : GivesO W lm M _ _))
  have G7 := fun (W : World) (A' : Option Addr) (c' : Nat) (h : AlmsAt W W.heap.size A' ls) => Lib.hid ((RASort_n A' la c' ls W hla h (by omega)).mono fun _ _ h => (by rw [← hX] at h; exact h.givesO hlx : GivesO W lx X _ _))
  have S7 := fun (W : World) (A1 A2 : Option Addr) (c1 c2 : Nat) (h1 : AlmsAt W W.heap.size A1 X) (h2 : AlmsAt W W.heap.size A2 X) => Lib.hid (RASame_n A1 A2 lx lx c1 c2 X W hlx hlx h1 h2 (by omega))
  have G8 := fun (W : World) (A' : Option Addr) (c' : Nat) (h : AlmsAt W W.heap.size A' ls) => Lib.hid ((RTop_any n A' la c' ls W hla h (by omega)).mono fun _ _ h => (by rw [← hY] at h; exact h.givesO hly : GivesO W ly Y _ _))
  have S8 := fun (W : World) (A1 A2 : Option Addr) (c1 c2 : Nat) (h1 : AlmsAt W W.heap.size A1 Y) (h2 : AlmsAt W W.heap.size A2 Y) => Lib.hid (RASame_n A1 A2 ly ly c1 c2 Y W hly hly h1 h2 (by omega))
  have G9 := fun (W : World) (A' : Option Addr) (c' : Nat) (h : AlmsAt W W.heap.size A' ls) (h0 : A' = none → c' = 0) (h2 : AlmsAt W W.heap.size B ms) => Lib.hid ((RMerge_any A' B la lb c' cb ls ms W hla hlb h h2 h0 hb (by omega) (by omega)).mono fun _ _ h => (by rw [← hM] at h; exact h.givesO hlm : GivesO W lm M _ _))
  have S9 := fun (W : World) (A1 A2 : Option Addr) (c1 c2 : Nat) (h1 : AlmsAt W W.heap.size A1 M) (h2 : AlmsAt W W.heap.size A2 M) => Lib.hid (RASame_n A1 A2 lm lm c1 c2 M W hlm hlm h1 h2 (by omega))
  have S10 := fun (W : World) (A1 A2 : Option Addr) (c1 c2 : Nat) (h1 : AlmsAt W W.heap.size A1 ls) (h2 : AlmsAt W W.heap.size A2 ls) => Lib.hid (RASame_n A1 A2 la la c1 c2 ls W hla hla h1 h2 (by omega))
  have Lx : Hid (X.length ≤ 1000) := Lib.hid (by omega)
  have Ly : Hid (Y.length ≤ 1000) := Lib.hid (by omega)
  have Lm : Hid (M.length ≤ 1000) := Lib.hid (by omega)
  have HA0 := Lib.hid hA
  have ks := Two.new w b c 24
  have hBB := below_new w (.cells #[.int .i64 b, .int .i64 c] 24)
  replace hA := hA.on hBB
  replace hB := hB.on hBB
  clear ha hb hl hl2 hla hlb hX hY hM hlx hly hlm hp hq lenX lenY lenM hla0 hlb0
  go_enter Try.func3, Try.ntmps3
  go_wp2_with fail
  refine ((G1 _ hA).out).mono ?_
  rintro e w1 ⟨Ao, co, rfl, _, hO, hOn, hB'⟩
  replace hA := hA.on hB'
  replace hB := hB.on hB'
  replace ks := ks.below hB'
  replace hBB := below2 hBB hB'
  clear hB' G1
  have HO1 := Lib.hid hO
  have Hz01 : Hid (w.heap.size ≤ w1.heap.size) := Lib.hid hBB.size
  have HOn := Lib.hid hOn
  clear hOn
  have hB1 := Below.refl w1.heap.size w1
  go_wp2_with fail
  refine ((G2 _ hA).out).mono ?_
  rintro e w2 ⟨Aa, cxa, rfl, oa, hSr, _, hB'⟩
  replace hA := hA.on hB'
  replace hB := hB.on hB'
  replace hO := hO.on hB'
  replace ks := ks.below hB'
  replace hBB := below2 hBB hB'
  replace hB1 := below2 hB1 hB'
  clear hB' G2
  have Hla := Lib.hid oa.lt
  have Hz12 : Hid (w1.heap.size ≤ w2.heap.size) := Lib.hid hB1.size
  have hB2 := Below.refl w2.heap.size w2
  go_wp2_with fail
  refine ((G3 _ hA).out).mono ?_
  rintro e w3 ⟨Ab, cxb, rfl, ob, hTr, _, hB'⟩
  replace hA := hA.on hB'
  replace hB := hB.on hB'
  replace hO := hO.on hB'
  replace hSr := hSr.on hB'
  replace oa := oa.below hB'
  replace ks := ks.below hB'
  replace hBB := below2 hBB hB'
  replace hB2 := below2 hB2 hB'
  replace hB1 := below2 hB1 hB'
  clear hB' G3
  have Hlb := Lib.hid ob.lt
  have Hz23 : Hid (w2.heap.size ≤ w3.heap.size) := Lib.hid hB2.size
  clear hB2
  have hB3 := Below.refl w3.heap.size w3
  have k0 := ks.c0
  have k1 := ks.c1
  go_wp2_with fail
  refine ((G4 _ hA).out).mono ?_
  rintro e w4 ⟨rfl, hB'⟩
  clear k0 k1
  replace hA := hA.on hB'
  replace hB := hB.on hB'
  replace hO := hO.on hB'
  replace hSr := hSr.on hB'
  replace hTr := hTr.on hB'
  replace oa := oa.below hB'
  replace ob := ob.below hB'
  replace ks := ks.below hB'
  replace hBB := below2 hBB hB'
  replace hB1 := below2 hB1 hB'
  replace hB3 := below2 hB3 hB'
  clear hB' G4
  have k0 := ks.c0
  have k1 := ks.c1
  go_wp2_with fail
  refine ((G5 _ _ _ hO).out).mono ?_
  rintro e w5 ⟨rfl, hB'⟩
  clear k0 k1
  replace hA := hA.on hB'
  replace hB := hB.on hB'
  replace hO := hO.on hB'
  replace hSr := hSr.on hB'
  replace hTr := hTr.on hB'
  replace oa := oa.below hB'
  replace ob := ob.below hB'
  replace ks := ks.below hB'
  replace hBB := below2 hBB hB'
  replace hB1 := below2 hB1 hB'
  replace hB3 := below2 hB3 hB'
  clear hB' G5
  clear ks
  have Hz3 : Hid (w3.heap.size ≤ w5.heap.size) := Lib.hid hB3.size
  clear hB3
  go_wp2_with fail
  refine ((G6 _ hA hB).out).mono ?_
  rintro e w6 ⟨Am, cxm, rfl, ox, hMr, _, hB'⟩
  replace hA := hA.on hB'
  replace hB := hB.on hB'
  replace hO := hO.on hB'
  replace hSr := hSr.on hB'
  replace hTr := hTr.on hB'
  replace oa := oa.below hB'
  replace ob := ob.below hB'
  replace hBB := below2 hBB hB'
  replace hB1 := below2 hB1 hB'
  clear hB' G6
  go_wp2_with fail
  refine ((G7 _ _ _ hO).out).mono ?_
  rintro e w7 ⟨A7, c7, rfl, _, h7, _, hB'⟩
  replace hA := hA.on hB'
  replace hB := hB.on hB'
  replace hO := hO.on hB'
  replace hSr := hSr.on hB'
  replace hTr := hTr.on hB'
  replace hMr := hMr.on hB'
  replace oa := oa.below hB'
  replace ob := ob.below hB'
  replace ox := ox.below hB'
  replace hBB := below2 hBB hB'
  replace hB1 := below2 hB1 hB'
  clear hB' G7
  go_wp2_with fail
  refine ((S7 _ _ _ _ _ hSr h7).out).mono ?_
  rintro e w8 ⟨rfl, hB'⟩
  replace hA := hA.on hB'
  replace hB := hB.on hB'
  replace hO := hO.on hB'
  replace hSr := hSr.on hB'
  replace hTr := hTr.on hB'
  replace hMr := hMr.on hB'
  replace h7 := h7.on hB'
  replace oa := oa.below hB'
  replace ob := ob.below hB'
  replace ox := ox.below hB'
  replace hBB := below2 hBB hB'
  replace hB1 := below2 hB1 hB'
  clear hB' S7
  clear h7 hSr
  go_wp2_with fail
  refine ((G8 _ _ _ hO).out).mono ?_
  rintro e w9 ⟨A8, c8, rfl, _, h8, _, hB'⟩
  replace hA := hA.on hB'
  replace hB := hB.on hB'
  replace hO := hO.on hB'
  replace hTr := hTr.on hB'
  replace hMr := hMr.on hB'
  replace oa := oa.below hB'
  replace ob := ob.below hB'
  replace ox := ox.below hB'
  replace hBB := below2 hBB hB'
  replace hB1 := below2 hB1 hB'
  clear hB' G8
  go_wp2_with fail
  refine ((S8 _ _ _ _ _ hTr h8).out).mono ?_
  rintro e w10 ⟨rfl, hB'⟩
  replace hA := hA.on hB'
  replace hB := hB.on hB'
  replace hO := hO.on hB'
  replace hTr := hTr.on hB'
  replace hMr := hMr.on hB'
  replace h8 := h8.on hB'
  replace oa := oa.below hB'
  replace ob := ob.below hB'
  replace ox := ox.below hB'
  replace hBB := below2 hBB hB'
  replace hB1 := below2 hB1 hB'
  clear hB' S8
  clear h8 hTr
  go_wp2_with fail
  refine ((G9 _ _ _ hO HOn.out hB).out).mono ?_
  rintro e w11 ⟨A9, c9, rfl, _, h9, _, hB'⟩
  replace hA := hA.on hB'
  replace hB := hB.on hB'
  replace hO := hO.on hB'
  replace hMr := hMr.on hB'
  replace oa := oa.below hB'
  replace ob := ob.below hB'
  replace ox := ox.below hB'
  replace hBB := below2 hBB hB'
  replace hB1 := below2 hB1 hB'
  clear hB' G9
  go_wp2_with fail
  refine ((S9 _ _ _ _ _ hMr h9).out).mono ?_
  rintro e w12 ⟨rfl, hB'⟩
  replace hA := hA.on hB'
  replace hB := hB.on hB'
  replace hO := hO.on hB'
  replace hMr := hMr.on hB'
  replace h9 := h9.on hB'
  replace oa := oa.below hB'
  replace ob := ob.below hB'
  replace ox := ox.below hB'
  replace hBB := below2 hBB hB'
  replace hB1 := below2 hB1 hB'
  clear hB' S9
  clear h9 hMr
  go_wp2_with fail
  refine wp_region_held_drew (S := (fun _ : World => True)) (by kernel_rfl) trivial (fun hHeld => ?_)
  refine wpAnyH_take (i := 0) (oi := { dst := some 76, op := Op.move (Operand.tmp 0), type := 22, pos := _, after := #[], guard := none }) (v := ?_) rfl (by kernel_rfl) (by kernel_rfl) (by kernel_rfl) (fun _ _ _ h => h) (Or.inl ⟨by rfl, ?hy⟩) hHeld ?_
  case hy => intro w0 hSw; (try dsimp only at hSw); go_simp; (try with_reducible rfl)
  (try simp only [Act.put, List.setIfInBounds_toArray, List.set_cons_zero, List.set_cons_succ])
  refine wpAnyH_take (i := 1) (oi := { dst := some 77, op := Op.call { callee := Callee.builtin Builtin.len, args := #[Operand.tmp 76], argTypes := #[22] }, type := 3, pos := _, after := #[{ on := 0, ground := Ground.data }], guard := none }) (v := ?_) rfl (by kernel_rfl) (by kernel_rfl) (by kernel_rfl) (fun _ _ _ h => h) (Or.inl ⟨by rfl, ?hy⟩) hHeld ?_
  case hy => intro w0 hSw; (try dsimp only at hSw); go_simp; (try with_reducible rfl)
  (try simp only [Act.put, List.setIfInBounds_toArray, List.set_cons_zero, List.set_cons_succ])
  refine wpAnyH_take (i := 2) (oi := { dst := some 78, op := Op.binOp BinOp.gtr 3 (Operand.tmp 77) (Operand.const (Value.int IntKind.i64 0)) 3, type := 4, pos := _, after := #[{ on := 1, ground := Ground.data }], guard := none }) (v := ?_) rfl (by kernel_rfl) (by kernel_rfl) (by kernel_rfl) (fun _ _ _ h => h) (Or.inl ⟨by rfl, ?hy⟩) hHeld ?_
  case hy => intro w0 hSw; (try dsimp only at hSw); go_simp; (try with_reducible rfl)
  (try simp only [Act.put, List.setIfInBounds_toArray, List.set_cons_zero, List.set_cons_succ])
  refine wpAnyH_take (i := 3) (oi := { dst := some 79, op := Op.move (Operand.tmp 78), type := 4, pos := _, after := #[{ on := 2, ground := Ground.data }], guard := none }) (v := ?_) rfl (by kernel_rfl) (by kernel_rfl) (by kernel_rfl) (fun _ _ _ h => h) (Or.inl ⟨by rfl, ?hy⟩) hHeld ?_
  case hy => intro w0 hSw; (try dsimp only at hSw); go_simp; (try with_reducible rfl)
  (try simp only [Act.put, List.setIfInBounds_toArray, List.set_cons_zero, List.set_cons_succ])
  refine wpAnyH_take (i := 4) (oi := { dst := some 80, op := Op.move (Operand.tmp 1), type := 22, pos := _, after := #[{ on := 3, ground := Ground.guard }], guard := some (3, true) }) (v := ?_) rfl (by kernel_rfl) (by kernel_rfl) (by kernel_rfl) (fun _ _ _ h => h) (Or.inl ⟨by rfl, ?hy⟩) hHeld ?_
  case hy => intro w0 hSw; (try dsimp only at hSw); go_simp; (try with_reducible rfl)
  (try simp only [Act.put, List.setIfInBounds_toArray, List.set_cons_zero, List.set_cons_succ])
  refine wpAnyH_take (i := 5) (oi := { dst := some 81, op := Op.call { callee := Callee.builtin Builtin.len, args := #[Operand.tmp 80], argTypes := #[22] }, type := 3, pos := _, after := #[{ on := 4, ground := Ground.data }, { on := 3, ground := Ground.guard }], guard := some (3, true) }) (v := ?_) rfl (by kernel_rfl) (by kernel_rfl) (by kernel_rfl) (fun _ _ _ h => h) (Or.inl ⟨by rfl, ?hy⟩) hHeld ?_
  case hy => intro w0 hSw; (try dsimp only at hSw); go_simp; (try with_reducible rfl)
  (try simp only [Act.put, List.setIfInBounds_toArray, List.set_cons_zero, List.set_cons_succ])
  refine wpAnyH_take (i := 6) (oi := { dst := some 82, op := Op.binOp BinOp.gtr 3 (Operand.tmp 81) (Operand.const (Value.int IntKind.i64 0)) 3, type := 4, pos := _, after := #[{ on := 5, ground := Ground.data }, { on := 3, ground := Ground.guard }], guard := some (3, true) }) (v := ?_) rfl (by kernel_rfl) (by kernel_rfl) (by kernel_rfl) (fun _ _ _ h => h) (Or.inl ⟨by rfl, ?hy⟩) hHeld ?_
  case hy => intro w0 hSw; (try dsimp only at hSw); go_simp; (try with_reducible rfl)
  (try simp only [Act.put, List.setIfInBounds_toArray, List.set_cons_zero, List.set_cons_succ])
  refine wpAnyH_take (i := 7) (oi := { dst := some 83, op := Op.pick (Operand.tmp 79) (Operand.tmp 82) (Operand.const (Value.bool false)), type := 4, pos := _, after := #[{ on := 3, ground := Ground.data }, { on := 6, ground := Ground.data }], guard := none }) (v := ?_) rfl (by kernel_rfl) (by kernel_rfl) (by kernel_rfl) (fun _ _ _ h => h) (Or.inl ⟨by rfl, ?hy⟩) hHeld ?_
  case hy => intro w0 hSw; (try dsimp only at hSw); go_simp; (try with_reducible rfl)
  (try simp only [Act.put, List.setIfInBounds_toArray, List.set_cons_zero, List.set_cons_succ])
  refine wpAnyH_take (i := 8) (oi := { dst := some 84, op := Op.move (Operand.tmp 83), type := 4, pos := _, after := #[{ on := 7, ground := Ground.data }, { on := 3, ground := Ground.chain }], guard := none }) (v := ?_) rfl (by kernel_rfl) (by kernel_rfl) (by kernel_rfl) (fun _ _ _ h => h) (Or.inl ⟨by rfl, ?hy⟩) hHeld ?_
  case hy => intro w0 hSw; (try dsimp only at hSw); go_simp; (try with_reducible rfl)
  (try simp only [Act.put, List.setIfInBounds_toArray, List.set_cons_zero, List.set_cons_succ])
  refine wpAnyH_take (i := 9) (oi := { dst := some 85, op := Op.move (Operand.tmp 0), type := 22, pos := _, after := #[{ on := 8, ground := Ground.guard }], guard := some (8, true) }) (v := undef) rfl (by kernel_rfl) (by kernel_rfl) (by kernel_rfl) (fun _ _ _ h => h) (Or.inr ⟨by rfl, rfl⟩) hHeld ?_
  (try simp only [Act.put, List.setIfInBounds_toArray, List.set_cons_zero, List.set_cons_succ])
  refine wpAnyH_take (i := 10) (oi := { dst := some 86, op := Op.indexAddr 22 (Operand.tmp 85) (Operand.const (Value.int IntKind.i64 0)), type := 0, pos := _, after := #[{ on := 9, ground := Ground.data }, { on := 8, ground := Ground.guard }], guard := some (8, true) }) (v := undef) rfl (by kernel_rfl) (by kernel_rfl) (by kernel_rfl) (fun _ _ _ h => h) (Or.inr ⟨by rfl, rfl⟩) hHeld ?_
  (try simp only [Act.put, List.setIfInBounds_toArray, List.set_cons_zero, List.set_cons_succ])
  refine wpAnyH_take (i := 11) (oi := { dst := some 87, op := Op.load 34 (Operand.tmp 86), type := 34, pos := _, after := #[{ on := 10, ground := Ground.data }, { on := 8, ground := Ground.guard }], guard := some (8, true) }) (v := undef) rfl (by kernel_rfl) (by kernel_rfl) (by kernel_rfl) (fun _ _ _ h => h) (Or.inr ⟨by rfl, rfl⟩) hHeld ?_
  (try simp only [Act.put, List.setIfInBounds_toArray, List.set_cons_zero, List.set_cons_succ])
  refine wpAnyH_take (i := 12) (oi := { dst := some 88, op := Op.move (Operand.tmp 1), type := 22, pos := _, after := #[{ on := 8, ground := Ground.guard }], guard := some (8, true) }) (v := undef) rfl (by kernel_rfl) (by kernel_rfl) (by kernel_rfl) (fun _ _ _ h => h) (Or.inr ⟨by rfl, rfl⟩) hHeld ?_
  (try simp only [Act.put, List.setIfInBounds_toArray, List.set_cons_zero, List.set_cons_succ])
  refine wpAnyH_take (i := 13) (oi := { dst := some 89, op := Op.indexAddr 22 (Operand.tmp 88) (Operand.const (Value.int IntKind.i64 0)), type := 0, pos := _, after := #[{ on := 12, ground := Ground.data }, { on := 8, ground := Ground.guard }], guard := some (8, true) }) (v := undef) rfl (by kernel_rfl) (by kernel_rfl) (by kernel_rfl) (fun _ _ _ h => h) (Or.inr ⟨by rfl, rfl⟩) hHeld ?_
  (try simp only [Act.put, List.setIfInBounds_toArray, List.set_cons_zero, List.set_cons_succ])
  refine wpAnyH_take (i := 14) (oi := { dst := some 90, op := Op.load 34 (Operand.tmp 89), type := 34, pos := _, after := #[{ on := 13, ground := Ground.data }, { on := 8, ground := Ground.guard }], guard := some (8, true) }) (v := undef) rfl (by kernel_rfl) (by kernel_rfl) (by kernel_rfl) (fun _ _ _ h => h) (Or.inr ⟨by rfl, rfl⟩) hHeld ?_
  (try simp only [Act.put, List.setIfInBounds_toArray, List.set_cons_zero, List.set_cons_succ])
  refine wpAnyH_take (i := 15) (oi := { dst := some 91, op := Op.call { callee := Callee.value (Operand.func 18), args := #[Operand.tmp 87, Operand.tmp 90], argTypes := #[34, 34] }, type := 3, pos := _, after := #[{ on := 11, ground := Ground.data }, { on := 14, ground := Ground.data }, { on := 8, ground := Ground.chain }, { on := 8, ground := Ground.guard }], guard := some (8, true) }) (v := undef) rfl (by kernel_rfl) (by kernel_rfl) (by kernel_rfl) (fun _ _ _ h => h) (Or.inr ⟨by rfl, rfl⟩) hHeld ?_
  (try simp only [Act.put, List.setIfInBounds_toArray, List.set_cons_zero, List.set_cons_succ])
  refine wpAnyH_take (i := 16) (oi := { dst := some 92, op := Op.move (Operand.tmp 0), type := 22, pos := _, after := #[{ on := 8, ground := Ground.guard }], guard := some (8, true) }) (v := undef) rfl (by kernel_rfl) (by kernel_rfl) (by kernel_rfl) (fun _ _ _ h => h) (Or.inr ⟨by rfl, rfl⟩) hHeld ?_
  (try simp only [Act.put, List.setIfInBounds_toArray, List.set_cons_zero, List.set_cons_succ])
  refine wpAnyH_take (i := 17) (oi := { dst := some 93, op := Op.indexAddr 22 (Operand.tmp 92) (Operand.const (Value.int IntKind.i64 0)), type := 0, pos := _, after := #[{ on := 16, ground := Ground.data }, { on := 8, ground := Ground.guard }], guard := some (8, true) }) (v := undef) rfl (by kernel_rfl) (by kernel_rfl) (by kernel_rfl) (fun _ _ _ h => h) (Or.inr ⟨by rfl, rfl⟩) hHeld ?_
  (try simp only [Act.put, List.setIfInBounds_toArray, List.set_cons_zero, List.set_cons_succ])
  refine wpAnyH_take (i := 18) (oi := { dst := some 94, op := Op.load 34 (Operand.tmp 93), type := 34, pos := _, after := #[{ on := 17, ground := Ground.data }, { on := 8, ground := Ground.guard }], guard := some (8, true) }) (v := undef) rfl (by kernel_rfl) (by kernel_rfl) (by kernel_rfl) (fun _ _ _ h => h) (Or.inr ⟨by rfl, rfl⟩) hHeld ?_
  (try simp only [Act.put, List.setIfInBounds_toArray, List.set_cons_zero, List.set_cons_succ])
  refine wpAnyH_take (i := 19) (oi := { dst := some 95, op := Op.move (Operand.tmp 1), type := 22, pos := _, after := #[{ on := 8, ground := Ground.guard }], guard := some (8, true) }) (v := undef) rfl (by kernel_rfl) (by kernel_rfl) (by kernel_rfl) (fun _ _ _ h => h) (Or.inr ⟨by rfl, rfl⟩) hHeld ?_
  (try simp only [Act.put, List.setIfInBounds_toArray, List.set_cons_zero, List.set_cons_succ])
  refine wpAnyH_take (i := 20) (oi := { dst := some 96, op := Op.indexAddr 22 (Operand.tmp 95) (Operand.const (Value.int IntKind.i64 0)), type := 0, pos := _, after := #[{ on := 19, ground := Ground.data }, { on := 8, ground := Ground.guard }], guard := some (8, true) }) (v := undef) rfl (by kernel_rfl) (by kernel_rfl) (by kernel_rfl) (fun _ _ _ h => h) (Or.inr ⟨by rfl, rfl⟩) hHeld ?_
  (try simp only [Act.put, List.setIfInBounds_toArray, List.set_cons_zero, List.set_cons_succ])
  refine wpAnyH_take (i := 21) (oi := { dst := some 97, op := Op.load 34 (Operand.tmp 96), type := 34, pos := _, after := #[{ on := 20, ground := Ground.data }, { on := 8, ground := Ground.guard }], guard := some (8, true) }) (v := undef) rfl (by kernel_rfl) (by kernel_rfl) (by kernel_rfl) (fun _ _ _ h => h) (Or.inr ⟨by rfl, rfl⟩) hHeld ?_
  (try simp only [Act.put, List.setIfInBounds_toArray, List.set_cons_zero, List.set_cons_succ])
  refine wpAnyH_take (i := 22) (oi := { dst := some 98, op := Op.call { callee := Callee.value (Operand.func 19), args := #[Operand.tmp 94, Operand.tmp 97], argTypes := #[34, 34] }, type := 3, pos := _, after := #[{ on := 18, ground := Ground.data }, { on := 21, ground := Ground.data }, { on := 15, ground := Ground.chain }, { on := 8, ground := Ground.guard }], guard := some (8, true) }) (v := undef) rfl (by kernel_rfl) (by kernel_rfl) (by kernel_rfl) (fun _ _ _ h => h) (Or.inr ⟨by rfl, rfl⟩) hHeld ?_
  (try simp only [Act.put, List.setIfInBounds_toArray, List.set_cons_zero, List.set_cons_succ])
  refine wpAnyH_take (i := 23) (oi := { dst := some 99, op := Op.binOp BinOp.neq 3 (Operand.tmp 91) (Operand.tmp 98) 3, type := 4, pos := _, after := #[{ on := 15, ground := Ground.data }, { on := 22, ground := Ground.data }, { on := 8, ground := Ground.guard }], guard := some (8, true) }) (v := undef) rfl (by kernel_rfl) (by kernel_rfl) (by kernel_rfl) (fun _ _ _ h => h) (Or.inr ⟨by rfl, rfl⟩) hHeld ?_
  (try simp only [Act.put, List.setIfInBounds_toArray, List.set_cons_zero, List.set_cons_succ])
  refine wpAnyH_take (i := 24) (oi := { dst := some 100, op := Op.pick (Operand.tmp 84) (Operand.tmp 99) (Operand.const (Value.bool false)), type := 4, pos := _, after := #[{ on := 8, ground := Ground.data }, { on := 23, ground := Ground.data }], guard := none }) (v := ?_) rfl (by kernel_rfl) (by kernel_rfl) (by kernel_rfl) (fun _ _ _ h => h) (Or.inl ⟨by rfl, ?hy⟩) hHeld ?_
  case hy => intro w0 hSw; (try dsimp only at hSw); go_simp; (try with_reducible rfl)
  (try simp only [Act.put, List.setIfInBounds_toArray, List.set_cons_zero, List.set_cons_succ])
  refine wpAnyH_done (by kernel_rfl) ?_ _
  clear hHeld
  obtain ⟨w13, hw13⟩ : ∃ W, W = w12.drew := ⟨_, rfl⟩
  have hD : Below w12.heap.size w12 w13 := by rw [hw13]; exact ⟨rfl, rfl, rfl, Nat.le_refl _, fun _ _ => rfl⟩
  rw [← hw13]
  clear hw13
  replace hA := hA.on hD
  replace hB := hB.on hD
  replace hO := hO.on hD
  replace oa := oa.below hD
  replace ob := ob.below hD
  replace ox := ox.below hD
  replace hBB := below2 hBB hD
  replace hB1 := below2 hB1 hD
  clear hD
  have HBB := Lib.hid hBB
  have HB1 := Lib.hid hB1
  have HOa := Lib.hid oa
  have HOb := Lib.hid ob
  have HOx := Lib.hid ox
  clear hA hB hO hBB hB1 oa ob ox
  go_wp2_with fail
  refine (smudge_any _ _ X _ HOa.out Lx.out).mono ?_
  rintro e v1 ⟨rfl, hg⟩
  replace HB1 := Lib.hid (HB1.out.grown hg HB1.out.size HOa.out.ge)
  replace HOb := Lib.hid (HOb.out.kept hg (own_apart Hla.out HOb.out.ge))
  replace HOx := Lib.hid (HOx.out.kept hg (own_apart Hla.out (fun k hk => Nat.le_trans (Nat.le_trans Hz23.out Hz3.out) (HOx.out.ge k hk))))
  replace HBB := Lib.hid (HBB.out.grown hg HBB.out.size (fun k hk => Nat.le_trans Hz01.out (HOa.out.ge k hk)))
  clear hg HOa
  go_wp2_with fail
  refine (smudge_any _ _ Y _ HOb.out Ly.out).mono ?_
  rintro e v2 ⟨rfl, hg⟩
  replace HB1 := Lib.hid (HB1.out.grown hg HB1.out.size (fun k hk => Nat.le_trans Hz12.out (HOb.out.ge k hk)))
  replace HOx := Lib.hid (HOx.out.kept hg (own_apart Hlb.out (fun k hk => Nat.le_trans Hz3.out (HOx.out.ge k hk))))
  replace HBB := Lib.hid (HBB.out.grown hg HBB.out.size (fun k hk => Nat.le_trans (Nat.le_trans Hz01.out Hz12.out) (HOb.out.ge k hk)))
  clear hg HOb
  go_wp2_with fail
  refine (smudge_any _ _ M _ HOx.out Lm.out).mono ?_
  rintro e v3 ⟨rfl, hg⟩
  replace HB1 := Lib.hid (HB1.out.grown hg HB1.out.size (fun k hk => Nat.le_trans (Nat.le_trans Hz12.out (Nat.le_trans Hz23.out Hz3.out)) (HOx.out.ge k hk)))
  replace HBB := Lib.hid (HBB.out.grown hg HBB.out.size (fun k hk => Nat.le_trans (Nat.le_trans Hz01.out (Nat.le_trans Hz12.out (Nat.le_trans Hz23.out Hz3.out))) (HOx.out.ge k hk)))
  clear hg HOx
  have hA := (HA0.out.below HBB.out (Nat.le_refl _)).more HBB.out.size
  have hO := (HO1.out.below HB1.out (Nat.le_refl _)).more HB1.out.size
  have hBB := HBB.out
  clear HBB HB1
  go_wp2_with fail
  refine (ranked_any HK _).mono ?_
  rintro e v4 ⟨rfl, hB'⟩
  replace hA := hA.on hB'
  replace hO := hO.on hB'
  replace hBB := below2 hBB hB'
  clear hB'
  go_wp2_with fail
  refine (S10 _ _ _ _ _ hA hO).out.mono ?_
  rintro e v5 ⟨rfl, hB'⟩
  have HF := Lib.hid (below2 hBB hB')
  clear hB' hA hO hBB S10
  go_wp2
  go_ret
  exact ⟨rfl, HF.out⟩

set_option linter.unusedVariables false in
set_option maxRecDepth 10000 in
set_option maxHeartbeats 8000000 in
theorem rankDoes_c (HK : Hid RankK) (A B : Option Addr) (ca cb : Nat) (ls ms : List Alm) (n b c : Int) (w : World) (hA : AlmsAt w w.heap.size A ls) (hB : AlmsAt w w.heap.size B ms) (ha : A = none → ca = 0) (hb : B = none → cb = 0) (hl : ls.length ≤ 60) (hl2 : ms.length ≤ 60) (hla0 : 0 < ls.length) (hlb0 : 0 < ms.length) :
    Calls Try.prog 3 #[.slice A ls.length ca, .slice B ms.length cb, .int .i64 n, .agg #[.int .i64 b, .int .i64 c]] w fun e w' => e = .returned (.bool true) ∧ Below w.heap.size w w' := by
  obtain ⟨la, hla⟩ : ∃ x, x = ls.length := ⟨_, rfl⟩
  obtain ⟨lb, hlb⟩ : ∃ x, x = ms.length := ⟨_, rfl⟩
  rw [← hla, ← hlb]
  have i60 : ((60 : Int) < (la : Int)) = False := eq_false (by omega)
  have j60 : ((60 : Int) < (lb : Int)) = False := eq_false (by omega)
  have iz : ((0 : Int) < (la : Int)) = True := eq_true (by omega)
  have jz : ((0 : Int) < (lb : Int)) = True := eq_true (by omega)
  have iz2 : (0 < la) = True := eq_true (by omega)
  have jz2 : (0 < lb) = True := eq_true (by omega)
  have i0l : (0 : Int) < (la : Int) := by omega
  have j0l : (0 : Int) < (lb : Int) := by omega
  have il0 : Hid (0 < ls.length) := Lib.hid hla0
  have jl0 : Hid (0 < ms.length) := Lib.hid hlb0
  obtain ⟨X, hX⟩ : ∃ X, X = Rk.sort ls := ⟨_, rfl⟩
  obtain ⟨lx, hlx⟩ : ∃ x, x = X.length := ⟨_, rfl⟩
  obtain ⟨Y, hY⟩ : ∃ Y, Y = Rk.top n ls := ⟨_, rfl⟩
  obtain ⟨ly, hly⟩ : ∃ x, x = Y.length := ⟨_, rfl⟩
  obtain ⟨M, hM⟩ : ∃ M, M = Rk.merge ls ms := ⟨_, rfl⟩
  obtain ⟨lm, hlm⟩ : ∃ x, x = M.length := ⟨_, rfl⟩
  obtain ⟨p, hp⟩ : ∃ p, p = (Rk.place ls b c).1 := ⟨_, rfl⟩
  obtain ⟨q, hq⟩ : ∃ q, q = (Rk.place ls b c).2 := ⟨_, rfl⟩
  have lenX : X.length = ls.length := by rw [hX, Rk.sort_len]
  have lenY : Y.length ≤ ls.length := by rw [hY]; exact Rk.top_len n ls
  have lenM : M.length = ls.length + ms.length := by rw [hM]; unfold Rk.merge; rw [Rk.sort_len, List.length_append]
  have G1 := fun (W : World) (h : AlmsAt W W.heap.size A ls) => Lib.hid ((RAOwn_n A la ca ls W hla h ha (by omega)).mono fun _ _ h => h.givesO hla)
  have G2 := fun (W : World) (h : AlmsAt W W.heap.size A ls) => Lib.hid ((KSort_n HK A la ca ls W hla h ha (by omega)).mono fun _ _ h => (by rw [← hX] at h; exact h.givesO hlx : GivesO W lx X _ _))
  have G3 := fun (W : World) (h : AlmsAt W W.heap.size A ls) => Lib.hid ((KTop_n HK n A la ca ls W hla h ha (by omega)).mono fun _ _ h => (by rw [← hY] at h; exact h.givesO hly : GivesO W ly Y _ _))
  have G4 := fun (W : World) (h : AlmsAt W W.heap.size A ls) => Lib.hid (KPlace_n HK A la ca ls b c W hla h ha (by omega))
  have G5 := fun (W : World) (A' : Option Addr) (c' : Nat) (h : AlmsAt W W.heap.size A' ls) => Lib.hid (RPlace_any A' la c' ls b c W hla h (by omega))
  rw [← hp, ← hq] at G4 G5
  have G6 := fun (W : World) (h : AlmsAt W W.heap.size A ls) (h2 : AlmsAt W W.heap.size B ms) => Lib.hid ((KMerge_n HK A B la lb ca cb ls ms W hla hlb h h2 ha hb (by omega) (by omega)).mono fun _ _ h => (by rw [← hM] at h; exact h.givesO hlm : GivesO W lm M _ _))
  have G7 := fun (W : World) (A' : Option Addr) (c' : Nat) (h : AlmsAt W W.heap.size A' ls) => Lib.hid ((RASort_n A' la c' ls W hla h (by omega)).mono fun _ _ h => (by rw [← hX] at h; exact h.givesO hlx : GivesO W lx X _ _))
  have S7 := fun (W : World) (A1 A2 : Option Addr) (c1 c2 : Nat) (h1 : AlmsAt W W.heap.size A1 X) (h2 : AlmsAt W W.heap.size A2 X) => Lib.hid (RASame_n A1 A2 lx lx c1 c2 X W hlx hlx h1 h2 (by omega))
  have G8 := fun (W : World) (A' : Option Addr) (c' : Nat) (h : AlmsAt W W.heap.size A' ls) => Lib.hid ((RTop_any n A' la c' ls W hla h (by omega)).mono fun _ _ h => (by rw [← hY] at h; exact h.givesO hly : GivesO W ly Y _ _))
  have S8 := fun (W : World) (A1 A2 : Option Addr) (c1 c2 : Nat) (h1 : AlmsAt W W.heap.size A1 Y) (h2 : AlmsAt W W.heap.size A2 Y) => Lib.hid (RASame_n A1 A2 ly ly c1 c2 Y W hly hly h1 h2 (by omega))
  have G9 := fun (W : World) (A' : Option Addr) (c' : Nat) (h : AlmsAt W W.heap.size A' ls) (h0 : A' = none → c' = 0) (h2 : AlmsAt W W.heap.size B ms) => Lib.hid ((RMerge_any A' B la lb c' cb ls ms W hla hlb h h2 h0 hb (by omega) (by omega)).mono fun _ _ h => (by rw [← hM] at h; exact h.givesO hlm : GivesO W lm M _ _))
  have S9 := fun (W : World) (A1 A2 : Option Addr) (c1 c2 : Nat) (h1 : AlmsAt W W.heap.size A1 M) (h2 : AlmsAt W W.heap.size A2 M) => Lib.hid (RASame_n A1 A2 lm lm c1 c2 M W hlm hlm h1 h2 (by omega))
  have S10 := fun (W : World) (A1 A2 : Option Addr) (c1 c2 : Nat) (h1 : AlmsAt W W.heap.size A1 ls) (h2 : AlmsAt W W.heap.size A2 ls) => Lib.hid (RASame_n A1 A2 la la c1 c2 ls W hla hla h1 h2 (by omega))
  have Lx : Hid (X.length ≤ 1000) := Lib.hid (by omega)
  have Ly : Hid (Y.length ≤ 1000) := Lib.hid (by omega)
  have Lm : Hid (M.length ≤ 1000) := Lib.hid (by omega)
  have HA0 := Lib.hid hA
  have ks := Two.new w b c 24
  have hBB := below_new w (.cells #[.int .i64 b, .int .i64 c] 24)
  replace hA := hA.on hBB
  replace hB := hB.on hBB
  clear ha hb hl hl2 hla hlb hX hY hM hlx hly hlm hp hq lenX lenY lenM hla0 hlb0
  go_enter Try.func3, Try.ntmps3
  go_wp2_with fail
  refine ((G1 _ hA).out).mono ?_
  rintro e w1 ⟨Ao, co, rfl, _, hO, hOn, hB'⟩
  replace hA := hA.on hB'
  replace hB := hB.on hB'
  replace ks := ks.below hB'
  replace hBB := below2 hBB hB'
  clear hB' G1
  have HO1 := Lib.hid hO
  have Hz01 : Hid (w.heap.size ≤ w1.heap.size) := Lib.hid hBB.size
  have HOn := Lib.hid hOn
  clear hOn
  have hB1 := Below.refl w1.heap.size w1
  go_wp2_with fail
  refine ((G2 _ hA).out).mono ?_
  rintro e w2 ⟨Aa, cxa, rfl, oa, hSr, _, hB'⟩
  replace hA := hA.on hB'
  replace hB := hB.on hB'
  replace hO := hO.on hB'
  replace ks := ks.below hB'
  replace hBB := below2 hBB hB'
  replace hB1 := below2 hB1 hB'
  clear hB' G2
  have Hla := Lib.hid oa.lt
  have Hz12 : Hid (w1.heap.size ≤ w2.heap.size) := Lib.hid hB1.size
  have hB2 := Below.refl w2.heap.size w2
  go_wp2_with fail
  refine ((G3 _ hA).out).mono ?_
  rintro e w3 ⟨Ab, cxb, rfl, ob, hTr, _, hB'⟩
  replace hA := hA.on hB'
  replace hB := hB.on hB'
  replace hO := hO.on hB'
  replace hSr := hSr.on hB'
  replace oa := oa.below hB'
  replace ks := ks.below hB'
  replace hBB := below2 hBB hB'
  replace hB2 := below2 hB2 hB'
  replace hB1 := below2 hB1 hB'
  clear hB' G3
  have Hlb := Lib.hid ob.lt
  have Hz23 : Hid (w2.heap.size ≤ w3.heap.size) := Lib.hid hB2.size
  clear hB2
  have hB3 := Below.refl w3.heap.size w3
  have k0 := ks.c0
  have k1 := ks.c1
  go_wp2_with fail
  refine ((G4 _ hA).out).mono ?_
  rintro e w4 ⟨rfl, hB'⟩
  clear k0 k1
  replace hA := hA.on hB'
  replace hB := hB.on hB'
  replace hO := hO.on hB'
  replace hSr := hSr.on hB'
  replace hTr := hTr.on hB'
  replace oa := oa.below hB'
  replace ob := ob.below hB'
  replace ks := ks.below hB'
  replace hBB := below2 hBB hB'
  replace hB1 := below2 hB1 hB'
  replace hB3 := below2 hB3 hB'
  clear hB' G4
  have k0 := ks.c0
  have k1 := ks.c1
  go_wp2_with fail
  refine ((G5 _ _ _ hO).out).mono ?_
  rintro e w5 ⟨rfl, hB'⟩
  clear k0 k1
  replace hA := hA.on hB'
  replace hB := hB.on hB'
  replace hO := hO.on hB'
  replace hSr := hSr.on hB'
  replace hTr := hTr.on hB'
  replace oa := oa.below hB'
  replace ob := ob.below hB'
  replace ks := ks.below hB'
  replace hBB := below2 hBB hB'
  replace hB1 := below2 hB1 hB'
  replace hB3 := below2 hB3 hB'
  clear hB' G5
  clear ks
  have Hz3 : Hid (w3.heap.size ≤ w5.heap.size) := Lib.hid hB3.size
  clear hB3
  go_wp2_with fail
  refine ((G6 _ hA hB).out).mono ?_
  rintro e w6 ⟨Am, cxm, rfl, ox, hMr, _, hB'⟩
  replace hA := hA.on hB'
  replace hB := hB.on hB'
  replace hO := hO.on hB'
  replace hSr := hSr.on hB'
  replace hTr := hTr.on hB'
  replace oa := oa.below hB'
  replace ob := ob.below hB'
  replace hBB := below2 hBB hB'
  replace hB1 := below2 hB1 hB'
  clear hB' G6
  go_wp2_with fail
  refine ((G7 _ _ _ hO).out).mono ?_
  rintro e w7 ⟨A7, c7, rfl, _, h7, _, hB'⟩
  replace hA := hA.on hB'
  replace hB := hB.on hB'
  replace hO := hO.on hB'
  replace hSr := hSr.on hB'
  replace hTr := hTr.on hB'
  replace hMr := hMr.on hB'
  replace oa := oa.below hB'
  replace ob := ob.below hB'
  replace ox := ox.below hB'
  replace hBB := below2 hBB hB'
  replace hB1 := below2 hB1 hB'
  clear hB' G7
  go_wp2_with fail
  refine ((S7 _ _ _ _ _ hSr h7).out).mono ?_
  rintro e w8 ⟨rfl, hB'⟩
  replace hA := hA.on hB'
  replace hB := hB.on hB'
  replace hO := hO.on hB'
  replace hSr := hSr.on hB'
  replace hTr := hTr.on hB'
  replace hMr := hMr.on hB'
  replace h7 := h7.on hB'
  replace oa := oa.below hB'
  replace ob := ob.below hB'
  replace ox := ox.below hB'
  replace hBB := below2 hBB hB'
  replace hB1 := below2 hB1 hB'
  clear hB' S7
  clear h7 hSr
  go_wp2_with fail
  refine ((G8 _ _ _ hO).out).mono ?_
  rintro e w9 ⟨A8, c8, rfl, _, h8, _, hB'⟩
  replace hA := hA.on hB'
  replace hB := hB.on hB'
  replace hO := hO.on hB'
  replace hTr := hTr.on hB'
  replace hMr := hMr.on hB'
  replace oa := oa.below hB'
  replace ob := ob.below hB'
  replace ox := ox.below hB'
  replace hBB := below2 hBB hB'
  replace hB1 := below2 hB1 hB'
  clear hB' G8
  go_wp2_with fail
  refine ((S8 _ _ _ _ _ hTr h8).out).mono ?_
  rintro e w10 ⟨rfl, hB'⟩
  replace hA := hA.on hB'
  replace hB := hB.on hB'
  replace hO := hO.on hB'
  replace hTr := hTr.on hB'
  replace hMr := hMr.on hB'
  replace h8 := h8.on hB'
  replace oa := oa.below hB'
  replace ob := ob.below hB'
  replace ox := ox.below hB'
  replace hBB := below2 hBB hB'
  replace hB1 := below2 hB1 hB'
  clear hB' S8
  clear h8 hTr
  go_wp2_with fail
  refine ((G9 _ _ _ hO HOn.out hB).out).mono ?_
  rintro e w11 ⟨A9, c9, rfl, _, h9, _, hB'⟩
  replace hA := hA.on hB'
  replace hB := hB.on hB'
  replace hO := hO.on hB'
  replace hMr := hMr.on hB'
  replace oa := oa.below hB'
  replace ob := ob.below hB'
  replace ox := ox.below hB'
  replace hBB := below2 hBB hB'
  replace hB1 := below2 hB1 hB'
  clear hB' G9
  go_wp2_with fail
  refine ((S9 _ _ _ _ _ hMr h9).out).mono ?_
  rintro e w12 ⟨rfl, hB'⟩
  replace hA := hA.on hB'
  replace hB := hB.on hB'
  replace hO := hO.on hB'
  replace hMr := hMr.on hB'
  replace h9 := h9.on hB'
  replace oa := oa.below hB'
  replace ob := ob.below hB'
  replace ox := ox.below hB'
  replace hBB := below2 hBB hB'
  replace hB1 := below2 hB1 hB'
  clear hB' S9
  clear h9 hMr
  obtain ⟨bx, ox0, rfl, lx0, hx0⟩ := hA 0 il0.out
  obtain ⟨by0, oy0, rfl, ly0, hy0⟩ := hB 0 jl0.out
  rw [Nat.zero_mul, Nat.add_zero] at hx0 hy0
  obtain ⟨x, hxe⟩ : ∃ x, x = ls[0]'il0.out := ⟨_, rfl⟩
  obtain ⟨y, hye⟩ : ∃ y, y = ms[0]'jl0.out := ⟨_, rfl⟩
  rw [← hxe] at hx0
  rw [← hye] at hy0
  clear hxe hye
  obtain ⟨x0, x1, x2, x3, x4, x5⟩ := x
  obtain ⟨y0, y1, y2, y3, y4, y5⟩ := y
  have gK := fun W => KCompare_any HK x0 x1 x2 x3 x4 x5 y0 y1 y2 y3 y4 y5 W
  have gR := fun W => RCompare_any x0 x1 x2 x3 x4 x5 y0 y1 y2 y3 y4 y5 W
  obtain ⟨z, hz⟩ : ∃ z, z = Rk.cmp ⟨x0, x1, x2, x3, x4, x5⟩ ⟨y0, y1, y2, y3, y4, y5⟩ := ⟨_, rfl⟩
  rw [← hz] at gK gR
  clear hz
  have zz : (z != z) = false := by simp
  go_wp2_with fail
  refine wp_region_held_drew (S := (fun W : World => Al6 W bx ox0 ⟨x0, x1, x2, x3, x4, x5⟩ ∧ Al6 W by0 oy0 ⟨y0, y1, y2, y3, y4, y5⟩)) (by kernel_rfl) ⟨⟨hx0.c0, hx0.c1, hx0.c2, hx0.c3, hx0.c4, hx0.c5⟩, ⟨hy0.c0, hy0.c1, hy0.c2, hy0.c3, hy0.c4, hy0.c5⟩⟩ (fun hHeld => ?_)
  refine wpAnyH_take (i := 0) (oi := { dst := some 76, op := Op.move (Operand.tmp 0), type := 22, pos := _, after := #[], guard := none }) (v := ?_) rfl (by kernel_rfl) (by kernel_rfl) (by kernel_rfl) (fun _ _ _ h => h) (Or.inl ⟨by rfl, ?hy⟩) hHeld ?_
  case hy => intro w0 hSw; (try dsimp only at hSw); go_simp; (try with_reducible rfl)
  (try simp only [Act.put, List.setIfInBounds_toArray, List.set_cons_zero, List.set_cons_succ])
  refine wpAnyH_take (i := 1) (oi := { dst := some 77, op := Op.call { callee := Callee.builtin Builtin.len, args := #[Operand.tmp 76], argTypes := #[22] }, type := 3, pos := _, after := #[{ on := 0, ground := Ground.data }], guard := none }) (v := ?_) rfl (by kernel_rfl) (by kernel_rfl) (by kernel_rfl) (fun _ _ _ h => h) (Or.inl ⟨by rfl, ?hy⟩) hHeld ?_
  case hy => intro w0 hSw; (try dsimp only at hSw); go_simp; (try with_reducible rfl)
  (try simp only [Act.put, List.setIfInBounds_toArray, List.set_cons_zero, List.set_cons_succ])
  refine wpAnyH_take (i := 2) (oi := { dst := some 78, op := Op.binOp BinOp.gtr 3 (Operand.tmp 77) (Operand.const (Value.int IntKind.i64 0)) 3, type := 4, pos := _, after := #[{ on := 1, ground := Ground.data }], guard := none }) (v := ?_) rfl (by kernel_rfl) (by kernel_rfl) (by kernel_rfl) (fun _ _ _ h => h) (Or.inl ⟨by rfl, ?hy⟩) hHeld ?_
  case hy => intro w0 hSw; (try dsimp only at hSw); go_simp; (try with_reducible rfl)
  (try simp only [Act.put, List.setIfInBounds_toArray, List.set_cons_zero, List.set_cons_succ])
  refine wpAnyH_take (i := 3) (oi := { dst := some 79, op := Op.move (Operand.tmp 78), type := 4, pos := _, after := #[{ on := 2, ground := Ground.data }], guard := none }) (v := ?_) rfl (by kernel_rfl) (by kernel_rfl) (by kernel_rfl) (fun _ _ _ h => h) (Or.inl ⟨by rfl, ?hy⟩) hHeld ?_
  case hy => intro w0 hSw; (try dsimp only at hSw); go_simp; (try with_reducible rfl)
  (try simp only [Act.put, List.setIfInBounds_toArray, List.set_cons_zero, List.set_cons_succ])
  refine wpAnyH_take (i := 4) (oi := { dst := some 80, op := Op.move (Operand.tmp 1), type := 22, pos := _, after := #[{ on := 3, ground := Ground.guard }], guard := some (3, true) }) (v := ?_) rfl (by kernel_rfl) (by kernel_rfl) (by kernel_rfl) (fun _ _ _ h => h) (Or.inl ⟨by rfl, ?hy⟩) hHeld ?_
  case hy => intro w0 hSw; (try dsimp only at hSw); go_simp; (try with_reducible rfl)
  (try simp only [Act.put, List.setIfInBounds_toArray, List.set_cons_zero, List.set_cons_succ])
  refine wpAnyH_take (i := 5) (oi := { dst := some 81, op := Op.call { callee := Callee.builtin Builtin.len, args := #[Operand.tmp 80], argTypes := #[22] }, type := 3, pos := _, after := #[{ on := 4, ground := Ground.data }, { on := 3, ground := Ground.guard }], guard := some (3, true) }) (v := ?_) rfl (by kernel_rfl) (by kernel_rfl) (by kernel_rfl) (fun _ _ _ h => h) (Or.inl ⟨by rfl, ?hy⟩) hHeld ?_
  case hy => intro w0 hSw; (try dsimp only at hSw); go_simp; (try with_reducible rfl)
  (try simp only [Act.put, List.setIfInBounds_toArray, List.set_cons_zero, List.set_cons_succ])
  refine wpAnyH_take (i := 6) (oi := { dst := some 82, op := Op.binOp BinOp.gtr 3 (Operand.tmp 81) (Operand.const (Value.int IntKind.i64 0)) 3, type := 4, pos := _, after := #[{ on := 5, ground := Ground.data }, { on := 3, ground := Ground.guard }], guard := some (3, true) }) (v := ?_) rfl (by kernel_rfl) (by kernel_rfl) (by kernel_rfl) (fun _ _ _ h => h) (Or.inl ⟨by rfl, ?hy⟩) hHeld ?_
  case hy => intro w0 hSw; (try dsimp only at hSw); go_simp; (try with_reducible rfl)
  (try simp only [Act.put, List.setIfInBounds_toArray, List.set_cons_zero, List.set_cons_succ])
  refine wpAnyH_take (i := 7) (oi := { dst := some 83, op := Op.pick (Operand.tmp 79) (Operand.tmp 82) (Operand.const (Value.bool false)), type := 4, pos := _, after := #[{ on := 3, ground := Ground.data }, { on := 6, ground := Ground.data }], guard := none }) (v := ?_) rfl (by kernel_rfl) (by kernel_rfl) (by kernel_rfl) (fun _ _ _ h => h) (Or.inl ⟨by rfl, ?hy⟩) hHeld ?_
  case hy => intro w0 hSw; (try dsimp only at hSw); go_simp; (try with_reducible rfl)
  (try simp only [Act.put, List.setIfInBounds_toArray, List.set_cons_zero, List.set_cons_succ])
  refine wpAnyH_take (i := 8) (oi := { dst := some 84, op := Op.move (Operand.tmp 83), type := 4, pos := _, after := #[{ on := 7, ground := Ground.data }, { on := 3, ground := Ground.chain }], guard := none }) (v := ?_) rfl (by kernel_rfl) (by kernel_rfl) (by kernel_rfl) (fun _ _ _ h => h) (Or.inl ⟨by rfl, ?hy⟩) hHeld ?_
  case hy => intro w0 hSw; (try dsimp only at hSw); go_simp; (try with_reducible rfl)
  (try simp only [Act.put, List.setIfInBounds_toArray, List.set_cons_zero, List.set_cons_succ])
  refine wpAnyH_take (i := 9) (oi := { dst := some 85, op := Op.move (Operand.tmp 0), type := 22, pos := _, after := #[{ on := 8, ground := Ground.guard }], guard := some (8, true) }) (v := ?_) rfl (by kernel_rfl) (by kernel_rfl) (by kernel_rfl) (fun _ _ _ h => h) (Or.inl ⟨by rfl, ?hy⟩) hHeld ?_
  case hy => intro w0 hSw; (try dsimp only at hSw); go_simp; (try with_reducible rfl)
  (try simp only [Act.put, List.setIfInBounds_toArray, List.set_cons_zero, List.set_cons_succ])
  refine wpAnyH_take (i := 10) (oi := { dst := some 86, op := Op.indexAddr 22 (Operand.tmp 85) (Operand.const (Value.int IntKind.i64 0)), type := 0, pos := _, after := #[{ on := 9, ground := Ground.data }, { on := 8, ground := Ground.guard }], guard := some (8, true) }) (v := ?_) rfl (by kernel_rfl) (by kernel_rfl) (by kernel_rfl) (fun _ _ _ h => h) (Or.inl ⟨by rfl, ?hy⟩) hHeld ?_
  case hy => intro w0 hSw; (try dsimp only at hSw); go_simp; (try with_reducible rfl)
  (try simp only [Act.put, List.setIfInBounds_toArray, List.set_cons_zero, List.set_cons_succ])
  refine wpAnyH_take (i := 11) (oi := { dst := some 87, op := Op.load 34 (Operand.tmp 86), type := 34, pos := _, after := #[{ on := 10, ground := Ground.data }, { on := 8, ground := Ground.guard }], guard := some (8, true) }) (v := ?_) rfl (by kernel_rfl) (by kernel_rfl) (by kernel_rfl) (fun _ _ _ h => h) (Or.inl ⟨by rfl, ?hy⟩) hHeld ?_
  case hy => intro w0 hSw; have q0 := hSw.1.c0; have q1 := hSw.1.c1; have q2 := hSw.1.c2; have q3 := hSw.1.c3; have q4 := hSw.1.c4; have q5 := hSw.1.c5; (try simp only at q0 q1 q2 q3 q4 q5); clear hSw; go_simp; (try with_reducible rfl)
  (try simp only [Act.put, List.setIfInBounds_toArray, List.set_cons_zero, List.set_cons_succ])
  refine wpAnyH_take (i := 12) (oi := { dst := some 88, op := Op.move (Operand.tmp 1), type := 22, pos := _, after := #[{ on := 8, ground := Ground.guard }], guard := some (8, true) }) (v := ?_) rfl (by kernel_rfl) (by kernel_rfl) (by kernel_rfl) (fun _ _ _ h => h) (Or.inl ⟨by rfl, ?hy⟩) hHeld ?_
  case hy => intro w0 hSw; (try dsimp only at hSw); go_simp; (try with_reducible rfl)
  (try simp only [Act.put, List.setIfInBounds_toArray, List.set_cons_zero, List.set_cons_succ])
  refine wpAnyH_take (i := 13) (oi := { dst := some 89, op := Op.indexAddr 22 (Operand.tmp 88) (Operand.const (Value.int IntKind.i64 0)), type := 0, pos := _, after := #[{ on := 12, ground := Ground.data }, { on := 8, ground := Ground.guard }], guard := some (8, true) }) (v := ?_) rfl (by kernel_rfl) (by kernel_rfl) (by kernel_rfl) (fun _ _ _ h => h) (Or.inl ⟨by rfl, ?hy⟩) hHeld ?_
  case hy => intro w0 hSw; (try dsimp only at hSw); go_simp; (try with_reducible rfl)
  (try simp only [Act.put, List.setIfInBounds_toArray, List.set_cons_zero, List.set_cons_succ])
  refine wpAnyH_take (i := 14) (oi := { dst := some 90, op := Op.load 34 (Operand.tmp 89), type := 34, pos := _, after := #[{ on := 13, ground := Ground.data }, { on := 8, ground := Ground.guard }], guard := some (8, true) }) (v := ?_) rfl (by kernel_rfl) (by kernel_rfl) (by kernel_rfl) (fun _ _ _ h => h) (Or.inl ⟨by rfl, ?hy⟩) hHeld ?_
  case hy => intro w0 hSw; have q0 := hSw.2.c0; have q1 := hSw.2.c1; have q2 := hSw.2.c2; have q3 := hSw.2.c3; have q4 := hSw.2.c4; have q5 := hSw.2.c5; (try simp only at q0 q1 q2 q3 q4 q5); clear hSw; go_simp; (try with_reducible rfl)
  (try simp only [Act.put, List.setIfInBounds_toArray, List.set_cons_zero, List.set_cons_succ])
  refine wpAnyH_take (i := 16) (oi := { dst := some 92, op := Op.move (Operand.tmp 0), type := 22, pos := _, after := #[{ on := 8, ground := Ground.guard }], guard := some (8, true) }) (v := ?_) rfl (by kernel_rfl) (by kernel_rfl) (by kernel_rfl) (fun _ _ _ h => h) (Or.inl ⟨by rfl, ?hy⟩) hHeld ?_
  case hy => intro w0 hSw; (try dsimp only at hSw); go_simp; (try with_reducible rfl)
  (try simp only [Act.put, List.setIfInBounds_toArray, List.set_cons_zero, List.set_cons_succ])
  refine wpAnyH_take (i := 17) (oi := { dst := some 93, op := Op.indexAddr 22 (Operand.tmp 92) (Operand.const (Value.int IntKind.i64 0)), type := 0, pos := _, after := #[{ on := 16, ground := Ground.data }, { on := 8, ground := Ground.guard }], guard := some (8, true) }) (v := ?_) rfl (by kernel_rfl) (by kernel_rfl) (by kernel_rfl) (fun _ _ _ h => h) (Or.inl ⟨by rfl, ?hy⟩) hHeld ?_
  case hy => intro w0 hSw; (try dsimp only at hSw); go_simp; (try with_reducible rfl)
  (try simp only [Act.put, List.setIfInBounds_toArray, List.set_cons_zero, List.set_cons_succ])
  refine wpAnyH_take (i := 18) (oi := { dst := some 94, op := Op.load 34 (Operand.tmp 93), type := 34, pos := _, after := #[{ on := 17, ground := Ground.data }, { on := 8, ground := Ground.guard }], guard := some (8, true) }) (v := ?_) rfl (by kernel_rfl) (by kernel_rfl) (by kernel_rfl) (fun _ _ _ h => h) (Or.inl ⟨by rfl, ?hy⟩) hHeld ?_
  case hy => intro w0 hSw; have q0 := hSw.1.c0; have q1 := hSw.1.c1; have q2 := hSw.1.c2; have q3 := hSw.1.c3; have q4 := hSw.1.c4; have q5 := hSw.1.c5; (try simp only at q0 q1 q2 q3 q4 q5); clear hSw; go_simp; (try with_reducible rfl)
  (try simp only [Act.put, List.setIfInBounds_toArray, List.set_cons_zero, List.set_cons_succ])
  refine wpAnyH_take (i := 19) (oi := { dst := some 95, op := Op.move (Operand.tmp 1), type := 22, pos := _, after := #[{ on := 8, ground := Ground.guard }], guard := some (8, true) }) (v := ?_) rfl (by kernel_rfl) (by kernel_rfl) (by kernel_rfl) (fun _ _ _ h => h) (Or.inl ⟨by rfl, ?hy⟩) hHeld ?_
  case hy => intro w0 hSw; (try dsimp only at hSw); go_simp; (try with_reducible rfl)
  (try simp only [Act.put, List.setIfInBounds_toArray, List.set_cons_zero, List.set_cons_succ])
  refine wpAnyH_take (i := 20) (oi := { dst := some 96, op := Op.indexAddr 22 (Operand.tmp 95) (Operand.const (Value.int IntKind.i64 0)), type := 0, pos := _, after := #[{ on := 19, ground := Ground.data }, { on := 8, ground := Ground.guard }], guard := some (8, true) }) (v := ?_) rfl (by kernel_rfl) (by kernel_rfl) (by kernel_rfl) (fun _ _ _ h => h) (Or.inl ⟨by rfl, ?hy⟩) hHeld ?_
  case hy => intro w0 hSw; (try dsimp only at hSw); go_simp; (try with_reducible rfl)
  (try simp only [Act.put, List.setIfInBounds_toArray, List.set_cons_zero, List.set_cons_succ])
  refine wpAnyH_take (i := 21) (oi := { dst := some 97, op := Op.load 34 (Operand.tmp 96), type := 34, pos := _, after := #[{ on := 20, ground := Ground.data }, { on := 8, ground := Ground.guard }], guard := some (8, true) }) (v := ?_) rfl (by kernel_rfl) (by kernel_rfl) (by kernel_rfl) (fun _ _ _ h => h) (Or.inl ⟨by rfl, ?hy⟩) hHeld ?_
  case hy => intro w0 hSw; have q0 := hSw.2.c0; have q1 := hSw.2.c1; have q2 := hSw.2.c2; have q3 := hSw.2.c3; have q4 := hSw.2.c4; have q5 := hSw.2.c5; (try simp only at q0 q1 q2 q3 q4 q5); clear hSw; go_simp; (try with_reducible rfl)
  (try simp only [Act.put, List.setIfInBounds_toArray, List.set_cons_zero, List.set_cons_succ])
  refine wpAnyH_ready (rs := [15]) (by kernel_rfl) (by simp) ?_
  refine AllReadyH.cons (o := { dst := some 91, op := Op.call { callee := Callee.value (Operand.func 18), args := #[Operand.tmp 87, Operand.tmp 90], argTypes := #[34, 34] }, type := 3, pos := _, after := #[{ on := 11, ground := Ground.data }, { on := 14, ground := Ground.data }, { on := 8, ground := Ground.chain }, { on := 8, ground := Ground.guard }], guard := some (8, true) }) rfl (fun K hK => ?_) AllReadyH.nil
  go_simp
  refine (gK _).mono ?_
  rintro e y1 ⟨rfl, hB'⟩
  replace hA := hA.on (by first | exact below_undrew hB' | exact hB')
  replace hB := hB.on (by first | exact below_undrew hB' | exact hB')
  replace hO := hO.on (by first | exact below_undrew hB' | exact hB')
  replace oa := oa.below (by first | exact below_undrew hB' | exact hB')
  replace ob := ob.below (by first | exact below_undrew hB' | exact hB')
  replace ox := ox.below (by first | exact below_undrew hB' | exact hB')
  replace hx0 := hx0.below (by first | exact below_undrew hB' | exact hB') (by omega)
  replace hy0 := hy0.below (by first | exact below_undrew hB' | exact hB') (by omega)
  have hsz := Below.size (by first | exact below_undrew hB' | exact hB')
  replace lx0 : _ < _ := Nat.lt_of_lt_of_le lx0 hsz
  replace ly0 : _ < _ := Nat.lt_of_lt_of_le ly0 hsz
  replace hBB := below2 hBB (by first | exact below_undrew hB' | exact hB')
  replace hB1 := below2 hB1 (by first | exact below_undrew hB' | exact hB')
  clear hB' hsz
  go_wp2_with fail
  refine hK.out _ _ ⟨⟨hx0.c0, hx0.c1, hx0.c2, hx0.c3, hx0.c4, hx0.c5⟩, ⟨hy0.c0, hy0.c1, hy0.c2, hy0.c3, hy0.c4, hy0.c5⟩⟩ (fun hHeld => ?_)
  clear hK K
  (try simp only [Act.put, List.setIfInBounds_toArray, List.set_cons_zero, List.set_cons_succ])
  refine wpAnyH_ready (rs := [22]) (by kernel_rfl) (by simp) ?_
  refine AllReadyH.cons (o := { dst := some 98, op := Op.call { callee := Callee.value (Operand.func 19), args := #[Operand.tmp 94, Operand.tmp 97], argTypes := #[34, 34] }, type := 3, pos := _, after := #[{ on := 18, ground := Ground.data }, { on := 21, ground := Ground.data }, { on := 15, ground := Ground.chain }, { on := 8, ground := Ground.guard }], guard := some (8, true) }) rfl (fun K hK => ?_) AllReadyH.nil
  go_simp
  refine (gR _).mono ?_
  rintro e y2 ⟨rfl, hB'⟩
  replace hA := hA.on (by first | exact below_undrew hB' | exact hB')
  replace hB := hB.on (by first | exact below_undrew hB' | exact hB')
  replace hO := hO.on (by first | exact below_undrew hB' | exact hB')
  replace oa := oa.below (by first | exact below_undrew hB' | exact hB')
  replace ob := ob.below (by first | exact below_undrew hB' | exact hB')
  replace ox := ox.below (by first | exact below_undrew hB' | exact hB')
  replace hx0 := hx0.below (by first | exact below_undrew hB' | exact hB') (by omega)
  replace hy0 := hy0.below (by first | exact below_undrew hB' | exact hB') (by omega)
  have hsz := Below.size (by first | exact below_undrew hB' | exact hB')
  replace lx0 : _ < _ := Nat.lt_of_lt_of_le lx0 hsz
  replace ly0 : _ < _ := Nat.lt_of_lt_of_le ly0 hsz
  replace hBB := below2 hBB (by first | exact below_undrew hB' | exact hB')
  replace hB1 := below2 hB1 (by first | exact below_undrew hB' | exact hB')
  clear hB' hsz
  go_wp2_with fail
  refine hK.out _ _ ⟨⟨hx0.c0, hx0.c1, hx0.c2, hx0.c3, hx0.c4, hx0.c5⟩, ⟨hy0.c0, hy0.c1, hy0.c2, hy0.c3, hy0.c4, hy0.c5⟩⟩ (fun hHeld => ?_)
  clear hK K
  (try simp only [Act.put, List.setIfInBounds_toArray, List.set_cons_zero, List.set_cons_succ])
  refine wpAnyH_take (i := 23) (oi := { dst := some 99, op := Op.binOp BinOp.neq 3 (Operand.tmp 91) (Operand.tmp 98) 3, type := 4, pos := _, after := #[{ on := 15, ground := Ground.data }, { on := 22, ground := Ground.data }, { on := 8, ground := Ground.guard }], guard := some (8, true) }) (v := ?_) rfl (by kernel_rfl) (by kernel_rfl) (by kernel_rfl) (fun _ _ _ h => h) (Or.inl ⟨by rfl, ?hy⟩) hHeld ?_
  case hy => intro w0 hSw; (try dsimp only at hSw); go_simp; (try with_reducible rfl)
  (try simp only [Act.put, List.setIfInBounds_toArray, List.set_cons_zero, List.set_cons_succ])
  refine wpAnyH_take (i := 24) (oi := { dst := some 100, op := Op.pick (Operand.tmp 84) (Operand.tmp 99) (Operand.const (Value.bool false)), type := 4, pos := _, after := #[{ on := 8, ground := Ground.data }, { on := 23, ground := Ground.data }], guard := none }) (v := ?_) rfl (by kernel_rfl) (by kernel_rfl) (by kernel_rfl) (fun _ _ _ h => h) (Or.inl ⟨by rfl, ?hy⟩) hHeld ?_
  case hy => intro w0 hSw; (try dsimp only at hSw); go_simp; (try with_reducible rfl)
  (try simp only [Act.put, List.setIfInBounds_toArray, List.set_cons_zero, List.set_cons_succ])
  refine wpAnyH_done (by kernel_rfl) ?_ _
  clear hHeld
  clear hx0 hy0 lx0 ly0 gK gR
  have HBB := Lib.hid hBB
  have HB1 := Lib.hid hB1
  have HOa := Lib.hid oa
  have HOb := Lib.hid ob
  have HOx := Lib.hid ox
  clear hA hB hO hBB hB1 oa ob ox
  go_wp2_with fail
  refine (smudge_any _ _ X _ HOa.out Lx.out).mono ?_
  rintro e v1 ⟨rfl, hg⟩
  replace HB1 := Lib.hid (HB1.out.grown hg HB1.out.size HOa.out.ge)
  replace HOb := Lib.hid (HOb.out.kept hg (own_apart Hla.out HOb.out.ge))
  replace HOx := Lib.hid (HOx.out.kept hg (own_apart Hla.out (fun k hk => Nat.le_trans (Nat.le_trans Hz23.out Hz3.out) (HOx.out.ge k hk))))
  replace HBB := Lib.hid (HBB.out.grown hg HBB.out.size (fun k hk => Nat.le_trans Hz01.out (HOa.out.ge k hk)))
  clear hg HOa
  go_wp2_with fail
  refine (smudge_any _ _ Y _ HOb.out Ly.out).mono ?_
  rintro e v2 ⟨rfl, hg⟩
  replace HB1 := Lib.hid (HB1.out.grown hg HB1.out.size (fun k hk => Nat.le_trans Hz12.out (HOb.out.ge k hk)))
  replace HOx := Lib.hid (HOx.out.kept hg (own_apart Hlb.out (fun k hk => Nat.le_trans Hz3.out (HOx.out.ge k hk))))
  replace HBB := Lib.hid (HBB.out.grown hg HBB.out.size (fun k hk => Nat.le_trans (Nat.le_trans Hz01.out Hz12.out) (HOb.out.ge k hk)))
  clear hg HOb
  go_wp2_with fail
  refine (smudge_any _ _ M _ HOx.out Lm.out).mono ?_
  rintro e v3 ⟨rfl, hg⟩
  replace HB1 := Lib.hid (HB1.out.grown hg HB1.out.size (fun k hk => Nat.le_trans (Nat.le_trans Hz12.out (Nat.le_trans Hz23.out Hz3.out)) (HOx.out.ge k hk)))
  replace HBB := Lib.hid (HBB.out.grown hg HBB.out.size (fun k hk => Nat.le_trans (Nat.le_trans Hz01.out (Nat.le_trans Hz12.out (Nat.le_trans Hz23.out Hz3.out))) (HOx.out.ge k hk)))
  clear hg HOx
  have hA := (HA0.out.below HBB.out (Nat.le_refl _)).more HBB.out.size
  have hO := (HO1.out.below HB1.out (Nat.le_refl _)).more HB1.out.size
  have hBB := HBB.out
  clear HBB HB1
  go_wp2_with fail
  refine (ranked_any HK _).mono ?_
  rintro e v4 ⟨rfl, hB'⟩
  replace hA := hA.on hB'
  replace hO := hO.on hB'
  replace hBB := below2 hBB hB'
  clear hB'
  go_wp2_with fail
  refine (S10 _ _ _ _ _ hA hO).out.mono ?_
  rintro e v5 ⟨rfl, hB'⟩
  have HF := Lib.hid (below2 hBB hB')
  clear hB' hA hO hBB S10
  go_wp2
  go_ret
  exact ⟨rfl, HF.out⟩

set_option maxHeartbeats 1000000 in
theorem rankDoes_walk (HK : Hid RankK) (A : Option Addr) (ca : Nat) (ls : List Alm) (B : Option Addr) (cb : Nat) (ms : List Alm) (n b c : Int) (w : World) (hA : AlmsAt w w.heap.size A ls) (hB : AlmsAt w w.heap.size B ms) (ha : A = none → ca = 0) (hb : B = none → cb = 0) :
    Calls Try.prog 3 #[.slice A ls.length ca, .slice B ms.length cb, .int .i64 n, .agg #[.int .i64 b, .int .i64 c]] w fun e w' => e = .returned (.bool true) ∧ Below w.heap.size w w' := by
  rcases Nat.lt_or_ge 60 ls.length with h1 | h1
  · have i1 : (60 : Int) < (ls.length : Int) := by omega
    clear hA hB ha hb
    go_enter Try.func3, Try.ntmps3
    go_wp2
    go_ret
    exact ⟨rfl, below_new _ _⟩
  · rcases Nat.lt_or_ge 60 ms.length with h2 | h2
    · have i1 : ((60 : Int) < (ls.length : Int)) = False := eq_false (by omega)
      have i2 : (60 : Int) < (ms.length : Int) := by omega
      clear hA hB ha hb
      go_enter Try.func3, Try.ntmps3
      go_wp2
      go_ret
      exact ⟨rfl, below_new _ _⟩
    · rcases Nat.eq_zero_or_pos ls.length with h3 | h3
      · exact rankDoes_a HK A B ca cb ls ms n b c w hA hB ha hb h1 h2 h3
      · rcases Nat.eq_zero_or_pos ms.length with h4 | h4
        · exact rankDoes_b HK A B ca cb ls ms n b c w hA hB ha hb h1 h2 h3 h4
        · exact rankDoes_c HK A B ca cb ls ms n b c w hA hB ha hb h1 h2 h3 h4
end Go.Proofs.Ytlkopnbkmpgafaa
