/-
  Layer 1 (wire): what digits, its iterator and lay do to the world.
-/
import Derived.RangeFuncNested
import Derived.RangeFuncBound
import Derived.RangeFuncCalls
import Derived.RangeFuncLeaves
import Derived.RangeFuncBox
import Derived.Shelf.Abstract
import Derived.Shelf.RegionOpen
import Derived.WalkKit
import Derived.OwnWalkIn
import Derived.TacticsInMore
import Derived.LoopNIn
import Derived.LoopIn
import Derived.Maps.AppendAt
import Derived.Lib.Hide
import Derived.Test.YteepemibmjpnfaaChecked
import Derived.Test.YteepemibmjpnfaaWireM
import Derived.Test.YteepemibmjpnfaaAid
namespace Go.Proofs.Yteepemibmjpnfaa
set_option maxRecDepth 10000
open Go.RowKit Go.Shelf

attribute [local go_sem] Oper.semAt_some

set_option maxRecDepth 100000 in
set_option maxHeartbeats 1000000 in
theorem digits1_in (F : Fence) (n : Nat) (hf : F.fn 87) (hro : F.round = none) (hn : 1 ≤ n) (l Bn n₀ N : Nat) (hN : N ≤ 2147483647) (J Jx : List UInt8 → World → Prop)
    (hY : ∀ pre x W, J pre W → pre.length < (Wm.digs N).length → YieldAt F (n - 1) Try.prog l #[.int .u8 (x.toNat : Int)] W fun e W' =>
      (e = .returned (.bool true) ∧ J (pre ++ [x]) W' ∧ Below n₀ W W') ∨ (e = .returned (.bool false) ∧ Jx (pre ++ [x]) W'))
    (W : World) (hBn : W.cell? ⟨Bn, 0, none⟩ = some (.int .i64 N)) (h0 : J [] W) :
    CallsIn F n Try.prog 87 #[.func (.yield l) #[] #[], .pointer (some ⟨Bn, 0, none⟩)] W fun e W' => (∃ v, e = .returned v) ∧
      ((∃ ys, ys = Wm.digs N ∧ J ys W') ∨ (∃ pre, pre <+: Wm.digs N ∧ Jx pre W')) := by
  refine callsIn_of_wp Try.func87 rfl hf ?_ hro
  simp only [Try.ntmps87, List.size_toArray, List.length_cons, List.length_nil, Nat.reduceAdd, Nat.reduceSub, Array.replicate_succ, Array.replicate_zero, List.push_toArray, List.append_toArray, List.nil_append, List.cons_append]
  gi_wp2
  gi_loopw [3] (fun p wr => ∃ (pre : List UInt8) (k : Nat), p = .int .i64 (k : Int) ∧ k ≤ 2147483647 ∧ Hid (Wm.digs N = pre ++ Wm.digs k) ∧ J pre wr)
    (fun p _ => (intOf p).toNat)
  case atStart =>
    exact ⟨[], N, rfl, hN, Lib.hid (by simp), h0⟩
  case round =>
    obtain ⟨pre, k, rfl, hk, hx, hJs⟩ := hrel
    by_cases h0 : k = 0
    · subst h0
      gi_wp2
      go_end0
      exact ⟨⟨_, rfl⟩, .inl ⟨pre, by rw [hx.out, Wm.digs_zero]; simp, hJs⟩⟩
    · have hpos : 0 < k := by omega
      have hd := Lib.hid (Wm.digs_pos hpos)
      obtain ⟨fn, tmps, assign, body, hy, hR⟩ := hY pre (UInt8.ofNat (k % 250)) wr hJs (by rw [hx.out, hd.out]; simp)
      have e1 : ((UInt8.ofNat (k % 250)).toNat : Int) = ((k : Int) % 250) := by rw [UInt8.toNat_ofNat']; omega
      rw [e1] at hy
      clear e1 h0
      gi_wp2
      refine hR.mono ?_
      rintro e W3 (⟨rfl, hJ3, hk3⟩ | ⟨rfl, hJx3⟩)
      · gi_wp2
        go_roundw
        case rel => exact ⟨pre ++ [UInt8.ofNat (k % 250)], k / 250, by simp, by omega, Lib.hid (by rw [hx.out, hd.out]; simp), hJ3⟩
        case measure => simp [intOf]; omega
      · gi_wp2
        refine bodyPost_ret (results_none rfl _ _ _) rfl ?_
        exact ⟨⟨_, rfl⟩, .inr ⟨pre ++ [UInt8.ofNat (k % 250)], ⟨Wm.digs (k / 250), by rw [hx.out, hd.out]; simp⟩, hJx3⟩⟩

set_option maxHeartbeats 1000000 in
theorem digits_in (F : Fence) (n : Nat) (hf : F.fn 80) (hro : F.round = none) (x : Int) (w : World) :
    CallsIn F n Try.prog 80 #[.int .i64 x] w fun e w' => e = .returned (.func (.func 87) #[] #[.pointer (some ⟨w.heap.size, 0, none⟩)]) ∧ w' = w.alloc (.cells #[.int .i64 x] 3) := by
  refine callsIn_of_wp Try.func80 rfl hf ?_ hro
  simp only [Try.ntmps80, List.size_toArray, List.length_cons, List.length_nil, Nat.reduceAdd, Nat.reduceSub, Array.replicate_succ, Array.replicate_zero, List.push_toArray, List.append_toArray, List.nil_append, List.cons_append]
  gi_wp2
  go_ret
  exact ⟨rfl, rfl⟩

theorem digits_stops (F : Fence) (n : Nat) (hf : F.fn 87) (hro : F.round = none) (hn : 1 ≤ n) (Bn n₀ N : Nat) (hN : N ≤ 2147483647) (w : World) (hBn : Bn < w.heap.size)
    (hc : w.cell? ⟨Bn, 0, none⟩ = some (.int .i64 N)) :
    SeqStopsK F n Try.prog 87 #[.pointer (some ⟨Bn, 0, none⟩)] (fun x : UInt8 => #[Value.int .u8 (x.toNat : Int)]) (Below n₀) (fun ys => ys = Wm.digs N) (fun pre => pre <+: Wm.digs N) (Wm.digs N).length w := fun l J Jx W hW _ _ hY h0 =>
  digits1_in F n hf hro hn l Bn n₀ N hN J Jx hY W ((hW.cell (p := ⟨Bn, 0, none⟩) hBn).trans hc) h0

theorem Try.info5 : (Try.prog.info? 5).map (fun i => (i.zero, i.size, i.bytes)) = some (some (.int .u8 0), 1, 1) := by kernel_rfl

theorem digs_short (N : Nat) (h : N ≤ 2147483647) : (Wm.digs N).length ≤ 5 := by
  by_cases h0 : N = 0
  · subst h0; simp [Wm.digs_zero]
  rw [Wm.digs_pos (by omega)]
  by_cases h1 : N / 250 = 0
  · rw [h1]; simp [Wm.digs_zero]
  rw [Wm.digs_pos (by omega)]
  by_cases h2 : N / 250 / 250 = 0
  · rw [h2]; simp [Wm.digs_zero]
  rw [Wm.digs_pos (by omega)]
  by_cases h3 : N / 250 / 250 / 250 = 0
  · rw [h3]; simp [Wm.digs_zero]
  rw [Wm.digs_pos (by omega)]
  have h4 : N / 250 / 250 / 250 / 250 = 0 := by omega
  rw [h4]; simp [Wm.digs_zero]

theorem own_not_other {W : World} {base : Nat} {e : TypeId} {size : Nat} {v : Value} {k : Nat} {xs : List Value} (h : W.ownsRow base e size v k xs) {D : Nat} {o : Obj} (hD : W.heap[D]? = some o) (ho : o.isCells = false) : some D ≠ v.ownBlock := by
  rcases h.2 with ⟨rfl, _⟩ | ⟨g, cap, cur, rfl, _, hg, _⟩
  · simp [Value.ownBlock]
  · intro he
    have e1 : D = g := by simpa [Value.ownBlock] using he
    subst e1
    rw [hg] at hD; cases hD; cases ho

/-- What is left of the world where lay returns: behind the last append, and behind the block for deferred calls. -/
theorem lay_end {w W w1 : World} {n₀ D m : Nat} {v v' : Value} {xs ys : List Value} {tmp : Obj} {e : TypeId} (hB : Below n₀ w W) (hn₀ : n₀ ≤ w.heap.size) (hD : w.heap.size ≤ D)
    (hrow : W.ownsRow n₀ e 1 v m xs) (hg : (W.alloc tmp).grownBy w1 v.ownBlock) (hown' : w1.ownsRow n₀ e 1 v' (m + 1) ys) (hK : W.heap[D]? = some (.deferred (some []))) :
    w1.heap[D]? = some (.deferred (some [])) ∧ (w1.putObj D (.deferred none)).ownsRow n₀ e 1 v' (m + 1) ys ∧ Below n₀ w (w1.putObj D (.deferred none)) := by
  have hlt := (Array.getElem?_eq_some_iff.1 hK).1
  have hK1 : w1.heap[D]? = some (.deferred (some [])) := (hg.block D (by simp; omega) (own_not_other hrow hK rfl)).trans ((Below.heap_alloc W _ D hlt).trans hK)
  have hs := hB.size
  refine ⟨hK1, ownsRow_putObj hown' _ hK1 rfl, ?_⟩
  have h1 : Below n₀ W w1 := ((Below.refl n₀ W).alloc (by omega) tmp).grown hg (by simp; omega) (fun k hk => (hrow.lt k hk).1)
  exact (hB.trans h1).trans (belowK_b (w := w) hn₀ w1 D _ _ hD hK1 rfl rfl)

set_option maxRecDepth 100000 in
set_option maxHeartbeats 2000000 in
/-- lay(out, n): the row that out owns, with the bytes of n behind. -/
theorem lay_in (F : Fence) (n : Nat) (h3 : F.fn 72) (h4 : F.fn 80) (h5 : F.fn 87) (hro : F.round = none) (hn : 3 ≤ n) (x : Int) (hx1 : -2147483647 ≤ x) (hx2 : x ≤ 2147483647)
    (n₀ : Nat) (v : Value) (bs : List UInt8) (w : World) (hn₀ : n₀ ≤ w.heap.size) (hk : bs.length + 10 ≤ 1000000000) (hown : w.ownsRow n₀ 5 1 v bs.length (bs.map byteV)) :
    CallsIn F n Try.prog 72 #[v, .int .i64 x] w fun e W' => ∃ v', e = .returned v' ∧ W'.ownsRow n₀ 5 1 v' (bs ++ Wm.lay x).length ((bs ++ Wm.lay x).map byteV) ∧ Below n₀ w W' := by
  have h1 : 1 ≤ n := by omega
  obtain ⟨i0, hi, hz0, hz1, hz2⟩ := info_parts Try.info5
  obtain ⟨A, c, rfl⟩ := ownsRow_slice hown
  have hsgn : (∃ N : Nat, x = -(N : Int) ∧ 0 < N) ∨ (∃ N : Nat, x = (N : Int)) := by
    by_cases h : x < 0
    · exact .inl ⟨x.natAbs, by omega, by omega⟩
    · exact .inr ⟨x.natAbs, by omega⟩
  rcases hsgn with ⟨N, rfl, hN0⟩ | ⟨N, rfl⟩
  · have hlay := Lib.hid (show Wm.lay (-(N : Int)) = Wm.digs N ++ [254] by simp [Wm.lay, Wm.endB, hN0])
    have hNle : N ≤ 2147483647 := by omega
    have hdl := digs_short N hNle
    refine callsIn_of_wp_marks Try.func72 rfl h3 ?_ hro
    simp only [Try.ntmps72, List.size_toArray, List.length_cons, List.length_nil, Nat.reduceAdd, Nat.reduceSub, Array.replicate_succ, Array.replicate_zero, List.push_toArray, List.append_toArray, List.nil_append, List.cons_append]
    gi_wp2_with (gi_at_call 80; refine (digits_in F (n - 1) h4 hro _ _).mono ?_; rintro e w' ⟨rfl, rfl⟩)
    have bO := Boxed.new w 93 (.slice A bs.length c)
    have bN := Boxed.new (w.alloc (.cells #[.slice A bs.length c] 93)) 3 (.int .i64 (N : Int))
    rw [World.size_alloc] at bN
    have hB0 : Below n₀ w ((w.alloc (.cells #[.slice A bs.length c] 93)).alloc (.cells #[.int .i64 (N : Int)] 3)) := ((Below.refl _ w).alloc hn₀ _).alloc (by simp; omega) _
    refine wpIn_rangeFunc_ownG hro h1 (gf := 87) (lb := #[.pointer (some ⟨w.heap.size + 1, 0, none⟩)]) rfl h5 (enters_of Try.func87 (by kernel_rfl) rfl)
      (digits_stops F (n - 1) h5 hro (by omega) (w.heap.size + 1) n₀ N hNle _ (by simp) bN.cell) belowK_t (belowK_b (by simp; omega)) (Below.refl _ _) (fun _ => rfl)
      (fun pre W => (∃ v, Boxed W w.heap.size 93 v ∧ W.ownsRow n₀ 5 1 v (bs ++ pre).length ((bs ++ pre).map byteV) ∧ True) ∧ Below n₀ w W)
      (fun _ _ _ => False)
      (OwnFrom.and (Own.from (holdsRow_own n₀ w.heap.size 93 5 1 (fun pre => (bs ++ pre).length) (fun pre => (bs ++ pre).map byteV) (fun _ _ => True)) _) (ownFrom_below hn₀ (by simp; omega)))
      (fun _ _ _ _ _ hs _ _ => hs)
      ⟨⟨_, bO.alloc _, by simpa using (hown.alloc _).alloc _, trivial⟩, hB0⟩
      ?a1 ?assign ?body ?done ?stop
    case assign =>
      intro l x W K hK
      gi_wp2
      exact hK
    case body =>
      rintro l pre x W ⟨⟨v, hv, hrow, _⟩, hB⟩ hlt
      have hc := hv.cell
      have hle : (bs ++ pre).length + 1 ≤ 1000000000 := by simp; omega
      obtain ⟨m, hm⟩ : ∃ m, m = (bs ++ pre).length := ⟨_, rfl⟩
      rw [← hm] at hrow hle
      have Hm := Lib.hid hm
      clear hm
      gi_wp2_with (gi_at_builtin; refine wpListIn_append_own _ rfl _ _ 93 rfl n₀ 5 i0 (.int .u8 0) 1 1 Try.underlying93 hi hz0 hz1 hz2 rfl (by decide) _ _ _ rfl (hrow.alloc _) ⟨W.heap.size, 0, none⟩ 1 1 [byteV x] rfl rfl (cell_one_new _ _ _) (by simp [Value.oneCell', byteV]) (by unfold maxLen; omega) (by omega) (by have := hB.size; simp; omega) ?_; intro v' w1 hown' hgrow _; obtain ⟨g', cap', rfl⟩ := ownsRow_succ hown'; obtain ⟨hv1, hv2, hr2, hk2, hb2⟩ := hv.appended (by decide) hrow (by have := hB.size; omega) hn₀ hown' hgrow; have hc1 := hv1.cell; have hf1 := hv1.frozen)
      exact ⟨hk2.from _, hb2, ⟨_, hv2, by rw [show (bs ++ (pre ++ [x])).length = m + 1 by rw [Hm.out]; simp; omega]; simpa using hr2, trivial⟩, hB.trans hb2⟩
    case done =>
      rintro D ys W hD rfl ⟨⟨v, hv, hrow, _⟩, hB⟩ hK
      have hc := hv.cell
      have hle : (bs ++ Wm.digs N).length + 1 ≤ 1000000000 := by simp; omega
      obtain ⟨m, hm⟩ : ∃ m, m = (bs ++ Wm.digs N).length := ⟨_, rfl⟩
      rw [← hm] at hrow hle
      have Hm := Lib.hid hm
      clear hm
      have hKlt := (Array.getElem?_eq_some_iff.1 hK).1
      gi_wp2_with (gi_at_builtin; refine wpListIn_append_own _ rfl _ _ 93 rfl n₀ 5 i0 (.int .u8 0) 1 1 Try.underlying93 hi hz0 hz1 hz2 rfl (by decide) _ _ _ rfl (hrow.alloc _) ⟨W.heap.size, 0, none⟩ 1 1 [byteV 254] rfl rfl (cell_one_new _ _ _) (by simp [Value.oneCell', byteV]) (by unfold maxLen; omega) (by omega) (by have := hB.size; simp; omega) ?_; intro v' w1 hown' hgrow _; obtain ⟨g', cap', rfl⟩ := ownsRow_succ hown')
      obtain ⟨hK1, ho1, hb1⟩ := lay_end hB hn₀ (by simp at hD; omega) hrow hgrow hown' hK
      refine ⟨by simp, .inl ⟨_, _, rfl, run_takeDeferred hK1, ?_⟩⟩
      exact ⟨_, results_tmp rfl _ _ _, _, rfl, by rw [hlay.out, show (bs ++ (Wm.digs N ++ ([254] : List UInt8))).length = m + 1 by rw [Hm.out]; simp; omega]; simpa using ho1, hb1⟩
    case stop =>
      rintro D c pre W _ _ h _
      exact h.elim
  · have hlay := Lib.hid (show Wm.lay (N : Int) = Wm.digs N ++ [255] by simp [Wm.lay, Wm.endB])
    have hNle : N ≤ 2147483647 := by omega
    have hdl := digs_short N hNle
    refine callsIn_of_wp_marks Try.func72 rfl h3 ?_ hro
    simp only [Try.ntmps72, List.size_toArray, List.length_cons, List.length_nil, Nat.reduceAdd, Nat.reduceSub, Array.replicate_succ, Array.replicate_zero, List.push_toArray, List.append_toArray, List.nil_append, List.cons_append]
    gi_wp2_with (gi_at_call 80; refine (digits_in F (n - 1) h4 hro _ _).mono ?_; rintro e w' ⟨rfl, rfl⟩)
    have bO := Boxed.new w 93 (.slice A bs.length c)
    have bN := Boxed.new (w.alloc (.cells #[.slice A bs.length c] 93)) 3 (.int .i64 (N : Int))
    rw [World.size_alloc] at bN
    have hB0 : Below n₀ w ((w.alloc (.cells #[.slice A bs.length c] 93)).alloc (.cells #[.int .i64 (N : Int)] 3)) := ((Below.refl _ w).alloc hn₀ _).alloc (by simp; omega) _
    refine wpIn_rangeFunc_ownG hro h1 (gf := 87) (lb := #[.pointer (some ⟨w.heap.size + 1, 0, none⟩)]) rfl h5 (enters_of Try.func87 (by kernel_rfl) rfl)
      (digits_stops F (n - 1) h5 hro (by omega) (w.heap.size + 1) n₀ N hNle _ (by simp) bN.cell) belowK_t (belowK_b (by simp; omega)) (Below.refl _ _) (fun _ => rfl)
      (fun pre W => (∃ v, Boxed W w.heap.size 93 v ∧ W.ownsRow n₀ 5 1 v (bs ++ pre).length ((bs ++ pre).map byteV) ∧ True) ∧ Below n₀ w W)
      (fun _ _ _ => False)
      (OwnFrom.and (Own.from (holdsRow_own n₀ w.heap.size 93 5 1 (fun pre => (bs ++ pre).length) (fun pre => (bs ++ pre).map byteV) (fun _ _ => True)) _) (ownFrom_below hn₀ (by simp; omega)))
      (fun _ _ _ _ _ hs _ _ => hs)
      ⟨⟨_, bO.alloc _, by simpa using (hown.alloc _).alloc _, trivial⟩, hB0⟩
      ?a2 ?assign2 ?body2 ?done2 ?stop2
    case assign2 =>
      intro l x W K hK
      gi_wp2
      exact hK
    case body2 =>
      rintro l pre x W ⟨⟨v, hv, hrow, _⟩, hB⟩ hlt
      have hc := hv.cell
      have hle : (bs ++ pre).length + 1 ≤ 1000000000 := by simp; omega
      obtain ⟨m, hm⟩ : ∃ m, m = (bs ++ pre).length := ⟨_, rfl⟩
      rw [← hm] at hrow hle
      have Hm := Lib.hid hm
      clear hm
      gi_wp2_with (gi_at_builtin; refine wpListIn_append_own _ rfl _ _ 93 rfl n₀ 5 i0 (.int .u8 0) 1 1 Try.underlying93 hi hz0 hz1 hz2 rfl (by decide) _ _ _ rfl (hrow.alloc _) ⟨W.heap.size, 0, none⟩ 1 1 [byteV x] rfl rfl (cell_one_new _ _ _) (by simp [Value.oneCell', byteV]) (by unfold maxLen; omega) (by omega) (by have := hB.size; simp; omega) ?_; intro v' w1 hown' hgrow _; obtain ⟨g', cap', rfl⟩ := ownsRow_succ hown'; obtain ⟨hv1, hv2, hr2, hk2, hb2⟩ := hv.appended (by decide) hrow (by have := hB.size; omega) hn₀ hown' hgrow; have hc1 := hv1.cell; have hf1 := hv1.frozen)
      exact ⟨hk2.from _, hb2, ⟨_, hv2, by rw [show (bs ++ (pre ++ [x])).length = m + 1 by rw [Hm.out]; simp; omega]; simpa using hr2, trivial⟩, hB.trans hb2⟩
    case done2 =>
      rintro D ys W hD rfl ⟨⟨v, hv, hrow, _⟩, hB⟩ hK
      have hc := hv.cell
      have hle : (bs ++ Wm.digs N).length + 1 ≤ 1000000000 := by simp; omega
      obtain ⟨m, hm⟩ : ∃ m, m = (bs ++ Wm.digs N).length := ⟨_, rfl⟩
      rw [← hm] at hrow hle
      have Hm := Lib.hid hm
      clear hm
      have hKlt := (Array.getElem?_eq_some_iff.1 hK).1
      gi_wp2_with (gi_at_builtin; refine wpListIn_append_own _ rfl _ _ 93 rfl n₀ 5 i0 (.int .u8 0) 1 1 Try.underlying93 hi hz0 hz1 hz2 rfl (by decide) _ _ _ rfl (hrow.alloc _) ⟨W.heap.size, 0, none⟩ 1 1 [byteV 255] rfl rfl (cell_one_new _ _ _) (by simp [Value.oneCell', byteV]) (by unfold maxLen; omega) (by omega) (by have := hB.size; simp; omega) ?_; intro v' w1 hown' hgrow _; obtain ⟨g', cap', rfl⟩ := ownsRow_succ hown')
      obtain ⟨hK1, ho1, hb1⟩ := lay_end hB hn₀ (by simp at hD; omega) hrow hgrow hown' hK
      refine ⟨by simp, .inl ⟨_, _, rfl, run_takeDeferred hK1, ?_⟩⟩
      exact ⟨_, results_tmp rfl _ _ _, _, rfl, by rw [hlay.out, show (bs ++ (Wm.digs N ++ ([255] : List UInt8))).length = m + 1 by rw [Hm.out]; simp; omega]; simpa using ho1, hb1⟩
    case stop2 =>
      rintro D c pre W _ _ h _
      exact h.elim

end Go.Proofs.Yteepemibmjpnfaa
