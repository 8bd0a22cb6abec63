/-
  Layer 1 (wire): what digits, its iterator and lay do to the world.
  Layer 1 (wire): what Ints, Int and Text do: the bytes that they hand back.
  Layer 1 (wire): what endIn, size, GetInt and GetText hand back.
  Layer 2 (sum): what a shift, a step and Step do to the world.
  Layer 2 (sum): a running sum in memory, Over and Of.
  Layer 3 (frame): the reader's functions, and small ones: isKind, small.
  Layer 3 (frame): what Put and Get hand back.
-/
import Derived.RangeFuncNested
import Derived.RangeFuncBound
import Derived.RangeFuncCalls
import Derived.RangeFuncLeaves
import Derived.RangeFuncBox
import Derived.Shelf.Abstract
import Derived.Shelf.RegionOpen
import Derived.WalkKit
import Derived.OwnWalkIn
import Derived.TacticsInMore
import Derived.LoopNIn
import Derived.LoopIn
import Derived.Maps.AppendAt
import Derived.Lib.Hide
import Derived.Test.YteepemibmjpnfaaChecked
import Derived.Test.YteepemibmjpnfaaXJa
import Derived.WalkSpells
import Derived.WalkLawsBesides
import Derived.Laws.IdiomStrings
import Derived.Laws.BytesArg
import Derived.Handy
import Derived.BigQuiet
import Derived.Deep.QuietTactic
import Derived.IntWalk
import Derived.Laws.Entries
import Derived.Deep.Cut
import Derived.Test.YteepemibmjpnfaaXAidStrs
namespace Go.Proofs.Yteepemibmjpnfaa
set_option maxRecDepth 10000
open Go.RowKit Go.Shelf

attribute [local go_sem] Oper.semAt_some

set_option maxRecDepth 100000 in
set_option maxHeartbeats 1000000 in
theorem digits1_in (F : Fence) (n : Nat) (hf : F.fn 87) (hro : F.round = none) (hn : 1 ≤ n) (l Bn n₀ N : Nat) (hN : N ≤ 2147483647) (J Jx : List UInt8 → World → Prop)
    (hY : ∀ pre x W, J pre W → pre.length < (Wm.digs N).length → YieldAt F (n - 1) Try.prog l #[.int .u8 (x.toNat : Int)] W fun e W' =>
      (e = .returned (.bool true) ∧ J (pre ++ [x]) W' ∧ Below n₀ W W') ∨ (e = .returned (.bool false) ∧ Jx (pre ++ [x]) W'))
    (W : World) (hBn : W.cell? ⟨Bn, 0, none⟩ = some (.int .i64 N)) (h0 : J [] W) :
    CallsIn F n Try.prog 87 #[.func (.yield l) #[] #[], .pointer (some ⟨Bn, 0, none⟩)] W fun e W' => (∃ v, e = .returned v) ∧
      ((∃ ys, ys = Wm.digs N ∧ J ys W') ∨ (∃ pre, pre <+: Wm.digs N ∧ Jx pre W')) := by
  refine callsIn_of_wp Try.func87 rfl hf ?_ hro
  simp only [Try.ntmps87, List.size_toArray, List.length_cons, List.length_nil, Nat.reduceAdd, Nat.reduceSub, Array.replicate_succ, Array.replicate_zero, List.push_toArray, List.append_toArray, List.nil_append, List.cons_append]
  gi_wp2
  gi_loopw [3] (fun p wr => ∃ (pre : List UInt8) (k : Nat), p = .int .i64 (k : Int) ∧ k ≤ 2147483647 ∧ Hid (Wm.digs N = pre ++ Wm.digs k) ∧ J pre wr)
    (fun p _ => (intOf p).toNat)
  case atStart =>
    exact ⟨[], N, rfl, hN, Lib.hid (by simp), h0⟩
  case round =>
    obtain ⟨pre, k, rfl, hk, hx, hJs⟩ := hrel
    by_cases h0 : k = 0
    · subst h0
      gi_wp2
      go_end0
      exact ⟨⟨_, rfl⟩, .inl ⟨pre, by rw [hx.out, Wm.digs_zero]; simp, hJs⟩⟩
    · have hpos : 0 < k := by omega
      have hd := Lib.hid (Wm.digs_pos hpos)
      obtain ⟨fn, tmps, assign, body, hy, hR⟩ := hY pre (UInt8.ofNat (k % 250)) wr hJs (by rw [hx.out, hd.out]; simp)
      have e1 : ((UInt8.ofNat (k % 250)).toNat : Int) = ((k : Int) % 250) := by rw [UInt8.toNat_ofNat']; omega
      rw [e1] at hy
      clear e1 h0
      gi_wp2
      refine hR.mono ?_
      rintro e W3 (⟨rfl, hJ3, hk3⟩ | ⟨rfl, hJx3⟩)
      · gi_wp2
        go_roundw
        case rel => exact ⟨pre ++ [UInt8.ofNat (k % 250)], k / 250, by simp, by omega, Lib.hid (by rw [hx.out, hd.out]; simp), hJ3⟩
        case measure => simp [intOf]; omega
      · gi_wp2
        refine bodyPost_ret (results_none rfl _ _ _) rfl ?_
        exact ⟨⟨_, rfl⟩, .inr ⟨pre ++ [UInt8.ofNat (k % 250)], ⟨Wm.digs (k / 250), by rw [hx.out, hd.out]; simp⟩, hJx3⟩⟩

set_option maxHeartbeats 1000000 in
theorem digits_in (F : Fence) (n : Nat) (hf : F.fn 80) (hro : F.round = none) (x : Int) (w : World) :
    CallsIn F n Try.prog 80 #[.int .i64 x] w fun e w' => e = .returned (.func (.func 87) #[] #[.pointer (some ⟨w.heap.size, 0, none⟩)]) ∧ w' = w.alloc (.cells #[.int .i64 x] 3) := by
  refine callsIn_of_wp Try.func80 rfl hf ?_ hro
  simp only [Try.ntmps80, List.size_toArray, List.length_cons, List.length_nil, Nat.reduceAdd, Nat.reduceSub, Array.replicate_succ, Array.replicate_zero, List.push_toArray, List.append_toArray, List.nil_append, List.cons_append]
  gi_wp2
  go_ret
  exact ⟨rfl, rfl⟩

theorem digits_stops (F : Fence) (n : Nat) (hf : F.fn 87) (hro : F.round = none) (hn : 1 ≤ n) (Bn n₀ N : Nat) (hN : N ≤ 2147483647) (w : World) (hBn : Bn < w.heap.size)
    (hc : w.cell? ⟨Bn, 0, none⟩ = some (.int .i64 N)) :
    SeqStopsK F n Try.prog 87 #[.pointer (some ⟨Bn, 0, none⟩)] (fun x : UInt8 => #[Value.int .u8 (x.toNat : Int)]) (Below n₀) (fun ys => ys = Wm.digs N) (fun pre => pre <+: Wm.digs N) (Wm.digs N).length w := fun l J Jx W hW _ _ hY h0 =>
  digits1_in F n hf hro hn l Bn n₀ N hN J Jx hY W ((hW.cell (p := ⟨Bn, 0, none⟩) hBn).trans hc) h0

theorem Try.info5 : (Try.prog.info? 5).map (fun i => (i.zero, i.size, i.bytes)) = some (some (.int .u8 0), 1, 1) := by kernel_rfl

theorem digs_short (N : Nat) (h : N ≤ 2147483647) : (Wm.digs N).length ≤ 5 := by
  by_cases h0 : N = 0
  · subst h0; simp [Wm.digs_zero]
  rw [Wm.digs_pos (by omega)]
  by_cases h1 : N / 250 = 0
  · rw [h1]; simp [Wm.digs_zero]
  rw [Wm.digs_pos (by omega)]
  by_cases h2 : N / 250 / 250 = 0
  · rw [h2]; simp [Wm.digs_zero]
  rw [Wm.digs_pos (by omega)]
  by_cases h3 : N / 250 / 250 / 250 = 0
  · rw [h3]; simp [Wm.digs_zero]
  rw [Wm.digs_pos (by omega)]
  have h4 : N / 250 / 250 / 250 / 250 = 0 := by omega
  rw [h4]; simp [Wm.digs_zero]

theorem own_not_other {W : World} {base : Nat} {e : TypeId} {size : Nat} {v : Value} {k : Nat} {xs : List Value} (h : W.ownsRow base e size v k xs) {D : Nat} {o : Obj} (hD : W.heap[D]? = some o) (ho : o.isCells = false) : some D ≠ v.ownBlock := by
  rcases h.2 with ⟨rfl, _⟩ | ⟨g, cap, cur, rfl, _, hg, _⟩
  · simp [Value.ownBlock]
  · intro he
    have e1 : D = g := by simpa [Value.ownBlock] using he
    subst e1
    rw [hg] at hD; cases hD; cases ho

/-- What is left of the world where lay returns: behind the last append, and behind the block for deferred calls. -/
theorem lay_end {w W w1 : World} {n₀ D m : Nat} {v v' : Value} {xs ys : List Value} {tmp : Obj} {e : TypeId} (hB : Below n₀ w W) (hn₀ : n₀ ≤ w.heap.size) (hD : w.heap.size ≤ D)
    (hrow : W.ownsRow n₀ e 1 v m xs) (hg : (W.alloc tmp).grownBy w1 v.ownBlock) (hown' : w1.ownsRow n₀ e 1 v' (m + 1) ys) (hK : W.heap[D]? = some (.deferred (some []))) :
    w1.heap[D]? = some (.deferred (some [])) ∧ (w1.putObj D (.deferred none)).ownsRow n₀ e 1 v' (m + 1) ys ∧ Below n₀ w (w1.putObj D (.deferred none)) := by
  have hlt := (Array.getElem?_eq_some_iff.1 hK).1
  have hK1 : w1.heap[D]? = some (.deferred (some [])) := (hg.block D (by simp; omega) (own_not_other hrow hK rfl)).trans ((Below.heap_alloc W _ D hlt).trans hK)
  have hs := hB.size
  refine ⟨hK1, ownsRow_putObj hown' _ hK1 rfl, ?_⟩
  have h1 : Below n₀ W w1 := ((Below.refl n₀ W).alloc (by omega) tmp).grown hg (by simp; omega) (fun k hk => (hrow.lt k hk).1)
  exact (hB.trans h1).trans (belowK_b (w := w) hn₀ w1 D _ _ hD hK1 rfl rfl)

set_option maxRecDepth 100000 in
set_option maxHeartbeats 2000000 in
/-- lay(out, n): the row that out owns, with the bytes of n behind. -/
theorem lay_in (F : Fence) (n : Nat) (h3 : F.fn 72) (h4 : F.fn 80) (h5 : F.fn 87) (hro : F.round = none) (hn : 3 ≤ n) (x : Int) (hx1 : -2147483647 ≤ x) (hx2 : x ≤ 2147483647)
    (n₀ : Nat) (v : Value) (bs : List UInt8) (w : World) (hn₀ : n₀ ≤ w.heap.size) (hk : bs.length + 10 ≤ 1000000000) (hown : w.ownsRow n₀ 5 1 v bs.length (bs.map byteV)) :
    CallsIn F n Try.prog 72 #[v, .int .i64 x] w fun e W' => ∃ v', e = .returned v' ∧ W'.ownsRow n₀ 5 1 v' (bs ++ Wm.lay x).length ((bs ++ Wm.lay x).map byteV) ∧ Below n₀ w W' := by
  have h1 : 1 ≤ n := by omega
  obtain ⟨i0, hi, hz0, hz1, hz2⟩ := info_parts Try.info5
  obtain ⟨A, c, rfl⟩ := ownsRow_slice hown
  have hsgn : (∃ N : Nat, x = -(N : Int) ∧ 0 < N) ∨ (∃ N : Nat, x = (N : Int)) := by
    by_cases h : x < 0
    · exact .inl ⟨x.natAbs, by omega, by omega⟩
    · exact .inr ⟨x.natAbs, by omega⟩
  rcases hsgn with ⟨N, rfl, hN0⟩ | ⟨N, rfl⟩
  · have hlay := Lib.hid (show Wm.lay (-(N : Int)) = Wm.digs N ++ [254] by simp [Wm.lay, Wm.endB, hN0])
    have hNle : N ≤ 2147483647 := by omega
    have hdl := digs_short N hNle
    refine callsIn_of_wp_marks Try.func72 rfl h3 ?_ hro
    simp only [Try.ntmps72, List.size_toArray, List.length_cons, List.length_nil, Nat.reduceAdd, Nat.reduceSub, Array.replicate_succ, Array.replicate_zero, List.push_toArray, List.append_toArray, List.nil_append, List.cons_append]
    gi_wp2_with (gi_at_call 80; refine (digits_in F (n - 1) h4 hro _ _).mono ?_; rintro e w' ⟨rfl, rfl⟩)
    have bO := Boxed.new w 93 (.slice A bs.length c)
    have bN := Boxed.new (w.alloc (.cells #[.slice A bs.length c] 93)) 3 (.int .i64 (N : Int))
    rw [World.size_alloc] at bN
    have hB0 : Below n₀ w ((w.alloc (.cells #[.slice A bs.length c] 93)).alloc (.cells #[.int .i64 (N : Int)] 3)) := ((Below.refl _ w).alloc hn₀ _).alloc (by simp; omega) _
    refine wpIn_rangeFunc_ownG hro h1 (gf := 87) (lb := #[.pointer (some ⟨w.heap.size + 1, 0, none⟩)]) rfl h5 (enters_of Try.func87 (by kernel_rfl) rfl)
      (digits_stops F (n - 1) h5 hro (by omega) (w.heap.size + 1) n₀ N hNle _ (by simp) bN.cell) belowK_t (belowK_b (by simp; omega)) (Below.refl _ _) (fun _ => rfl)
      (fun pre W => (∃ v, Boxed W w.heap.size 93 v ∧ W.ownsRow n₀ 5 1 v (bs ++ pre).length ((bs ++ pre).map byteV) ∧ True) ∧ Below n₀ w W)
      (fun _ _ _ => False)
      (OwnFrom.and (Own.from (holdsRow_own n₀ w.heap.size 93 5 1 (fun pre => (bs ++ pre).length) (fun pre => (bs ++ pre).map byteV) (fun _ _ => True)) _) (ownFrom_below hn₀ (by simp; omega)))
      (fun _ _ _ _ _ hs _ _ => hs)
      ⟨⟨_, bO.alloc _, by simpa using (hown.alloc _).alloc _, trivial⟩, hB0⟩
      ?a1 ?assign ?body ?done ?stop
    case assign =>
      intro l x W K hK
      gi_wp2
      exact hK
    case body =>
      rintro l pre x W ⟨⟨v, hv, hrow, _⟩, hB⟩ hlt
      have hc := hv.cell
      have hle : (bs ++ pre).length + 1 ≤ 1000000000 := by simp; omega
      obtain ⟨m, hm⟩ : ∃ m, m = (bs ++ pre).length := ⟨_, rfl⟩
      rw [← hm] at hrow hle
      have Hm := Lib.hid hm
      clear hm
      gi_wp2_with (gi_at_builtin; refine wpListIn_append_own _ rfl _ _ 93 rfl n₀ 5 i0 (.int .u8 0) 1 1 Try.underlying93 hi hz0 hz1 hz2 rfl (by decide) _ _ _ rfl (hrow.alloc _) ⟨W.heap.size, 0, none⟩ 1 1 [byteV x] rfl rfl (cell_one_new _ _ _) (by simp [Value.oneCell', byteV]) (by unfold maxLen; omega) (by omega) (by have := hB.size; simp; omega) ?_; intro v' w1 hown' hgrow _; obtain ⟨g', cap', rfl⟩ := ownsRow_succ hown'; obtain ⟨hv1, hv2, hr2, hk2, hb2⟩ := hv.appended (by decide) hrow (by have := hB.size; omega) hn₀ hown' hgrow; have hc1 := hv1.cell; have hf1 := hv1.frozen)
      exact ⟨hk2.from _, hb2, ⟨_, hv2, by rw [show (bs ++ (pre ++ [x])).length = m + 1 by rw [Hm.out]; simp; omega]; simpa using hr2, trivial⟩, hB.trans hb2⟩
    case done =>
      rintro D ys W hD rfl ⟨⟨v, hv, hrow, _⟩, hB⟩ hK
      have hc := hv.cell
      have hle : (bs ++ Wm.digs N).length + 1 ≤ 1000000000 := by simp; omega
      obtain ⟨m, hm⟩ : ∃ m, m = (bs ++ Wm.digs N).length := ⟨_, rfl⟩
      rw [← hm] at hrow hle
      have Hm := Lib.hid hm
      clear hm
      have hKlt := (Array.getElem?_eq_some_iff.1 hK).1
      gi_wp2_with (gi_at_builtin; refine wpListIn_append_own _ rfl _ _ 93 rfl n₀ 5 i0 (.int .u8 0) 1 1 Try.underlying93 hi hz0 hz1 hz2 rfl (by decide) _ _ _ rfl (hrow.alloc _) ⟨W.heap.size, 0, none⟩ 1 1 [byteV 254] rfl rfl (cell_one_new _ _ _) (by simp [Value.oneCell', byteV]) (by unfold maxLen; omega) (by omega) (by have := hB.size; simp; omega) ?_; intro v' w1 hown' hgrow _; obtain ⟨g', cap', rfl⟩ := ownsRow_succ hown')
      obtain ⟨hK1, ho1, hb1⟩ := lay_end hB hn₀ (by simp at hD; omega) hrow hgrow hown' hK
      refine ⟨by simp, .inl ⟨_, _, rfl, run_takeDeferred hK1, ?_⟩⟩
      exact ⟨_, results_tmp rfl _ _ _, _, rfl, by rw [hlay.out, show (bs ++ (Wm.digs N ++ ([254] : List UInt8))).length = m + 1 by rw [Hm.out]; simp; omega]; simpa using ho1, hb1⟩
    case stop =>
      rintro D c pre W _ _ h _
      exact h.elim
  · have hlay := Lib.hid (show Wm.lay (N : Int) = Wm.digs N ++ [255] by simp [Wm.lay, Wm.endB])
    have hNle : N ≤ 2147483647 := by omega
    have hdl := digs_short N hNle
    refine callsIn_of_wp_marks Try.func72 rfl h3 ?_ hro
    simp only [Try.ntmps72, List.size_toArray, List.length_cons, List.length_nil, Nat.reduceAdd, Nat.reduceSub, Array.replicate_succ, Array.replicate_zero, List.push_toArray, List.append_toArray, List.nil_append, List.cons_append]
    gi_wp2_with (gi_at_call 80; refine (digits_in F (n - 1) h4 hro _ _).mono ?_; rintro e w' ⟨rfl, rfl⟩)
    have bO := Boxed.new w 93 (.slice A bs.length c)
    have bN := Boxed.new (w.alloc (.cells #[.slice A bs.length c] 93)) 3 (.int .i64 (N : Int))
    rw [World.size_alloc] at bN
    have hB0 : Below n₀ w ((w.alloc (.cells #[.slice A bs.length c] 93)).alloc (.cells #[.int .i64 (N : Int)] 3)) := ((Below.refl _ w).alloc hn₀ _).alloc (by simp; omega) _
    refine wpIn_rangeFunc_ownG hro h1 (gf := 87) (lb := #[.pointer (some ⟨w.heap.size + 1, 0, none⟩)]) rfl h5 (enters_of Try.func87 (by kernel_rfl) rfl)
      (digits_stops F (n - 1) h5 hro (by omega) (w.heap.size + 1) n₀ N hNle _ (by simp) bN.cell) belowK_t (belowK_b (by simp; omega)) (Below.refl _ _) (fun _ => rfl)
      (fun pre W => (∃ v, Boxed W w.heap.size 93 v ∧ W.ownsRow n₀ 5 1 v (bs ++ pre).length ((bs ++ pre).map byteV) ∧ True) ∧ Below n₀ w W)
      (fun _ _ _ => False)
      (OwnFrom.and (Own.from (holdsRow_own n₀ w.heap.size 93 5 1 (fun pre => (bs ++ pre).length) (fun pre => (bs ++ pre).map byteV) (fun _ _ => True)) _) (ownFrom_below hn₀ (by simp; omega)))
      (fun _ _ _ _ _ hs _ _ => hs)
      ⟨⟨_, bO.alloc _, by simpa using (hown.alloc _).alloc _, trivial⟩, hB0⟩
      ?a2 ?assign2 ?body2 ?done2 ?stop2
    case assign2 =>
      intro l x W K hK
      gi_wp2
      exact hK
    case body2 =>
      rintro l pre x W ⟨⟨v, hv, hrow, _⟩, hB⟩ hlt
      have hc := hv.cell
      have hle : (bs ++ pre).length + 1 ≤ 1000000000 := by simp; omega
      obtain ⟨m, hm⟩ : ∃ m, m = (bs ++ pre).length := ⟨_, rfl⟩
      rw [← hm] at hrow hle
      have Hm := Lib.hid hm
      clear hm
      gi_wp2_with (gi_at_builtin; refine wpListIn_append_own _ rfl _ _ 93 rfl n₀ 5 i0 (.int .u8 0) 1 1 Try.underlying93 hi hz0 hz1 hz2 rfl (by decide) _ _ _ rfl (hrow.alloc _) ⟨W.heap.size, 0, none⟩ 1 1 [byteV x] rfl rfl (cell_one_new _ _ _) (by simp [Value.oneCell', byteV]) (by unfold maxLen; omega) (by omega) (by have := hB.size; simp; omega) ?_; intro v' w1 hown' hgrow _; obtain ⟨g', cap', rfl⟩ := ownsRow_succ hown'; obtain ⟨hv1, hv2, hr2, hk2, hb2⟩ := hv.appended (by decide) hrow (by have := hB.size; omega) hn₀ hown' hgrow; have hc1 := hv1.cell; have hf1 := hv1.frozen)
      exact ⟨hk2.from _, hb2, ⟨_, hv2, by rw [show (bs ++ (pre ++ [x])).length = m + 1 by rw [Hm.out]; simp; omega]; simpa using hr2, trivial⟩, hB.trans hb2⟩
    case done2 =>
      rintro D ys W hD rfl ⟨⟨v, hv, hrow, _⟩, hB⟩ hK
      have hc := hv.cell
      have hle : (bs ++ Wm.digs N).length + 1 ≤ 1000000000 := by simp; omega
      obtain ⟨m, hm⟩ : ∃ m, m = (bs ++ Wm.digs N).length := ⟨_, rfl⟩
      rw [← hm] at hrow hle
      have Hm := Lib.hid hm
      clear hm
      have hKlt := (Array.getElem?_eq_some_iff.1 hK).1
      gi_wp2_with (gi_at_builtin; refine wpListIn_append_own _ rfl _ _ 93 rfl n₀ 5 i0 (.int .u8 0) 1 1 Try.underlying93 hi hz0 hz1 hz2 rfl (by decide) _ _ _ rfl (hrow.alloc _) ⟨W.heap.size, 0, none⟩ 1 1 [byteV 255] rfl rfl (cell_one_new _ _ _) (by simp [Value.oneCell', byteV]) (by unfold maxLen; omega) (by omega) (by have := hB.size; simp; omega) ?_; intro v' w1 hown' hgrow _; obtain ⟨g', cap', rfl⟩ := ownsRow_succ hown')
      obtain ⟨hK1, ho1, hb1⟩ := lay_end hB hn₀ (by simp at hD; omega) hrow hgrow hown' hK
      refine ⟨by simp, .inl ⟨_, _, rfl, run_takeDeferred hK1, ?_⟩⟩
      exact ⟨_, results_tmp rfl _ _ _, _, rfl, by rw [hlay.out, show (bs ++ (Wm.digs N ++ ([255] : List UInt8))).length = m + 1 by rw [Hm.out]; simp; omega]; simpa using ho1, hb1⟩
    case stop2 =>
      rintro D c pre W _ _ h _
      exact h.elim

end Go.Proofs.Yteepemibmjpnfaa

namespace Go.Proofs.Yteepemibmjpnfaa
set_option maxRecDepth 10000
open Go.RowKit

/-- string(b) of a row of bytes of one's own. -/
theorem run_conv_own {P : Program} {w : World} {base : Nat} {e : TypeId} {v : Value} {bs : List UInt8} (src dst : TypeId) (hs : P.underlying src = some (.slice e)) (he : P.underlying e = some (.int .u8)) (hd : P.underlying dst = some .string)
    (h : w.ownsRow base e 1 v bs.length (bs.map byteV)) : (convert src dst v).run P w = .ok (.string (strOf bs)) w := by
  rcases h.2 with ⟨rfl, hz⟩ | ⟨g, cap, cur, rfl, _, hg, _⟩
  · obtain rfl : bs = [] := List.eq_nil_of_length_eq_zero hz
    rw [run_convert_bytes_nil w src e hs he 0 0 dst hd]
    rfl
  · have hc := h.cells (g := g) rfl
    have := run_convert_bytes_back (P := P) w src dst e ⟨g, 0, none⟩ cap bs hs he hd (fun j hj => hc j _ (by simp [List.getElem?_eq_getElem hj, byteV]))
    exact this

/-- lay, as a plain call. -/
theorem lay_calls (x : Int) (hx1 : -2147483647 ≤ x) (hx2 : x ≤ 2147483647) (n₀ : Nat) (v : Value) (bs : List UInt8) (w : World) (hn₀ : n₀ ≤ w.heap.size) (hk : bs.length + 10 ≤ 1000000000) (hown : w.ownsRow n₀ 5 1 v bs.length (bs.map byteV)) :
    Calls Try.prog 72 #[v, .int .i64 x] w fun e W' => ∃ v', e = .returned v' ∧ W'.ownsRow n₀ 5 1 v' (bs ++ Wm.lay x).length ((bs ++ Wm.lay x).map byteV) ∧ Below n₀ w W' :=
  callsIn_wide.1 (lay_in Fence.wide 5 trivial trivial trivial rfl (by omega) x hx1 hx2 n₀ v bs w hn₀ hk hown)

theorem lays_snoc (l : List Int) (x : Int) : Wm.lays (l ++ [x]) = Wm.lays l ++ Wm.lay x := by simp [Wm.lays]

theorem lay_short (x : Int) (h : Wm.fits x = true) : (Wm.lay x).length ≤ 6 := by
  have h := Wm.fits_iff.1 h
  have := digs_short x.natAbs (by omega)
  simp [Wm.lay]; omega

theorem lays_short (l : List Int) (h : l.all Wm.fits = true) : (Wm.lays l).length ≤ 6 * l.length := by
  induction l with
  | nil => simp [Wm.lays]
  | cons x l ih =>
    simp at h
    have h1 := lay_short x h.1
    have h2 := ih (by simpa using h.2)
    simp [Wm.lays] at h2 ⊢; omega

/-- What holds ahead of each round of Ints. -/
def IntsRel (w : World) (zs : List Int) (out i : Value) (wr : World) : Prop :=
  ∃ k : Nat, k ≤ zs.length ∧ i = .int .i64 (k : Int) ∧ (zs.take k).all Wm.fits = true ∧ wr.ownsRow w.heap.size 5 1 out (Wm.lays (zs.take k)).length ((Wm.lays (zs.take k)).map byteV) ∧ Below w.heap.size w wr

/-- What Ints hands back: the bytes, the error. -/
def intsS (zs : List Int) : ByteArray := if zs.all Wm.fits = true then strOf (Wm.lays zs) else strOf []
def intsE (zs : List Int) : Int := if zs.all Wm.fits = true then 0 else 1
theorem ret2 {a b : ByteArray} {n m : Int} (h : a = b) (h' : n = m) : Ending.returned (.tuple #[.string a, .int .i64 n]) = .returned (.tuple #[.string b, .int .i64 m]) := by rw [h, h']

set_option maxRecDepth 100000 in
set_option maxHeartbeats 1000000 in
theorem Ints_any (A : Option Addr) (cap : Nat) (zs : List Int) (w : World) (hA : IntsAt w w.heap.size A zs) (hl : zs.length ≤ 100000000) :
    Calls Try.prog 58 #[.slice A zs.length cap] w fun e w' => e = .returned (.tuple #[.string (intsS zs), .int .i64 (intsE zs)]) ∧ Below w.heap.size w w' := by
  go_enter Try.func58, Try.ntmps58
  go_wp2
  go_loopw [4, 9] (fun out i wr => IntsRel w zs out i wr) (fun _ i _ => zs.length - (intOf i).toNat)
  case atStart => exact ⟨0, Nat.zero_le _, rfl, by simp, by simpa [Wm.lays] using World.ownsRow_nil _ _ _ _, Below.refl _ _⟩
  case round =>
    obtain ⟨k, hk, rfl, hall, hown, hB⟩ := hrel
    by_cases hlt : k < zs.length
    · obtain ⟨b, off, rfl, hb, hc⟩ := (hA.below hB (Nat.le_refl _)) k hlt
      obtain ⟨x, hx⟩ : ∃ x, x = zs[k] := ⟨_, rfl⟩
      rw [← hx] at hc
      have Hx := Lib.hid hx
      clear hx
      have Hall := Lib.hid hall
      clear hall
      by_cases hf : -2147483647 ≤ x ∧ x ≤ 2147483647
      · obtain ⟨hf1, hf2⟩ := hf
        have hsh := lays_short (zs.take k) Hall.out
        have htl : (zs.take k).length ≤ k := List.length_take_le _ _
        go_wp2_with fail
        refine (lay_calls x hf1 hf2 w.heap.size _ (Wm.lays (zs.take k)) _ hB.size (by omega) hown).mono ?_
        rintro e w1 ⟨v1, rfl, hown1, hB1⟩
        go_wp2
        go_roundw
        case rel =>
          have ht : zs.take (k + 1) = zs.take k ++ [x] := by rw [List.take_succ_eq_append_getElem hlt, ← Hx.out]
          exact ⟨k + 1, by omega, by go_num, by rw [ht, List.all_append, Hall.out]; simp [Wm.fits_iff, hf1, hf2], by rw [ht, lays_snoc]; exact hown1, hB.trans hB1⟩
        case measure => simp [intOf]; omega
      · have hnf : zs.all Wm.fits = false := by
          rw [Bool.eq_false_iff]
          intro hh
          have h1 := List.all_eq_true.1 hh x (by rw [Hx.out]; exact List.getElem_mem hlt)
          exact hf (Wm.fits_iff.1 h1)
        have Hnf := Lib.hid hnf
        clear hnf
        have hf' : x < -2147483647 ∨ 2147483647 < x := by omega
        clear hf
        rcases hf' with hf | hf
        · go_wp2
          go_ret2
          exact ⟨ret2 (by rw [intsS, Hnf.out]; rfl) (by rw [intsE, Hnf.out]; rfl), hB⟩
        · have hf2 : ¬ x < -2147483647 := by omega
          go_wp2
          go_ret2
          exact ⟨ret2 (by rw [intsS, Hnf.out]; rfl) (by rw [intsE, Hnf.out]; rfl), hB⟩
    · obtain rfl : k = zs.length := by omega
      rw [List.take_length] at hall hown
      have hconv := run_conv_own (P := Try.prog) 93 9 Try.underlying93 Try.underlying5 Try.underlying9 hown
      have Hall := Lib.hid hall
      clear hall
      go_wp2
      go_ret2
      exact ⟨ret2 (by rw [intsS, if_pos Hall.out]) (by rw [intsE, if_pos Hall.out]), hB⟩

set_option maxHeartbeats 400000 in
theorem Int_any (x : Int) (w : World) :
    Calls Try.prog 45 #[.int .i64 x] w fun e w' => e = .returned (.tuple #[.string (intsS [x]), .int .i64 (intsE [x])]) ∧ Below w.heap.size w w' := by
  go_enter Try.func45, Try.ntmps45
  go_wp2_with fail
  refine (Ints_any _ 1 [x] _ (IntsAt.one w x _) (by simp)).mono ?_
  rintro e w1 ⟨rfl, hB⟩
  go_wp2
  go_ret2
  exact ⟨rfl, ((Below.refl _ w).alloc (Nat.le_refl _) _).trans (hB.mono (by simp))⟩

/-- What Text hands back. -/
def textS (s : ByteArray) : ByteArray := if s.size ≤ 3000 then strOf (Wm.lay s.size ++ bl s) else strOf []
def textE (s : ByteArray) : Int := if s.size ≤ 3000 then 0 else 2

theorem intsS_one {x : Int} (h : Wm.fits x = true) : intsS [x] = strOf (Wm.lay x) := by simp [intsS, h, Wm.lays]
theorem intsE_one {x : Int} (h : Wm.fits x = true) : intsE [x] = 0 := by simp [intsE, h]

set_option maxHeartbeats 400000 in
theorem Text_any (s : ByteArray) (w : World) (hs : s.size ≤ maxLen) :
    Calls Try.prog 60 #[.string s] w fun e w' => e = .returned (.tuple #[.string (textS s), .int .i64 (textE s)]) ∧ Below w.heap.size w w' := by
  unfold maxLen at hs
  by_cases h : s.size ≤ 3000
  · have hfit : Wm.fits (s.size : Int) = true := Wm.fits_iff.2 (by omega)
    have H1 := Lib.hid (intsS_one hfit)
    have H2 := Lib.hid (intsE_one hfit)
    have hcat : ¬ 9223372036854775807 < (strOf (Wm.lay (s.size : Int))).size + s.size := by
      rw [strOf_size]; have := lay_short _ hfit; omega
    clear hfit
    go_enter Try.func60, Try.ntmps60
    go_wp2_with fail
    refine (Ints_any _ 1 [(s.size : Int)] _ (IntsAt.one w _ _) (by simp)).mono ?_
    rintro e w1 ⟨rfl, hB⟩
    rw [H1.out, H2.out]
    go_wp2
    go_ret2
    exact ⟨ret2 (by rw [textS, if_pos h]; exact strOf_append _ _) (by rw [textE, if_pos h]), ((Below.refl _ w).alloc (Nat.le_refl _) _).trans (hB.mono (by simp))⟩
  · go_enter Try.func60, Try.ntmps60
    go_wp2
    go_ret2
    exact ⟨ret2 (by rw [textS, if_neg h]; rfl) (by rw [textE, if_neg h]), Below.refl _ _⟩

end Go.Proofs.Yteepemibmjpnfaa

namespace Go.Proofs.Yteepemibmjpnfaa
set_option maxRecDepth 10000
open Go.RowKit

theorem isEnd_bl {s : ByteArray} {k : Nat} (h : k < s.size) : Wm.isEnd ((bl s)[k]'h) = decide (254 ≤ s[k].toNat) := rfl
theorem ret_int {a b : Int} (h : a = b) : Ending.returned (.int .i64 a) = .returned (.int .i64 b) := by rw [h]

set_option maxHeartbeats 400000 in
theorem endIn_any (s : ByteArray) (w : World) (hs : s.size ≤ maxLen) :
    Calls Try.prog 68 #[.string s] w fun e w' => e = .returned (.int .i64 (Wm.endAt (bl s) : Int)) ∧ w = w' := by
  unfold maxLen at hs
  go_enter Try.func68, Try.ntmps68
  go_wp2
  go_loop [6] (fun i => ∃ k : Nat, k ≤ s.size ∧ i = .int .i64 (k : Int) ∧ Hid (∀ j (hj : j < (bl s).length), j < k → Wm.isEnd (bl s)[j] = false)) (fun i => s.size - (intOf i).toNat)
  case atStart => exact ⟨0, Nat.zero_le _, rfl, Lib.hid (fun j _ h => absurd h (Nat.not_lt_zero _))⟩
  case round =>
    obtain ⟨k, hk, rfl, H⟩ := hrel
    by_cases hlt : k < s.size
    · by_cases hc : 254 ≤ s[k].toNat
      · have hc' : (254 : Int) ≤ (s[k].toNat : Int) := by omega
        have hfin := Lib.hid (Wm.endAt_eq (l := bl s) (k := k) hlt (by rw [isEnd_bl hlt]; exact decide_eq_true hc) (fun j hj => H.out j (by have := bl_length s; omega) hj))
        clear hc
        go_wp2
        go_ret
        exact ⟨ret_int (by rw [hfin.out]), rfl⟩
      · have hc' : ¬ (254 : Int) ≤ (s[k].toNat : Int) := by omega
        have H2 := Lib.hid (fun j (hj : j < (bl s).length) (hjk : j < k + 1) => (show Wm.isEnd (bl s)[j] = false by
          by_cases hj2 : j < k
          · exact H.out j hj hj2
          · obtain rfl : j = k := by omega
            exact (isEnd_bl hlt).trans (decide_eq_false hc)))
        clear H hc
        go_wp2
        go_round
        case rel => exact ⟨k + 1, by omega, by go_num, H2⟩
        case measure => simp [intOf]; omega
    · have hfin := Lib.hid (Wm.endAt_none (l := bl s) (fun j hj => H.out j hj (by have := bl_length s; omega)))
      go_wp2
      go_ret
      exact ⟨ret_int (by rw [hfin.out, bl_length]), rfl⟩

/-- What size hands back. -/
def sizeN (l : List UInt8) : Int := if Wm.sizeOk l = true then (Wm.val l : Int) else 0

theorem ret_size {a b : Int} {x y : Bool} (h : a = b) (h' : x = y) : Ending.returned (.tuple #[.int .i64 a, .bool x]) = .returned (.tuple #[.int .i64 b, .bool y]) := by rw [h, h']

theorem val_drop {l : List UInt8} {k : Nat} (h : k < l.length) : Wm.val (l.drop k) = l[k].toNat + 250 * Wm.val (l.drop (k + 1)) := by
  rw [List.drop_eq_getElem_cons h]; rfl

theorem val_drop_le (l : List UInt8) (k : Nat) : Wm.val (l.drop k) ≤ Wm.val l := by
  induction k with
  | zero => simp
  | succ k ih =>
    by_cases h : k < l.length
    · have := val_drop h; omega
    · rw [List.drop_eq_nil_of_le (by omega)]; simp [Wm.val]

theorem sizeOk_no {l : List UInt8} (h : l.getLast? = some 0) : Wm.sizeOk l = false := by simp [Wm.sizeOk, h]
theorem sizeOk_big {l : List UInt8} {k : Nat} (hk : k < l.length) (h : 250 ≤ l[k].toNat) : Wm.sizeOk l = false := by
  rw [Bool.eq_false_iff]
  intro hh
  have := (Wm.sizeOk_iff.1 hh).1.1 l[k] (List.getElem_mem hk)
  omega
theorem sizeOk_much {l : List UInt8} {k : Nat} (h : 2147483647 < Wm.val (l.drop k)) : Wm.sizeOk l = false := by
  rw [Bool.eq_false_iff]
  intro hh
  have := (Wm.sizeOk_iff.1 hh).2
  have := val_drop_le l k
  omega

/-- What holds ahead of each round of size. -/
def SizeRel (s : ByteArray) (n i : Value) : Prop :=
  ∃ k : Nat, k ≤ s.size ∧ i = .int .i64 ((k : Int) - 1) ∧ n = .int .i64 (Wm.val ((bl s).drop k) : Int) ∧ Wm.val ((bl s).drop k) ≤ 2147483647 ∧ Hid (∀ d ∈ (bl s).drop k, d.toNat < 250)

theorem last_bl {s : ByteArray} (h : s.size - 1 < s.size) : (bl s).getLast? = some s[s.size - 1] := by
  rw [List.getLast?_eq_getElem?, bl_length]
  exact List.getElem?_eq_getElem (l := bl s) h

set_option maxHeartbeats 1000000 in
theorem size_loop (s : ByteArray) (w : World) (hs : s.size ≤ 9223372036854775807) (hlast : (bl s).getLast? ≠ some 0) (hz : s.size = 0 ∨ (0 < s.size ∧ s.size - 1 < s.size ∧ ∀ h : s.size - 1 < s.size, ((s[s.size - 1].toNat : Int) == 0) = false)) :
    Calls Try.prog 69 #[.string s] w fun e w' => e = .returned (.tuple #[.int .i64 (sizeN (bl s)), .bool (Wm.sizeOk (bl s))]) ∧ w = w' := by
  have Hlast := Lib.hid hlast
  clear hlast
  rcases hz with hz | ⟨hpos, hidx, hne⟩
  have hz' : ¬ 0 < s.size := by omega
  have hempty := Lib.hid (show bl s = [] from List.eq_nil_of_length_eq_zero (by rw [bl_length]; exact hz))
  have Hz := Lib.hid hz
  clear hz
  go_enter Try.func69, Try.ntmps69
  go_wp2_with fail
  clear hz'
  rotate_left
  have hne1 := hne hidx
  clear hne
  go_enter Try.func69, Try.ntmps69
  go_wp2_with fail
  all_goals
    go_loop [4, 5] (fun n i => SizeRel s n i) (fun _ i => (intOf i + 1).toNat)
    case atStart => exact ⟨s.size, Nat.le_refl _, rfl, by simp [← bl_length, Wm.val], by simp [← bl_length, Wm.val], Lib.hid (by simp [← bl_length])⟩
    case round =>
      obtain ⟨k, hk, rfl, rfl, hv, H⟩ := hrel
      rcases Nat.eq_zero_or_pos k with h0 | h0
      · subst h0
        have hfin : Wm.sizeOk (bl s) = true := Wm.sizeOk_iff.2 ⟨⟨by simpa using H.out, Hlast.out⟩, by simpa using hv⟩
        have Hfin := Lib.hid hfin
        clear hfin
        rw [show ((0 : Nat) : Int) - 1 = -1 from rfl]
        go_wp2
        go_ret2
        exact ⟨ret_size (by rw [sizeN, if_pos Hfin.out]) (by rw [Hfin.out]), rfl⟩
      · obtain ⟨j, rfl⟩ : ∃ j, k = j + 1 := ⟨k - 1, by omega⟩
        rw [show ((j + 1 : Nat) : Int) - 1 = (j : Int) from by omega]
        have hj : j < s.size := by omega
        have hvd := val_drop (l := bl s) (k := j) hj
        rw [bl_get s j hj] at hvd
        have hd2 := s[j].toNat_lt
        have Hvd := Lib.hid hvd
        clear hvd
        obtain ⟨V, hV⟩ : ∃ V, V = Wm.val ((bl s).drop (j + 1)) := ⟨_, rfl⟩
        rw [← hV] at hv ⊢
        have HV := Lib.hid hV
        clear hV
        by_cases hbig : (250 : Int) ≤ (s[j].toNat : Int)
        · have Hno := Lib.hid (sizeOk_big (l := bl s) (k := j) hj (by rw [bl_get]; omega))
          go_wp2
          go_ret2
          exact ⟨ret_size (by rw [sizeN, Hno.out]; rfl) (by rw [Hno.out]), rfl⟩
        · by_cases hmuch : (2147483647 - (s[j].toNat : Int)) / 250 < (V : Int)
          · have Hno := Lib.hid (sizeOk_much (l := bl s) (k := j) (by rw [Hvd.out, ← HV.out]; omega))
            go_wp2
            go_ret2
            exact ⟨ret_size (by rw [sizeN, Hno.out]; rfl) (by rw [Hno.out]), rfl⟩
          · go_wp2
            go_round
            case rel =>
              refine ⟨j, by omega, by go_num, ?_, by rw [Hvd.out, ← HV.out]; omega, Lib.hid ?_⟩
              · rw [Hvd.out, ← HV.out]
                exact congrArg (Value.int .i64) (by omega)
              · intro d hd
                rw [List.drop_eq_getElem_cons (l := bl s) hj] at hd
                rcases List.mem_cons.1 hd with rfl | hd
                · rw [bl_get]; omega
                · exact H.out d hd
            case measure => simp [intOf]

set_option maxHeartbeats 400000 in
theorem size_any (s : ByteArray) (w : World) (hs : s.size ≤ maxLen) :
    Calls Try.prog 69 #[.string s] w fun e w' => e = .returned (.tuple #[.int .i64 (sizeN (bl s)), .bool (Wm.sizeOk (bl s))]) ∧ w = w' := by
  unfold maxLen at hs
  by_cases h0 : s.size = 0
  · exact size_loop s w (by omega) (by rw [show bl s = [] from List.eq_nil_of_length_eq_zero (by rw [bl_length]; exact h0)]; simp) (.inl h0)
  · have hidx : s.size - 1 < s.size := by omega
    have hpos : 0 < s.size := by omega
    by_cases hl : s[s.size - 1].toNat = 0
    · have hne1 : ((s[s.size - 1].toNat : Int) == 0) = true := by rw [beq_iff_eq]; omega
      have Hno := Lib.hid (sizeOk_no (l := bl s) (by rw [last_bl hidx]; congr 1; exact UInt8.toNat_inj.1 (by simpa using hl)))
      clear hl h0
      go_enter Try.func69, Try.ntmps69
      go_wp2
      go_ret2
      exact ⟨ret_size (by rw [sizeN, Hno.out]; rfl) (by rw [Hno.out]), rfl⟩
    · refine size_loop s w (by omega) (by rw [last_bl hidx]; simp; intro hc; rw [hc] at hl; exact hl rfl) (.inr ⟨hpos, hidx, fun _ => by rw [beq_eq_false_iff_ne]; omega⟩)

theorem ret3 {a b : Int} {x y : ByteArray} {n m : Int} (h : a = b) (h' : x = y) (h'' : n = m) : Ending.returned (.tuple #[.int .i64 a, .string x, .int .i64 n]) = .returned (.tuple #[.int .i64 b, .string y, .int .i64 m]) := by rw [h, h', h'']

theorem size_yes (s : ByteArray) (V : Nat) (w : World) (hs : s.size ≤ maxLen) (h : Wm.sizeOk (bl s) = true) (hv : Wm.val (bl s) = V) :
    Calls Try.prog 69 #[.string s] w fun e w' => e = .returned (.tuple #[.int .i64 (V : Int), .bool true]) ∧ w = w' :=
  (size_any s w hs).mono fun _ _ ⟨he, hw⟩ => ⟨by rw [he, h, sizeN, if_pos h, hv], hw⟩
theorem size_not (s : ByteArray) (w : World) (hs : s.size ≤ maxLen) (h : Wm.sizeOk (bl s) = false) :
    Calls Try.prog 69 #[.string s] w fun e w' => e = .returned (.tuple #[.int .i64 0, .bool false]) ∧ w = w' :=
  (size_any s w hs).mono fun _ _ ⟨he, hw⟩ => ⟨by rw [he, h, sizeN, h]; rfl, hw⟩
theorem endIn_at (s : ByteArray) (p : Nat) (w : World) (hs : s.size ≤ maxLen) (h : Wm.endAt (bl s) = p) :
    Calls Try.prog 68 #[.string s] w fun e w' => e = .returned (.int .i64 (p : Int)) ∧ w = w' := by
  subst h; exact endIn_any s w hs

theorem getInt_at {s : ByteArray} {p : Nat} (hlt : p < s.size) (h : Wm.endAt (bl s) = p) :
    Wm.getInt (bl s) = if Wm.good ((bl s).take p) s[p] = true then (Wm.sgn ((bl s).take p) s[p], (bl s).drop (p + 1), 0) else (0, [], 20) := by
  subst h
  unfold Wm.getInt
  rw [dif_pos (show Wm.endAt (bl s) < (bl s).length from hlt)]
  rfl

set_option maxHeartbeats 1000000 in
theorem GetInt_any (s : ByteArray) (w : World) (hs : s.size ≤ maxLen) :
    Calls Try.prog 53 #[.string s] w fun e w' => e = .returned (.tuple #[.int .i64 (Wm.getInt (bl s)).1, .string (strOf (Wm.getInt (bl s)).2.1), .int .i64 (Wm.getInt (bl s)).2.2]) ∧ ∃ n, w' = w.drewN n := by
  have hle := Wm.endAt_le (bl s)
  rw [bl_length] at hle
  have Hs := Lib.hid hs
  unfold maxLen at hs
  obtain ⟨p, hp⟩ : ∃ p, Wm.endAt (bl s) = p := ⟨_, rfl⟩
  rw [hp] at hle
  by_cases hlt : p < s.size
  · have h3 : ((p : Int) == (s.size : Int)) = false := by rw [beq_eq_false_iff_ne]; omega
    have Hg := Lib.hid (getInt_at hlt hp)
    have Hp := Lib.hid hp
    clear hp
    have Hs2 : Hid ((s.extract 0 p).size ≤ maxLen) := Lib.hid (by have h1 := bl_extract_to s p hle; have h2 := congrArg List.length h1; rw [bl_length] at h2; rw [h2]; have h3 := List.length_take_le p (bl s); have h4 := Hs.out; omega)
    by_cases hok : Wm.sizeOk ((bl s).take p) = true
    · obtain ⟨V, hV⟩ : ∃ V, Wm.val ((bl s).take p) = V := ⟨_, rfl⟩
      have hVle : V ≤ 2147483647 := by rw [← hV]; exact (Wm.sizeOk_iff.1 hok).2
      by_cases hc : s[p].toNat = 254
      · have hc' : ((s[p].toNat : Int) == 254) = true := by rw [beq_iff_eq]; omega
        have hcc : s[p] = 254 := UInt8.toNat_inj.1 (by simpa using hc)
        by_cases hV0 : V = 0
        · have hV0' : ((V : Int) == 0) = true := by rw [beq_iff_eq]; omega
          have Hr : Hid (Wm.getInt (bl s) = (0, [], 20)) := Lib.hid (by rw [Hg.out, if_neg]; simp [Wm.good, hcc, hV, hV0])
          have Hok := Lib.hid hok; have HV := Lib.hid hV
          clear hc hcc hV0 hok hV Hg
          go_enter Try.func53, Try.ntmps53
          go_wp2_with fail
          refine (endIn_at s p w Hs.out Hp.out).mono ?_
          rintro e w1 ⟨rfl, rfl⟩
          go_wp2_with fail
          refine (size_yes _ V w Hs2.out (by rw [bl_extract_to s p hle]; exact Hok.out) (by rw [bl_extract_to s p hle]; exact HV.out)).mono ?_
          rintro e w1 ⟨rfl, rfl⟩
          go_wp2
          go_ret3
          exact ⟨by rw [Hr.out]; rfl, 0, rfl⟩
        · have hV0' : ((V : Int) == 0) = false := by rw [beq_eq_false_iff_ne]; omega
          have Hr : Hid (Wm.getInt (bl s) = (-(V : Int), (bl s).drop (p + 1), 0)) := Lib.hid (by rw [Hg.out, if_pos]; simp [Wm.sgn, hcc, hV]; simp [Wm.good, hcc, hV, hV0, hok])
          have Hok := Lib.hid hok; have HV := Lib.hid hV
          clear hc hcc hV0 hok hV Hg
          go_enter Try.func53, Try.ntmps53
          go_wp2_with fail
          refine (endIn_at s p w Hs.out Hp.out).mono ?_
          rintro e w1 ⟨rfl, rfl⟩
          go_wp2_with fail
          refine (size_yes _ V w Hs2.out (by rw [bl_extract_to s p hle]; exact Hok.out) (by rw [bl_extract_to s p hle]; exact HV.out)).mono ?_
          rintro e w1 ⟨rfl, rfl⟩
          go_wp2
          go_quiet (fail)
          go_wp2
          go_ret3
          exact ⟨ret3 (by rw [Hr.out]) (by rw [Hr.out]; exact bl_inj (by rw [bl_extract_from]; rfl)) (by rw [Hr.out]), nq, rfl⟩
      · have hc' : ((s[p].toNat : Int) == 254) = false := by rw [beq_eq_false_iff_ne]; omega
        have hcc : s[p] ≠ 254 := fun h => hc (by rw [h]; rfl)
        have Hr : Hid (Wm.getInt (bl s) = ((V : Int), (bl s).drop (p + 1), 0)) := Lib.hid (by rw [Hg.out, if_pos]; simp [Wm.sgn, hcc, hV]; simp [Wm.good, hcc, hok])
        have Hok := Lib.hid hok; have HV := Lib.hid hV
        clear hc hcc hok hV Hg
        go_enter Try.func53, Try.ntmps53
        go_wp2_with fail
        refine (endIn_at s p w Hs.out Hp.out).mono ?_
        rintro e w1 ⟨rfl, rfl⟩
        go_wp2_with fail
        refine (size_yes _ V w Hs2.out (by rw [bl_extract_to s p hle]; exact Hok.out) (by rw [bl_extract_to s p hle]; exact HV.out)).mono ?_
        rintro e w1 ⟨rfl, rfl⟩
        go_wp2
        go_quiet (fail)
        go_wp2
        go_ret3
        exact ⟨ret3 (by rw [Hr.out]) (by rw [Hr.out]; exact bl_inj (by rw [bl_extract_from]; rfl)) (by rw [Hr.out]), nq, rfl⟩
    · have hok' : Wm.sizeOk ((bl s).take p) = false := by simpa using hok
      have Hr : Hid (Wm.getInt (bl s) = (0, [], 20)) := Lib.hid (by rw [Hg.out, if_neg]; simp [Wm.good, hok'])
      have Hok := Lib.hid hok'
      clear hok hok' Hg
      go_enter Try.func53, Try.ntmps53
      go_wp2_with fail
      refine (endIn_at s p w Hs.out Hp.out).mono ?_
      rintro e w1 ⟨rfl, rfl⟩
      go_wp2_with fail
      refine (size_not _ w Hs2.out (by rw [bl_extract_to s p hle]; exact Hok.out)).mono ?_
      rintro e w1 ⟨rfl, rfl⟩
      go_wp2
      go_ret3
      exact ⟨by rw [Hr.out]; rfl, 0, rfl⟩
  · have h3 : ((p : Int) == (s.size : Int)) = true := by rw [beq_iff_eq]; omega
    have Hr : Hid (Wm.getInt (bl s) = (0, [], 22)) := Lib.hid (by unfold Wm.getInt; rw [dif_neg (by rw [hp, bl_length]; exact hlt)])
    have Hp := Lib.hid hp
    clear hp
    go_enter Try.func53, Try.ntmps53
    go_wp2_with fail
    refine (endIn_at s p w Hs.out Hp.out).mono ?_
    rintro e w1 ⟨rfl, rfl⟩
    go_wp2
    go_ret3
    exact ⟨by rw [Hr.out]; rfl, 0, rfl⟩

/-- GetInt at a text of which it is known what is read. -/
theorem GetInt_at (s : ByteArray) (n : Int) (r : List UInt8) (c : Int) (w : World) (hs : s.size ≤ maxLen) (h : Wm.getInt (bl s) = (n, r, c)) :
    Calls Try.prog 53 #[.string s] w fun e w' => e = .returned (.tuple #[.int .i64 n, .string (strOf r), .int .i64 c]) ∧ ∃ k, w' = w.drewN k := by
  have := GetInt_any s w hs
  rw [h] at this
  exact this

theorem ret3s {a b x y : ByteArray} {n m : Int} (h : a = b) (h' : x = y) (h'' : n = m) : Ending.returned (.tuple #[.string a, .string x, .int .i64 n]) = .returned (.tuple #[.string b, .string y, .int .i64 m]) := by rw [h, h', h'']

theorem getInt_len {l : List UInt8} {n : Int} {r : List UInt8} {e : Int} (h : Wm.getInt l = (n, r, e)) : r.length ≤ l.length := by
  rcases Wm.getInt_err l with ⟨n', r', h'⟩ | h' | h'
  · rw [h'] at h; simp only [Prod.mk.injEq] at h
    obtain ⟨rfl, rfl, rfl⟩ := h
    have := (Wm.getInt_ok h').2
    rw [this]; simp
  · rw [h'] at h; simp only [Prod.mk.injEq] at h
    obtain ⟨rfl, rfl, rfl⟩ := h; simp
  · rw [h'] at h; simp only [Prod.mk.injEq] at h
    obtain ⟨rfl, rfl, rfl⟩ := h; simp

set_option maxHeartbeats 1000000 in
theorem GetText_any (s : ByteArray) (w : World) (hs : s.size ≤ maxLen) :
    Calls Try.prog 78 #[.string s] w fun e w' => e = .returned (.tuple #[.string (strOf (Wm.getText (bl s)).1), .string (strOf (Wm.getText (bl s)).2.1), .int .i64 (Wm.getText (bl s)).2.2]) ∧ ∃ n, w' = w.drewN n := by
  have Hs := Lib.hid hs
  have hs2 := hs
  unfold maxLen at hs
  obtain ⟨n, r, c, hg⟩ : ∃ n r c, Wm.getInt (bl s) = (n, r, c) := ⟨_, _, _, rfl⟩
  have hrl := getInt_len hg
  rw [bl_length] at hrl
  have hrs := strOf_size r
  rw [← hrs] at hrl
  have Hg := Lib.hid hg
  have Hrs := Lib.hid hrs
  have Ht : Hid (Wm.getText (bl s) = if c = 0 then (if n < 0 ∨ 3000 < n then ([], [], 20) else if (r.length : Int) < n then ([], [], 22) else (r.take n.toNat, r.drop n.toNat, 0)) else ([], [], c)) := Lib.hid (by unfold Wm.getText; rw [hg])
  clear hg hrs
  by_cases hc : c = 0
  · subst hc
    by_cases hn : n < 0 ∨ 3000 < n
    · have Hr : Hid (Wm.getText (bl s) = ([], [], 20)) := Lib.hid (by rw [Ht.out, if_pos rfl, if_pos hn])
      rcases hn with hn | hn
      · go_enter Try.func78, Try.ntmps78
        go_wp2_with fail
        refine (GetInt_at s n r 0 w Hs.out Hg.out).mono ?_
        rintro e w1 ⟨rfl, k, rfl⟩
        go_wp2
        go_ret3
        exact ⟨by rw [Hr.out]; rfl, k, rfl⟩
      · have hn' : ¬ n < 0 := by omega
        go_enter Try.func78, Try.ntmps78
        go_wp2_with fail
        refine (GetInt_at s n r 0 w Hs.out Hg.out).mono ?_
        rintro e w1 ⟨rfl, k, rfl⟩
        go_wp2
        go_ret3
        exact ⟨by rw [Hr.out]; rfl, k, rfl⟩
    · have hn1 : 0 ≤ n := by omega
      have hn2 : n ≤ 3000 := by omega
      obtain ⟨N, rfl⟩ : ∃ N : Nat, n = (N : Int) := ⟨n.toNat, by omega⟩
      by_cases hl : (r.length : Int) < (N : Int)
      · have Hr : Hid (Wm.getText (bl s) = ([], [], 22)) := Lib.hid (by rw [Ht.out, if_pos rfl, if_neg hn, if_pos hl])
        have hl' : (strOf r).size < N := by rw [strOf_size]; omega
        clear hn hl
        go_enter Try.func78, Try.ntmps78
        go_wp2_with fail
        refine (GetInt_at s _ r 0 w Hs.out Hg.out).mono ?_
        rintro e w1 ⟨rfl, k, rfl⟩
        go_wp2
        go_ret3
        exact ⟨by rw [Hr.out]; rfl, k, rfl⟩
      · have Hr : Hid (Wm.getText (bl s) = (r.take N, r.drop N, 0)) := Lib.hid (by rw [Ht.out, if_pos rfl, if_neg hn, if_neg hl]; simp)
        have hl' : N ≤ (strOf r).size := by rw [strOf_size]; omega
        clear hn hl
        go_enter Try.func78, Try.ntmps78
        go_wp2_with fail
        refine (GetInt_at s _ r 0 w Hs.out Hg.out).mono ?_
        rintro e w1 ⟨rfl, k, rfl⟩
        go_wp2
        go_quiet (fail)
        go_wp2
        go_ret3
        exact ⟨ret3s (by rw [Hr.out]; exact bl_inj (by rw [bl_extract_to _ _ hl']; rfl)) (by rw [Hr.out]; exact bl_inj (by rw [bl_extract_from]; rfl)) (by rw [Hr.out]), k + nq, by rw [World.drewN_drewN]⟩
  · have hc' : (c == 0) = false := by rw [beq_eq_false_iff_ne]; exact hc
    have hc2 : (c != 0) = true := by rw [bne_iff_ne]; exact hc
    have Hr : Hid (Wm.getText (bl s) = ([], [], c)) := Lib.hid (by rw [Ht.out, if_neg hc])
    clear hc
    go_enter Try.func78, Try.ntmps78
    go_wp2_with fail
    refine (GetInt_at s n r c w Hs.out Hg.out).mono ?_
    rintro e w1 ⟨rfl, k, rfl⟩
    go_wp2
    go_ret3
    exact ⟨by rw [Hr.out]; rfl, k, rfl⟩

end Go.Proofs.Yteepemibmjpnfaa

namespace Go.Proofs.Yteepemibmjpnfaa
set_option maxRecDepth 10000
open Go.RowKit

theorem i64_wrap_small {n : Nat} (h : n < 65536) : IntKind.i64.wrap (n : Int) = n := by
  simp [IntKind.wrap, IntKind.bits, IntKind.signed]; omega

theorem bits_xor_small (a b : Nat) (ha : a < 65536) (hb : b < 65536) : bits .xor .i64 (a : Int) (b : Int) = ((a ^^^ b : Nat) : Int) := by
  have hx : a ^^^ b < 65536 := Sm.xor_lt ha hb
  have h1 : (BitVec.ofInt 64 (a : Int)).toNat = a := by
    rw [BitVec.ofInt_natCast, BitVec.toNat_ofNat]; exact Nat.mod_eq_of_lt (by omega)
  have h2 : (BitVec.ofInt 64 (b : Int)).toNat = b := by
    rw [BitVec.ofInt_natCast, BitVec.toNat_ofNat]; exact Nat.mod_eq_of_lt (by omega)
  show IntKind.i64.wrap ((BitVec.ofInt 64 (a : Int) ^^^ BitVec.ofInt 64 (b : Int)).toNat : Int) = _
  rw [BitVec.toNat_xor, h1, h2, i64_wrap_small hx]

theorem modify2 (h : Array Obj) (blk : Nat) (f g : Obj → Obj) : (h.modify blk f).modify blk g = h.modify blk (fun x => g (f x)) := by
  apply Array.ext
  · simp
  · intro i h1 h2
    simp only [Array.getElem_modify]
    split <;> rfl

/-- A store over a store into the same cell. -/
theorem setCell2 (w : World) (blk off : Nat) (v v' : Value) : (w.setCell ⟨blk, off, none⟩ v).setCell ⟨blk, off, none⟩ v' = w.setCell ⟨blk, off, none⟩ v' := by
  unfold World.setCell
  simp only [modify2]
  congr 2
  funext x
  cases x <;> simp

theorem sh_hi {c : Nat} (h : 32768 ≤ c) : bits .xor .i64 ((c : Int) * 2 % 65536) 4129 = (Sm.sh c : Int) := by
  have e : ((c : Int) * 2 % 65536) = ((2 * c % 65536 : Nat) : Int) := by omega
  rw [e, show (4129 : Int) = ((4129 : Nat) : Int) from rfl, bits_xor_small _ _ (by omega) (by omega), Sm.sh, if_pos h]
theorem sh_lo {c : Nat} (h : ¬ 32768 ≤ c) : ((c : Int) * 2 % 65536) = (Sm.sh c : Int) := by
  rw [Sm.sh, if_neg h]; omega

set_option maxRecDepth 10000 in
set_option maxHeartbeats 400000 in
theorem shift_any (B o c : Nat) (w : World) (hc : w.cell? ⟨B, o, none⟩ = some (.int .i64 (c : Int))) (hf : w.frozen? ⟨B, o, none⟩ = false) (hlt : (c : Int) < 65536) :
    Calls Try.prog 94 #[.pointer (some ⟨B, o, none⟩)] w fun e w' => e = .returned (.tuple #[]) ∧ w' = w.setCell ⟨B, o, none⟩ (.int .i64 (Sm.sh c : Int)) := by
  by_cases h : (32768 : Int) ≤ c
  · have hx := sh_hi (c := c) (by omega)
    go_enter Try.func94, Try.ntmps94
    go_wp2
    go_end0
    exact ⟨rfl, setCell2 _ _ _ _ _⟩
  · have hx := Lib.hid (sh_lo (c := c) (by omega))
    have h' : (c : Int) < 32768 := by omega
    go_enter Try.func94, Try.ntmps94
    go_wp2
    go_end0
    rw [hx.out]
    exact ⟨rfl, rfl⟩

theorem st_in {c b : Nat} (hc : (c : Int) < 65536) (hb : (b : Int) < 256) : bits .xor .i64 (c : Int) ((b : Int) * 256) = ((c ^^^ 256 * b : Nat) : Int) := by
  have e : ((b : Int) * 256) = ((256 * b : Nat) : Int) := by omega
  rw [e, bits_xor_small _ _ (by omega) (by omega)]
theorem it_ltI {k c : Nat} (h : c < 65536) : ((Sm.it k c : Nat) : Int) < 65536 := by have := Sm.it_lt (k := k) h; omega

set_option maxRecDepth 10000 in
set_option maxHeartbeats 400000 in
theorem step_any (B o c b : Nat) (w : World) (hc : w.cell? ⟨B, o, none⟩ = some (.int .i64 (c : Int))) (hf : w.frozen? ⟨B, o, none⟩ = false) (hlt : (c : Int) < 65536) (hb : (b : Int) < 256) :
    Calls Try.prog 91 #[.pointer (some ⟨B, o, none⟩), .int .u8 (b : Int)] w fun e w' => e = .returned (.tuple #[]) ∧ w' = w.setCell ⟨B, o, none⟩ (.int .i64 (Sm.st c b : Int)) := by
  have hx := st_in hlt hb
  have Hi : Hid (∀ k, ((Sm.it k (c ^^^ 256 * b) : Nat) : Int) < 65536) := Lib.hid (fun k => it_ltI (Sm.xor_lt (by omega) (by omega)))
  have Hs : Hid (∀ k, Sm.sh (Sm.it k (c ^^^ 256 * b)) = Sm.it (k + 1) (c ^^^ 256 * b)) := Lib.hid (fun k => rfl)
  have He : Hid (Sm.it 8 (c ^^^ 256 * b) = Sm.st c b) := Lib.hid (by unfold Sm.st; rfl)
  obtain ⟨x, hx0⟩ : ∃ x : Nat, x = c ^^^ 256 * b := ⟨_, rfl⟩
  rw [← hx0] at hx Hi Hs He
  clear hx0
  go_enter Try.func91, Try.ntmps91
  go_wp2
  go_loopw [14] (fun i wr => ∃ k : Nat, (k : Int) ≤ 8 ∧ i = .int .i64 (k : Int) ∧ wr = w.setCell ⟨B, o, none⟩ (.int .i64 (Sm.it k x : Int))) (fun i _ => 8 - (intOf i).toNat)
  case atStart => exact ⟨0, by omega, rfl, rfl⟩
  case round =>
    obtain ⟨k, hk, rfl, rfl⟩ := hrel
    by_cases hk8 : (k : Int) < 8
    · have hi := Hi.out k
      have hc' : (w.setCell ⟨B, o, none⟩ (.int .i64 (Sm.it k x : Int))).cell? ⟨B, o, none⟩ = some (.int .i64 (Sm.it k x : Int)) := World.cell?_setCell_same _ _ _ hc
      have hf' : (w.setCell ⟨B, o, none⟩ (.int .i64 (Sm.it k x : Int))).frozen? ⟨B, o, none⟩ = false := by simpa using hf
      go_wp2_with fail
      refine (shift_any B o (Sm.it k x) _ hc' hf' hi).mono ?_
      rintro e w1 ⟨rfl, rfl⟩
      rw [setCell2, Hs.out]
      go_wp2
      go_roundw
      case rel => exact ⟨k + 1, by omega, by go_num, rfl⟩
      case measure => simp [intOf]; omega
    · obtain rfl : k = 8 := by omega
      rw [He.out]
      go_wp2
      go_end0
      exact ⟨rfl, rfl⟩

end Go.Proofs.Yteepemibmjpnfaa

namespace Go.Proofs.Yteepemibmjpnfaa
set_option maxRecDepth 10000
open Go.RowKit

/-- A running sum at block B: the sum c, of t bytes. -/
structure RunAt (w : World) (B c t : Nat) : Prop where
  now : w.cell? ⟨B, 0, none⟩ = some (.int .i64 (c : Int))
  taken : w.cell? ⟨B, 1, none⟩ = some (.int .i64 (t : Int))
  f0 : w.frozen? ⟨B, 0, none⟩ = false
  f1 : w.frozen? ⟨B, 1, none⟩ = false

theorem RunAt.setNow {w : World} {B c t : Nat} (h : RunAt w B c t) (d : Nat) : RunAt (w.setCell ⟨B, 0, none⟩ (.int .i64 (d : Int))) B d t :=
  ⟨World.cell?_setCell_same _ _ _ h.now, (World.cell?_setCell_other _ _ _ _ (by simp)).trans h.taken, by simpa using h.f0, by simpa using h.f1⟩
theorem RunAt.setTaken {w : World} {B c t : Nat} (h : RunAt w B c t) (d : Nat) : RunAt (w.setCell ⟨B, 1, none⟩ (.int .i64 (d : Int))) B c d :=
  ⟨(World.cell?_setCell_other _ _ _ _ (by simp)).trans h.now, World.cell?_setCell_same _ _ _ h.taken, by simpa using h.f0, by simpa using h.f1⟩
theorem RunAt.new (w : World) (c t : Nat) (T : TypeId) : RunAt (w.alloc (.cells #[.int .i64 (c : Int), .int .i64 (t : Int)] T)) w.heap.size c t := by
  have hb := World.alloc_heap_new w (.cells #[.int .i64 (c : Int), .int .i64 (t : Int)] T)
  constructor <;> simp only [World.cell?, World.frozen?, hb] <;> simp

theorem step_run (B c t b : Nat) (w : World) (h : RunAt w B c t) (hlt : (c : Int) < 65536) (hb : (b : Int) < 256) :
    Calls Try.prog 91 #[.pointer (some ⟨B, 0, none⟩), .int .u8 (b : Int)] w fun e w' => e = .returned (.tuple #[]) ∧ RunAt w' B (Sm.st c b) t ∧ Below B w w' :=
  (step_any B 0 c b w h.now h.f0 hlt hb).mono fun _ _ ⟨he, hw⟩ => ⟨he, by rw [hw]; exact h.setNow _, by rw [hw]; exact (Below.refl B w).setCell (Nat.le_refl B) _⟩

set_option maxRecDepth 10000 in
set_option maxHeartbeats 400000 in
theorem take_any (B c t b : Nat) (w : World) (h : RunAt w B c t) (hlt : (c : Int) < 65536) (hb : (b : Int) < 256) (ht : (t : Int) < 1000000000) :
    Calls Try.prog 88 #[.pointer (some ⟨B, 0, none⟩), .int .u8 (b : Int)] w fun e w' => e = .returned (.tuple #[]) ∧ RunAt w' B (Sm.st c b) (t + 1) ∧ Below B w w' := by
  go_enter Try.func88, Try.ntmps88
  go_wp2_with fail
  refine (step_run B c t b w h hlt hb).mono ?_
  rintro e w1 ⟨rfl, h1, hB1⟩
  have k1 := h1.taken
  have k2 := h1.f1
  go_wp2
  go_end0
  refine ⟨rfl, ?_, hB1.setCell (Nat.le_refl B) _⟩
  have := h1.setTaken (t + 1)
  simpa using this

set_option maxRecDepth 10000 in
set_option maxHeartbeats 400000 in
theorem goOn_any (B c t : Nat) (s : ByteArray) (w : World) (h : RunAt w B c t) (hlt : (c : Int) < 65536) (ht : (t : Int) + (s.size : Int) < 1000000000) :
    Calls Try.prog 82 #[.pointer (some ⟨B, 0, none⟩), .string s] w fun e w' => e = .returned (.tuple #[]) ∧ RunAt w' B (Sm.go c (bl s)) (t + s.size) ∧ Below B w w' := by
  go_enter Try.func82, Try.ntmps82
  go_wp2
  go_loopw [7] (fun i wr => ∃ k : Nat, k ≤ s.size ∧ i = .int .i64 (k : Int) ∧ RunAt wr B (Sm.go c ((bl s).take k)) (t + k) ∧ Below B w wr) (fun i _ => s.size - (intOf i).toNat)
  case atStart => exact ⟨0, by omega, rfl, by simpa [Sm.go_nil] using h, Below.refl _ _⟩
  case round =>
    obtain ⟨k, hk, rfl, hr, hB⟩ := hrel
    by_cases hlt' : k < s.size
    · have hg : ((Sm.go c ((bl s).take k) : Nat) : Int) < 65536 := by have := Sm.go_lt (c := c) (by omega) ((bl s).take k); omega
      have hb : ((s[k].toNat : Nat) : Int) < 256 := by have := s[k].toNat_lt; omega
      have htk : ((t + k : Nat) : Int) < 1000000000 := by omega
      have Hs := Lib.hid (show Sm.st (Sm.go c ((bl s).take k)) s[k].toNat = Sm.go c ((bl s).take (k + 1)) by
        rw [List.take_succ_eq_append_getElem (by rw [bl_length]; exact hlt'), Sm.go_append, Sm.go_one]; rfl)
      go_wp2_with fail
      refine (take_any B _ (t + k) (s[k].toNat) _ hr hg hb htk).mono ?_
      rintro e w1 ⟨rfl, h1, hB1⟩
      rw [Hs.out] at h1
      go_wp2
      go_roundw
      case rel => exact ⟨k + 1, by omega, by go_num, h1, hB.trans hB1⟩
      case measure => simp [intOf]; omega
    · obtain rfl : k = s.size := by omega
      have h2 : RunAt wr B (Sm.go c (bl s)) (t + s.size) := by
        rw [List.take_of_length_le (by rw [bl_length]; exact Nat.le_refl _)] at hr; exact hr
      go_wp2
      go_end0
      exact ⟨rfl, h2, hB⟩

set_option maxRecDepth 10000 in
set_option maxHeartbeats 400000 in
theorem start_any (w : World)  :
    Calls Try.prog 81 #[] w fun e w' => e = .returned (.agg #[.int .i64 65535, .int .i64 0]) ∧ Below w.heap.size w w' := by
  go_enter Try.func81, Try.ntmps81
  go_wp2
  exact bodyPost_ret (v := .agg #[.int .i64 65535, .int .i64 0]) (by simp [results, Try.results81, go_sem]) rfl ⟨rfl, (Below.refl _ _).alloc (Nat.le_refl _) _⟩

theorem tup2 {a a' : Int} {b b' : Bool} (h : a = a') (h2 : b = b') : Ending.returned (.tuple #[.int .i64 a, .bool b]) = .returned (.tuple #[.int .i64 a', .bool b']) := by rw [h, h2]

/-- Texts one behind the other. -/
def cat (ss : List ByteArray) : List UInt8 := ss.flatMap bl
theorem cat_nil : cat [] = [] := rfl
theorem cat_take_succ {ss : List ByteArray} {k : Nat} (h : k < ss.length) : cat (ss.take (k + 1)) = cat (ss.take k) ++ bl ss[k] := by
  unfold cat; rw [List.take_succ_eq_append_getElem h, List.flatMap_append]; simp
theorem cat_take_le (ss : List ByteArray) (k : Nat) : (cat (ss.take k)).length ≤ (cat ss).length := by
  have : cat ss = cat (ss.take k) ++ cat (ss.drop k) := by unfold cat; rw [← List.flatMap_append, List.take_append_drop]
  rw [this, List.length_append]; omega

set_option maxRecDepth 10000 in
set_option maxHeartbeats 400000 in
theorem Over_any (A : Option Addr) (cap : Nat) (ss : List ByteArray) (w : World) (hA : StrsAt w w.heap.size A ss) (hl : (ss.length : Int) < 1000000000) (hs : ((cat ss).length : Int) < 1000000000) :
    Calls Try.prog 73 #[.slice A ss.length cap] w fun e w' => e = .returned (.int .i64 (Sm.ofL (cat ss) : Int)) ∧ Below w.heap.size w w' := by
  go_enter Try.func73, Try.ntmps73
  go_wp2_with fail
  refine (start_any w).mono ?_
  rintro e w1 ⟨rfl, hB1⟩
  have hz := hB1.size
  have hr0 := RunAt.new w1 65535 0 112
  have hB2 : Below w.heap.size w (w1.alloc (.cells #[.int .i64 65535, .int .i64 0] 112)) := hB1.alloc hz _
  go_wp2
  go_loopw [9] (fun i wr => ∃ k : Nat, k ≤ ss.length ∧ i = .int .i64 (k : Int) ∧ RunAt wr w1.heap.size (Sm.ofL (cat (ss.take k))) (cat (ss.take k)).length ∧ Below w.heap.size w wr) (fun i _ => ss.length - (intOf i).toNat)
  case atStart => exact ⟨0, by omega, rfl, hr0, hB2⟩
  case round =>
    obtain ⟨k, hk, rfl, hr, hB⟩ := hrel
    clear hr0 hB2
    by_cases hlt' : k < ss.length
    · obtain ⟨b, off, rfl, hb, hc⟩ := (hA.below hB (Nat.le_refl _)) k hlt'
      have Hs := Lib.hid (show Sm.go (Sm.ofL (cat (ss.take k))) (bl ss[k]) = Sm.ofL (cat (ss.take (k + 1))) by
        rw [cat_take_succ hlt']; unfold Sm.ofL; rw [Sm.go_append])
      have Hn := Lib.hid (show (cat (ss.take k)).length + ss[k].size = (cat (ss.take (k + 1))).length by
        rw [cat_take_succ hlt', List.length_append, bl_length])
      have hg : ((Sm.ofL (cat (ss.take k)) : Nat) : Int) < 65536 := by have := Sm.ofL_lt (cat (ss.take k)); omega
      have ht : (((cat (ss.take k)).length : Nat) : Int) + (ss[k].size : Int) < 1000000000 := by
        have := cat_take_le ss (k + 1); have := Hn.out; omega
      have i1 : (k : Int) < (ss.length : Int) := by omega
      obtain ⟨s, hs'⟩ : ∃ s, s = ss[k] := ⟨_, rfl⟩
      rw [← hs'] at hc Hs Hn ht
      clear hs'
      go_wp2_with fail
      refine (goOn_any w1.heap.size _ _ s _ hr hg ht).mono ?_
      rintro e w2 ⟨rfl, h2, hB3⟩
      rw [Hs.out, Hn.out] at h2
      go_wp2
      go_roundw
      case rel => exact ⟨k + 1, by omega, by go_num, h2, hB.trans (hB3.mono hz)⟩
      case measure => simp [intOf]; omega
    · obtain rfl : k = ss.length := by omega
      have h2 := hr.now
      rw [List.take_length] at h2
      go_wp2
      go_ret
      exact ⟨rfl, hB⟩

set_option maxRecDepth 10000 in
set_option maxHeartbeats 400000 in
theorem Of_any (s : ByteArray) (w : World) (hs : (s.size : Int) < 1000000000) :
    Calls Try.prog 62 #[.string s] w fun e w' => e = .returned (.int .i64 (Sm.ofL (bl s) : Int)) ∧ Below w.heap.size w w' := by
  have hcat : cat [s] = bl s := by simp [cat]
  have hn := StrsAt.new w [s] 9
  go_enter Try.func62, Try.ntmps62
  go_wp2_with fail
  refine (Over_any (some ⟨w.heap.size, 0, none⟩) 1 [s] _ (hn.more (by simp)) (by simp) (by rw [hcat, bl_length]; exact hs)).mono ?_
  rintro e w1 ⟨rfl, hB1⟩
  rw [hcat]
  go_wp2
  go_ret
  exact ⟨rfl, ((Below.refl _ w).alloc (Nat.le_refl _) _).trans (hB1.mono (by simp))⟩

end Go.Proofs.Yteepemibmjpnfaa

namespace Go.Proofs.Yteepemibmjpnfaa
set_option maxRecDepth 10000
open Go.RowKit

namespace Fm
/-- A number read on: nothing more, once there is an error. -/
def rdI (l : List UInt8) (e : Int) : Int × List UInt8 × Int := if e = 0 then Wm.getInt l else (0, l, e)
/-- A text read on: nothing more, once there is an error. -/
def rdT (l : List UInt8) (e : Int) : List UInt8 × List UInt8 × Int := if e = 0 then Wm.getText l else ([], l, e)
theorem rdI_go (l : List UInt8) : rdI l 0 = Wm.getInt l := rfl
theorem rdT_go (l : List UInt8) : rdT l 0 = Wm.getText l := rfl
theorem rdI_stop {l : List UInt8} {e : Int} (h : e ≠ 0) : rdI l e = (0, l, e) := if_neg h
theorem rdT_stop {l : List UInt8} {e : Int} (h : e ≠ 0) : rdT l e = ([], l, e) := if_neg h
theorem rdI_zero {l : List UInt8} {e : Int} {n : Int} {r : List UInt8} (h : rdI l e = (n, r, 0)) : e = 0 ∧ Wm.getInt l = (n, r, 0) := by
  by_cases he : e = 0
  · subst he; exact ⟨rfl, h⟩
  · rw [rdI_stop he] at h; simp at h; exact absurd h.2.2 he
theorem rdT_zero {l : List UInt8} {e : Int} {t r : List UInt8} (h : rdT l e = (t, r, 0)) : e = 0 ∧ Wm.getText l = (t, r, 0) := by
  by_cases he : e = 0
  · subst he; exact ⟨rfl, h⟩
  · rw [rdT_stop he] at h; simp at h; exact absurd h.2.2 he
end Fm

theorem getText_len {l t r : List UInt8} {e : Int} (h : Wm.getText l = (t, r, e)) : t.length ≤ l.length ∧ r.length ≤ l.length := by
  rcases Wm.getText_err l with ⟨t', r', h'⟩ | ⟨e', _, h'⟩
  · rw [h'] at h; simp only [Prod.mk.injEq] at h
    obtain ⟨rfl, rfl, rfl⟩ := h
    have := (Wm.getText_ok h').2
    rw [this]; simp; omega
  · rw [h'] at h; simp only [Prod.mk.injEq] at h
    obtain ⟨rfl, rfl, rfl⟩ := h
    simp
theorem rdI_len {l r : List UInt8} {e n e' : Int} (h : Fm.rdI l e = (n, r, e')) : r.length ≤ l.length := by
  by_cases he : e = 0
  · subst he; exact getInt_len (show Wm.getInt l = _ from h)
  · rw [Fm.rdI_stop he] at h; simp only [Prod.mk.injEq] at h; rw [h.2.1]; exact Nat.le_refl _
theorem rdT_len {l t r : List UInt8} {e e' : Int} (h : Fm.rdT l e = (t, r, e')) : t.length ≤ l.length ∧ r.length ≤ l.length := by
  by_cases he : e = 0
  · subst he; exact getText_len (show Wm.getText l = _ from h)
  · rw [Fm.rdT_stop he] at h; simp only [Prod.mk.injEq] at h; rw [h.2.1, ← h.1]; simp

/-- Where a reader keeps what is left, and its error. -/
structure RdAt (w : World) (bs be : Nat) (s : ByteArray) (e : Int) : Prop where
  cs : w.cell? ⟨bs, 0, none⟩ = some (.string s)
  ce : w.cell? ⟨be, 0, none⟩ = some (.int .i64 e)
  fs : w.frozen? ⟨bs, 0, none⟩ = false
  fe : w.frozen? ⟨be, 0, none⟩ = false
  ne : bs ≠ be

theorem RdAt.set {w : World} {bs be : Nat} {s : ByteArray} {e : Int} (h : RdAt w bs be s e) (s' : ByteArray) (e' : Int) : RdAt ((w.setCell ⟨bs, 0, none⟩ (.string s')).setCell ⟨be, 0, none⟩ (.int .i64 e')) bs be s' e' := by
  have h1 : (⟨bs, 0, none⟩ : Addr) ≠ ⟨be, 0, none⟩ := by intro hh; exact h.ne (by injection hh)
  refine ⟨?_, ?_, by simpa using h.fs, by simpa using h.fe, h.ne⟩
  · exact (World.cell?_setCell_other _ _ _ _ (by first | exact h1 | exact h1.symm)).trans (World.cell?_setCell_same _ _ _ h.cs)
  · exact World.cell?_setCell_same _ _ _ ((World.cell?_setCell_other _ _ _ _ (by first | exact h1 | exact h1.symm)).trans h.ce)
theorem RdAt.drew {w : World} {bs be : Nat} {s : ByteArray} {e : Int} (h : RdAt w bs be s e) (n : Nat) : RdAt (w.drewN n) bs be s e := ⟨h.cs, h.ce, h.fs, h.fe, h.ne⟩

theorem RdAt.setS {w : World} {bs be : Nat} {s : ByteArray} {e : Int} (h : RdAt w bs be s e) (s' : ByteArray) : (w.setCell ⟨bs, 0, none⟩ (.string s')).cell? ⟨be, 0, none⟩ = some (.int .i64 e) := by
  have h1 : (⟨bs, 0, none⟩ : Addr) ≠ ⟨be, 0, none⟩ := by intro hh; exact h.ne (by injection hh)
  exact (World.cell?_setCell_other _ _ _ _ (by first | exact h1 | exact h1.symm)).trans h.ce
theorem RdAt.new (w : World) (s : ByteArray) (e : Int) (T T' : TypeId) : RdAt ((w.alloc (.cells #[.string s] T)).alloc (.cells #[.int .i64 e] T')) w.heap.size (w.heap.size + 1) s e := by
  have hb := World.alloc_heap_new (w.alloc (.cells #[.string s] T)) (.cells #[.int .i64 e] T')
  have hz : (w.alloc (.cells #[.string s] T)).heap.size = w.heap.size + 1 := by simp
  rw [hz] at hb
  have hob : ((w.alloc (.cells #[.string s] T)).alloc (.cells #[.int .i64 e] T')).heap[w.heap.size]? = some (.cells #[.string s] T) :=
    (((Below.refl (w.heap.size + 1) (w.alloc (.cells #[.string s] T))).alloc (by rw [hz]; exact Nat.le_refl _) (.cells #[.int .i64 e] T')).block w.heap.size (Nat.lt_succ_self _)).trans (World.alloc_heap_new w (.cells #[.string s] T))
  constructor
  · simp only [World.cell?, hob]; simp
  · simp only [World.cell?, hb]; simp
  · simp only [World.frozen?, hob]; simp
  · simp only [World.frozen?, hb]; simp
  · omega

theorem RdAt.kept {w w' : World} {bs be : Nat} {s : ByteArray} {e : Int} (h : RdAt w bs be s e) (h1 : w'.heap[bs]? = w.heap[bs]?) (h2 : w'.heap[be]? = w.heap[be]?) : RdAt w' bs be s e :=
  ⟨(World.cell?_of_block h1).trans h.cs, (World.cell?_of_block h2).trans h.ce, (World.frozen?_of_block h1).trans h.fs, (World.frozen?_of_block h2).trans h.fe, h.ne⟩

/-- Rows of one's own in blocks of b and more stay as they were. -/
def RowsStay (b : Nat) (w w' : World) : Prop := ∀ (base : Nat) (e : TypeId) (size : Nat) (v : Value) (n : Nat) (xs : List Value), b ≤ base → w.ownsRow base e size v n xs → w'.ownsRow base e size v n xs
theorem RowsStay.refl (b : Nat) (w : World) : RowsStay b w w := fun _ _ _ _ _ _ _ h => h
theorem rowsStay_set {w : World} {b bs be : Nat} (h1 : bs < b) (h2 : be < b) (n : Nat) (u v : Value) : RowsStay b w (((w.drewN n).setCell ⟨bs, 0, none⟩ u).setCell ⟨be, 0, none⟩ v) := by
  intro base e size x m xs hb h
  have h0 : (w.drewN n).ownsRow base e size x m xs := h
  have k1 := h0.kept (grownBy_setCell' _ bs u) (by
    by_cases ho : x.ownBlock = none
    · exact .inl ho
    · refine .inr fun e => ?_
      have := (h0.lt bs e).1; omega)
  exact k1.kept (grownBy_setCell' _ be v) (by
    by_cases ho : x.ownBlock = none
    · exact .inl ho
    · refine .inr fun e => ?_
      have := (k1.lt be e).1; omega)

theorem RdAt.below {w w' : World} {bs be B : Nat} {s : ByteArray} {e : Int} (h : RdAt w bs be s e) (hb : Below B w w') (h1 : bs < B) (h2 : be < B) : RdAt w' bs be s e :=
  ⟨(hb.cell (p := ⟨bs, 0, none⟩) h1).trans h.cs, (hb.cell (p := ⟨be, 0, none⟩) h2).trans h.ce, by
    have := hb.block bs h1
    have k := h.fs
    simp only [World.frozen?] at k ⊢
    rw [this]; exact k, by
    have := hb.block be h2
    have k := h.fe
    simp only [World.frozen?] at k ⊢
    rw [this]; exact k, h.ne⟩

set_option maxHeartbeats 400000 in
theorem number_any (bs be B : Nat) (s : ByteArray) (e n : Int) (r : List UInt8) (e' : Int) (w : World) (h : RdAt w bs be s e) (hs : s.size ≤ maxLen) (h1 : B ≤ bs) (h2 : B ≤ be) (hr : Fm.rdI (bl s) e = (n, r, e')) :
    Calls Try.prog 76 #[.pointer (some ⟨be, 0, none⟩), .pointer (some ⟨bs, 0, none⟩)] w fun x w' => x = .returned (.int .i64 n) ∧ RdAt w' bs be (strOf r) e' ∧ Below B w w' := by
  have k1 := h.cs
  have k2 := h.ce
  have k3 := h.fs
  have k4 := h.fe
  by_cases he : e = 0
  · subst he
    have Hr := Lib.hid (show Wm.getInt (bl s) = (n, r, e') from hr)
    clear hr
    go_enter Try.func76, Try.ntmps76
    go_wp2_with fail
    refine (GetInt_at s n r e' w hs Hr.out).mono ?_
    rintro x w1 ⟨rfl, k, rfl⟩
    have k5 := (h.drew k).setS (strOf r)
    go_wp2
    go_ret
    exact ⟨rfl, (h.drew k).set _ _, ((below_drew (Below.refl B w) k).setCell h1 _).setCell h2 _⟩
  · rw [Fm.rdI_stop he] at hr
    simp only [Prod.mk.injEq] at hr
    obtain ⟨rfl, rfl, rfl⟩ := hr
    have he' : (e == 0) = false := by simpa using he
    go_enter Try.func76, Try.ntmps76
    go_wp2
    go_ret
    exact ⟨rfl, h, Below.refl _ _⟩

set_option maxHeartbeats 400000 in
theorem text_any (bs be B b : Nat) (s : ByteArray) (e : Int) (t r : List UInt8) (e' : Int) (w : World) (h : RdAt w bs be s e) (hs : s.size ≤ maxLen) (h1 : B ≤ bs) (h2 : B ≤ be) (h3 : bs < b) (h4 : be < b) (hr : Fm.rdT (bl s) e = (t, r, e')) :
    Calls Try.prog 77 #[.pointer (some ⟨be, 0, none⟩), .pointer (some ⟨bs, 0, none⟩)] w fun x w' => x = .returned (.string (strOf t)) ∧ RdAt w' bs be (strOf r) e' ∧ Below B w w' ∧ RowsStay b w w' := by
  have k1 := h.cs
  have k2 := h.ce
  have k3 := h.fs
  have k4 := h.fe
  by_cases he : e = 0
  · subst he
    have Hr := Lib.hid (show Wm.getText (bl s) = (t, r, e') from hr)
    clear hr
    have hg := GetText_any s w hs
    rw [Hr.out] at hg
    go_enter Try.func77, Try.ntmps77
    go_wp2_with fail
    refine hg.mono ?_
    rintro x w1 ⟨rfl, k, rfl⟩
    have k5 := (h.drew k).setS (strOf r)
    go_wp2
    go_ret
    exact ⟨rfl, (h.drew k).set _ _, ((below_drew (Below.refl B w) k).setCell h1 _).setCell h2 _, rowsStay_set h3 h4 k _ _⟩
  · rw [Fm.rdT_stop he] at hr
    simp only [Prod.mk.injEq] at hr
    obtain ⟨rfl, rfl, rfl⟩ := hr
    have he' : (e == 0) = false := by simpa using he
    go_enter Try.func77, Try.ntmps77
    go_wp2
    go_ret
    exact ⟨rfl, h, Below.refl _ _, RowsStay.refl _ _⟩

theorem left_any (bs be : Nat) (s : ByteArray) (e : Int) (w : World) (h : RdAt w bs be s e) :
    Calls Try.prog 79 #[.pointer (some ⟨bs, 0, none⟩), .pointer (some ⟨be, 0, none⟩)] w fun x w' => x = .returned (.tuple #[.string s, .int .i64 e]) ∧ ∃ n, w' = w.drewN n := by
  have k1 := h.cs
  have k2 := h.ce
  go_enter Try.func79, Try.ntmps79
  go_wp2
  go_quiet (fail)
  go_wp2
  go_ret2
  exact ⟨rfl, _, rfl⟩

theorem reader_any (s : ByteArray) (w : World) :
    Calls Try.prog 67 #[.string s] w fun x w' => x = .returned (.tuple #[.func (.func 76) #[] #[.pointer (some ⟨w.heap.size + 1, 0, none⟩), .pointer (some ⟨w.heap.size, 0, none⟩)], .func (.func 77) #[] #[.pointer (some ⟨w.heap.size + 1, 0, none⟩), .pointer (some ⟨w.heap.size, 0, none⟩)], .func (.func 79) #[] #[.pointer (some ⟨w.heap.size, 0, none⟩), .pointer (some ⟨w.heap.size + 1, 0, none⟩)]]) ∧ RdAt w' w.heap.size (w.heap.size + 1) s 0 ∧ Below w.heap.size w w' := by
  go_enter Try.func67, Try.ntmps67
  go_wp2
  go_ret3
  exact ⟨rfl, RdAt.new w s 0 _ _, ((Below.refl _ _).alloc (Nat.le_refl _) _).alloc (by simp) _⟩

theorem isKind_any (k : Int) (w : World) :
    Calls Try.prog 59 #[.int .i64 k] w fun x w' => x = .returned (.bool (Fm.kindOk k)) ∧ w = w' := by
  have hu : Fm.kindOk k = (decide (0 ≤ k) && decide (k ≤ 99)) := rfl
  rw [hu]
  by_cases h0 : 0 ≤ k
  · have h1 : decide (0 ≤ k) = true := decide_eq_true h0
    rw [h1]
    go_enter Try.func59, Try.ntmps59
    go_wp2
    go_ret
    exact ⟨rfl, rfl⟩
  · have h1 : decide (0 ≤ k) = false := decide_eq_false h0
    rw [h1]
    go_enter Try.func59, Try.ntmps59
    go_wp2
    go_ret
    exact ⟨rfl, rfl⟩

theorem small_any (n : Int) (w : World) (h : Wm.fits n = true) :
    Calls Try.prog 61 #[.int .i64 n] w fun x w' => x = .returned (.string (strOf (Wm.lay n))) ∧ Below w.heap.size w w' := by
  have hi := Int_any n w
  rw [intsS_one h, intsE_one h] at hi
  clear h
  go_enter Try.func61, Try.ntmps61
  go_wp2_with fail
  refine hi.mono ?_
  rintro x w1 ⟨rfl, hB⟩
  go_wp2
  go_ret
  exact ⟨rfl, hB⟩

end Go.Proofs.Yteepemibmjpnfaa

namespace Go.Proofs.Yteepemibmjpnfaa
set_option maxRecDepth 10000
open Go.RowKit

/-- A length that no text here comes to. -/
def big : Nat := 100000000
theorem big_lt {n : Nat} (h : n ≤ big) : (n : Int) < 1000000000 := by unfold big at h; omega
theorem big_max {n : Nat} (h : n ≤ big) : n ≤ maxLen := by unfold big at h; unfold maxLen; omega

theorem lay_short5 {k : Int} (h : Fm.kindOk k = true) : (Wm.lay k).length ≤ 6 := lay_short k (Fm.fits_kind h)
theorem textL_short {t : List UInt8} (h : t.length ≤ 3000) : (Fm.textL t).length ≤ t.length + 6 := by
  have := lay_short (t.length : Int) (Wm.fits_iff.2 (by omega))
  simp [Fm.textL]; omega
theorem ahead_short {k : Int} {t : List UInt8} (h : Fm.kindOk k = true) (h2 : t.length ≤ 3000) : (Fm.ahead k t).length ≤ t.length + 12 := by
  have := lay_short5 h; have := textL_short h2
  simp [Fm.ahead]; omega
theorem frame_short {k : Int} {t : List UInt8} (h : Fm.kindOk k = true) (h2 : t.length ≤ 3000) : (Fm.frame k t).length ≤ t.length + 18 := by
  have := ahead_short h h2; have := lay_short _ (Fm.fits_sum (Fm.ahead k t))
  simp [Fm.frame]; omega

theorem Text_yes (s : ByteArray) (w : World) (h : s.size ≤ 3000) :
    Calls Try.prog 60 #[.string s] w fun e w' => e = .returned (.tuple #[.string (strOf (Fm.textL (bl s))), .int .i64 0]) ∧ Below w.heap.size w w' := by
  have := Text_any s w (by unfold maxLen; omega)
  rw [textS, textE, if_pos h, if_pos h] at this
  exact this
theorem Text_no (s : ByteArray) (w : World) (hs : s.size ≤ maxLen) (h : ¬ s.size ≤ 3000) :
    Calls Try.prog 60 #[.string s] w fun e w' => e = .returned (.tuple #[.string (strOf []), .int .i64 2]) ∧ Below w.heap.size w w' := by
  have := Text_any s w hs
  rw [textS, textE, if_neg h, if_neg h] at this
  exact this

set_option maxHeartbeats 1000000 in
theorem Put_any (k : Int) (s : ByteArray) (w : World) (hs : s.size ≤ maxLen) :
    Calls Try.prog 46 #[.int .i64 k, .string s] w fun x w' => x = .returned (.tuple #[.string (strOf (Fm.putS k (bl s))), .int .i64 (Fm.putE k (bl s))]) ∧ Below w.heap.size w w' := by
  by_cases hk : Fm.kindOk k = true
  · by_cases hl : s.size ≤ 3000
    · obtain ⟨e1, e2⟩ := Fm.put_yes hk (t := bl s) hl
      rw [e1, e2]
      have Hk := Lib.hid hk
      have Hl := Lib.hid hl
      have Ha : Hid ((strOf (Fm.ahead k (bl s))).size ≤ 4000) := Lib.hid (by rw [strOf_size]; have := ahead_short hk (t := bl s) hl; rw [bl_length] at this; omega)
      have ea : strOf (Wm.lay k) ++ strOf (Fm.textL (bl s)) = strOf (Fm.ahead k (bl s)) := strs_append _ _
      have ef : strOf (Fm.ahead k (bl s)) ++ strOf (Wm.lay (Sm.ofL (Fm.ahead k (bl s)) : Int)) = strOf (Fm.frame k (bl s)) := strs_append _ _
      have hc1 : ¬ 9223372036854775807 < (strOf (Wm.lay k)).size + (strOf (Fm.textL (bl s))).size := by
        rw [strOf_size, strOf_size]; have := lay_short5 hk; have := textL_short (t := bl s) hl; rw [bl_length] at this; omega
      have hc2 : ¬ 9223372036854775807 < (strOf (Fm.ahead k (bl s))).size + (strOf (Wm.lay (Sm.ofL (Fm.ahead k (bl s)) : Int))).size := by
        have := Ha.out; have := lay_short _ (Fm.fits_sum (Fm.ahead k (bl s))); rw [strOf_size (Wm.lay _)]; omega
      clear hk hl
      go_enter Try.func46, Try.ntmps46
      go_wp2_with fail
      refine (isKind_any k w).mono ?_
      rintro x w1 ⟨rfl, rfl⟩
      rw [Hk.out]
      go_wp2_with fail
      refine (Text_yes s w Hl.out).mono ?_
      rintro x w1 ⟨rfl, hB1⟩
      go_wp2_with fail
      refine (small_any k w1 (Fm.fits_kind Hk.out)).mono ?_
      rintro x w2 ⟨rfl, hB2⟩
      go_wp2_with fail
      refine (Of_any (strOf (Fm.ahead k (bl s))) w2 (by have := Ha.out; omega)).mono ?_
      rintro x w3 ⟨rfl, hB3⟩
      rw [bl_strOf]
      go_wp2_with fail
      refine (small_any _ w3 (Fm.fits_sum _)).mono ?_
      rintro x w4 ⟨rfl, hB4⟩
      go_wp2
      go_ret2
      exact ⟨rfl, below2 (below2 (below2 hB1 hB2) hB3) hB4⟩
    · obtain ⟨e1, e2⟩ := Fm.put_long hk (t := bl s) hl
      rw [e1, e2]
      have Hk := Lib.hid hk
      have Hl := Lib.hid hl
      clear hk hl
      go_enter Try.func46, Try.ntmps46
      go_wp2_with fail
      refine (isKind_any k w).mono ?_
      rintro x w1 ⟨rfl, rfl⟩
      rw [Hk.out]
      go_wp2_with fail
      refine (Text_no s w hs Hl.out).mono ?_
      rintro x w1 ⟨rfl, hB1⟩
      go_wp2
      go_ret2
      exact ⟨rfl, hB1⟩
  · have hk' : Fm.kindOk k = false := by simpa using hk
    obtain ⟨e1, e2⟩ := Fm.put_kind hk' (t := bl s)
    rw [e1, e2]
    have Hk := Lib.hid hk'
    clear hk hk'
    go_enter Try.func46, Try.ntmps46
    go_wp2_with fail
    refine (isKind_any k w).mono ?_
    rintro x w1 ⟨rfl, rfl⟩
    rw [Hk.out]
    go_wp2
    go_ret2
    exact ⟨rfl, Below.refl _ _⟩

theorem ret4 {a b : Int} {x y x' y' : ByteArray} {n m : Int} (h : a = b) (h1 : x = y) (h2 : x' = y') (h3 : n = m) : Ending.returned (.tuple #[.int .i64 a, .string x, .string x', .int .i64 n]) = .returned (.tuple #[.int .i64 b, .string y, .string y', .int .i64 m]) := by rw [h, h1, h2, h3]

/-- Four results of Get. -/
def got4 (x : Int × List UInt8 × List UInt8 × Int) : Ending := .returned (.tuple #[.int .i64 x.1, .string (strOf x.2.1), .string (strOf x.2.2.1), .int .i64 x.2.2.2])

set_option maxRecDepth 10000 in
set_option maxHeartbeats 1000000 in
theorem Get_any (s : ByteArray) (w : World) (hs : s.size ≤ big) :
    Calls Try.prog 52 #[.string s] w fun x w' => x = got4 (Fm.get (bl s)) ∧ Below w.heap.size w w' := by
  obtain ⟨k, a, e1, h1⟩ : ∃ k a e1, Fm.rdI (bl s) 0 = (k, a, e1) := ⟨_, _, _, rfl⟩
  obtain ⟨t, b, e2, h2⟩ : ∃ t b e2, Fm.rdT a e1 = (t, b, e2) := ⟨_, _, _, rfl⟩
  obtain ⟨c, r, e3, h3⟩ : ∃ c r e3, Fm.rdI b e2 = (c, r, e3) := ⟨_, _, _, rfl⟩
  have H1 := Lib.hid h1
  have H2 := Lib.hid h2
  have H3 := Lib.hid h3
  have hab : a.length ≤ s.size := by have := rdI_len h1; rwa [bl_length] at this
  have hbb : b.length ≤ s.size := by have := rdT_len h2; omega
  have Hl1 : Hid (s.size ≤ maxLen) := Lib.hid (big_max hs)
  have Hl2 : Hid ((strOf a).size ≤ maxLen) := Lib.hid (by rw [strOf_size]; exact Nat.le_trans hab (big_max hs))
  have Hl3 : Hid ((strOf b).size ≤ maxLen) := Lib.hid (by rw [strOf_size]; exact Nat.le_trans hbb (big_max hs))
  have Hs := Lib.hid hs
  have Hb := Lib.hid hbb
  clear h1 h2 h3 hs hab hbb
  go_enter Try.func52, Try.ntmps52
  go_wp2_with fail
  refine (reader_any s w).mono ?_
  rintro x w1 ⟨rfl, hR1, hB1⟩
  go_wp2_with fail
  refine (number_any _ _ w.heap.size s 0 k a e1 w1 hR1 Hl1.out (Nat.le_refl _) (Nat.le_succ _) H1.out).mono ?_
  rintro x w2 ⟨rfl, hR2, hB2⟩
  have hB02 := hB1.trans hB2
  clear hR1 hB1 hB2
  go_wp2_with fail
  refine (text_any _ _ w.heap.size (w.heap.size + 2) (strOf a) e1 t b e2 w2 hR2 Hl2.out (Nat.le_refl _) (Nat.le_succ _) (by omega) (by omega) H2.out).mono ?_
  rintro x w3 ⟨rfl, hR3, hB3, _⟩
  have hB03 := hB02.trans hB3
  clear hR2 hB02 hB3
  go_wp2_with fail
  refine (left_any _ _ _ _ w3 hR3).mono ?_
  rintro x w4 ⟨rfl, n4, rfl⟩
  have hR4 := hR3.drew n4
  have hB04 := below_drew hB03 n4
  obtain ⟨w4, hw4⟩ : ∃ w4, w4 = w3.drewN n4 := ⟨_, rfl⟩
  rw [← hw4] at hR4 hB04 ⊢
  clear hw4 hR3 hB03
  go_wp2_with fail
  refine (number_any _ _ w.heap.size (strOf b) e2 c r e3 w4 hR4 Hl3.out (Nat.le_refl _) (Nat.le_succ _) H3.out).mono ?_
  rintro x w5 ⟨rfl, hR5, hB5⟩
  have hB05 := hB04.trans hB5
  clear hR4 hB04 hB5
  go_wp2_with fail
  refine (left_any _ _ _ _ w5 hR5).mono ?_
  rintro x w6 ⟨rfl, n6, rfl⟩
  have hB06 := below_drew hB05 n6
  obtain ⟨w6, hw6⟩ : ∃ w6, w6 = w5.drewN n6 := ⟨_, rfl⟩
  rw [← hw6] at hB06 ⊢
  clear hw6 hR5 hB05
  by_cases he : e3 = 0
  · subst he
    obtain ⟨he2, g3⟩ := Fm.rdI_zero H3.out
    subst he2
    obtain ⟨he1, g2⟩ := Fm.rdT_zero H2.out
    subst he1
    have g1 := (Fm.rdI_zero H1.out).2
    by_cases hk : Fm.kindOk k = true
    · by_cases hc0 : c < 0
      · have Hr := Lib.hid (Fm.get_form g1 g2 g3 (fun hh => by omega))
        have Hk := Lib.hid hk
        clear g1 g2 g3 hk
        go_wp2_with fail
        refine (isKind_any k w6).mono ?_
        rintro x w7 ⟨rfl, rfl⟩
        rw [Hk.out]
        go_wp2
        (try simp only [Exit.inBlock, Exit.then]); refine bodyPost_ret (results_tmp4 rfl _ _ _) rfl ?_
        exact ⟨by rw [Hr.out]; rfl, hB06⟩
      · by_cases hc1 : 65535 < c
        · have Hr := Lib.hid (Fm.get_form g1 g2 g3 (fun hh => by omega))
          have Hk := Lib.hid hk
          clear g1 g2 g3 hk
          go_wp2_with fail
          refine (isKind_any k w6).mono ?_
          rintro x w7 ⟨rfl, rfl⟩
          rw [Hk.out]
          go_wp2
          (try simp only [Exit.inBlock, Exit.then]); refine bodyPost_ret (results_tmp4 rfl _ _ _) rfl ?_
          exact ⟨by rw [Hr.out]; rfl, hB06⟩
        · have Hk := Lib.hid hk
          have G1 := Lib.hid g1
          have G2 := Lib.hid g2
          have G3 := Lib.hid g3
          have Hc : Hid (0 ≤ c ∧ c ≤ 65535) := Lib.hid ⟨by omega, by omega⟩
          have hd0 : decide (c < 0) = false := decide_eq_false hc0
          have hd1 : decide (65535 < c) = false := decide_eq_false hc1
          clear g1 g2 g3 hk hc0 hc1
          obtain ⟨d, hd⟩ : ∃ d, s.size = d + (strOf b).size := ⟨s.size - (strOf b).size, by have := Hb.out; rw [strOf_size]; omega⟩
          have hd2 : (s.size : Int) - ((strOf b).size : Int) = (d : Int) := by omega
          have Hd := Lib.hid hd
          have hd3 : d ≤ s.size := by omega
          have hd4 : wrap64 (d : Int) = (d : Int) := by have := Hs.out; unfold big at this; unfold wrap64; omega
          clear hd
          go_wp2_with fail
          refine (isKind_any k w6).mono ?_
          rintro x w7 ⟨rfl, rfl⟩
          rw [Hk.out]
          go_wp2_with fail
          have hx : bl (s.extract 0 d) = (bl s).take ((bl s).length - b.length) := by
            rw [bl_extract_to s d hd3, bl_length]
            have := Hd.out
            rw [strOf_size] at this
            rw [show s.size - b.length = d by omega]
          refine (Of_any (s.extract 0 d) w6 (big_lt (Nat.le_trans (by rw [← bl_length, hx, List.length_take]; rw [bl_length]; omega) Hs.out))).mono ?_
          rintro x w7 ⟨rfl, hB7⟩
          rw [hx]
          have hB07 : Below w.heap.size w w7 := hB06.trans (hB7.mono hB06.size)
          clear hx hd2 hd3 hd4 Hd
          obtain ⟨v, hv⟩ : ∃ v : Int, v = (Sm.ofL ((bl s).take ((bl s).length - b.length)) : Int) := ⟨_, rfl⟩
          rw [← hv]
          have Hv := Lib.hid hv
          clear hv
          by_cases hcv : c = v
          · subst hcv
            have Hr := Lib.hid (Fm.get_yes G1.out G2.out G3.out ⟨Hk.out, Hc.out⟩ Hv.out)
            go_wp2
            (try simp only [Exit.inBlock, Exit.then]); refine bodyPost_ret (results_tmp4 rfl _ _ _) rfl ?_
            exact ⟨by rw [Hr.out]; rfl, hB07⟩
          · have Hr := Lib.hid (Fm.get_sum G1.out G2.out G3.out ⟨Hk.out, Hc.out⟩ (fun hh => hcv (hh.trans Hv.out.symm)))
            have hcv' : (c != v) = true := by rw [bne_iff_ne]; exact hcv
            clear hcv
            go_wp2
            (try simp only [Exit.inBlock, Exit.then]); refine bodyPost_ret (results_tmp4 rfl _ _ _) rfl ?_
            exact ⟨by rw [Hr.out]; rfl, hB07⟩
    · have hk' : Fm.kindOk k = false := by simpa using hk
      have Hk := Lib.hid hk'
      have Hr := Lib.hid (Fm.get_form g1 g2 g3 (fun hh => hk hh.1))
      clear g1 g2 g3 hk hk'
      go_wp2_with fail
      refine (isKind_any k w6).mono ?_
      rintro x w7 ⟨rfl, rfl⟩
      rw [Hk.out]
      go_wp2
      (try simp only [Exit.inBlock, Exit.then]); refine bodyPost_ret (results_tmp4 rfl _ _ _) rfl ?_
      exact ⟨by rw [Hr.out]; rfl, hB06⟩
  · have Hr : Hid (Fm.get (bl s) = (0, [], [], e3)) := Lib.hid (by
      by_cases he1 : e1 = 0
      · subst he1
        by_cases he2 : e2 = 0
        · subst he2
          exact Fm.get_e3 H1.out H2.out H3.out he
        · have h3 := H3.out
          rw [Fm.rdI_stop he2] at h3
          simp only [Prod.mk.injEq] at h3
          rw [← h3.2.2]
          exact Fm.get_e2 H1.out H2.out he2
      · have h2 := H2.out
        rw [Fm.rdT_stop he1] at h2
        simp only [Prod.mk.injEq] at h2
        have h3 := H3.out
        rw [← h2.2.2, Fm.rdI_stop he1] at h3
        simp only [Prod.mk.injEq] at h3
        rw [← h3.2.2]
        exact Fm.get_e1 H1.out he1)
    have he' : (e3 != 0) = true := by rw [bne_iff_ne]; exact he
    clear he
    go_wp2
    (try simp only [Exit.inBlock, Exit.then]); refine bodyPost_ret (results_tmp4 rfl _ _ _) rfl ?_
    exact ⟨by rw [Hr.out]; rfl, hB06⟩

end Go.Proofs.Yteepemibmjpnfaa
