/-
  Layer 13 (record): the landed code: Scan.
-/
import Derived.Test.YtlnchfnmpamliaaGreatXRecW3
import Derived.Test.YtlnchfnmpamliaaGreatXJg
namespace Go.Proofs.YtlnchfnmpamliaaGreat
set_option maxRecDepth 10000
open Go.RowKit Go.Shelf

attribute [local go_sem] Oper.semAt_some

/-- What Scan hands back; where it is none, it has no room. -/
def ScanS (w : World) (x : List (List UInt8) × Nat) (e : Ending) (w' : World) : Prop := ∃ A c, e = .returned (.tuple #[.slice A x.1.length c, .int .i64 (x.2 : Nat)]) ∧ StrsAt w' w'.heap.size A (x.1.map strOf) ∧ x.1.length ≤ c ∧ Below w.heap.size w w' ∧ (A = none → c = 0) ∧ ∀ a, A = some a → w.heap.size ≤ a.block
/-- What holds between two rounds: the texts so far, and how many bytes they take. -/
def ScanI (p : Nat) (w : World) (pre : List (ByteArray × Nat)) (W : World) : Prop :=
  ((∃ v, Boxed W p 25 v ∧ W.ownsRow (p + 4) 9 1 v pre.length (pre.map (fun y => Value.string y.1)) ∧ True) ∧ Boxed W (p + 1) 3 (.int .i64 (Rc.lastU pre : Nat))) ∧ Below p w W
theorem boxed_own {β : Type} (B : Nat) (t : TypeId) (f : β → Value) : Own (fun s W => Boxed W B t (f s)) := by
  rintro s X Y row hv hg hrow
  refine hv.kept hg (fun e' => ?_)
  obtain ⟨o, ho, hc⟩ := hrow B e'.symm
  rw [show X.heap[B]? = _ from hv] at ho; cases ho; cases hc
theorem scanI_own (p B : Nat) (w : World) (hn : p ≤ w.heap.size) (hB : p ≤ B) : OwnFrom B (ScanI p w) :=
  OwnFrom.and (OwnFrom.and (Own.from (holdsRow_own (p + 4) p 25 9 1 (fun pre : List (ByteArray × Nat) => pre.length) (fun pre => pre.map (fun y => Value.string y.1)) (fun _ _ => True)) _) (Own.from (boxed_own (p + 1) 3 (fun pre : List (ByteArray × Nat) => Value.int .i64 (Rc.lastU pre : Nat))) _)) (ownFrom_below hn hB)

theorem owns_setcell13 {w : World} {base : Nat} {e : TypeId} {size : Nat} {v : Value} {n : Nat} {xs : List Value} (h : w.ownsRow base e size v n xs) {k : Nat} (hk : k < base) (u : Value) : (w.setCell ⟨k, 0, none⟩ u).ownsRow base e size v n xs := by
  refine h.kept (grownBy_setCell' w k u) ?_
  rcases h.2 with ⟨rfl, _⟩ | ⟨g, cap, cur, rfl, hg, _⟩
  · exact .inl rfl
  · refine .inr (fun e' => ?_)
    have : k = g := Option.some.inj e'.symm
    omega
theorem own_ge13 {w : World} {base : Nat} {e : TypeId} {size : Nat} {v : Value} {n : Nat} {xs : List Value} (h : w.ownsRow base e size v n xs) {k : Nat} (hk : k < base) : some k ≠ v.ownBlock := by
  rcases h.2 with ⟨rfl, _⟩ | ⟨g, cap, cur, rfl, hg, _⟩
  · simp [Value.ownBlock]
  · intro e'; have : k = g := by simpa [Value.ownBlock] using e'
    omega
theorem heap_keep13 {w w1 : World} {r : Option Nat} {tmp : Obj} (h : (w.alloc tmp).grownBy w1 r) {k : Nat} (hk : k < w.heap.size) (hr : some k ≠ r) : w1.heap[k]? = w.heap[k]? :=
  (h.block k (by simp; omega) hr).trans (Below.heap_alloc w tmp k hk)
/-- A round: a text more, and how many bytes. -/
theorem scan_round {p : Nat} {W w1 : World} {v v' : Value} {k m : Nat} {u : Int} {xs ys : List Value} {tmp : Obj} (hv : Boxed W p 25 v) (ht : Boxed W (p + 1) 3 (.int .i64 u)) (hrow : W.ownsRow (p + 4) 9 1 v k xs)
    (hp : p + 4 ≤ W.heap.size) (hown : w1.ownsRow (p + 4) 9 1 v' m ys) (hg : (W.alloc tmp).grownBy w1 v.ownBlock) :
    Boxed w1 p 25 v ∧ Boxed (w1.setCell ⟨p, 0, none⟩ v') (p + 1) 3 (.int .i64 u) ∧
    ∀ D : Int, KeepsOthers W ((w1.setCell ⟨p, 0, none⟩ v').setCell ⟨p + 1, 0, none⟩ (.int .i64 D)) ∧ KpB p (p + 2) W ((w1.setCell ⟨p, 0, none⟩ v').setCell ⟨p + 1, 0, none⟩ (.int .i64 D)) ∧
      Boxed ((w1.setCell ⟨p, 0, none⟩ v').setCell ⟨p + 1, 0, none⟩ (.int .i64 D)) p 25 v' ∧ Boxed ((w1.setCell ⟨p, 0, none⟩ v').setCell ⟨p + 1, 0, none⟩ (.int .i64 D)) (p + 1) 3 (.int .i64 D) ∧
      ((w1.setCell ⟨p, 0, none⟩ v').setCell ⟨p + 1, 0, none⟩ (.int .i64 D)).ownsRow (p + 4) 9 1 v' m ys := by
  obtain ⟨h1, h2, _, h4, h5⟩ := hv.appended (n₀ := p) (by decide) (owns_lower hrow (by omega)) (by omega) (Nat.le_refl _) (owns_lower hown (by omega)) hg
  have ht1 : Boxed w1 (p + 1) 3 (.int .i64 u) := (heap_keep13 hg ht.lt (own_ge13 hrow (by omega))).trans ht
  have ht2 := ht1.other (B' := p) (by omega) v'
  refine ⟨h1, ht2, fun D => ⟨h4.trans (KeepsOthers.setCell _ _ _), ⟨h5.setCell (p := ⟨p + 1, 0, none⟩) (by show p ≤ p + 1; omega) _, ?_⟩, h2.other (by omega) _, ht2.set _, owns_setcell13 (owns_setcell13 hown (by omega) _) (by omega) _⟩⟩
  rw [Below.heap_setCell _ _ _ _ (by intro e; simp at e), Below.heap_setCell _ _ _ _ (by intro e; simp at e)]
  exact heap_keep13 hg (by omega) (own_ge13 hrow (by omega))

set_option maxHeartbeats 4000000 in
theorem rscan_any (s : ByteArray) (first : Int) (hs : s.size ≤ 18000) (w : World) :
    Calls Tryz.prog 49 #[.string s, .int .i64 first] w (ScanS w (Rc.scan (bl s) first)) := by
  have Hs := Lib.hid hs
  have HN : Hid ((Rc.scan (bl s) first).1.length ≤ 18000) := Lib.hid (by have := Rc.scan_count (bl s) first; rw [bl_length] at this; omega)
  obtain ⟨N, hNe⟩ : ∃ N, N = (Rc.scan (bl s) first).1.length := ⟨_, rfl⟩
  rw [← hNe] at HN
  obtain ⟨i0, hi, hz0, hz1, hz2⟩ := info_parts Tryz.infoS13
  clear hs
  obtain ⟨p, hp⟩ : ∃ p, p = w.heap.size := ⟨_, rfl⟩
  obtain ⟨W0, hW0⟩ : ∃ W0, W0 = (w.alloc (.cells #[.slice none 0 0] 25)).alloc (.cells #[.int .i64 0] 3) := ⟨_, rfl⟩
  have q0 : Boxed W0 p 25 (.slice none 0 0) := by rw [hW0, hp]; exact (Boxed.new w _ _).alloc _
  have q1 : Boxed W0 (p + 1) 3 (.int .i64 0) := by
    have h := Boxed.new (w.alloc (.cells #[.slice none 0 0] 25)) 3 (.int .i64 0)
    rw [World.size_alloc, ← hp, ← hW0] at h; exact h
  have q2 : Below p w W0 := by rw [hW0, hp]; exact below_new2 w _ _
  have q3 : W0.heap.size = p + 2 := by rw [hW0, hp]; simp
  obtain ⟨W1, hW1⟩ : ∃ W1, W1 = (W0.alloc (.cells #[.string s] 9)).alloc (.cells #[.int .i64 first] 3) := ⟨_, rfl⟩
  have r2 : Boxed W1 (p + 2) 9 (.string s) := by rw [hW1, ← q3]; exact (Boxed.new W0 _ _).alloc _
  have r3 : Boxed W1 (p + 3) 3 (.int .i64 first) := by
    have h := Boxed.new (W0.alloc (.cells #[.string s] 9)) 3 (.int .i64 first)
    rw [World.size_alloc, q3, ← hW1] at h; exact h
  have r0 : Boxed W1 p 25 (.slice none 0 0) := by rw [hW1]; exact (q0.alloc _).alloc _
  have r1 : Boxed W1 (p + 1) 3 (.int .i64 0) := by rw [hW1]; exact (q1.alloc _).alloc _
  have r4 : Below p w W1 := by rw [hW1]; exact (q2.alloc (by omega) _).alloc (by simp; omega) _
  have r5 : W1.heap.size = p + 4 := by rw [hW1]; simp; omega
  have g := fun n => rrecords_in n s first W0
  rw [q3, ← hW1] at g
  simp only [Nat.add_assoc, Nat.reduceAdd] at g
  have Hp := Lib.hid hp
  have R0 := Lib.hid r0
  have R1 := Lib.hid r1
  have R2 := Lib.hid r2
  have R3 := Lib.hid r3
  have R4 := Lib.hid r4
  have R5 := Lib.hid r5
  have Hx : Hid (p + 4 ≤ W1.heap.size) := Lib.hid (Nat.le_of_eq r5.symm)
  have HNe := Lib.hid hNe
  clear hW1 q0 q1 q2 q3 r0 r1 r2 r3 r4 r5 hNe
  refine (callsIn_wide (n := 9)).1 ?_
  refine callsIn_of_wp_marks Tryz.func49 rfl trivial ?_ rfl
  simp only [Tryz.ntmps49, List.size_toArray, List.length_cons, List.length_nil, Nat.reduceAdd, Nat.reduceSub, Array.replicate_succ, Array.replicate_zero, List.push_toArray, List.append_toArray, List.nil_append, List.cons_append]
  gi_wp2_with fail
  rw [← hW0]
  refine ⟨trivial, (g _).mono ?_⟩
  rintro e w' ⟨rfl, rfl⟩
  clear g hW0
  gi_wp2_with fail
  rw [← hp]
  clear hp
  refine wpIn_rangeFunc_ownG (F := Fence.wide) (n := 9) rfl (by omega) (gf := 72) (lb := #[.pointer (some ⟨p + 2, 0, none⟩), .pointer (some ⟨p + 3, 0, none⟩)]) rfl trivial (enters_of Tryz.func72 (by kernel_rfl) rfl)
    (rrecords_stops _ (p + 2) (p + 3) p s first Hs.out _ R2.out R3.out) kpB_t (kpB_b (by rw [R5.out]; omega) (by rw [R5.out]; omega)) (Below.refl _ _) (fun _ => rfl)
    (ScanI p _) (fun _ _ _ => False)
    (scanI_own p _ _ (by rw [R5.out]; omega) (by rw [R5.out]; omega))
    (fun _ _ _ _ _ hs _ _ => hs)
    ⟨⟨⟨_, R0.out, World.ownsRow_nil _ _ _ _, trivial⟩, R1.out⟩, Below.refl _ _⟩
    ?a1 ?assign ?body ?done ?stop
  case assign =>
    intro l x W K hK
    gi_wp2
    exact hK
  case body =>
    rintro lp pre ⟨T, D⟩ W ⟨⟨⟨v, hv, hrow, _⟩, ht⟩, hBI⟩ hlt
    have hc := hv.cell
    have hpW : p + 4 ≤ W.heap.size := Nat.le_trans Hx.out hBI.size
    have hle : pre.length + 1 ≤ 1000000000 := by have := HN.out; rw [HNe.out] at this; omega
    obtain ⟨m, hm⟩ : ∃ m, m = pre.length := ⟨_, rfl⟩
    rw [← hm] at hrow hle
    have Hm := Lib.hid hm
    have Hv := Lib.hid hv
    have Ht := Lib.hid ht
    have HBI := Lib.hid hBI
    have HpW := Lib.hid hpW
    have Hr := Lib.hid hrow
    clear hm hv ht hBI hpW hrow hlt
    dsimp only
    gi_wp2_with (gi_at_builtin; refine wpListIn_append_own _ rfl _ _ 25 rfl (p + 4) 9 i0 (.string ByteArray.empty) 1 16 Tryz.underlying25 hi hz0 hz1 hz2 rfl (by decide) _ _ _ rfl (Hr.out.alloc _) ⟨W.heap.size, 0, none⟩ 1 1 [.string T] rfl rfl (cell_one_new _ _ _) (by simp [Value.oneCell']) (by unfold maxLen; omega) (by omega) (by have := HpW.out; simp; omega) ?_; intro v' w1 hown' hgrow _; obtain ⟨g', cap', rfl⟩ := ownsRow_succ hown'; obtain ⟨hv1, ht2, hrest⟩ := scan_round Hv.out Ht.out Hr.out HpW.out hown' hgrow; have Hrest := Lib.hid (hrest D); have hc1 := hv1.cell; have hf1 := hv1.frozen; have hc2 := ht2.cell; have hf2 := ht2.frozen; clear hown' hgrow hv1 ht2 hrest)
    obtain ⟨h1, h2, h3, h4, h5⟩ := Hrest.out
    exact ⟨h1.from _, h2, ⟨⟨_, h3, by rw [show (pre ++ [(T, D)]).length = m + 1 by rw [Hm.out]; simp]; simpa using h5, trivial⟩, by rw [Rc.lastU_snoc]; exact h4⟩, HBI.out.trans h2.1⟩
  case done =>
    rintro D ys W hD hys ⟨⟨⟨v, hv, hrow, _⟩, ht⟩, hB⟩ hK
    have hc := hv.cell
    have hc2 := ht.cell
    obtain ⟨A, c, rfl⟩ := ownsRow_slice hrow
    have Hr := Lib.hid hrow
    have HB := Lib.hid (R4.out.trans hB)
    have HD : Hid (w.heap.size ≤ D) := Lib.hid (by rw [← Hp.out]; have := R5.out; omega)
    have HK := Lib.hid hK
    have Hys := Lib.hid hys
    have Hlen : Hid (ys.length = (Rc.scan (bl s) first).1.length) := Lib.hid (by rw [hys]; simp [Rc.toldT])
    clear hrow hB hK hD hys hv ht
    gi_wp2_with fail
    gi_region
    gi_wp2
    have HKd : Hid (W.drew.heap[D]? = some (Obj.deferred (some []))) := Lib.hid HK.out
    refine ⟨by simp, .inl ⟨_, _, rfl, run_takeDeferred HKd.out, ?_⟩⟩
    have ho : (W.drew.putObj D (.deferred none)).ownsRow (p + 4) 9 1 (.slice A ys.length c) ys.length (List.map (fun y => Value.string y.fst) ys) := ownsRow_putObj (Hr.out.drew) _ HKd.out rfl
    have hm : List.map (fun y : ByteArray × Nat => Value.string y.fst) ys = List.map Value.string ((Rc.scan (bl s) first).1.map strOf) := by
      rw [Hys.out]; simp [Rc.toldT]; intro a b _; exact (strOf_bl a).symm
    rw [hm] at ho
    have hl2 : ys.length = ((Rc.scan (bl s) first).1.map strOf).length := by rw [List.length_map]; exact Hlen.out
    refine ⟨_, results_tmp2 rfl _ _ _, A, c, ?_, StrsAt.of_own (base := p + 4) (e := 9) (cap := c) (by rw [← hl2]; exact ho), ?_, ?_, ?_, ?_⟩
    · rw [← Hlen.out, Hys.out]; rfl
    · rw [← Hlen.out]
      rcases ho.2 with ⟨e, h0⟩ | ⟨g, cap, cur, e, _, _, h1, _⟩
      · omega
      · cases e; exact h1
    · rw [← Hp.out]
      exact (below_drew HB.out 1).trans (belowK_b (w := w) (by rw [Hp.out]; exact Nat.le_refl _) _ D _ _ HD.out HKd.out rfl rfl)
    · rintro rfl
      rcases ho.2 with ⟨e, h0⟩ | ⟨g, cap, cur, e, _⟩
      · injection e
      · injection e with e1 _ _; cases e1
    · rintro a rfl
      rcases ho.2 with ⟨e, h0⟩ | ⟨g, cap, cur, e, hb, _⟩
      · injection e with e1 _ _; cases e1
      · injection e with e1 _ _
        injection e1 with e1
        subst e1
        show w.heap.size ≤ g
        rw [← Hp.out]; omega
  case stop =>
    rintro D c pre W _ _ h _
    exact h.elim
end Go.Proofs.YtlnchfnmpamliaaGreat
