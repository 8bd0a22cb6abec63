/-
  Layer 8 (board): the walk of with.
-/
import Derived.Test.YthlojadkgpmnmaaBoardIns
import Derived.Test.YthlojadkgpmnmaaBoardW5
import Derived.Test.YthlojadkgpmnmaaSpotLess
import Derived.Deep.RegionHeld3
namespace Go.Proofs.Ythlojadkgpmnmaa
open Go.RowKit

/-- Where an alarm is put: ahead of the first one that is not less. -/
def Bd.plc (a : Alm) : List Alm → Nat
  | [] => 0
  | x :: l => if Bd.lessA x a then Bd.plc a l + 1 else 0
theorem Bd.plc_le (a : Alm) : ∀ ls : List Alm, Bd.plc a ls ≤ ls.length
  | [] => Nat.le_refl _
  | x :: l => by
    unfold Bd.plc
    split
    · have := Bd.plc_le a l; simp; omega
    · exact Nat.zero_le _
theorem Bd.plc_drop {a : Alm} {ls : List Alm} {k : Nat} (h : k < ls.length) : Bd.plc a (ls.drop k) = if Bd.lessA ls[k] a then Bd.plc a (ls.drop (k + 1)) + 1 else 0 := by
  rw [List.drop_eq_getElem_cons h]; rfl
/-- Put, by what with does. -/
theorem Bd.put_eq {a : Alm} : ∀ {ls : List Alm}, Bd.rising ls = true → Bd.putL a ls = (Bd.dropL a.b a.c ls).take (Bd.plc a (Bd.dropL a.b a.c ls)) ++ a :: (Bd.dropL a.b a.c ls).drop (Bd.plc a (Bd.dropL a.b a.c ls))
  | [], _ => rfl
  | x :: l, h => by
    have hp := (Bd.rising_iff _).1 h
    rw [List.pairwise_cons] at hp
    have ih := Bd.put_eq (a := a) ((Bd.rising_iff l).2 hp.2)
    unfold Bd.putL
    by_cases hx : Bd.lessA x a = true
    · have hd : Bd.dropL a.b a.c (x :: l) = x :: Bd.dropL a.b a.c l := by unfold Bd.dropL; rw [List.filter_cons, Bd.at_less hx]; rfl
      rw [if_pos hx, hd, ih]
      have hc : Bd.plc a (x :: Bd.dropL a.b a.c l) = Bd.plc a (Bd.dropL a.b a.c l) + 1 := by show (if Bd.lessA x a then _ else _) = _; rw [if_pos hx]
      rw [hc]
      rfl
    · rw [if_neg hx]
      have hrest : ∀ y ∈ l, Bd.lessA a y = true := fun y hy => by
        by_cases hat : Bd.atS a.b a.c x = true
        · exact Bd.less_at hat (hp.1 y hy)
        · exact Bd.less_trans (Bd.less_of hx hat) (hp.1 y hy)
      have hdl : Bd.dropL a.b a.c l = l := by
        unfold Bd.dropL
        rw [List.filter_eq_self]
        intro y hy
        rw [Bd.at_less' (hrest y hy)]
        rfl
      have hpl : Bd.plc a l = 0 := by
        cases l with
        | nil => rfl
        | cons y l => show (if Bd.lessA y a then _ else _) = _; rw [if_neg (by rw [Bd.less_not (hrest y (by simp))]; simp)]
      by_cases hat : Bd.atS a.b a.c x = true
      · rw [if_pos hat]
        have hd : Bd.dropL a.b a.c (x :: l) = l := by
          have e : Bd.dropL a.b a.c (x :: l) = Bd.dropL a.b a.c l := by unfold Bd.dropL; rw [List.filter_cons, hat]; rfl
          rw [e, hdl]
        rw [hd, hpl]
        rfl
      · rw [if_neg hat]
        have hd : Bd.dropL a.b a.c (x :: l) = x :: l := by
          have e : Bd.dropL a.b a.c (x :: l) = x :: Bd.dropL a.b a.c l := by unfold Bd.dropL; rw [List.filter_cons, Bool.not_eq_true _ |>.mp hat]; rfl
          rw [e, hdl]
        have hc : Bd.plc a (x :: l) = 0 := by show (if Bd.lessA x a then _ else _) = _; rw [if_neg hx]
        rw [hd, hc]
        rfl

def InsB (W : World) (base : Nat) (ls : List Alm) (e : Ending) (w' : World) : Prop := ∃ v, e = .returned v ∧ OwnA w' base v ls ∧ Below base W w'
theorem insert_new (base : Nat) (A2 : Option Addr) (n c2 : Nat) (D : List Alm) (k : Nat) (x0 x1 x2 x3 x4 x5 : Int) (W : World) (hn : n = D.length) (hown : OwnA W base (.slice A2 n c2) D) (hk : k ≤ n) (hl : n ≤ 1000) (hb : base ≤ W.heap.size) :
    Calls Try.prog 51 #[.slice A2 n c2, .int .i64 (k : Int), .slice (some ⟨W.heap.size, 0, none⟩) 1 1] (W.alloc (.cells #[.int .i64 x0, .int .i64 x1, .int .i64 x2, .int .i64 x3, .int .i64 x4, .int .i64 x5] 28)) (InsB W base (D.take k ++ ⟨x0, x1, x2, x3, x4, x5⟩ :: D.drop k)) := by
  have hB := below_new W (.cells #[.int .i64 x0, .int .i64 x1, .int .i64 x2, .int .i64 x3, .int .i64 x4, .int .i64 x5] 28)
  refine (insert_any base (.slice A2 n c2) D k ⟨x0, x1, x2, x3, x4, x5⟩ W.heap.size _ (hown.below hB) (by omega) (by omega) (Nat.le_trans hb hB.size) (heap_alloc_new _ _) (fun e => ?_)).mono ?_
  · have := (World.ownsRow.lt hown _ e).2
    omega
  · rintro e w' ⟨v, rfl, h1, h2⟩
    exact ⟨v, rfl, h1, (hB.mono hb).grown h2 (Nat.le_trans hb hB.size) hown.ge8⟩

set_option maxRecDepth 10000 in
set_option maxHeartbeats 4000000 in
theorem with_any (A : Option Addr) (l c : Nat) (ls : List Alm) (x0 x1 x2 x3 x4 x5 : Int) (w : World) (h : Told w A l c ls) (hr : Bd.rising ls = true) :
    Calls Try.prog 34 #[.slice A l c, .agg #[.int .i64 x0, .int .i64 x1, .int .i64 x2, .int .i64 x3, .int .i64 x4, .int .i64 x5]] w (OwnedA w (Bd.putL ⟨x0, x1, x2, x3, x4, x5⟩ ls)) := by
  rw [Bd.put_eq hr]
  have HS := Lib.hid (((St.start w).more (rowF A ls) h.2.1).new #[.int .i64 x0, .int .i64 x1, .int .i64 x2, .int .i64 x3, .int .i64 x4, .int .i64 x5] 28)
  have HZ : Hid (w.heap.size ≤ (w.alloc (.cells #[.int .i64 x0, .int .i64 x1, .int .i64 x2, .int .i64 x3, .int .i64 x4, .int .i64 x5] 28)).heap.size) := Lib.hid (by simp)
  have g1 := fun W (hA : AlmsAt W W.heap.size A ls) => Lib.hid (without_any A l c ls x0 x1 W ⟨h.1, hA, h.2.2⟩)
  have Hle : Hid ((Bd.dropL x0 x1 ls).length ≤ 1000) := Lib.hid (by have h1 : (Bd.dropL x0 x1 ls).length ≤ ls.length := List.length_filter_le _ _; have := h.1; have := h.2.2.2; omega)
  obtain ⟨D, hD⟩ : ∃ D, D = Bd.dropL x0 x1 ls := ⟨_, rfl⟩
  rw [← hD] at Hle ⊢
  simp only [← hD] at g1
  clear hD hr h
  go_enter Try.func34, Try.ntmps34
  go_wp2_with fail
  refine (g1 _ (HS.out.fact 0 rfl)).out.mono ?_
  rintro e w2 ⟨v, rfl, hown, hB⟩
  clear g1
  obtain ⟨A2, c2, rfl, hA2, _, hc2⟩ := hown.slice
  have HO := Lib.hid hown
  replace HS := Lib.hid ((HS.out.on hB).more (rowF A2 D) hA2)
  obtain ⟨w1, hw1⟩ : ∃ W, W = w.alloc (.cells #[.int .i64 x0, .int .i64 x1, .int .i64 x2, .int .i64 x3, .int .i64 x4, .int .i64 x5] 28) := ⟨_, rfl⟩
  rw [← hw1] at HO HZ hB
  have HB0 := Lib.hid hB
  clear hw1 hown hA2 hc2 hB
  obtain ⟨p1, hp1⟩ : ∃ p, p = w.heap.size := ⟨_, rfl⟩
  rw [← hp1] at HS ⊢
  obtain ⟨q, hq⟩ : ∃ q, q = D.length := ⟨_, rfl⟩
  have Hq := Lib.hid hq
  rw [← hq] at HO ⊢
  clear hp1 hq
  obtain ⟨P, hP⟩ : ∃ P, P = Bd.plc ⟨x0, x1, x2, x3, x4, x5⟩ D := ⟨_, rfl⟩
  have HP := Lib.hid hP
  rw [← hP]
  clear hP
  go_wp2_with fail
  go_loopw [6] (fun i wr => ∃ k : Nat, i = .int .i64 (k : Int) ∧ Hid (k ≤ q ∧ Bd.plc ⟨x0, x1, x2, x3, x4, x5⟩ (D.drop k) + k = P) ∧ Hid (Below w2.heap.size w2 wr)) (fun i _ => q - (intOf i).toNat)
  case atStart => exact ⟨0, rfl, Lib.hid ⟨Nat.zero_le _, by rw [HP.out]; rfl⟩, Lib.hid (Below.refl _ _)⟩
  case round =>
    obtain ⟨k, rfl, Hg, HB⟩ := hrel
    have HSr := Lib.hid (HS.out.on HB.out)
    by_cases hlt : k < q
    · have kl : k < D.length := by rw [← Hq.out]; exact hlt
      have HA : Hid (AlmsAt wr wr.heap.size A2 D) := Lib.hid (HSr.out.fact 0 rfl)
      obtain ⟨b0, o0, rfl, hb0, h6⟩ := HA.out k kl
      have Hs := Lib.hid (Bd.plc_drop (a := ⟨x0, x1, x2, x3, x4, x5⟩) kl)
      obtain ⟨y, hy⟩ : ∃ y, y = D[k]'kl := ⟨_, rfl⟩
      rw [← hy] at h6 Hs
      clear hy
      obtain ⟨y0, y1, y2, y3, y4, y5⟩ := y
      have d0 := h6.c0
      have d1 := h6.c1
      simp only at d0 d1
      have t0 := HSr.out.cell 0 rfl 0 rfl
      have t1 := HSr.out.cell 0 rfl 1 rfl
      have hp : p1 < wr.heap.size := HSr.out.lt 0 rfl
      have i1 : (k : Int) < (q : Int) := by omega
      have i3 : (0 : Int) ≤ (k : Int) := by omega
      have i4 : decide ((k : Int) < (q : Int)) = true := decide_eq_true i1
      have Ik : Hid (wrap64 ((k : Int) + 1) = (k : Int) + 1) := Lib.hid (by have := Hle.out; have := Hq.out; unfold wrap64; omega)
      have Hk := Lib.hid hlt
      have g := fun W => Less_any y0 y1 x0 x1 W
      obtain ⟨z, hz⟩ : ∃ z, z = Sp.less y0 y1 x0 x1 := ⟨_, rfl⟩
      simp only [← hz] at g
      have Ha : Hid (Bd.lessA ⟨y0, y1, y2, y3, y4, y5⟩ ⟨x0, x1, x2, x3, x4, x5⟩ = z) := Lib.hid (by rw [hz]; rfl)
      clear h6 kl hlt hz
      cases z
      · have He : Hid (P = k) := Lib.hid (by have := Hg.out.2; rw [Hs.out, Ha.out] at this; simp at this; omega)
        clear Hs Hg Ha
        go_wp2_with fail
        go_region_held3 (fun W => W.cell? ⟨b0, o0 + k * 6, none⟩ = some (.int .i64 y0) ∧ W.cell? ⟨b0, o0 + k * 6 + 1, none⟩ = some (.int .i64 y1) ∧ W.cell? ⟨p1, 0, none⟩ = some (.int .i64 x0) ∧ W.cell? ⟨p1, 1, none⟩ = some (.int .i64 x1)) (exact ⟨d0, d1, t0, t1⟩) ((go_at_call 50; refine (g _).mono ?_; rintro e w' ⟨rfl, hB'⟩; have hB2 : Below wr.heap.size wr w' := (by first | exact hB' | exact below_undrew hB'); replace d0 := (hB2.cell (p := ⟨b0, o0 + k * 6, none⟩) hb0).trans d0; replace d1 := (hB2.cell (p := ⟨b0, o0 + k * 6 + 1, none⟩) hb0).trans d1; replace t0 := (hB2.cell (p := ⟨p1, 0, none⟩) hp).trans t0; replace t1 := (hB2.cell (p := ⟨p1, 1, none⟩) hp).trans t1; have HB2 : Hid (Below w2.heap.size w2 w') := Lib.hid (below2 HB.out hB2); clear hB' hB2))
        have HK : Hid (k ≤ q) := Lib.hid (Nat.le_of_lt Hk.out)
        clear d0 d1 t0 t1 g
        have HS2 := Lib.hid (HS.out.on HB2.out)
        have HO2 := Lib.hid (HO.out.below HB2.out)
        have gI := Lib.hid (insert_new w1.heap.size _ q c2 D k x0 x1 x2 x3 x4 x5 w' Hq.out HO2.out HK.out (by rw [Hq.out]; exact Hle.out) (Nat.le_trans HB0.out.size HB2.out.size))
        go_wp2_with (refine wpList_load_st rfl 28 _ rfl HS2.out 0 _ _ rfl rfl _ Try.underlying28 rfl (by rfl) ?_)
        refine gI.out.mono ?_
        rintro e w9 ⟨v, rfl, hO9, hB9⟩
        have H9 := Lib.hid (hO9.lower HZ.out)
        have HB9 := Lib.hid (HS2.out.below.trans (hB9.mono HZ.out))
        clear hO9 hB9 gI
        go_wp2
        go_ret
        exact ⟨v, rfl, by rw [← HP.out, He.out]; exact H9.out, HB9.out⟩
      · have He : Hid (k + 1 ≤ q ∧ Bd.plc ⟨x0, x1, x2, x3, x4, x5⟩ (D.drop (k + 1)) + (k + 1) = P) := Lib.hid (by have := Hg.out.2; rw [Hs.out, Ha.out] at this; simp at this; exact ⟨Hk.out, by omega⟩)
        clear Hs Hg Ha
        go_wp2_with fail
        go_region_held3 (fun W => W.cell? ⟨b0, o0 + k * 6, none⟩ = some (.int .i64 y0) ∧ W.cell? ⟨b0, o0 + k * 6 + 1, none⟩ = some (.int .i64 y1) ∧ W.cell? ⟨p1, 0, none⟩ = some (.int .i64 x0) ∧ W.cell? ⟨p1, 1, none⟩ = some (.int .i64 x1)) (exact ⟨d0, d1, t0, t1⟩) ((go_at_call 50; refine (g _).mono ?_; rintro e w' ⟨rfl, hB'⟩; have hB2 : Below wr.heap.size wr w' := (by first | exact hB' | exact below_undrew hB'); replace d0 := (hB2.cell (p := ⟨b0, o0 + k * 6, none⟩) hb0).trans d0; replace d1 := (hB2.cell (p := ⟨b0, o0 + k * 6 + 1, none⟩) hb0).trans d1; replace t0 := (hB2.cell (p := ⟨p1, 0, none⟩) hp).trans t0; replace t1 := (hB2.cell (p := ⟨p1, 1, none⟩) hp).trans t1; have HB2 : Hid (Below w2.heap.size w2 w') := Lib.hid (below2 HB.out hB2); clear hB' hB2))
        go_wp2
        go_roundw
        case rel => exact ⟨k + 1, by first | rfl | (rw [Ik.out]; rfl), He, HB2⟩
        case measure => have := Hk.out; (try rw [Ik.out]); simp [intOf]; omega
    · have ik : ((k : Int) < (q : Int)) = False := eq_false (by omega)
      have i4 : decide ((k : Int) < (q : Int)) = false := decide_eq_false (by omega)
      have He : Hid (P = k) := Lib.hid (by have := Hg.out.2; rw [List.drop_eq_nil_of_le (by have := Hq.out; omega)] at this; simpa [Bd.plc] using this.symm)
      clear hlt Hg
      go_wp2_with fail
      go_quiet (fail)
      have HB2 : Hid (Below w2.heap.size w2 (wr.drewN nq)) := Lib.hid (below_drew HB.out nq)
      have HK : Hid (k ≤ q) := Lib.hid (by rw [← He.out, HP.out, Hq.out]; exact Bd.plc_le _ _)
      have HS2 := Lib.hid (HS.out.on HB2.out)
      have HO2 := Lib.hid (HO.out.below HB2.out)
      have gI := Lib.hid (insert_new w1.heap.size _ q c2 D k x0 x1 x2 x3 x4 x5 (wr.drewN nq) Hq.out HO2.out HK.out (by rw [Hq.out]; exact Hle.out) (Nat.le_trans HB0.out.size HB2.out.size))
      go_wp2_with (refine wpList_load_st rfl 28 _ rfl HS2.out 0 _ _ rfl rfl _ Try.underlying28 rfl (by rfl) ?_)
      refine gI.out.mono ?_
      rintro e w9 ⟨v, rfl, hO9, hB9⟩
      have H9 := Lib.hid (hO9.lower HZ.out)
      have HB9 := Lib.hid (HS2.out.below.trans (hB9.mono HZ.out))
      clear hO9 hB9 gI
      go_wp2
      go_ret
      exact ⟨v, rfl, by rw [← HP.out, He.out]; exact H9.out, HB9.out⟩
end Go.Proofs.Ythlojadkgpmnmaa
