/-
  Layer 10 (mute): the law MuteOrder, over the contracts.
-/
import Derived.Test.YthbkfjnpdcfepaaMuteK
namespace Go.Proofs.Ythbkfjnpdcfepaa
set_option maxRecDepth 10000
open Go.RowKit

theorem muteOrder_far (A : Option Addr) (l c : Nat) (B : Option Addr) (k d : Nat) (w : World) (hf : 60 < l ∨ (l ≤ 60 ∧ 20 < k)) :
    Calls Try.prog 5 #[.slice A l c, .slice B k d] w fun e w' => e = .returned (.bool true) ∧ Below w.heap.size w w' := by
  rcases hf with hf | ⟨hf, hk⟩
  · have i1 : ((60 : Int) < (l : Int)) = True := eq_true (by omega)
    clear hf
    go_enter Try.func5, Try.ntmps5
    go_wp2
    go_ret
    exact ⟨rfl, Below.refl _ _⟩
  · have i1 : ((60 : Int) < (l : Int)) = False := eq_false (by omega)
    have i2 : ((20 : Int) < (k : Int)) = True := eq_true (by omega)
    clear hf hk
    go_enter Try.func5, Try.ntmps5
    go_wp2
    go_ret
    exact ⟨rfl, Below.refl _ _⟩

/-- Windows so far: those that came, with some of the others added (or cut). -/
structure OrdX (ls ms : List Win) (k i : Nat) (both : Bool) (X : List Win) (lx : Nat) : Prop where
  len : lx = X.length
  le : lx ≤ 1000
  hs : ∀ b t, Mu.has X b t = Mu.F2 ls (ms.drop i) both b t
  right : i < k → Mu.isL X = true
  first : i = k → X = ls
/-- What holds ahead of each round. -/
def OrdR (w5 : World) (ls ms : List Win) (k : Nat) (xv yv iv : Value) (wr : World) : Prop :=
  ∃ (i : Nat) (X Y : List Win) (AX AY : Option Addr) (lx ly cx cy : Nat), i ≤ k ∧ iv = .int .i64 ((i : Int) - 1) ∧ xv = .slice AX lx cx ∧ yv = .slice AY ly cy ∧ OrdX ls ms k i true X lx ∧ OrdX ls ms k i false Y ly ∧
    (WinsAt wr wr.heap.size AX X ∧ (Roomy AX X cx)) ∧ (WinsAt wr wr.heap.size AY Y ∧ (Roomy AY Y cy)) ∧ Below w5.heap.size w5 wr
theorem OrdX.start {ls ms : List Win} {k : Nat} {both : Bool} {l : Nat} (hl : l = ls.length) (hf : l ≤ 1000) (hk : k = ms.length) : OrdX ls ms k k both ls l := by
  refine ⟨hl, hf, fun b t => ?_, fun h => absurd h (Nat.lt_irrefl _), fun _ => rfl⟩
  rw [List.drop_eq_nil_of_le (by omega)]
  unfold Mu.F2
  rw [Mu.has_nil]
  cases both <;> simp
theorem OrdX.more {ls ms X : List Win} {k j lx : Nat} {both : Bool} (h : OrdX ls ms k (j + 1) both X lx) (hj : j < ms.length) (hk : k = ms.length) (hE : Mu.turnE X [ms[j]] both = 0) : OrdX ls ms k j both (Mu.turn X [ms[j]] both) (Mu.turn X [ms[j]] both).length := by
  obtain ⟨a1, a2⟩ := Mu.turn_more h.hs hE
  refine ⟨rfl, by have := Mu.turn_len X [ms[j]] both; omega, fun b t => ?_, fun _ => a1, fun e => by omega⟩
  rw [a2, ← List.drop_eq_getElem_cons hj]
theorem OrdX.last {ls ms X : List Win} {k lx : Nat} {both : Bool} (h : OrdX ls ms k 0 both X lx) (hE : Mu.turnE ls ms both = 0) : X = Mu.turn ls ms both := by
  obtain ⟨a1, a2⟩ := Mu.turn_spec hE
  have hX : Mu.isL X = true := by
    rcases Nat.eq_zero_or_pos k with h0 | h0
    · rw [h.first h0.symm]; exact (Mu.turnE_iff.1 hE).1
    · exact h.right h0
  refine Mu.isL_eq hX a1 fun b t => ?_
  rw [a2, h.hs]; rfl

set_option maxHeartbeats 8000000 in
theorem muteOrder_ok (HM : Hid MuteK) (HT : Hid WSameK) (HC : Hid MutedK) (A : Option Addr) (l c : Nat) (ls : List Win) (B : Option Addr) (k d : Nat) (ms : List Win) (w : World) (hl : l = ls.length) (hk : k = ms.length) (hA : WinsAt w w.heap.size A ls) (h0 : Roomy A ls c) (hB0 : WinsAt w w.heap.size B ms) (h1 : Roomy B ms d) (hf : l ≤ 60) (hf2 : k ≤ 20) :
    Calls Try.prog 5 #[.slice A l c, .slice B k d] w fun e w' => e = .returned (.bool true) ∧ Below w.heap.size w w' := by
  have HS := Lib.hid (((St.start w).more (winF A ls) hA).more (winF B ms) hB0)
  have i1 : ((60 : Int) < (l : Int)) = False := eq_false (by omega)
  have i2 : ((20 : Int) < (k : Int)) = False := eq_false (by omega)
  obtain ⟨TA, hTA⟩ : ∃ T, T = Mu.turn ls ms true := ⟨_, rfl⟩
  obtain ⟨TC, hTC⟩ : ∃ T, T = Mu.turn ls ms false := ⟨_, rfl⟩
  obtain ⟨ea, hea⟩ : ∃ e, e = Mu.turnE ls ms true := ⟨_, rfl⟩
  obtain ⟨ec, hec⟩ : ∃ e, e = Mu.turnE ls ms false := ⟨_, rfl⟩
  obtain ⟨qa, hqa⟩ : ∃ q, q = TA.length := ⟨_, rfl⟩
  obtain ⟨qc, hqc⟩ : ∃ q, q = TC.length := ⟨_, rfl⟩
  have hla : qa ≤ 1000 := by rw [hqa, hTA]; have := Mu.turn_len ls ms true; omega
  have hlc : qc ≤ 1000 := by rw [hqc, hTC]; have := Mu.turn_len ls ms false; omega
  have G1 := fun (W : World) (h : WinsAt W W.heap.size A ls) (h' : WinsAt W W.heap.size B ms) => Lib.hid (by have z := HM.out.add A l c ls B k d ms qa W ⟨hl, h, h0, by omega⟩ ⟨hk, h', h1, by omega⟩ (by rw [hqa, hTA]); rw [← hTA, ← hea] at z; exact z)
  have G2 := fun (W : World) (h : WinsAt W W.heap.size A ls) (h' : WinsAt W W.heap.size B ms) => Lib.hid (by have z := HM.out.cut A l c ls B k d ms qc W ⟨hl, h, h0, by omega⟩ ⟨hk, h', h1, by omega⟩ (by rw [hqc, hTC]); rw [← hTC, ← hec] at z; exact z)
  have KX : Hid (∀ (X : List Win) (lx : Nat), ea = 0 → OrdX ls ms k 0 true X lx → X = TA ∧ lx = qa) := Lib.hid (fun X lx h hX => by
    have e := hX.last (by rw [← hea]; exact h)
    rw [← hTA] at e
    exact ⟨e, by rw [hX.len, e, hqa]⟩)
  have KY : Hid (∀ (X : List Win) (lx : Nat), ec = 0 → OrdX ls ms k 0 false X lx → X = TC ∧ lx = qc) := Lib.hid (fun X lx h hX => by
    have e := hX.last (by rw [← hec]; exact h)
    rw [← hTC] at e
    exact ⟨e, by rw [hX.len, e, hqc]⟩)
  have S1 := fun (W : World) (A2 A3 : Option Addr) (c2 c3 : Nat) (h : WinsAt W W.heap.size A2 TA) (h' : WinsAt W W.heap.size A3 TA) => Lib.hid (HT.out A2 A3 qa c2 c3 TA W hqa h h' hla)
  have S2 := fun (W : World) (A2 A3 : Option Addr) (c2 c3 : Nat) (h : WinsAt W W.heap.size A2 TC) (h' : WinsAt W W.heap.size A3 TC) => Lib.hid (HT.out A2 A3 qc c2 c3 TC W hqc h h' hlc)
  have Hl := Lib.hid hl
  have Hk := Lib.hid hk
  have Hf := Lib.hid hf
  have Hf2 := Lib.hid hf2
  have H0 := Lib.hid h0
  have Iw : IntKind.i64.wrap ((k : Int) - 1) = (k : Int) - 1 := by rw [IntKind.wrap_i64]; omega
  clear hA h0 hB0 h1 hf hf2 hl hk hTA hTC hea hec hqa hqc hla hlc
  go_enter Try.func5, Try.ntmps5
  go_wp2_with fail
  refine (G1 _ (HS.out.fact 1 rfl) (HS.out.fact 0 rfl)).out.mono ?_
  rintro e w1 ⟨A1, c1, rfl, hO, hB⟩
  replace HS := Lib.hid ((HS.out.on hB).more (winF A1 TA) hO.rows.1)
  clear hO hB G1
  go_wp2_with fail
  refine (G2 _ (HS.out.fact 2 rfl) (HS.out.fact 1 rfl)).out.mono ?_
  rintro e w2 ⟨A2, c2, rfl, hO, hB⟩
  replace HS := Lib.hid ((HS.out.on hB).more (winF A2 TC) hO.rows.1)
  clear hO hB G2
  go_wp2_with fail
  clear i1 i2 Iw
  go_loopw [9, 10, 11] (fun xv yv iv wr => OrdR w2 ls ms k xv yv iv wr) (fun _ _ iv _ => (intOf iv + 1).toNat)
  case atStart => exact ⟨k, ls, ls, A, A, l, l, c, c, Nat.le_refl _, rfl, rfl, rfl, OrdX.start Hl.out (by have := Hf.out; omega) Hk.out, OrdX.start Hl.out (by have := Hf.out; omega) Hk.out, ⟨HS.out.fact 3 rfl, H0.out⟩, ⟨HS.out.fact 3 rfl, H0.out⟩, Below.refl _ _⟩
  case round =>
    obtain ⟨i, X, Y, AX, AY, lx, ly, cx, cy, hi, rfl, rfl, rfl, hX, hY, hRX, hRY, hBr⟩ := hrel
    have HX := Lib.hid hX
    have HY := Lib.hid hY
    have HSr := Lib.hid (((HS.out.on hBr).more (winF AX X) hRX.1).more (winF AY Y) hRY.1)
    have NX := Lib.hid hRX.2
    have NY := Lib.hid hRY.2
    have HB := Lib.hid hBr
    clear hX hY hRX hRY hBr
    cases i with
    | succ j =>
      have jk : j < ms.length := by rw [← Hk.out]; omega
      have ej : ((j + 1 : Nat) : Int) - 1 = (j : Int) := by omega
      rw [ej]
      have HBm : Hid (WinsAt wr wr.heap.size B ms) := Lib.hid (HSr.out.fact 4 rfl)
      obtain ⟨b0, o0, rfl, hb0, h3⟩ := HBm.out j jk
      have MX := fun h => Lib.hid (HX.out.more jk Hk.out h)
      have MY := fun h => Lib.hid (HY.out.more jk Hk.out h)
      obtain ⟨x, hx⟩ : ∃ x, x = ms[j] := ⟨_, rfl⟩
      rw [← hx] at h3 MX MY
      clear hx
      obtain ⟨x0, x1, x2⟩ := x
      have d0 := h3.c0
      have d1 := h3.c1
      have d2 := h3.c2
      simp only at d0 d1 d2
      have j1 : (j : Int) < (k : Int) := by omega
      have j3 : (0 : Int) ≤ (j : Int) := by omega
      have Ij : IntKind.i64.wrap ((j : Int) - 1) = (j : Int) - 1 := by have := Hf2.out; rw [IntKind.wrap_i64]; omega
      have Hij : Hid (j ≤ k) := Lib.hid (by omega)
      obtain ⟨XA, hXA⟩ : ∃ T, T = Mu.turn X [⟨x0, x1, x2⟩] true := ⟨_, rfl⟩
      obtain ⟨YC, hYC⟩ : ∃ T, T = Mu.turn Y [⟨x0, x1, x2⟩] false := ⟨_, rfl⟩
      obtain ⟨eg, heg⟩ : ∃ e, e = Mu.turnE X [⟨x0, x1, x2⟩] true := ⟨_, rfl⟩
      obtain ⟨eh, heh⟩ : ∃ e, e = Mu.turnE Y [⟨x0, x1, x2⟩] false := ⟨_, rfl⟩
      obtain ⟨qx, hqx⟩ : ∃ q, q = XA.length := ⟨_, rfl⟩
      obtain ⟨qy, hqy⟩ : ∃ q, q = YC.length := ⟨_, rfl⟩
      rw [← hXA, ← heg, ← hqx] at MX
      rw [← hYC, ← heh, ← hqy] at MY
      have g1 := fun (W : World) (D : Option Addr) (dd : Nat) (h : WinsAt W W.heap.size AX X) (h' : WinsAt W W.heap.size D [⟨x0, x1, x2⟩]) (hn : Roomy D [⟨x0, x1, x2⟩] dd) => Lib.hid (by have z := HM.out.add AX lx cx X D 1 dd [⟨x0, x1, x2⟩] qx W ⟨HX.out.len, h, NX.out, HX.out.le⟩ ⟨rfl, h', hn, by omega⟩ (by rw [hqx, hXA]); rw [← hXA, ← heg] at z; exact z)
      have g2 := fun (W : World) (D : Option Addr) (dd : Nat) (h : WinsAt W W.heap.size AY Y) (h' : WinsAt W W.heap.size D [⟨x0, x1, x2⟩]) (hn : Roomy D [⟨x0, x1, x2⟩] dd) => Lib.hid (by have z := HM.out.cut AY ly cy Y D 1 dd [⟨x0, x1, x2⟩] qy W ⟨HY.out.len, h, NY.out, HY.out.le⟩ ⟨rfl, h', hn, by omega⟩ (by rw [hqy, hYC]); rw [← hYC, ← heh] at z; exact z)
      have H3x := Lib.hid h3
      have Hb0 := Lib.hid hb0
      clear h3 hb0 jk ej hi HBm hXA hYC heg heh hqx hqy HX HY NX NY
      have T1 := WinsAt.one wr x0 x1 x2 32
      have HN := Lib.hid (HSr.out.on (below_new wr (.cells #[.int .i64 x0, .int .i64 x1, .int .i64 x2] 32)))
      go_wp2_with fail
      refine (g1 _ _ _ (HN.out.fact 1 rfl) T1 ⟨(fun e => nomatch e), (by simp)⟩).out.mono ?_
      rintro e w3 ⟨A3, c3, rfl, hO, hB⟩
      have HB3 := Lib.hid (below2 HB.out (below2 (below_new wr (.cells #[.int .i64 x0, .int .i64 x1, .int .i64 x2] 32)) hB))
      have d3 := H3x.out.below (below2 (below_new wr (.cells #[.int .i64 x0, .int .i64 x1, .int .i64 x2] 32)) hB) Hb0.out
      replace HSr := Lib.hid ((HN.out.on hB).more (winF A3 XA) hO.rows.1)
      have N3 := Lib.hid hO.rows.2
      clear hO hB g1 T1 HN HB d0 d1 d2 H3x Hb0
      have d0 := d3.c0
      have d1 := d3.c1
      have d2 := d3.c2
      simp only at d0 d1 d2
      clear d3
      have T2 := WinsAt.one w3 x0 x1 x2 32
      have HN := Lib.hid (HSr.out.on (below_new w3 (.cells #[.int .i64 x0, .int .i64 x1, .int .i64 x2] 32)))
      go_wp2_with fail
      refine (g2 _ _ _ (HN.out.fact 1 rfl) T2 ⟨(fun e => nomatch e), (by simp)⟩).out.mono ?_
      rintro e w4 ⟨A4, c4, rfl, hO, hB⟩
      have HB4 := Lib.hid (below2 HB3.out (below2 (below_new w3 (.cells #[.int .i64 x0, .int .i64 x1, .int .i64 x2] 32)) hB))
      replace HSr := Lib.hid ((HN.out.on hB).more (winF A4 YC) hO.rows.1)
      have N4 := Lib.hid hO.rows.2
      clear hO hB g2 T2 HN HB3 d0 d1 d2
      by_cases h5 : eg = 0
      · have MX' := MX h5
        by_cases h6 : eh = 0
        · have MY' := MY h6
          subst h5
          subst h6
          clear MX MY
          go_wp2
          go_roundw
          case rel => exact ⟨j, XA, YC, A3, A4, qx, qy, c3, c4, Hij.out, by first | rfl | (rw [Ij]), rfl, rfl, MX'.out, MY'.out, ⟨HSr.out.fact 1 rfl, N3.out⟩, ⟨HSr.out.fact 0 rfl, N4.out⟩, HB4.out⟩
          case measure => simp [intOf]
        · have b1 : (eh == 0) = false := by rw [beq_eq_false_iff_ne]; exact h6
          have b2 : (eh != 0) = true := by rw [bne, b1]; rfl
          subst h5
          clear MX MY MX' h6 N3 N4 HB4
          go_wp2_with fail
          refine (HC.out _).mono ?_
          rintro e w5 ⟨rfl, hB⟩
          replace HSr := Lib.hid (HSr.out.on hB)
          clear hB
          go_wp2
          go_ret
          exact ⟨rfl, HSr.out.below⟩
      · have b1 : (eg == 0) = false := by rw [beq_eq_false_iff_ne]; exact h5
        have b2 : (eg != 0) = true := by rw [bne, b1]; rfl
        clear MX MY h5 N3 N4 HB4
        go_wp2_with fail
        refine (HC.out _).mono ?_
        rintro e w5 ⟨rfl, hB⟩
        replace HSr := Lib.hid (HSr.out.on hB)
        clear hB
        go_wp2
        go_ret
        exact ⟨rfl, HSr.out.below⟩
    | zero =>
      have ek : (0 ≤ ((0 : Nat) : Int) - 1) = False := eq_false (by omega)
      have ek2 : ((0 : Nat) : Int) - 1 = -1 := by omega
      rw [ek2]
      have ek3 : ((0 : Int) ≤ -1) = False := eq_false (by omega)
      clear hi NX NY HB HS ek ek2
      have RX := fun h => Lib.hid (KX.out X lx h HX.out)
      have RY := fun h => Lib.hid (KY.out Y ly h HY.out)
      clear KX KY HX HY
      go_wp2_with fail
      refine (HC.out _).mono ?_
      rintro e w5 ⟨rfl, hB⟩
      replace HSr := Lib.hid (HSr.out.on hB)
      clear hB
      by_cases h5 : ea = 0
      · obtain ⟨rX, rx⟩ := (RX h5).out
        subst rX
        subst rx
        subst h5
        clear RX
        go_wp2_with fail
        refine (S1 _ A1 AX c1 cx (HSr.out.fact 3 rfl) (HSr.out.fact 1 rfl)).out.mono ?_
        rintro e w6 ⟨rfl, hB⟩
        replace HSr := Lib.hid (HSr.out.on hB)
        clear hB S1
        by_cases h6 : ec = 0
        · obtain ⟨rY, ry⟩ := (RY h6).out
          subst rY
          subst ry
          subst h6
          clear RY
          go_wp2_with fail
          refine (S2 _ A2 AY c2 cy (HSr.out.fact 2 rfl) (HSr.out.fact 0 rfl)).out.mono ?_
          rintro e w7 ⟨rfl, hB⟩
          replace HSr := Lib.hid (HSr.out.on hB)
          clear hB S2
          go_wp2
          go_ret
          exact ⟨rfl, HSr.out.below⟩
        · have b1 : (ec == 0) = false := by rw [beq_eq_false_iff_ne]; exact h6
          have b2 : (ec != 0) = true := by rw [bne, b1]; rfl
          clear RY h6 S2
          go_wp2
          go_ret
          exact ⟨rfl, HSr.out.below⟩
      · have b1 : (ea == 0) = false := by rw [beq_eq_false_iff_ne]; exact h5
        have b2 : (ea != 0) = true := by rw [bne, b1]; rfl
        clear RX h5 S1
        by_cases h6 : ec = 0
        · obtain ⟨rY, ry⟩ := (RY h6).out
          subst rY
          subst ry
          subst h6
          clear RY
          go_wp2_with fail
          refine (S2 _ A2 AY c2 cy (HSr.out.fact 2 rfl) (HSr.out.fact 0 rfl)).out.mono ?_
          rintro e w7 ⟨rfl, hB⟩
          replace HSr := Lib.hid (HSr.out.on hB)
          clear hB S2
          go_wp2
          go_ret
          exact ⟨rfl, HSr.out.below⟩
        · have b3 : (ec == 0) = false := by rw [beq_eq_false_iff_ne]; exact h6
          have b4 : (ec != 0) = true := by rw [bne, b3]; rfl
          clear RY h6 S2
          go_wp2
          go_ret
          exact ⟨rfl, HSr.out.below⟩

theorem muteOrder_walk (HM : Hid MuteK) (HT : Hid WSameK) (HC : Hid MutedK) (A : Option Addr) (c : Nat) (ls : List Win) (B : Option Addr) (d : Nat) (ms : List Win) (w : World) (hA : WinsAt w w.heap.size A ls) (hB0 : WinsAt w w.heap.size B ms) (h0 : Roomy A ls c) (h1 : Roomy B ms d) :
    Calls Try.prog 5 #[.slice A ls.length c, .slice B ms.length d] w fun e w' => e = .returned (.bool true) ∧ Below w.heap.size w w' := by
  by_cases hf : 60 < ls.length
  · exact muteOrder_far A ls.length c B ms.length d w (Or.inl hf)
  by_cases hk : 20 < ms.length
  · exact muteOrder_far A ls.length c B ms.length d w (Or.inr ⟨by omega, hk⟩)
  exact muteOrder_ok HM HT HC A ls.length c ls B ms.length d ms w rfl rfl hA h0 hB0 h1 (by omega) (by omega)
end Go.Proofs.Ythbkfjnpdcfepaa
