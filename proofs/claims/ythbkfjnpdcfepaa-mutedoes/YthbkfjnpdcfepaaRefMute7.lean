/-
  Layer 10 (mute), the reference: turn, Add, Cut.
-/
import Derived.Test.YthbkfjnpdcfepaaRefMute6
namespace Go.Proofs.Ythbkfjnpdcfepaa
set_option maxRecDepth 10000
open Go.RowKit

theorem Mu.turn_good {ls ms : List Win} {both : Bool} (h1 : Mu.isL ls = true) (h2 : ms.all Mu.may = true) :
    Mu.turnE ls ms both = (if 100 < (Mu.wins ls ms both).length then 81 else 0) ∧ Mu.turn ls ms both = (if 100 < (Mu.wins ls ms both).length then [] else Mu.wins ls ms both) := by
  have hE : Mu.turnE ls ms both = (if 100 < (Mu.wins ls ms both).length then 81 else 0) := by unfold Mu.turnE; rw [h1, h2]; rfl
  refine ⟨hE, ?_⟩
  unfold Mu.turn
  rw [hE]
  by_cases hl : 100 < (Mu.wins ls ms both).length
  · rw [if_pos hl, if_pos hl]; rfl
  · rw [if_neg hl, if_neg hl]; rfl

set_option maxHeartbeats 2000000 in
theorem RTurn_any (A : Option Addr) (l c : Nat) (ls : List Win) (B : Option Addr) (k d : Nat) (ms : List Win) (both : Bool) (q : Nat) (w : World) (h : ToldW w A l c ls) (h2 : ToldW w B k d ms) (hk2 : k ≤ 200) (hq : q = (Mu.turn ls ms both).length) :
    Calls Try.prog 25 #[.slice A l c, .slice B k d, .bool both] w (GivesW w q (Mu.turn ls ms both) (Mu.turnE ls ms both)) := by
  have k1 := RIs_any A l c ls w h.1 h.2.1 h.2.2.2
  cases h3 : Mu.isL ls with
  | false =>
    rw [h3] at k1
    have HR := Lib.hid (fun (w' : World) (hB : Below w.heap.size w w') => bad_gives (Or.inl h3) hq hB)
    clear h3 hq h h2
    go_enter Try.func25, Try.ntmps25
    go_wp2_with fail
    refine k1.mono ?_
    rintro e w1 ⟨rfl, hB⟩
    have HB := Lib.hid hB
    clear hB
    go_wp2
    go_ret2
    exact HR.out _ HB.out
  | true =>
    rw [h3] at k1
    have Hl : Hid (l ≤ 100) := Lib.hid (by rw [h.1]; exact (Mu.isL_iff.1 h3).2.2)
    have H1 := Lib.hid h
    have H2 := Lib.hid h2
    have Hk2 := Lib.hid hk2
    have Hq := Lib.hid hq
    have Hall : Hid ((ms.drop 0).all Mu.may = ms.all Mu.may) := Lib.hid rfl
    have H3 := Lib.hid h3
    clear h h2 hq h3 hk2
    go_enter Try.func25, Try.ntmps25
    go_wp2_with fail
    refine k1.mono ?_
    rintro e w1 ⟨rfl, hB⟩
    have HB := Lib.hid hB
    clear hB k1
    go_wp2_with fail
    go_loopw [8] (fun iv wr => ∃ i : Nat, i ≤ k ∧ iv = .int .i64 (i : Int) ∧ Hid (Below w.heap.size w wr) ∧ Hid ((ms.drop i).all Mu.may = ms.all Mu.may)) (fun iv _ => k - (intOf iv).toNat)
    case atStart => exact ⟨0, Nat.zero_le _, rfl, HB, Hall⟩
    case round =>
      clear HB Hall
      obtain ⟨i, hi, rfl, HB, Ha⟩ := hrel
      by_cases hlt : i < k
      · have kl : i < ms.length := by rw [← H2.out.1]; exact hlt
        obtain ⟨x, hx⟩ : ∃ x, x = ms[i] := ⟨_, rfl⟩
        have Hd : Hid (ms.drop i = x :: ms.drop (i + 1)) := Lib.hid (by rw [hx]; exact List.drop_eq_getElem_cons kl)
        obtain ⟨b0, o0, hA0, hb0, h3⟩ := (H2.out.on HB.out).2.1 i kl
        subst hA0
        rw [← hx] at h3
        obtain ⟨x0, x1, x2⟩ := x
        have d0 := h3.c0
        have d1 := h3.c1
        have d2 := h3.c2
        simp only at d0 d1 d2
        have i1 : (i : Int) < (k : Int) := by omega
        have i3 : (0 : Int) ≤ (i : Int) := by omega
        have Ik : Hid (wrap64 ((i : Int) + 1) = (i : Int) + 1) := Lib.hid (by have := Hk2.out; unfold wrap64; omega)
        have Hk := Lib.hid hlt
        have g := fun W => RMay_any x0 x1 x2 W
        clear hx kl hi hlt h3 hb0
        cases hm : Mu.may ⟨x0, x1, x2⟩ with
        | true =>
          rw [hm] at g
          have He : Hid ((ms.drop (i + 1)).all Mu.may = ms.all Mu.may) := Lib.hid (by rw [← Ha.out, Hd.out, List.all_cons, hm]; rfl)
          clear hm Ha Hd
          go_wp2_with fail
          refine (g _).mono ?_
          rintro e w2 ⟨rfl, hB⟩
          have HB2 := Lib.hid (below2 HB.out hB)
          clear hB HB g d0 d1 d2
          go_wp2
          go_roundw
          case rel => exact ⟨i + 1, Hk.out, by first | rfl | (rw [Ik.out]; rfl), HB2, He⟩
          case measure => have := Hk.out; (try rw [Ik.out]); simp [intOf]; omega
        | false =>
          rw [hm] at g
          have hall : ms.all Mu.may = false := by rw [← Ha.out, Hd.out, List.all_cons, hm]; rfl
          have HR := Lib.hid (fun (w' : World) (hB : Below w.heap.size w w') => bad_gives (ls := ls) (Or.inr hall) Hq.out hB)
          clear hm Ha Hd hall
          go_wp2_with fail
          refine (g _).mono ?_
          rintro e w2 ⟨rfl, hB⟩
          have HB2 := Lib.hid (below2 HB.out hB)
          clear hB HB g d0 d1 d2
          go_wp2
          go_ret2
          exact HR.out _ HB2.out
      · have ik : ((i : Int) < (k : Int)) = False := eq_false (by omega)
        have hall : ms.all Mu.may = true := by
          rw [← Ha.out, List.drop_eq_nil_of_le (by have := H2.out.1; omega)]; rfl
        have HG := Lib.hid (Mu.turn_good (both := both) H3.out hall)
        have kW := RWindows_any A l c ls B k d ms both wr (H1.out.on HB.out) (H2.out.on HB.out) (by have := Hl.out; omega) Hk2.out
        clear hi hlt Ha hall
        go_wp2_with fail
        refine kW.mono ?_
        rintro e w2 ⟨A3, c3, m3, hm3, rfl, hO, hB3⟩
        have HO : Hid (OwnW w2 w.heap.size (.slice A3 m3 c3) (Mu.wins ls ms both)) := Lib.hid (hO.lower HB.out.size)
        have HB3 := Lib.hid (below2 HB.out hB3)
        have Hm3 := Lib.hid hm3
        clear hm3 hO hB3 kW
        by_cases hf : 100 < m3
        · have j1 : ((m3 : Int) > 100) = True := eq_true (by omega)
          have HR : Hid (GivesW w q (Mu.turn ls ms both) (Mu.turnE ls ms both) (.returned (.tuple #[.slice none 0 0, .int .i64 81])) w2) := Lib.hid
            (fit_gives Hm3.out HO.out HB3.out HG.out.1 HG.out.2 Hq.out (by rw [if_pos hf]) (by rw [if_pos hf]))
          clear hf
          go_wp2
          go_ret2
          exact HR.out
        · have j1 : ((m3 : Int) > 100) = False := eq_false (by omega)
          have HR : Hid (GivesW w q (Mu.turn ls ms both) (Mu.turnE ls ms both) (.returned (.tuple #[.slice A3 m3 c3, .int .i64 0])) w2) := Lib.hid
            (fit_gives Hm3.out HO.out HB3.out HG.out.1 HG.out.2 Hq.out (by rw [if_neg hf]) (by rw [if_neg hf]))
          clear hf
          go_wp2
          go_ret2
          exact HR.out

theorem RAdd_any (A : Option Addr) (l c : Nat) (ls : List Win) (B : Option Addr) (k d : Nat) (ms : List Win) (q : Nat) (w : World) (h : ToldW w A l c ls) (h2 : ToldW w B k d ms) (hk2 : k ≤ 200) (hq : q = (Mu.turn ls ms true).length) :
    Calls Try.prog 9 #[.slice A l c, .slice B k d] w (GivesW w q (Mu.turn ls ms true) (Mu.turnE ls ms true)) := by
  have K := Lib.hid (RTurn_any A l c ls B k d ms true q w h h2 hk2 hq)
  obtain ⟨er, her⟩ : ∃ er, er = Mu.turnE ls ms true := ⟨_, rfl⟩
  rw [← her] at K ⊢
  clear h h2 hk2 hq her
  go_enter Try.func9, Try.ntmps9
  go_wp2_with fail
  refine K.out.mono ?_
  rintro e w1 ⟨A3, c3, rfl, hO, hB⟩
  have HR : Hid (GivesW w q (Mu.turn ls ms true) er (.returned (.tuple #[.slice A3 q c3, .int .i64 er])) w1) := Lib.hid ⟨A3, c3, rfl, hO, hB⟩
  clear hO hB
  go_wp2
  go_ret2
  exact HR.out
theorem RCut_any (A : Option Addr) (l c : Nat) (ls : List Win) (B : Option Addr) (k d : Nat) (ms : List Win) (q : Nat) (w : World) (h : ToldW w A l c ls) (h2 : ToldW w B k d ms) (hk2 : k ≤ 200) (hq : q = (Mu.turn ls ms false).length) :
    Calls Try.prog 11 #[.slice A l c, .slice B k d] w (GivesW w q (Mu.turn ls ms false) (Mu.turnE ls ms false)) := by
  have K := Lib.hid (RTurn_any A l c ls B k d ms false q w h h2 hk2 hq)
  obtain ⟨er, her⟩ : ∃ er, er = Mu.turnE ls ms false := ⟨_, rfl⟩
  rw [← her] at K ⊢
  clear h h2 hk2 hq her
  go_enter Try.func11, Try.ntmps11
  go_wp2_with fail
  refine K.out.mono ?_
  rintro e w1 ⟨A3, c3, rfl, hO, hB⟩
  have HR : Hid (GivesW w q (Mu.turn ls ms false) er (.returned (.tuple #[.slice A3 q c3, .int .i64 er])) w1) := Lib.hid ⟨A3, c3, rfl, hO, hB⟩
  clear hO hB
  go_wp2
  go_ret2
  exact HR.out

/-- What the law asks of the reference. -/
structure MuteRK : Prop where
  own : ∀ (A : Option Addr) (l cap : Nat) (ls : List Win) (w : World) (_hl : l = ls.length) (_hA : WinsAt w w.heap.size A ls) (_hnil : A = none → cap = 0) (_hf : l ≤ 1000), Calls Try.prog 7 #[.slice A l cap] w (OwnedW w l ls)
  add : ∀ (A : Option Addr) (l c : Nat) (ls : List Win) (B : Option Addr) (k d : Nat) (ms : List Win) (q : Nat) (w : World) (_h : ToldW w A l c ls) (_h2 : ToldW w B k d ms) (_hk2 : k ≤ 200) (_hq : q = (Mu.turn ls ms true).length), Calls Try.prog 9 #[.slice A l c, .slice B k d] w (GivesW w q (Mu.turn ls ms true) (Mu.turnE ls ms true))
  cut : ∀ (A : Option Addr) (l c : Nat) (ls : List Win) (B : Option Addr) (k d : Nat) (ms : List Win) (q : Nat) (w : World) (_h : ToldW w A l c ls) (_h2 : ToldW w B k d ms) (_hk2 : k ≤ 200) (_hq : q = (Mu.turn ls ms false).length), Calls Try.prog 11 #[.slice A l c, .slice B k d] w (GivesW w q (Mu.turn ls ms false) (Mu.turnE ls ms false))
  till : ∀ (A : Option Addr) (l c : Nat) (ls : List Win) (b t : Int) (w : World) (_hl : l = ls.length) (_hA : WinsAt w w.heap.size A ls) (_hr : Roomy A ls c) (_hf : l ≤ 1000), Calls Try.prog 13 #[.slice A l c, .int .i64 b, .int .i64 t] w fun e w' => e = .returned (.tuple #[.int .i64 (Mu.tillN ls b t), .bool (Mu.has ls b t)]) ∧ w' = w
  is : ∀ (A : Option Addr) (l c : Nat) (ls : List Win) (w : World) (_hl : l = ls.length) (_hA : WinsAt w w.heap.size A ls) (_hf : l ≤ 1000), Calls Try.prog 17 #[.slice A l c] w fun e w' => e = .returned (.bool (Mu.isL ls)) ∧ Below w.heap.size w w'
  has : ∀ (A : Option Addr) (l c : Nat) (ls : List Win) (b t : Int) (w : World) (_hl : l = ls.length) (_hA : WinsAt w w.heap.size A ls) (_hf : l ≤ 1000), Calls Try.prog 19 #[.slice A l c, .int .i64 b, .int .i64 t] w fun e w' => e = .returned (.bool (Mu.has ls b t)) ∧ w' = w
  total : ∀ (A : Option Addr) (l c : Nat) (ls : List Win) (b : Int) (w : World) (_hl : l = ls.length) (_hA : WinsAt w w.heap.size A ls) (_hf : l ≤ 1000), Calls Try.prog 21 #[.slice A l c, .int .i64 b] w fun e w' => e = .returned (.int .i64 (Mu.total ls b)) ∧ Below w.heap.size w w'
end Go.Proofs.Ythbkfjnpdcfepaa
