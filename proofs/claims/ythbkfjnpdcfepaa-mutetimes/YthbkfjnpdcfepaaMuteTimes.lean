/-
  Layer 10 (mute): the law MuteTimes, over the contracts (printed by tools/gen-mutetimes.py).
-/
import Derived.Test.YthbkfjnpdcfepaaMuteK
namespace Go.Proofs.Ythbkfjnpdcfepaa
set_option maxRecDepth 10000
open Go.RowKit

theorem muteTimes_far (A : Option Addr) (l c : Nat) (B : Option Addr) (k d : Nat) (b t : Int) (w : World) (hf : 110 < l ∨ (l ≤ 110 ∧ 30 < k)) :
    Calls Try.prog 4 #[.slice A l c, .slice B k d, .int .i64 b, .int .i64 t] w fun e w' => e = .returned (.bool true) ∧ Below w.heap.size w w' := by
  rcases hf with hf | ⟨hf, hk⟩
  · have i1 : ((110 : Int) < (l : Int)) = True := eq_true (by omega)
    clear hf
    go_enter Try.func4, Try.ntmps4
    go_wp2
    go_ret
    exact ⟨rfl, Below.refl _ _⟩
  · have i1 : ((110 : Int) < (l : Int)) = False := eq_false (by omega)
    have i2 : ((30 : Int) < (k : Int)) = True := eq_true (by omega)
    clear hf hk
    go_enter Try.func4, Try.ntmps4
    go_wp2
    go_ret
    exact ⟨rfl, Below.refl _ _⟩

set_option maxHeartbeats 4000000 in
theorem muteTimes_ok (HM : Hid MuteK) (HC : Hid MutedK) (A : Option Addr) (l c : Nat) (ls : List Win) (B : Option Addr) (k d : Nat) (ms : List Win) (b t : Int) (w : World) (hl : l = ls.length) (hk : k = ms.length) (hA : WinsAt w w.heap.size A ls) (h0 : Roomy A ls c) (hB0 : WinsAt w w.heap.size B ms) (h1 : Roomy B ms d) (hf : l ≤ 110) (hf2 : k ≤ 30) :
    Calls Try.prog 4 #[.slice A l c, .slice B k d, .int .i64 b, .int .i64 t] w fun e w' => e = .returned (.bool true) ∧ Below w.heap.size w w' := by
  have HS := Lib.hid (((St.start w).more (winF A ls) hA).more (winF B ms) hB0)
  have i1 : ((110 : Int) < (l : Int)) = False := eq_false (by omega)
  have i2 : ((30 : Int) < (k : Int)) = False := eq_false (by omega)
  obtain ⟨TA, hTA⟩ : ∃ T, T = Mu.turn ls ms true := ⟨_, rfl⟩
  obtain ⟨TC, hTC⟩ : ∃ T, T = Mu.turn ls ms false := ⟨_, rfl⟩
  obtain ⟨ea, hea⟩ : ∃ e, e = Mu.turnE ls ms true := ⟨_, rfl⟩
  obtain ⟨ec, hec⟩ : ∃ e, e = Mu.turnE ls ms false := ⟨_, rfl⟩
  obtain ⟨qa, hqa⟩ : ∃ q, q = TA.length := ⟨_, rfl⟩
  obtain ⟨qc, hqc⟩ : ∃ q, q = TC.length := ⟨_, rfl⟩
  have hla : qa ≤ 1000 := by rw [hqa, hTA]; have := Mu.turn_len ls ms true; omega
  have hlc : qc ≤ 1000 := by rw [hqc, hTC]; have := Mu.turn_len ls ms false; omega
  obtain ⟨z1, hz1⟩ : ∃ z, z = Mu.has ls b t := ⟨_, rfl⟩
  obtain ⟨z2, hz2⟩ : ∃ z, z = Mu.has ms b t := ⟨_, rfl⟩
  have Ka : Hid (ea = 0 → Mu.isL TA = true ∧ Mu.has TA b t = (z1 || z2)) := Lib.hid (fun h => by
    rw [hea] at h
    obtain ⟨a1, a2⟩ := Mu.turn_spec h
    rw [hTA, hz1, hz2]
    exact ⟨a1, a2 b t⟩)
  have Kc : Hid (ec = 0 → Mu.isL TC = true ∧ Mu.has TC b t = (z1 && !z2)) := Lib.hid (fun h => by
    rw [hec] at h
    obtain ⟨a1, a2⟩ := Mu.turn_spec h
    rw [hTC, hz1, hz2]
    exact ⟨a1, a2 b t⟩)
  have G1 := fun (W : World) (h : WinsAt W W.heap.size A ls) (h' : WinsAt W W.heap.size B ms) => Lib.hid (by have z := HM.out.add A l c ls B k d ms qa W ⟨hl, h, h0, by omega⟩ ⟨hk, h', h1, by omega⟩ (by rw [hqa, hTA]); rw [← hTA, ← hea] at z; exact z)
  have G2 := fun (W : World) (h : WinsAt W W.heap.size A ls) (h' : WinsAt W W.heap.size B ms) => Lib.hid (by have z := HM.out.cut A l c ls B k d ms qc W ⟨hl, h, h0, by omega⟩ ⟨hk, h', h1, by omega⟩ (by rw [hqc, hTC]); rw [← hTC, ← hec] at z; exact z)
  have G3 := fun (W : World) (h : WinsAt W W.heap.size A ls) => Lib.hid (by have z := HM.out.has A l c ls b t W ⟨hl, h, h0, by omega⟩; rw [← hz1] at z; exact z)
  have G4 := fun (W : World) (h : WinsAt W W.heap.size B ms) => Lib.hid (by have z := HM.out.has B k d ms b t W ⟨hk, h, h1, by omega⟩; rw [← hz2] at z; exact z)
  have I1 := fun (W : World) (A2 : Option Addr) (c2 : Nat) (hz : Mu.isL TA = true) (h : WinsAt W W.heap.size A2 TA) (hn : Roomy A2 TA c2) => Lib.hid (by have z := HM.out.is A2 qa c2 TA W ⟨hqa, h, hn, hla⟩; rw [hz] at z; exact z)
  have I2 := fun (W : World) (A2 : Option Addr) (c2 : Nat) (hz : Mu.isL TC = true) (h : WinsAt W W.heap.size A2 TC) (hn : Roomy A2 TC c2) => Lib.hid (by have z := HM.out.is A2 qc c2 TC W ⟨hqc, h, hn, hlc⟩; rw [hz] at z; exact z)
  have H1 := fun (W : World) (A2 : Option Addr) (c2 : Nat) (y : Bool) (hz : Mu.has TA b t = y) (h : WinsAt W W.heap.size A2 TA) (hn : Roomy A2 TA c2) => Lib.hid (by have z := HM.out.has A2 qa c2 TA b t W ⟨hqa, h, hn, hla⟩; rw [hz] at z; exact z)
  have H2 := fun (W : World) (A2 : Option Addr) (c2 : Nat) (y : Bool) (hz : Mu.has TC b t = y) (h : WinsAt W W.heap.size A2 TC) (hn : Roomy A2 TC c2) => Lib.hid (by have z := HM.out.has A2 qc c2 TC b t W ⟨hqc, h, hn, hlc⟩; rw [hz] at z; exact z)
  clear hA h0 hB0 h1 hf hf2 hl hk hTA hTC hea hec hqa hqc hla hlc hz1 hz2
  go_enter Try.func4, Try.ntmps4
  go_wp2_with fail
  refine ((G1 _ (HS.out.fact 1 rfl) (HS.out.fact 0 rfl)).out).mono ?_
  rintro e w1 ⟨A1, c1, rfl, hO, hB⟩
  replace HS := Lib.hid ((HS.out.on hB).more (winF A1 TA) hO.rows.1)
  have N1 := Lib.hid hO.rows.2
  clear hO hB G1
  go_wp2_with fail
  refine ((G2 _ (HS.out.fact 2 rfl) (HS.out.fact 1 rfl)).out).mono ?_
  rintro e w2 ⟨A2, c2, rfl, hO, hB⟩
  replace HS := Lib.hid ((HS.out.on hB).more (winF A2 TC) hO.rows.1)
  have N2 := Lib.hid hO.rows.2
  clear hO hB G2
  go_wp2_with fail
  refine ((G3 _ (HS.out.fact 3 rfl)).out).mono ?_
  rintro e w3 ⟨rfl, hB⟩
  replace HS := Lib.hid (HS.out.on hB)
  clear hB G3
  go_wp2_with fail
  refine ((G4 _ (HS.out.fact 2 rfl)).out).mono ?_
  rintro e w4 ⟨rfl, hB⟩
  replace HS := Lib.hid (HS.out.on hB)
  clear hB G4
  by_cases ha : ea = 0
  · obtain ⟨x1, x2⟩ := Ka.out ha
    have i3 := fun (W : World) h => I1 W A1 c1 x1 h N1.out
    have i4 := fun (W : World) h => H1 W A1 c1 _ x2 h N1.out
    clear x1 x2
    subst ha
    by_cases hc : ec = 0
    · obtain ⟨y1, y2⟩ := Kc.out hc
      have i5 := fun (W : World) h => I2 W A2 c2 y1 h N2.out
      have i6 := fun (W : World) h => H2 W A2 c2 _ y2 h N2.out
      clear y1 y2 I1 I2 H1 H2 Ka Kc
      subst hc
      cases z1 <;> cases z2
      all_goals
        go_wp2_with fail
        refine (i3 _ (HS.out.fact 1 rfl)).out.mono ?_
        rintro e w5 ⟨rfl, hB⟩
        replace HS := Lib.hid (HS.out.on hB)
        clear hB i3
        go_wp2_with fail
        refine (i4 _ (HS.out.fact 1 rfl)).out.mono ?_
        rintro e w6 ⟨rfl, hB⟩
        replace HS := Lib.hid (HS.out.on hB)
        clear hB i4
        go_wp2_with fail
        refine (HC.out _).mono ?_
        rintro e w7 ⟨rfl, hB⟩
        replace HS := Lib.hid (HS.out.on hB)
        clear hB
        go_wp2_with fail
        refine (i5 _ (HS.out.fact 0 rfl)).out.mono ?_
        rintro e w8 ⟨rfl, hB⟩
        replace HS := Lib.hid (HS.out.on hB)
        clear hB i5
        go_wp2_with fail
        refine (i6 _ (HS.out.fact 0 rfl)).out.mono ?_
        rintro e w9 ⟨rfl, hB⟩
        replace HS := Lib.hid (HS.out.on hB)
        clear hB i6
        go_wp2
        go_ret
        exact ⟨rfl, HS.out.below⟩
    · have b1 : (ec == 0) = false := by rw [beq_eq_false_iff_ne]; exact hc
      have b2 : (ec != 0) = true := by rw [bne, b1]; rfl
      clear I1 I2 H1 H2 Ka Kc hc
      cases z1 <;> cases z2
      all_goals
        go_wp2_with fail
        refine (i3 _ (HS.out.fact 1 rfl)).out.mono ?_
        rintro e w5 ⟨rfl, hB⟩
        replace HS := Lib.hid (HS.out.on hB)
        clear hB i3
        go_wp2_with fail
        refine (i4 _ (HS.out.fact 1 rfl)).out.mono ?_
        rintro e w6 ⟨rfl, hB⟩
        replace HS := Lib.hid (HS.out.on hB)
        clear hB i4
        go_wp2_with fail
        refine (HC.out _).mono ?_
        rintro e w7 ⟨rfl, hB⟩
        replace HS := Lib.hid (HS.out.on hB)
        clear hB
        go_wp2
        go_ret
        exact ⟨rfl, HS.out.below⟩
  · have a1 : (ea == 0) = false := by rw [beq_eq_false_iff_ne]; exact ha
    clear ha
    by_cases hc : ec = 0
    · obtain ⟨y1, y2⟩ := Kc.out hc
      have i5 := fun (W : World) h => I2 W A2 c2 y1 h N2.out
      have i6 := fun (W : World) h => H2 W A2 c2 _ y2 h N2.out
      clear y1 y2 I1 I2 H1 H2 Ka Kc
      subst hc
      cases z1 <;> cases z2
      all_goals
        go_wp2_with fail
        refine (HC.out _).mono ?_
        rintro e w7 ⟨rfl, hB⟩
        replace HS := Lib.hid (HS.out.on hB)
        clear hB
        go_wp2_with fail
        refine (i5 _ (HS.out.fact 0 rfl)).out.mono ?_
        rintro e w8 ⟨rfl, hB⟩
        replace HS := Lib.hid (HS.out.on hB)
        clear hB i5
        go_wp2_with fail
        refine (i6 _ (HS.out.fact 0 rfl)).out.mono ?_
        rintro e w9 ⟨rfl, hB⟩
        replace HS := Lib.hid (HS.out.on hB)
        clear hB i6
        go_wp2
        go_ret
        exact ⟨rfl, HS.out.below⟩
    · have b1 : (ec == 0) = false := by rw [beq_eq_false_iff_ne]; exact hc
      have b2 : (ec != 0) = true := by rw [bne, b1]; rfl
      clear I1 I2 H1 H2 Ka Kc hc
      cases z1 <;> cases z2
      all_goals
        go_wp2_with fail
        refine (HC.out _).mono ?_
        rintro e w7 ⟨rfl, hB⟩
        replace HS := Lib.hid (HS.out.on hB)
        clear hB
        go_wp2
        go_ret
        exact ⟨rfl, HS.out.below⟩
theorem muteTimes_walk (HM : Hid MuteK) (HC : Hid MutedK) (A : Option Addr) (c : Nat) (ls : List Win) (B : Option Addr) (d : Nat) (ms : List Win) (b t : Int) (w : World) (hA : WinsAt w w.heap.size A ls) (hB0 : WinsAt w w.heap.size B ms) (h0 : Roomy A ls c) (h1 : Roomy B ms d) :
    Calls Try.prog 4 #[.slice A ls.length c, .slice B ms.length d, .int .i64 b, .int .i64 t] w fun e w' => e = .returned (.bool true) ∧ Below w.heap.size w w' := by
  by_cases hf : 110 < ls.length
  · exact muteTimes_far A ls.length c B ms.length d b t w (Or.inl hf)
  by_cases hk : 30 < ms.length
  · exact muteTimes_far A ls.length c B ms.length d b t w (Or.inr ⟨by omega, hk⟩)
  exact muteTimes_ok HM HC A ls.length c ls B ms.length d ms b t w rfl rfl hA h0 hB0 h1 (by omega) (by omega)
end Go.Proofs.Ythbkfjnpdcfepaa
