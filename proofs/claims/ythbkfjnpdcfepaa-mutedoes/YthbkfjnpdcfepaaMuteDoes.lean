/-
  The walk of the law MuteDoes.
-/
import Derived.Test.YthbkfjnpdcfepaaMuteR
import Derived.Test.YthbkfjnpdcfepaaRefMute7
namespace Go.Proofs.Ythbkfjnpdcfepaa
set_option maxRecDepth 10000
open Go.RowKit

/-- A row of one's own, its windows turned: nothing but its block. -/
def SmW (w : World) (A : Option Addr) (n : Nat) (wr : World) : Prop :=
  (n = 0 ∧ wr = w) ∨ ∃ g cur t, A = some ⟨g, 0, none⟩ ∧ w.grownBy wr (some g) ∧ wr.heap[g]? = some (.cells cur t (0, 0)) ∧ n * 3 ≤ cur.size
theorem SmW.start {w : World} {base n c : Nat} {A : Option Addr} {ls : List Win} (h : OwnW w base (.slice A n c) ls) : SmW w A n w := by
  rcases h.2 with ⟨e, h0⟩ | ⟨g, cap, cur, e, _, hg, hcap, _, hs, _⟩
  · injection e with _ e2
    exact Or.inl ⟨e2, rfl⟩
  · injection e with e1 e2 e3
    subst e1
    exact Or.inr ⟨g, cur, _, rfl, grown_refl _ _, hg, by omega⟩
theorem SmW.at {w wr : World} {A : Option Addr} {n i : Nat} (h : SmW w A n wr) (hi : i < n) :
    ∃ g, A = some ⟨g, 0, none⟩ ∧ ∃ x, wr.cell? ⟨g, i * 3, none⟩ = some x ∧ wr.frozen? ⟨g, i * 3, none⟩ = false ∧ ∀ v, SmW w A n (wr.setCell ⟨g, i * 3, none⟩ v) := by
  rcases h with ⟨h0, _⟩ | ⟨g, cur, t, rfl, hg, hb, hs⟩
  · omega
  · refine ⟨g, rfl, cur[i * 3]'(by omega), ?_, frozen_of_row wr g _ _ _ hb, fun v => Or.inr ⟨g, _, t, rfl, grown_setCell hg (i * 3) v, heap_setCell_same wr g (i * 3) _ _ _ hb, by simpa using hs⟩⟩
    simp only [World.cell?, hb]
    exact Array.getElem?_eq_getElem (by omega)
/-- What is below its row's block stays. -/
theorem SmW.below {w wr : World} {A : Option Addr} {n c base B : Nat} {ls : List Win} (h : SmW w A n wr) (ho : OwnW w base (.slice A n c) ls) (hB : B ≤ base) (hw : B ≤ w.heap.size) : Below B w wr := by
  rcases h with ⟨_, rfl⟩ | ⟨g, cur, t, rfl, hg, hb, hs⟩
  · exact Below.refl _ _
  · have hge := ho.ge g rfl
    exact ⟨hg.os, hg.tape, hg.output, hg.size, fun k hk => hg.block k (by omega) (fun e => by cases e; omega)⟩
/-- .. and so does a row that was made behind it. -/
theorem SmW.row {w wr : World} {A : Option Addr} {n c base B : Nat} {v : Value} {ls ms : List Win} (h : SmW w A n wr) (ho : OwnW w base (.slice A n c) ls) (ht : ∀ g, A = some ⟨g, 0, none⟩ → g < B) (hv : OwnW w B v ms) : OwnW wr B v ms := by
  rcases h with ⟨_, rfl⟩ | ⟨g, cur, t, rfl, hg, hb, hs⟩
  · exact hv
  · exact hv.aside hg (ht g rfl)
theorem OwnW.block {w : World} {base n c g : Nat} {ls : List Win} (h : OwnW w base (.slice (some ⟨g, 0, none⟩) n c) ls) : g < w.heap.size := (World.ownsRow.lt h g rfl).2

set_option maxHeartbeats 4000000 in
theorem muteDoes_ok (HM : Hid MuteK) (HR : Hid MuteRK) (HT : Hid WSameK) (HC : Hid MutedK) (A0 : Option Addr) (l c : Nat) (ls : List Win) (B0 : Option Addr) (k d : Nat) (ms : List Win) (b t : Int) (w : World)
    (hl : l = ls.length) (hk : k = ms.length) (hA : WinsAt w w.heap.size A0 ls) (h0 : Roomy A0 ls c) (hB0 : WinsAt w w.heap.size B0 ms) (h1 : Roomy B0 ms d) (hf : l ≤ 110) (hg : k ≤ 30) :
    Calls Try.prog 3 #[.slice A0 l c, .slice B0 k d, .int .i64 b, .int .i64 t] w fun e w' => e = .returned (.bool true) ∧ Below w.heap.size w w' := by
  have i1 : ((l : Int) > 110) = False := eq_false (by omega)
  have i2 : ((k : Int) > 30) = False := eq_false (by omega)
  have KO := HR.out.own A0 l c ls w hl hA h0.1 (by omega)
  have T0 : Hid (ToldW w A0 l c ls) := Lib.hid ⟨hl, hA, h0, by omega⟩
  have T1 : Hid (ToldW w B0 k d ms) := Lib.hid ⟨hk, hB0, h1, by omega⟩
  have Hk : Hid (k ≤ 30) := Lib.hid hg
  have Hl : Hid (l ≤ 110) := Lib.hid hf
  clear hl hk hA h0 hB0 h1 hf hg
  go_enter Try.func3, Try.ntmps3
  go_wp2_with fail
  refine KO.mono ?_
  rintro e w1 ⟨A1, c1, rfl, hO1, hB1⟩
  have HO1 : Hid (ToldW w1 A1 l c1 ls) := Lib.hid ⟨T0.out.1, hO1.rows.1, hO1.rows.2, by have := Hl.out; omega⟩
  have HBa : Hid (Below w.heap.size w w1) := Lib.hid hB1
  have T1' := T1.out.on hB1
  have KO2 := HR.out.own B0 k d ms w1 T1'.1 T1'.2.1 T1'.2.2.1.1 T1'.2.2.2
  clear KO hO1 hB1 T1'
  go_wp2_with fail
  refine KO2.mono ?_
  rintro e w2 ⟨A2, c2, rfl, hO2, hB2⟩
  have HMo : Hid (ToldW w2 A2 k c2 ms) := Lib.hid ⟨T1.out.1, hO2.rows.1, hO2.rows.2, by have := Hk.out; omega⟩
  have HLo := Lib.hid (HO1.out.on hB2)
  have HBw2 : Hid (Below w.heap.size w w2) := Lib.hid (below2 HBa.out hB2)
  have HL := Lib.hid (T0.out.on HBw2.out)
  have HMm := Lib.hid (T1.out.on HBw2.out)
  obtain ⟨t1, ht1⟩ : ∃ t1, t1 = Mu.turn ls ms true := ⟨_, rfl⟩
  obtain ⟨t2, ht2⟩ : ∃ t2, t2 = Mu.turn ls ms false := ⟨_, rfl⟩
  obtain ⟨q1, hq1⟩ : ∃ q, q = t1.length := ⟨_, rfl⟩
  obtain ⟨q2, hq2⟩ : ∃ q, q = t2.length := ⟨_, rfl⟩
  obtain ⟨e1, he1⟩ : ∃ e, e = Mu.turnE ls ms true := ⟨_, rfl⟩
  obtain ⟨e2, he2⟩ : ∃ e, e = Mu.turnE ls ms false := ⟨_, rfl⟩
  obtain ⟨n1, hn1⟩ : ∃ n, n = Mu.tillN ls b t := ⟨_, rfl⟩
  obtain ⟨y1, hy1⟩ : ∃ y, y = Mu.has ls b t := ⟨_, rfl⟩
  obtain ⟨y2, hy2⟩ : ∃ y, y = Mu.isL ls := ⟨_, rfl⟩
  obtain ⟨n2, hn2⟩ : ∃ n, n = Mu.total ls b := ⟨_, rfl⟩
  have Hq1m : Hid (q1 ≤ 100) := Lib.hid (by rw [hq1, ht1]; exact Mu.turn_len _ _ _)
  have Hq2m : Hid (q2 ≤ 100) := Lib.hid (by rw [hq2, ht2]; exact Mu.turn_len _ _ _)
  have Ht1 := Lib.hid ht1
  have Ht2 := Lib.hid ht2
  have Hq1 := Lib.hid hq1
  have Hq2 := Lib.hid hq2
  have He1 := Lib.hid he1
  have He2 := Lib.hid he2
  have Hn1 := Lib.hid hn1
  have Hn2 := Lib.hid hn2
  have Hy1 := Lib.hid hy1
  have Hy2 := Lib.hid hy2
  clear ht1 ht2 hq1 hq2 he1 he2 hn1 hn2 hy1 hy2 KO2 hO2 hB2 HO1 HBa T0 T1
  have KA : Hid (∀ W, Below w2.heap.size w2 W → Calls Try.prog 8 #[.slice A0 l c, .slice B0 k d] W (GivesW W q1 t1 e1)) := Lib.hid (fun W hB => by have h := HM.out.add A0 l c ls B0 k d ms q1 W (HL.out.on hB) (HMm.out.on hB) (by rw [Hq1.out, Ht1.out]); rw [← Ht1.out, ← He1.out] at h; exact h)
  have KB : Hid (∀ W, Below w2.heap.size w2 W → Calls Try.prog 9 #[.slice A1 l c1, .slice A2 k c2] W (GivesW W q1 t1 e1)) := Lib.hid (fun W hB => by have h := HR.out.add A1 l c1 ls A2 k c2 ms q1 W (HLo.out.on hB) (HMo.out.on hB) (by have := Hk.out; omega) (by rw [Hq1.out, Ht1.out]); rw [← Ht1.out, ← He1.out] at h; exact h)
  have KC : Hid (∀ W, Below w2.heap.size w2 W → Calls Try.prog 10 #[.slice A0 l c, .slice B0 k d] W (GivesW W q2 t2 e2)) := Lib.hid (fun W hB => by have h := HM.out.cut A0 l c ls B0 k d ms q2 W (HL.out.on hB) (HMm.out.on hB) (by rw [Hq2.out, Ht2.out]); rw [← Ht2.out, ← He2.out] at h; exact h)
  have KD : Hid (∀ W, Below w2.heap.size w2 W → Calls Try.prog 11 #[.slice A1 l c1, .slice A2 k c2] W (GivesW W q2 t2 e2)) := Lib.hid (fun W hB => by have h := HR.out.cut A1 l c1 ls A2 k c2 ms q2 W (HLo.out.on hB) (HMo.out.on hB) (by have := Hk.out; omega) (by rw [Hq2.out, Ht2.out]); rw [← Ht2.out, ← He2.out] at h; exact h)
  have KT : Hid (∀ W, Below w2.heap.size w2 W → Calls Try.prog 12 #[.slice A0 l c, .int .i64 b, .int .i64 t] W (fun e w' => e = .returned (.tuple #[.int .i64 n1, .bool y1]) ∧ Below W.heap.size W w')) := Lib.hid (fun W hB => by have h := HM.out.till A0 l c ls b t W (HL.out.on hB); rw [← Hn1.out, ← Hy1.out] at h; exact h)
  have KU : Hid (∀ W, Below w2.heap.size w2 W → Calls Try.prog 13 #[.slice A1 l c1, .int .i64 b, .int .i64 t] W (fun e w' => e = .returned (.tuple #[.int .i64 n1, .bool y1]) ∧ w' = W)) := Lib.hid (fun W hB => by have h := HR.out.till A1 l c1 ls b t W (HLo.out.on hB).1 (HLo.out.on hB).2.1 (HLo.out.on hB).2.2.1 (HLo.out.on hB).2.2.2; rw [← Hn1.out, ← Hy1.out] at h; exact h)
  have KI : Hid (∀ W, Below w2.heap.size w2 W → Calls Try.prog 16 #[.slice A0 l c] W (fun e w' => e = .returned (.bool y2) ∧ Below W.heap.size W w')) := Lib.hid (fun W hB => by have h := HM.out.is A0 l c ls W (HL.out.on hB); rw [← Hy2.out] at h; exact h)
  have KJ : Hid (∀ W, Below w2.heap.size w2 W → Calls Try.prog 17 #[.slice A1 l c1] W (fun e w' => e = .returned (.bool y2) ∧ Below W.heap.size W w')) := Lib.hid (fun W hB => by have h := HR.out.is A1 l c1 ls W (HLo.out.on hB).1 (HLo.out.on hB).2.1 (HLo.out.on hB).2.2.2; rw [← Hy2.out] at h; exact h)
  have KH : Hid (∀ W, Below w2.heap.size w2 W → Calls Try.prog 18 #[.slice A0 l c, .int .i64 b, .int .i64 t] W (fun e w' => e = .returned (.bool y1) ∧ Below W.heap.size W w')) := Lib.hid (fun W hB => by have h := HM.out.has A0 l c ls b t W (HL.out.on hB); rw [← Hy1.out] at h; exact h)
  have KG : Hid (∀ W, Below w2.heap.size w2 W → Calls Try.prog 19 #[.slice A1 l c1, .int .i64 b, .int .i64 t] W (fun e w' => e = .returned (.bool y1) ∧ w' = W)) := Lib.hid (fun W hB => by have h := HR.out.has A1 l c1 ls b t W (HLo.out.on hB).1 (HLo.out.on hB).2.1 (HLo.out.on hB).2.2.2; rw [← Hy1.out] at h; exact h)
  have KX : Hid (∀ W, Below w2.heap.size w2 W → Calls Try.prog 20 #[.slice A0 l c, .int .i64 b] W (fun e w' => e = .returned (.int .i64 n2) ∧ Below W.heap.size W w')) := Lib.hid (fun W hB => by have h := HM.out.total A0 l c ls b W (HL.out.on hB); rw [← Hn2.out] at h; exact h)
  have KY : Hid (∀ W, Below w2.heap.size w2 W → Calls Try.prog 21 #[.slice A1 l c1, .int .i64 b] W (fun e w' => e = .returned (.int .i64 n2) ∧ Below W.heap.size W w')) := Lib.hid (fun W hB => by have h := HR.out.total A1 l c1 ls b W (HLo.out.on hB).1 (HLo.out.on hB).2.1 (HLo.out.on hB).2.2.2; rw [← Hn2.out] at h; exact h)
  have KS : Hid (∀ W, Below w2.heap.size w2 W → Calls Try.prog 14 #[.slice A0 l c, .slice A1 l c1] W (fun e w' => e = .returned (.bool true) ∧ Below W.heap.size W w')) := Lib.hid (fun W hB => HT.out A0 A1 l c c1 ls W (HL.out.on hB).1 (HL.out.on hB).2.1 (HLo.out.on hB).2.1 (HL.out.on hB).2.2.2)
  have KV : Hid (∀ W, Below w2.heap.size w2 W → Calls Try.prog 14 #[.slice B0 k d, .slice A2 k c2] W (fun e w' => e = .returned (.bool true) ∧ Below W.heap.size W w')) := Lib.hid (fun W hB => HT.out B0 A2 k d c2 ms W (HMm.out.on hB).1 (HMm.out.on hB).2.1 (HMo.out.on hB).2.1 (HMm.out.on hB).2.2.2)
  have z1 : (e1 == e1) = true := beq_self_eq_true e1
  have z2 : (e2 == e2) = true := beq_self_eq_true e2
  have z3 : (n1 == n1) = true := beq_self_eq_true n1
  have z4 : (y1 == y1) = true := beq_self_eq_true y1
  have z5 : (y2 == y2) = true := beq_self_eq_true y2
  have z6 : (n2 == n2) = true := beq_self_eq_true n2
  clear HL HLo HMm HMo HM HR Hl Hk Ht1 Ht2 He1 He2 Hn1 Hn2 Hy1 Hy2
  have HB0 : Hid (Below w2.heap.size w2 w2) := Lib.hid (Below.refl _ _)
  have HBw2' := HBw2
  clear HBw2
  go_wp2_with fail
  refine (KA.out w2 HB0.out).mono ?_
  rintro e w3 ⟨A3, c3, rfl, hO3, hB⟩
  have O3 := Lib.hid hO3
  have HBw3 := Lib.hid (HB0.out.trans (hB.mono HB0.out.size))
  have Zw3 : Hid (Below w2.heap.size w2 w3) := Lib.hid hB
  clear hB hO3 KA
  go_wp2_with fail
  refine (KB.out w3 HBw3.out).mono ?_
  rintro e w4 ⟨A4, c4, rfl, hO4, hB⟩
  have O4 := Lib.hid hO4
  have HBw4 := Lib.hid (HBw3.out.trans (hB.mono HBw3.out.size))
  have Zw4 : Hid (Below w3.heap.size w3 w4) := Lib.hid hB
  clear hB hO4 KB
  go_wp2_with fail
  refine (KC.out w4 HBw4.out).mono ?_
  rintro e w5 ⟨A5, c5, rfl, hO5, hB⟩
  have O5 := Lib.hid hO5
  have HBw5 := Lib.hid (HBw4.out.trans (hB.mono HBw4.out.size))
  have Zw5 : Hid (Below w4.heap.size w4 w5) := Lib.hid hB
  clear hB hO5 KC
  go_wp2_with fail
  refine (KD.out w5 HBw5.out).mono ?_
  rintro e w6 ⟨A6, c6, rfl, hO6, hB⟩
  have O6 := Lib.hid hO6
  have HBw6 := Lib.hid (HBw5.out.trans (hB.mono HBw5.out.size))
  have Zw6 : Hid (Below w5.heap.size w5 w6) := Lib.hid hB
  clear hB hO6 KD
  go_wp2_with fail
  refine (KT.out w6 HBw6.out).mono ?_
  rintro e w7 ⟨rfl, hB⟩
  have HBw7 := Lib.hid (HBw6.out.trans (hB.mono HBw6.out.size))
  have Zw7 : Hid (Below w6.heap.size w6 w7) := Lib.hid hB
  clear hB KT
  go_wp2_with fail
  refine (KU.out w7 HBw7.out).mono ?_
  rintro e w7b ⟨rfl, hww⟩
  subst w7b
  clear KU
  have P3 : Hid (OwnW w7 w2.heap.size (.slice A3 q1 c3) t1) := Lib.hid ((((O3.out.below Zw4.out).below Zw5.out).below Zw6.out).below Zw7.out)
  have P4 : Hid (OwnW w7 w3.heap.size (.slice A4 q1 c4) t1) := Lib.hid (((O4.out.below Zw5.out).below Zw6.out).below Zw7.out)
  have P5 : Hid (OwnW w7 w4.heap.size (.slice A5 q2 c5) t2) := Lib.hid ((O5.out.below Zw6.out).below Zw7.out)
  have P6 : Hid (OwnW w7 w5.heap.size (.slice A6 q2 c6) t2) := Lib.hid (O6.out.below Zw7.out)
  have Hblk : Hid (∀ g, A3 = some ⟨g, 0, none⟩ → g < w4.heap.size) := Lib.hid (fun g e => by
    have h := O3.out
    rw [e] at h
    exact Nat.lt_of_lt_of_le h.block Zw4.out.size)
  have KS1 := HT.out A3 A4 q1 c3 c4 t1 w7 Hq1.out P3.out.rows.1 P4.out.rows.1 (by have := Hq1m.out; omega)
  clear O3 O4 O5 O6
  go_wp2_with fail
  refine KS1.mono ?_
  rintro e w8 ⟨rfl, hB⟩
  have Zw8 : Hid (Below w7.heap.size w7 w8) := Lib.hid hB
  have HBw8 := Lib.hid (HBw7.out.trans (hB.mono HBw7.out.size))
  have R5 := P5.out.below hB
  have R6 := P6.out.below hB
  have KS2 := HT.out A5 A6 q2 c5 c6 t2 w8 Hq2.out R5.rows.1 R6.rows.1 (by have := Hq2m.out; omega)
  clear hB KS1 R5 R6
  go_wp2_with fail
  refine KS2.mono ?_
  rintro e w9 ⟨rfl, hB⟩
  have HBw9 := Lib.hid (HBw8.out.trans (hB.mono HBw8.out.size))
  have Q3 : Hid (OwnW w9 w2.heap.size (.slice A3 q1 c3) t1) := Lib.hid ((P3.out.below Zw8.out).below hB)
  have Q5 : Hid (OwnW w9 w4.heap.size (.slice A5 q2 c5) t2) := Lib.hid ((P5.out.below Zw8.out).below hB)
  have S3 := Lib.hid (SmW.start Q3.out)
  have Hw4 : Hid (w2.heap.size ≤ w4.heap.size) := Lib.hid HBw4.out.size
  clear hB KS2 P3 P4 P5 P6 Zw3 Zw4 Zw5 Zw6 Zw7 Zw8 HBw3 HBw5 HBw6 HBw7 HBw8 HT HBw4
  go_wp2_with fail
  go_loopw [24] (fun iv wr => ∃ i : Nat, i ≤ q1 ∧ iv = .int .i64 (i : Int) ∧ Hid (SmW w9 A3 q1 wr)) (fun iv _ => q1 - (intOf iv).toNat)
  case atStart => exact ⟨0, Nat.zero_le _, rfl, S3⟩
  case round =>
    clear S3
    obtain ⟨i, hi, rfl, HS⟩ := hrel
    by_cases hlt : i < q1
    · obtain ⟨g, rfl, x, hx, hfz, hset⟩ := HS.out.at hlt
      have Hi := Lib.hid hlt
      have i1 : (i : Int) < (q1 : Int) := by omega
      have i0 : (0 : Int) ≤ (i : Int) := by omega
      have hn1 : i ≤ 1000 := by have := Hq1m.out; omega
      have Iw : Hid (wrap64 ((i : Int) + 1) = (i : Int) + 1) := Lib.hid (by unfold wrap64; omega)
      have HS2 := Lib.hid (hset (.int .i64 77))
      clear hset hlt hi hn1 HS
      go_wp2
      go_roundw
      case rel => exact ⟨i + 1, Hi.out, by first | rfl | (rw [Iw.out]; rfl), HS2⟩
      case measure => have := Hi.out; (try rw [Iw.out]); simp [intOf]; omega
    · have ik : ((i : Int) < (q1 : Int)) = False := eq_false (by omega)
      clear hi hlt
      have HBa : Hid (Below w2.heap.size w2 wr) := Lib.hid (HBw9.out.trans (HS.out.below Q3.out (Nat.le_refl _) HBw9.out.size))
      have Qc : Hid (OwnW wr w4.heap.size (.slice A5 q2 c5) t2) := Lib.hid (HS.out.row Q3.out Hblk.out Q5.out)
      have S5 := Lib.hid (SmW.start Qc.out)
      clear HS Q3 Q5 Hblk HBw9
      obtain ⟨wa, hwa⟩ : ∃ W, W = wr := ⟨_, rfl⟩
      subst hwa
      go_wp2_with fail
      go_loopw [25] (fun iv wr => ∃ i : Nat, i ≤ q2 ∧ iv = .int .i64 (i : Int) ∧ Hid (SmW wa A5 q2 wr)) (fun iv _ => q2 - (intOf iv).toNat)
      case atStart => exact ⟨0, Nat.zero_le _, rfl, S5⟩
      case round =>
        clear S5
        obtain ⟨i, hi, rfl, HS⟩ := hrel
        by_cases hlt : i < q2
        · obtain ⟨g, rfl, x, hx, hfz, hset⟩ := HS.out.at hlt
          have Hi := Lib.hid hlt
          have i1 : (i : Int) < (q2 : Int) := by omega
          have i0 : (0 : Int) ≤ (i : Int) := by omega
          have hn1 : i ≤ 1000 := by have := Hq2m.out; omega
          have Iw : Hid (wrap64 ((i : Int) + 1) = (i : Int) + 1) := Lib.hid (by unfold wrap64; omega)
          have HS2 := Lib.hid (hset (.int .i64 77))
          clear hset hlt hi hn1 HS
          go_wp2
          go_roundw
          case rel => exact ⟨i + 1, Hi.out, by first | rfl | (rw [Iw.out]; rfl), HS2⟩
          case measure => have := Hi.out; (try rw [Iw.out]); simp [intOf]; omega
        · have ik : ((i : Int) < (q2 : Int)) = False := eq_false (by omega)
          clear hi hlt
          have HBw10 : Hid (Below w2.heap.size w2 wr) := Lib.hid (HBa.out.trans (HS.out.below Qc.out Hw4.out HBa.out.size))
          obtain ⟨w10, hw10⟩ : ∃ W, W = wr := ⟨_, rfl⟩
          rw [← hw10] at HBw10 ⊢
          clear hw10 HS Qc HBa
          go_wp2_with fail
          refine (HC.out w10).mono ?_
          rintro e w11 ⟨rfl, hB⟩
          have HBw11 := Lib.hid (HBw10.out.trans (hB.mono HBw10.out.size))
          clear hB HC
          go_wp2_with fail
          refine (KI.out w11 HBw11.out).mono ?_
          rintro e w12 ⟨rfl, hB⟩
          have HBw12 := Lib.hid (HBw11.out.trans (hB.mono HBw11.out.size))
          have Zw12 : Hid (Below w11.heap.size w11 w12) := Lib.hid hB
          clear hB KI
          go_wp2_with fail
          refine (KJ.out w12 HBw12.out).mono ?_
          rintro e w13 ⟨rfl, hB⟩
          have HBw13 := Lib.hid (HBw12.out.trans (hB.mono HBw12.out.size))
          have Zw13 : Hid (Below w12.heap.size w12 w13) := Lib.hid hB
          clear hB KJ
          go_wp2_with fail
          refine (KH.out w13 HBw13.out).mono ?_
          rintro e w14 ⟨rfl, hB⟩
          have HBw14 := Lib.hid (HBw13.out.trans (hB.mono HBw13.out.size))
          have Zw14 : Hid (Below w13.heap.size w13 w14) := Lib.hid hB
          clear hB KH
          go_wp2_with fail
          refine (KG.out w14 HBw14.out).mono ?_
          rintro e w14b ⟨rfl, hww⟩
          subst w14b
          clear KG
          go_wp2_with fail
          refine (KX.out w14 HBw14.out).mono ?_
          rintro e w15 ⟨rfl, hB⟩
          have HBw15 := Lib.hid (HBw14.out.trans (hB.mono HBw14.out.size))
          have Zw15 : Hid (Below w14.heap.size w14 w15) := Lib.hid hB
          clear hB KX
          go_wp2_with fail
          refine (KY.out w15 HBw15.out).mono ?_
          rintro e w16 ⟨rfl, hB⟩
          have HBw16 := Lib.hid (HBw15.out.trans (hB.mono HBw15.out.size))
          have Zw16 : Hid (Below w15.heap.size w15 w16) := Lib.hid hB
          clear hB KY
          go_wp2_with fail
          refine (KS.out w16 HBw16.out).mono ?_
          rintro e w17 ⟨rfl, hB⟩
          have HBw17 := Lib.hid (HBw16.out.trans (hB.mono HBw16.out.size))
          have Zw17 : Hid (Below w16.heap.size w16 w17) := Lib.hid hB
          clear hB KS
          go_wp2_with fail
          refine (KV.out w17 HBw17.out).mono ?_
          rintro e w18 ⟨rfl, hB⟩
          have HBw18 := Lib.hid (HBw17.out.trans (hB.mono HBw17.out.size))
          have Zw18 : Hid (Below w17.heap.size w17 w18) := Lib.hid hB
          clear hB KV
          go_wp2
          go_ret
          exact ⟨rfl, HBw2'.out.trans (HBw18.out.mono HBw2'.out.size)⟩

theorem muteDoes_far (A : Option Addr) (l c : Nat) (B : Option Addr) (k d : Nat) (b t : Int) (w : World) (h : 110 < l ∨ (l ≤ 110 ∧ 30 < k)) :
    Calls Try.prog 3 #[.slice A l c, .slice B k d, .int .i64 b, .int .i64 t] w fun e w' => e = .returned (.bool true) ∧ Below w.heap.size w w' := by
  rcases h with h | ⟨h, h2⟩
  · have i1 : ((l : Int) > 110) = True := eq_true (by omega)
    clear h
    go_enter Try.func3, Try.ntmps3
    go_wp2
    go_ret
    exact ⟨rfl, Below.refl _ _⟩
  · have i1 : ((l : Int) > 110) = False := eq_false (by omega)
    have i2 : ((k : Int) > 30) = True := eq_true (by omega)
    clear h h2
    go_enter Try.func3, Try.ntmps3
    go_wp2
    go_ret
    exact ⟨rfl, Below.refl _ _⟩
theorem muteDoes_walk (HM : Hid MuteK) (HR : Hid MuteRK) (HT : Hid WSameK) (HC : Hid MutedK) (A : Option Addr) (c : Nat) (ls : List Win) (B : Option Addr) (d : Nat) (ms : List Win) (b t : Int) (w : World) (hA : WinsAt w w.heap.size A ls) (hB0 : WinsAt w w.heap.size B ms) (h0 : Roomy A ls c) (h1 : Roomy B ms d) :
    Calls Try.prog 3 #[.slice A ls.length c, .slice B ms.length d, .int .i64 b, .int .i64 t] w fun e w' => e = .returned (.bool true) ∧ Below w.heap.size w w' := by
  by_cases hf : 110 < ls.length
  · exact muteDoes_far A ls.length c B ms.length d b t w (Or.inl hf)
  by_cases hk : 30 < ms.length
  · exact muteDoes_far A ls.length c B ms.length d b t w (Or.inr ⟨by omega, hk⟩)
  exact muteDoes_ok HM HR HT HC A ls.length c ls B ms.length d ms b t w rfl rfl hA h0 hB0 h1 (by omega) (by omega)
end Go.Proofs.Ythbkfjnpdcfepaa
