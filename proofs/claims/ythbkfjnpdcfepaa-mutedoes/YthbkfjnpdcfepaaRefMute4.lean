/-
  Layer 10 (mute), the reference: Till, Total.
-/
import Derived.Test.YthbkfjnpdcfepaaRefMute3
import Derived.Test.YthbkfjnpdcfepaaMuteI
namespace Go.Proofs.Ythbkfjnpdcfepaa
set_option maxRecDepth 10000
open Go.RowKit

theorem Mu.tillN_drop {ls : List Win} {b t : Int} {k : Nat} (h : k < ls.length) : Mu.tillN (ls.drop k) b t = if Mu.hasW ls[k] b t then ls[k].to else Mu.tillN (ls.drop (k + 1)) b t := by
  rw [List.drop_eq_getElem_cons h]; exact Mu.tillN_cons _ _ _ _

set_option maxHeartbeats 1000000 in
theorem RTill_any (A : Option Addr) (l c : Nat) (ls : List Win) (b t : Int) (w : World) (hl : l = ls.length) (hA : WinsAt w w.heap.size A ls) (hr : Roomy A ls c) (hf : l ≤ 1000) :
    Calls Try.prog 13 #[.slice A l c, .int .i64 b, .int .i64 t] w fun e w' => e = .returned (.tuple #[.int .i64 (Mu.tillN ls b t), .bool (Mu.has ls b t)]) ∧ w' = w := by
  have HA := Lib.hid hA
  have Hl := Lib.hid hl
  have Hf := Lib.hid hf
  have Hc : Hid (l ≤ c) := Lib.hid (by rw [hl]; exact hr.2)
  obtain ⟨r, hr⟩ : ∃ r, r = Mu.has ls b t := ⟨_, rfl⟩
  have Hr := Lib.hid hr
  obtain ⟨n, hn⟩ : ∃ n, n = Mu.tillN ls b t := ⟨_, rfl⟩
  have Hn := Lib.hid hn
  rw [← hr, ← hn]
  clear hA hl hf hr hn
  go_enter Try.func13, Try.ntmps13
  go_wp2
  go_loopw [8] (fun i wr => ∃ k : Nat, k ≤ l ∧ i = .int .i64 (k : Int) ∧ wr = w ∧ Hid (Mu.has (ls.drop k) b t = r ∧ Mu.tillN (ls.drop k) b t = n)) (fun i _ => l - (intOf i).toNat)
  case atStart => exact ⟨0, Nat.zero_le _, rfl, (by first | trivial | rfl), Lib.hid ⟨by rw [Hr.out]; rfl, by rw [Hn.out]; rfl⟩⟩
  case round =>
    obtain ⟨k, hk, rfl, hww, Hg⟩ := hrel
    subst wr
    by_cases hlt : k < l
    · have kl : k < ls.length := by rw [← Hl.out]; exact hlt
      obtain ⟨b0, o0, rfl, hb0, h3⟩ := HA.out k kl
      have Hs := Lib.hid (Mu.has_drop (b := b) (t := t) kl)
      have Ht := Lib.hid (Mu.tillN_drop (b := b) (t := t) kl)
      obtain ⟨x, hx⟩ : ∃ x, x = ls[k] := ⟨_, rfl⟩
      rw [← hx] at h3 Hs Ht
      clear hx
      have d2 := h3.c2
      have i1 : (k : Int) < (l : Int) := by omega
      have i3 : (0 : Int) ≤ (k : Int) := by omega
      have iw : wrap64 ((k : Int) + 1) = (k : Int) + 1 := by have := Hf.out; unfold wrap64; omega
      have i4 : k + 1 ≤ c := by have := Hc.out; omega
      have i5 : (k : Int) + 1 ≤ (c : Int) := by have := Hc.out; omega
      have i6 : (0 : Int) ≤ (k : Int) + 1 := by omega
      have Hk := Lib.hid hlt
      have Ik : Hid (wrap64 ((k : Int) + 1) = (k : Int) + 1) := Lib.hid iw
      have h1 : WinsAt w w.heap.size (some ⟨b0, o0 + k * 3, none⟩) [x] := fun i hi => by
        obtain rfl : i = 0 := by simpa using hi
        refine ⟨b0, o0 + k * 3, rfl, hb0, ?_⟩
        rw [Nat.zero_mul, Nat.add_zero]
        exact h3
      have kH := RHas_any (some ⟨b0, o0 + k * 3, none⟩) 1 (c - k) [x] b t w rfl h1 (by omega)
      have hx1 : Mu.has [x] b t = Mu.hasW x b t := by rw [Mu.has_cons, Mu.has_nil, Bool.or_false]
      rw [hx1] at kH
      clear h1 h3 hx1 kl hk hlt hb0
      cases hb : Mu.hasW x b t with
      | true =>
        rw [hb] at kH
        have He : Hid (r = true ∧ n = x.to) := Lib.hid ⟨by rw [← Hg.out.1, Hs.out, hb]; rfl, by rw [← Hg.out.2, Ht.out, hb]; rfl⟩
        clear hb Hs Ht Hg
        go_wp2_with fail
        refine kH.mono ?_
        rintro e w1 ⟨rfl, rfl⟩
        go_wp2
        go_ret2
        exact ⟨by rw [He.out.1, He.out.2]; rfl, by first | trivial | rfl⟩
      | false =>
        rw [hb] at kH
        have He : Hid (Mu.has (ls.drop (k + 1)) b t = r ∧ Mu.tillN (ls.drop (k + 1)) b t = n) := Lib.hid ⟨by rw [← Hg.out.1, Hs.out, hb]; rfl, by rw [← Hg.out.2, Ht.out, hb]; rfl⟩
        clear hb Hs Ht Hg
        go_wp2_with fail
        refine kH.mono ?_
        rintro e w1 ⟨rfl, rfl⟩
        go_wp2
        go_roundw
        case rel => exact ⟨k + 1, Hk.out, by first | rfl | (rw [Ik.out]; rfl), (by first | trivial | rfl), He⟩
        case measure => have := Hk.out; (try rw [Ik.out]); simp [intOf]; omega
    · have ik : ((k : Int) < (l : Int)) = False := eq_false (by omega)
      have He : Hid (r = false ∧ n = 0) := Lib.hid (by
        have e : ls.drop k = [] := List.drop_eq_nil_of_le (by have := Hl.out; omega)
        exact ⟨by rw [← Hg.out.1, e]; rfl, by rw [← Hg.out.2, e]; rfl⟩)
      clear hk hlt Hg
      go_wp2
      go_ret2
      exact ⟨by rw [He.out.1, He.out.2]; rfl, by first | trivial | rfl⟩

theorem TotS.addR {b n t : Int} {y0 y1 y2 : Int} {rest : List Win} (h : TotS b n t (⟨y0, y1, y2⟩ :: rest)) (hb : y0 = b) : TotS b (n + y2 - y1) t rest ∧ wrap64 (n + y2) = n + y2 ∧ wrap64 (n + y2 - y1) = n + y2 - y1 := by
  have k := h.add hb
  have e : n + y2 - y1 = n + (y2 - y1) := by omega
  have hm := Mu.may_iff.1 (h.mays ⟨y0, y1, y2⟩ (by simp))
  simp only at hm
  have ht := h.top
  have hp := h.pos
  rw [List.length_cons] at ht
  push_cast at ht
  have hn : (0 : Int) ≤ (rest.length : Int) := Int.natCast_nonneg _
  rw [e]
  exact ⟨k.1, by unfold wrap64; omega, k.2.1⟩

set_option maxHeartbeats 2000000 in
theorem RTotal_any (A : Option Addr) (l c : Nat) (ls : List Win) (b : Int) (w : World) (hl : l = ls.length) (hA : WinsAt w w.heap.size A ls) (hf : l ≤ 1000) :
    Calls Try.prog 21 #[.slice A l c, .int .i64 b] w fun e w' => e = .returned (.int .i64 (Mu.total ls b)) ∧ Below w.heap.size w w' := by
  have HA := Lib.hid hA
  have Hl := Lib.hid hl
  have Hf := Lib.hid hf
  obtain ⟨r, hr⟩ : ∃ r, r = Mu.total ls b := ⟨_, rfl⟩
  rw [← hr]
  have K : Hid (∀ W, Below w.heap.size w W → Calls Try.prog 17 #[.slice A l c] W fun e w' => e = .returned (.bool (Mu.isL ls)) ∧ Below W.heap.size W w') := Lib.hid (fun W hB => RIs_any A l c ls W hl (hA.on hB) hf)
  cases hi : Mu.isL ls with
  | false =>
    have Hr : Hid (r = 0) := Lib.hid (by rw [hr]; unfold Mu.total; rw [hi]; rfl)
    have k := K.out w (Below.refl _ _)
    rw [hi] at k
    have hl0 : 0 < l := by
      rcases Nat.eq_zero_or_pos l with h0 | h0
      · have : ls = [] := List.length_eq_zero_iff.1 (by omega)
        rw [this] at hi
        exact absurd hi (by decide)
      · exact h0
    have i1 : (0 : Int) < (l : Int) := by omega
    clear hA hl hf hr K hi
    go_enter Try.func21, Try.ntmps21
    go_wp2_with fail
    go_loopw [5, 6] (fun z i wr => z = .int .i64 0 ∧ i = .int .i64 0 ∧ wr = w) (fun _ _ _ => 0)
    case atStart => exact ⟨rfl, rfl, by first | trivial | rfl⟩
    case round =>
      obtain ⟨rfl, rfl, hww⟩ := hrel
      subst wr
      go_wp2_with fail
      refine k.mono ?_
      rintro e w1 ⟨rfl, hB⟩
      have HB := Lib.hid hB
      clear hB
      go_wp2
      go_ret
      exact ⟨by rw [Hr.out]; rfl, HB.out⟩
  | true =>
    have hL := Mu.isL_iff.1 hi
    have HT : Hid (TotS b 0 r (ls.drop 0)) := Lib.hid ⟨by rw [hr]; unfold Mu.total; rw [hi]; simp, Int.le_refl _, by have := hL.2.2; simp; omega, hL.1⟩
    rw [hi] at K
    clear hA hl hf hr hL hi
    go_enter Try.func21, Try.ntmps21
    go_wp2_with fail
    go_loopw [5, 6] (fun z i wr => ∃ (n : Int) (k : Nat), z = .int .i64 n ∧ k ≤ l ∧ i = .int .i64 (k : Int) ∧ Hid (Below w.heap.size w wr) ∧ Hid (TotS b n r (ls.drop k))) (fun _ i _ => l - (intOf i).toNat)
    case atStart => exact ⟨0, 0, rfl, Nat.zero_le _, rfl, Lib.hid (Below.refl _ _), HT⟩
    case round =>
      clear HT
      obtain ⟨n, k, rfl, hk, rfl, HB, Ha⟩ := hrel
      by_cases hlt : k < l
      · have kl : k < ls.length := by rw [← Hl.out]; exact hlt
        have i1 : (k : Int) < (l : Int) := by omega
        have i3 : (0 : Int) ≤ (k : Int) := by omega
        have Ik : Hid (wrap64 ((k : Int) + 1) = (k : Int) + 1) := Lib.hid (by have := Hf.out; unfold wrap64; omega)
        have Hk := Lib.hid hlt
        have kI := K.out wr HB.out
        obtain ⟨x, hx⟩ : ∃ x, x = ls[k] := ⟨_, rfl⟩
        have Hd : Hid (ls.drop k = x :: ls.drop (k + 1)) := Lib.hid (by rw [hx]; exact List.drop_eq_getElem_cons kl)
        obtain ⟨b0, o0, hA0, hb0, h3⟩ := HA.out k kl
        subst hA0
        rw [← hx] at h3
        obtain ⟨x0, x1, x2⟩ := x
        have H3 := Lib.hid h3
        have Hb0 := Lib.hid hb0
        clear hx kl hk hlt h3 hb0
        go_wp2_with fail
        refine kI.mono ?_
        rintro e w1 ⟨rfl, hB⟩
        have HB1 := Lib.hid (below2 HB.out hB)
        clear hB kI HB
        have h3 := H3.out.below HB1.out Hb0.out
        have d0 := h3.c0
        have d1 := h3.c1
        have d2 := h3.c2
        simp only at d0 d1 d2
        clear h3
        by_cases hb : x0 = b
        · have hbb : (x0 == b) = true := beq_iff_eq.2 hb
          have hbp : (x0 = b) = True := eq_true hb
          obtain ⟨Ha2, e1, e2⟩ := (show TotS b n r (⟨x0, x1, x2⟩ :: ls.drop (k + 1)) from by rw [← Hd.out]; exact Ha.out).addR hb
          have HA2 := Lib.hid Ha2
          clear Ha2 hb Ha
          go_wp2_with fail
          go_quiet (fail)
          go_wp2
          go_roundw
          case rel => exact ⟨n + x2 - x1, k + 1, by first | rfl | (simp only [e2]), Hk.out, by first | rfl | (rw [Ik.out]; rfl), Lib.hid (below_drew HB1.out _), HA2⟩
          case measure => have := Hk.out; (try rw [Ik.out]); simp [intOf]; omega
        · have hbb : (x0 == b) = false := by rw [beq_eq_false_iff_ne]; exact hb
          have hbp : (x0 = b) = False := eq_false hb
          have HA2 := Lib.hid ((show TotS b n r (⟨x0, x1, x2⟩ :: ls.drop (k + 1)) from by rw [← Hd.out]; exact Ha.out).skip hb)
          clear hb Ha
          go_wp2
          go_roundw
          case rel => exact ⟨n, k + 1, rfl, Hk.out, by first | rfl | (rw [Ik.out]; rfl), HB1, HA2⟩
          case measure => have := Hk.out; (try rw [Ik.out]); simp [intOf]; omega
      · have ik : ((k : Int) < (l : Int)) = False := eq_false (by omega)
        have He : Hid (r = n) := Lib.hid (by
          have e : ls.drop k = [] := List.drop_eq_nil_of_le (by have := Hl.out; omega)
          have h := Ha.out.sum
          rw [e] at h
          simp only [Mu.tot] at h
          omega)
        clear hk hlt Ha
        go_wp2
        go_ret
        exact ⟨by rw [He.out]; rfl, HB.out⟩
end Go.Proofs.Ythbkfjnpdcfepaa
