/-
  Layer 10 (mute): the library's slices.Concat of rows of windows.
-/
import Derived.Test.YthbkfjnpdcfepaaMuteG
import Derived.BigQuiet
import Derived.Lib.Hide
import Derived.IntWalk
namespace Go.Proofs.Ythbkfjnpdcfepaa
set_option maxRecDepth 10000
open Go.RowKit

/-- Slices of windows in a row, in block b from off on. -/
def RowsW (w : World) (b off : Nat) (L : List (List Win)) : Prop :=
  ∀ i (h : i < L.length), ∃ A c, w.cell? ⟨b, off + i, none⟩ = some (.slice A L[i].length c) ∧ WinsAt w w.heap.size A L[i] ∧ Roomy A L[i] c
theorem RowsW.on {w w' : World} {b off : Nat} {L : List (List Win)} (h : RowsW w b off L) (hb : b < w.heap.size) (hB : Below w.heap.size w w') : RowsW w' b off L := fun i hi => by
  obtain ⟨A, c, h1, h2, h3⟩ := h i hi
  exact ⟨A, c, (hB.cell (p := ⟨b, off + i, none⟩) hb).trans h1, h2.on hB, h3⟩

theorem flat_take {L : List (List Win)} {k : Nat} (h : k < L.length) : (L.take (k + 1)).flatten = (L.take k).flatten ++ L[k] := by
  rw [List.take_succ_eq_append_getElem h, List.flatten_append]; simp
theorem flat_take_len {L : List (List Win)} (k : Nat) : (L.take k).flatten.length ≤ L.flatten.length := by
  conv => rhs; rw [← List.take_append_drop k L, List.flatten_append, List.length_append]
  omega

set_option maxHeartbeats 2000000 in
theorem mconcat_any (b off c n q : Nat) (L : List (List Win)) (w : World) (hn : n = L.length) (hb : b < w.heap.size) (hR : RowsW w b off L) (hq : q = L.flatten.length) (hl : q ≤ 5000) (hn2 : n ≤ 1000) :
    Calls Try.prog 33 #[.slice (some ⟨b, off, none⟩) n c] w fun e w' => ∃ A c', e = .returned (.slice A q c') ∧ OwnW w' w.heap.size (.slice A q c') L.flatten ∧ Below w.heap.size w w' := by
  have HR := Lib.hid hR
  have Hn := Lib.hid hn
  have Hb := Lib.hid hb
  have Hq := Lib.hid hq
  have Hl := Lib.hid hl
  have Hn2 := Lib.hid hn2
  have G := fun W => grow_any q W (by omega)
  clear hR hn hb hq hl hn2
  go_enter Try.func33, Try.ntmps33
  go_wp2_with fail
  go_loopw [3, 11] (fun z i wr => ∃ k s : Nat, k ≤ n ∧ i = .int .i64 (k : Int) ∧ z = .int .i64 (s : Int) ∧ wr = w ∧ Hid (s = (L.take k).flatten.length)) (fun _ i _ => n - (intOf i).toNat)
  case atStart => exact ⟨0, 0, Nat.zero_le _, rfl, rfl, (by first | trivial | rfl), Lib.hid rfl⟩
  case round =>
    obtain ⟨k, s, hk, rfl, rfl, hww, Hs⟩ := hrel
    subst wr
    by_cases hlt : k < n
    · have kl : k < L.length := by rw [← Hn.out]; exact hlt
      obtain ⟨A, c1, hc, q1, q2⟩ := HR.out k kl
      obtain ⟨m, hm⟩ : ∃ m, m = L[k].length := ⟨_, rfl⟩
      rw [← hm] at hc
      obtain ⟨t, ht⟩ : ∃ t, t = s + m := ⟨_, rfl⟩
      have e1 : t = (L.take (k + 1)).flatten.length := by rw [flat_take kl, List.length_append, ← hm, ← Hs.out]; exact ht
      have Ht : Hid (t = (L.take (k + 1)).flatten.length) := Lib.hid e1
      have ht2 : t ≤ 5000 := by rw [e1]; have := flat_take_len (L := L) (k + 1); have := Hq.out; have := Hl.out; omega
      have i1 : (k : Int) < (n : Int) := by omega
      have i3 : (0 : Int) ≤ (k : Int) := by omega
      have iw : wrap64 ((s : Int) + (m : Int)) = (t : Int) := by unfold wrap64; omega
      have i4 : ((t : Int) < 0) = False := eq_false (by omega)
      have Iw : Hid (wrap64 ((k : Int) + 1) = (k : Int) + 1) := Lib.hid (by have := Hn2.out; unfold wrap64; omega)
      have Hk := Lib.hid hlt
      clear q1 q2
      clear hm kl hk hlt ht e1 ht2 Hs
      go_wp2
      go_roundw
      case rel => exact ⟨k + 1, t, Hk.out, by first | rfl | (rw [Iw.out]; rfl), (by first | rfl | (rw [iw])), (by first | trivial | rfl), Ht⟩
      case measure => have := Hk.out; (try rw [Iw.out]); simp [intOf]; omega
    · have ik : ((k : Int) < (n : Int)) = False := eq_false (by omega)
      have hkn : k = n := by omega
      subst hkn
      have hs : s = q := by rw [Hs.out, Hn.out, List.take_length, Hq.out]
      subst hs
      clear hk hlt Hs
      go_wp2_with fail
      refine (G _).mono ?_
      rintro e w1 ⟨v, rfl, hO, hB⟩
      have HO := Lib.hid hO
      have HB := Lib.hid hB
      clear hO hB G
      go_wp2_with fail
      go_loopw [6, 27] (fun z i wr => ∃ j : Nat, j ≤ k ∧ i = .int .i64 (j : Int) ∧ Hid (OwnW wr w.heap.size z (L.take j).flatten) ∧ Hid (Below w.heap.size w wr)) (fun _ i _ => k - (intOf i).toNat)
      case atStart => exact ⟨0, Nat.zero_le _, rfl, HO, HB⟩
      case round =>
        obtain ⟨j, hj, rfl, HO2, HB2⟩ := hrel
        clear HO HB
        by_cases hlt : j < k
        · have jl : j < L.length := by rw [← Hn.out]; exact hlt
          obtain ⟨A, c1, hc, hA, hr⟩ := (HR.out.on Hb.out HB2.out) j jl
          obtain ⟨m, hm⟩ : ∃ m, m = L[j].length := ⟨_, rfl⟩
          rw [← hm] at hc
          have Hm := Lib.hid hm
          have HA := Lib.hid hA
          have Hr := Lib.hid hr
          have Hf : Hid ((L.take (j + 1)).flatten = (L.take j).flatten ++ L[j]) := Lib.hid (flat_take jl)
          have Hlen : Hid ((L.take j).flatten.length + L[j].length ≤ 1000000) := Lib.hid (by rw [← List.length_append, ← Hf.out]; have := flat_take_len (L := L) (j + 1); have := Hq.out; have := Hl.out; omega)
          obtain ⟨M, hM⟩ : ∃ M, M = L[j] := ⟨_, rfl⟩
          rw [← hM] at Hm HA Hr Hf Hlen
          clear hA hr hm
          have i1 : (j : Int) < (k : Int) := by omega
          have i3 : (0 : Int) ≤ (j : Int) := by omega
          have Iw : Hid (wrap64 ((j : Int) + 1) = (j : Int) + 1) := Lib.hid (by have := Hn2.out; unfold wrap64; omega)
          have Hk := Lib.hid hlt
          have Hge : Hid (w.heap.size ≤ wr.heap.size) := Lib.hid HB2.out.size
          clear hM jl hj hlt
          obtain ⟨z2, hz2⟩ : ∃ z2, z2 = (L.take j).flatten := ⟨_, rfl⟩
          rw [← hz2] at HO2 Hf Hlen
          clear hz2
          go_wp2_with (at_builtin; go_loud (refine wpList_append_wins rfl _ _ 22 rfl Try.underlying22 w.heap.size _ z2 M rfl HO2.out A _ c1 rfl Hm.out HA.out Hr.out.1 Hge.out Hlen.out ?_; intro v' w1 hown' hgrow; have HO3 := Lib.hid hown'; have HB3 : Hid (Below w.heap.size w w1) := Lib.hid (HB2.out.grown hgrow Hge.out (fun k hk => HO2.out.ge k hk)); clear hown' hgrow))
          go_roundw
          case rel => exact ⟨j + 1, Hk.out, by first | rfl | (rw [Iw.out]; rfl), by rw [Hf.out]; exact HO3, HB3⟩
          case measure => have := Hk.out; (try rw [Iw.out]); simp [intOf]; omega
        · have ik : ((j : Int) < (k : Int)) = False := eq_false (by omega)
          have hjn : j = k := by omega
          subst hjn
          have Hf : Hid ((L.take j).flatten = L.flatten) := Lib.hid (by rw [Hn.out, List.take_length])
          obtain ⟨A, c', rfl, _⟩ := HO2.out.slice
          have HO3 : Hid (OwnW wr w.heap.size (.slice A s c') L.flatten) := Lib.hid (by have := HO2.out; rw [Hf.out, ← Hq.out] at this; exact this)
          have Hf2 : Hid ((L.take j).flatten.length = s) := Lib.hid (by rw [Hf.out, ← Hq.out])
          rw [Hf2.out]
          clear HO2 hj hlt Hf Hf2
          go_wp2
          go_ret
          exact ⟨A, c', rfl, HO3.out, HB2.out⟩
end Go.Proofs.Ythbkfjnpdcfepaa
