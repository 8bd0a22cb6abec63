/-
  Layer 7 (rank): order: all alarms of some rows, in a row of its own, sorted.
-/
import Derived.Test.YtpgichlaghhdeaaGreatDoorXRankW3
import Derived.Test.YtpgichlaghhdeaaGreatDoorXJb
import Derived.Test.YtpgichlaghhdeaaGreatDoorXJl
namespace Go.Proofs.YtpgichlaghhdeaaGreatDoor
set_option maxRecDepth 10000
open Go.RowKit

/-- Slices of alarms, one behind the other, as they lie. -/
def RowsIn (w : World) (B : Nat) (A : Option Addr) (rs : List (Option Addr × Nat × List Alm)) : Prop :=
  ∀ i (h : i < rs.length), ∃ b off, A = some ⟨b, off, none⟩ ∧ b < B ∧ w.cell? ⟨b, off + i, none⟩ = some (.slice rs[i].1 rs[i].2.2.length rs[i].2.1) ∧ AlmsAt w B rs[i].1 rs[i].2.2
theorem RowsIn.below {w w' : World} {B : Nat} {A : Option Addr} {rs : List (Option Addr × Nat × List Alm)} (h : RowsIn w B A rs) (hb : Below B w w') : RowsIn w' B A rs := fun i hi => by
  obtain ⟨b, off, e, hlt, hc, hA⟩ := h i hi
  exact ⟨b, off, e, hlt, (hb.cell (p := ⟨b, off + i, none⟩) hlt).trans hc, hA.below hb (Nat.le_refl _)⟩
/-- All their alarms. -/
def catR (rs : List (Option Addr × Nat × List Alm)) : List Alm := rs.flatMap (fun r => r.2.2)
theorem catR_take {rs : List (Option Addr × Nat × List Alm)} {k : Nat} (h : k < rs.length) : catR (rs.take (k + 1)) = catR (rs.take k) ++ rs[k].2.2 := by
  rw [List.take_succ_eq_append_getElem h]
  unfold catR
  rw [List.flatMap_append]
  simp
theorem catR_len {rs : List (Option Addr × Nat × List Alm)} (k : Nat) : (catR (rs.take k)).length ≤ (catR rs).length := by
  have h : catR rs = catR (rs.take k) ++ catR (rs.drop k) := by unfold catR; rw [← List.flatMap_append, List.take_append_drop]
  rw [h, List.length_append]
  omega

/-- What order ends with. -/
def Ordered (w : World) (ls : List Alm) (e : Ending) (w' : World) : Prop :=
  ∃ A cap, e = .returned (.slice A ls.length cap) ∧ AlmsAt w' w'.heap.size A (Rk.sort ls) ∧ (A = none → cap = 0) ∧ ls.length ≤ cap ∧ Below w.heap.size w w'

def OrdRel (w : World) (n : Nat) (rs : List (Option Addr × Nat × List Alm)) (all i : Value) (wr : World) : Prop :=
  ∃ k : Nat, k ≤ n ∧ i = .int .i64 (k : Int) ∧ OwnR wr w.heap.size all (catR (rs.take k)) ∧ Below w.heap.size w wr
def OrdRel2 (w : World) (m : Nat) (ds ls : List Alm) (all i : Value) (wr : World) : Prop :=
  ∃ j : Nat, j ≤ m ∧ i = .int .i64 (j : Int) ∧ OwnR wr w.heap.size all (ds ++ ls.take j) ∧ Below w.heap.size w wr

set_option maxRecDepth 10000 in
set_option maxHeartbeats 4000000 in
theorem korder_any (A0 : Option Addr) (n cap0 : Nat) (rs : List (Option Addr × Nat × List Alm)) (w : World) (hn : n = rs.length) (hR : RowsIn w w.heap.size A0 rs) (hl : (catR rs).length ≤ 1000) (hn2 : n ≤ 1000) :
    Calls Tryz.prog 99 #[.slice A0 n cap0] w (Ordered w (catR rs)) := by
  have HR := Lib.hid hR
  have Hn := Lib.hid hn
  have Hl := Lib.hid hl
  have Hn2 := Lib.hid hn2
  clear hR hn hl hn2
  go_enter Tryz.func99, Tryz.ntmps99
  go_wp2_with fail
  go_loopw [3, 10] (fun all i wr => OrdRel w n rs all i wr) (fun _ i _ => n - (intOf i).toNat)
  case atStart => exact ⟨0, Nat.zero_le _, rfl, OwnR.nil _ _, Below.refl _ _⟩
  case round =>
    obtain ⟨k, hk, rfl, hown, hB⟩ := hrel
    obtain ⟨wo, hwo⟩ : ∃ W, W = wr := ⟨_, rfl⟩
    subst hwo
    have HO := Lib.hid hown
    have HB := Lib.hid hB
    clear hown hB
    by_cases hlt : k < n
    · have kl : k < rs.length := by rw [← Hn.out]; exact hlt
      obtain ⟨b, off, rfl, hb, hc, hA⟩ := HR.out k kl
      replace hc := (HB.out.cell (p := ⟨b, off + k, none⟩) hb).trans hc
      have Hcat := Lib.hid (catR_take kl)
      have Hlen := Lib.hid (catR_len (rs := rs) (k + 1))
      rw [Hcat.out, List.length_append] at Hlen
      obtain ⟨r, hr⟩ : ∃ r, r = rs[k] := ⟨_, rfl⟩
      rw [← hr] at hc hA Hcat Hlen
      clear hr
      obtain ⟨A1, c1, ls⟩ := r
      simp only at hc hA Hcat Hlen
      obtain ⟨m, hm⟩ : ∃ m, m = ls.length := ⟨_, rfl⟩
      rw [← hm] at hc Hlen
      have Hm := Lib.hid hm
      have HA := Lib.hid hA
      obtain ⟨ds, hds⟩ : ∃ ds, ds = catR (rs.take k) := ⟨_, rfl⟩
      rw [← hds] at HO Hcat Hlen
      have Hk := Lib.hid hlt
      have Hlm : Hid (ds.length + m ≤ 1000) := Lib.hid (Nat.le_trans Hlen.out Hl.out)
      have i1 : (k : Int) < (n : Int) := by omega
      have i3 : (0 : Int) ≤ (k : Int) := by omega
      have Iw : Hid (wrap64 ((k : Int) + 1) = (k : Int) + 1) := Lib.hid (by have := Hn2.out; unfold wrap64; omega)
      clear hds hm hA kl hk hlt Hlen
      go_wp2_with fail
      go_loopw [3, 16] (fun all i wr => OrdRel2 w m ds ls all i wr) (fun _ i _ => m - (intOf i).toNat)
      case atStart => exact ⟨0, Nat.zero_le _, rfl, by rw [List.take_zero, List.append_nil]; exact HO.out, HB.out⟩
      case round =>
        obtain ⟨j, hj, rfl, hown, hB⟩ := hrel
        have HOi := Lib.hid hown
        have HBi := Lib.hid hB
        clear hown hB hc i1 i3
        by_cases hlt : j < m
        · have jl : j < ls.length := by rw [← Hm.out]; exact hlt
          have Htk := Lib.hid (List.take_succ_eq_append_getElem jl)
          obtain ⟨b1, o1, rfl, hb1, h6⟩ := (HA.out.below HBi.out (Nat.le_refl _)) j jl
          obtain ⟨x, hx⟩ : ∃ x, x = ls[j] := ⟨_, rfl⟩
          rw [← hx] at h6 Htk
          clear hx
          obtain ⟨x0, x1, x2, x3, x4, x5⟩ := x
          have c0 := h6.c0
          have c1 := h6.c1
          have c2 := h6.c2
          have c3 := h6.c3
          have c4 := h6.c4
          have c5 := h6.c5
          simp only at c0 c1 c2 c3 c4 c5
          have i1 : (j : Int) < (m : Int) := by omega
          have i3 : (0 : Int) ≤ (j : Int) := by omega
          have Ij : Hid (wrap64 ((j : Int) + 1) = (j : Int) + 1) := Lib.hid (by have := Hlm.out; unfold wrap64; omega)
          have Hj := Lib.hid hlt
          have HZ := Lib.hid (Six.new wr 0 0 0 0 0 0 25)
          have HZB := Lib.hid (below_new wr (.cells #[.int .i64 0, .int .i64 0, .int .i64 0, .int .i64 0, .int .i64 0, .int .i64 0] 25))
          clear h6 jl hj hlt
          go_wp2_with (first
            | (refine wpList_store_six rfl 25 _ _ rfl wr.heap.size _ ⟨x0, x1, x2, x3, x4, x5⟩ rfl rfl HZ.out (by rfl) ?_
               intro w2 hw2
               have K2 := HZ.out.put6 hw2
               have HB2 := Lib.hid (below_put6 HZB.out (Nat.le_refl _) hw2)
               clear hw2 c0 c1 c2 c3 c4 c5
               have c0 := K2.c0
               have c1 := K2.c1
               have c2 := K2.c2
               have c3 := K2.c3
               have c4 := K2.c4
               have c5 := K2.c5
               simp only at c0 c1 c2 c3 c4 c5
               clear K2
               have O2 := Lib.hid ((HOi.out.below HB2.out).below (below_new w2 (.cells #[.int .i64 x0, .int .i64 x1, .int .i64 x2, .int .i64 x3, .int .i64 x4, .int .i64 x5] 79)))
               have ON := Lib.hid (AlmsAt.one w2 x0 x1 x2 x3 x4 x5 79)
               have HB3 := Lib.hid (below2 HBi.out (below2 HB2.out (below_new w2 (.cells #[.int .i64 x0, .int .i64 x1, .int .i64 x2, .int .i64 x3, .int .i64 x4, .int .i64 x5] 79)))))
            | (at_builtin
               refine wpList_append_ranked rfl _ _ rfl w.heap.size _ (ds ++ ls.take j) ⟨x0, x1, x2, x3, x4, x5⟩ rfl O2.out ⟨w2.heap.size, 0, none⟩ _ rfl ON.out HB3.out.size (by have := Hlm.out; have := Hj.out; rw [List.length_append, List.length_take]; omega) ?_
               intro v3 w3 hown3 hgrow3
               have O3 := Lib.hid hown3
               have HB4 : Hid (Below w.heap.size w w3) := Lib.hid (HB3.out.grown hgrow3 HB3.out.size O2.out.ge)
               clear hown3 hgrow3 c0 c1 c2 c3 c4 c5))
          go_roundw
          case rel => exact ⟨j + 1, Hj.out, by first | rfl | (rw [Ij.out]; rfl), by rw [Htk.out, ← List.append_assoc]; exact O3.out, HB4.out⟩
          case measure => have := Hj.out; (try rw [Ij.out]); simp [intOf]; omega
        · have ik : ((j : Int) < (m : Int)) = False := eq_false (by omega)
          have He : Hid (ls.take j = ls) := Lib.hid (List.take_of_length_le (by have := Hm.out; omega))
          rw [He.out, ← Hcat.out] at HOi
          clear hj hlt He
          go_wp2
          go_roundw
          case rel => exact ⟨k + 1, Hk.out, by first | rfl | (rw [Iw.out]; rfl), HOi.out, HBi.out⟩
          case measure => have := Hk.out; (try rw [Iw.out]); simp [intOf]; omega
    · have ik : ((k : Int) < (n : Int)) = False := eq_false (by omega)
      have He : Hid (rs.take k = rs) := Lib.hid (List.take_of_length_le (by have := Hn.out; omega))
      rw [He.out] at HO
      clear hk hlt He
      go_wp2_with fail
      refine (ksort_any _ w.heap.size (catR rs) _ HO.out Hl.out).mono ?_
      rintro e w1 ⟨rfl, ⟨A, cap, rfl, hA, hnil, hc⟩, hBl⟩
      have h1 := Lib.hid hA
      have h2 := Lib.hid (hBl w HB.out (Nat.le_refl _))
      have h3 := Lib.hid hnil
      have h4 := Lib.hid hc
      clear hA hBl hnil hc
      go_wp2
      go_ret
      exact ⟨A, cap, rfl, h1.out, h3.out, h4.out, h2.out⟩
end Go.Proofs.YtpgichlaghhdeaaGreatDoor
