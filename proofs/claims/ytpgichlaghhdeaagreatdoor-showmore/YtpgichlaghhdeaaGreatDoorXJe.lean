/-
  Layer 10 (mute): the library's slices.Grow of no slice, and slices.Concat of rows of windows.
  Layer 10 (mute): the library's slices.Concat of rows of windows.
  Layer 10 (mute): joined.
-/
import Derived.Test.YtpgichlaghhdeaaGreatDoorXJb
import Derived.Lib.SliceRun
import Derived.Lib.AppendZerosOnto
import Derived.Lib.Walk
import Derived.IntWalk
import Derived.BigQuiet
import Derived.Lib.Hide
import Derived.Test.YtpgichlaghhdeaaGreatDoorXJd
import Derived.Deep.RegionHeld3
import Derived.Deep.QuietTactic
import Derived.Great.BuildSlice
import Derived.BigRegion
namespace Go.Proofs.YtpgichlaghhdeaaGreatDoor
set_option maxRecDepth 10000
open Go.RowKit

theorem zeroCells_own (z : List Value) (G : Nat) : (Builtin.zeroCells z.toArray G).size = G * z.length := by
  unfold Builtin.zeroCells
  first
    | simp
    | (induction G <;> simp_all)

set_option maxHeartbeats 2000000 in
set_option maxRecDepth 100000 in
theorem grow_any (n : Nat) (w : World) (hn : n ≤ 10000) :
    Calls Tryz.prog 103 #[.slice none 0 0, .int .i64 (n : Int)] w fun e w' => ∃ v, e = .returned v ∧ OwnW w' w.heap.size v [] ∧ Below w.heap.size w w' := by
  rcases Nat.eq_zero_or_pos n with h0 | hp
  · subst h0
    go_enter Tryz.func103, Tryz.ntmps103
    go_wp2
    go_ret
    exact ⟨_, rfl, OwnW.nil _ _, Below.refl _ _⟩
  · obtain ⟨i0, hi0, hz0, hz1, hz6⟩ := info_parts Tryz.infoWi
    have h1 : ((n : Int) < 0) = False := eq_false (by omega)
    have h2 : wrap64 ((n : Int) - 0) = (n : Int) := by unfold wrap64; omega
    have h3 : wrap64 (n : Int) = (n : Int) := by unfold wrap64; omega
    have h4 : (0 : Int) < (n : Int) := by omega
    have h5 : 0 < n := hp
    obtain ⟨G, hG⟩ : ∃ G, G = grownCap w n 0 56 := ⟨_, rfl⟩
    obtain ⟨ROW, hROW⟩ : ∃ ROW : Array Value, ROW = #[] ++ Builtin.zeroCells (Value.agg #[.int .i64 0, .int .i64 0, .int .i64 0]).cells n ++ Builtin.zeroCells (Value.agg #[.int .i64 0, .int .i64 0, .int .i64 0]).cells (G - n) := ⟨_, rfl⟩
    have hold : (Builtin.firstCells i0.size 0 (.slice none 0 0)).run Tryz.prog w.drew = .ok ([] : List Value).toArray w.drew := run_firstCells_none w.drew i0.size 0 0 0
    have hrz : ∀ ty, (Builtin.append_ #[29, 3] ty #[.slice none 0 0, .int .i64 (n : Int)]).run Tryz.prog w = .ok (.slice (some ⟨w.heap.size, 0, none⟩) n G) (w.drew.alloc (.cells ROW 56)) := fun ty => by
      have h := Lib.run_append_grow_zeros w 29 3 ty 56 i0 _ .i64 .i64 Tryz.underlying29 Tryz.underlying3 hi0 hz0 none 0 0 [] hold n (by omega) (by rw [hz1]; omega) (by omega) (by omega) (by rw [hz6]; omega) (by rw [hz6, Nat.zero_add]; exact growslice_fits (by omega) (by omega))
      rw [Nat.zero_add, ← hG] at h
      rw [hROW]
      exact h
    have hGn : n ≤ G := by rw [hG]; exact grownCap_ge w _ _ _
    have hGm : G ≤ maxLen := by rw [hG]; exact grownCap_le_maxLen w n 0 56 (by unfold maxLen; omega)
    have hG63 : (G : Int) ≤ 9223372036854775807 := by unfold maxLen at hGm; omega
    have hsz : ROW.size = G * 3 := by
      rw [hROW]
      have e : (Value.agg #[.int .i64 0, .int .i64 0, .int .i64 0]).cells = [Value.int .i64 0, .int .i64 0, .int .i64 0].toArray := rfl
      rw [e, Array.size_append, Array.size_append, zeroCells_own, zeroCells_own]
      simp only [List.size_toArray, List.length_nil, List.length_cons, List.length_nil]
      have : n * (0 + 1 + 1 + 1) + (G - n) * (0 + 1 + 1 + 1) = G * (0 + 1 + 1 + 1) := by rw [← Nat.add_mul]; congr 1; omega
      simp at this ⊢
      omega
    have HO : Hid (OwnW (w.drew.alloc (.cells ROW 56)) w.heap.size (.slice (some ⟨w.heap.size, 0, none⟩) 0 G) []) := Lib.hid (by
      refine ⟨rfl, .inr ⟨w.heap.size, G, ROW, rfl, Nat.le_refl _, ?_, Nat.zero_le _, hGm, hsz, ?_⟩⟩
      · exact heap_alloc_new w.drew _
      · simp [flat3])
    have HB : Hid (Below w.heap.size w (w.drew.alloc (.cells ROW 56))) := Lib.hid ((below_drew (Below.refl _ w) 1).alloc (Nat.le_refl _) _)
    clear hold hROW hG hsz hz0 hz1 hz6 hi0 hGm hp
    go_enter Tryz.func103, Tryz.ntmps103
    go_wp2_with (at_builtin; refine Lib.wpList_append_run _ rfl _ _ _ _ rfl _ _ rfl rfl _ _ (hrz _) ?_)
    all_goals (go_ret; exact ⟨_, rfl, HO.out, HB.out⟩)
end Go.Proofs.YtpgichlaghhdeaaGreatDoor

namespace Go.Proofs.YtpgichlaghhdeaaGreatDoor
set_option maxRecDepth 10000
open Go.RowKit

/-- Slices of windows in a row, in block b from off on. -/
def RowsW (w : World) (b off : Nat) (L : List (List Win)) : Prop :=
  ∀ i (h : i < L.length), ∃ A c, w.cell? ⟨b, off + i, none⟩ = some (.slice A L[i].length c) ∧ WinsAt w w.heap.size A L[i] ∧ Roomy A L[i] c
theorem RowsW.on {w w' : World} {b off : Nat} {L : List (List Win)} (h : RowsW w b off L) (hb : b < w.heap.size) (hB : Below w.heap.size w w') : RowsW w' b off L := fun i hi => by
  obtain ⟨A, c, h1, h2, h3⟩ := h i hi
  exact ⟨A, c, (hB.cell (p := ⟨b, off + i, none⟩) hb).trans h1, h2.on hB, h3⟩

theorem flat_take {L : List (List Win)} {k : Nat} (h : k < L.length) : (L.take (k + 1)).flatten = (L.take k).flatten ++ L[k] := by
  rw [List.take_succ_eq_append_getElem h, List.flatten_append]; simp
theorem flat_take_len {L : List (List Win)} (k : Nat) : (L.take k).flatten.length ≤ L.flatten.length := by
  conv => rhs; rw [← List.take_append_drop k L, List.flatten_append, List.length_append]
  omega

set_option maxHeartbeats 2000000 in
theorem mconcat_any (b off c n q : Nat) (L : List (List Win)) (w : World) (hn : n = L.length) (hb : b < w.heap.size) (hR : RowsW w b off L) (hq : q = L.flatten.length) (hl : q ≤ 5000) (hn2 : n ≤ 1000) :
    Calls Tryz.prog 80 #[.slice (some ⟨b, off, none⟩) n c] w fun e w' => ∃ A c', e = .returned (.slice A q c') ∧ OwnW w' w.heap.size (.slice A q c') L.flatten ∧ Below w.heap.size w w' := by
  have HR := Lib.hid hR
  have Hn := Lib.hid hn
  have Hb := Lib.hid hb
  have Hq := Lib.hid hq
  have Hl := Lib.hid hl
  have Hn2 := Lib.hid hn2
  have G := fun W => grow_any q W (by omega)
  clear hR hn hb hq hl hn2
  go_enter Tryz.func80, Tryz.ntmps80
  go_wp2_with fail
  go_loopw [3, 11] (fun z i wr => ∃ k s : Nat, k ≤ n ∧ i = .int .i64 (k : Int) ∧ z = .int .i64 (s : Int) ∧ wr = w ∧ Hid (s = (L.take k).flatten.length)) (fun _ i _ => n - (intOf i).toNat)
  case atStart => exact ⟨0, 0, Nat.zero_le _, rfl, rfl, (by first | trivial | rfl), Lib.hid rfl⟩
  case round =>
    obtain ⟨k, s, hk, rfl, rfl, hww, Hs⟩ := hrel
    subst wr
    by_cases hlt : k < n
    · have kl : k < L.length := by rw [← Hn.out]; exact hlt
      obtain ⟨A, c1, hc, q1, q2⟩ := HR.out k kl
      obtain ⟨m, hm⟩ : ∃ m, m = L[k].length := ⟨_, rfl⟩
      rw [← hm] at hc
      obtain ⟨t, ht⟩ : ∃ t, t = s + m := ⟨_, rfl⟩
      have e1 : t = (L.take (k + 1)).flatten.length := by rw [flat_take kl, List.length_append, ← hm, ← Hs.out]; exact ht
      have Ht : Hid (t = (L.take (k + 1)).flatten.length) := Lib.hid e1
      have ht2 : t ≤ 5000 := by rw [e1]; have := flat_take_len (L := L) (k + 1); have := Hq.out; have := Hl.out; omega
      have i1 : (k : Int) < (n : Int) := by omega
      have i3 : (0 : Int) ≤ (k : Int) := by omega
      have iw : wrap64 ((s : Int) + (m : Int)) = (t : Int) := by unfold wrap64; omega
      have i4 : ((t : Int) < 0) = False := eq_false (by omega)
      have Iw : Hid (wrap64 ((k : Int) + 1) = (k : Int) + 1) := Lib.hid (by have := Hn2.out; unfold wrap64; omega)
      have Hk := Lib.hid hlt
      clear q1 q2
      clear hm kl hk hlt ht e1 ht2 Hs
      go_wp2
      go_roundw
      case rel => exact ⟨k + 1, t, Hk.out, by first | rfl | (rw [Iw.out]; rfl), (by first | rfl | (rw [iw])), (by first | trivial | rfl), Ht⟩
      case measure => have := Hk.out; (try rw [Iw.out]); simp [intOf]; omega
    · have ik : ((k : Int) < (n : Int)) = False := eq_false (by omega)
      have hkn : k = n := by omega
      subst hkn
      have hs : s = q := by rw [Hs.out, Hn.out, List.take_length, Hq.out]
      subst hs
      clear hk hlt Hs
      go_wp2_with fail
      refine (G _).mono ?_
      rintro e w1 ⟨v, rfl, hO, hB⟩
      have HO := Lib.hid hO
      have HB := Lib.hid hB
      clear hO hB G
      go_wp2_with fail
      go_loopw [6, 27] (fun z i wr => ∃ j : Nat, j ≤ k ∧ i = .int .i64 (j : Int) ∧ Hid (OwnW wr w.heap.size z (L.take j).flatten) ∧ Hid (Below w.heap.size w wr)) (fun _ i _ => k - (intOf i).toNat)
      case atStart => exact ⟨0, Nat.zero_le _, rfl, HO, HB⟩
      case round =>
        obtain ⟨j, hj, rfl, HO2, HB2⟩ := hrel
        clear HO HB
        by_cases hlt : j < k
        · have jl : j < L.length := by rw [← Hn.out]; exact hlt
          obtain ⟨A, c1, hc, hA, hr⟩ := (HR.out.on Hb.out HB2.out) j jl
          obtain ⟨m, hm⟩ : ∃ m, m = L[j].length := ⟨_, rfl⟩
          rw [← hm] at hc
          have Hm := Lib.hid hm
          have HA := Lib.hid hA
          have Hr := Lib.hid hr
          have Hf : Hid ((L.take (j + 1)).flatten = (L.take j).flatten ++ L[j]) := Lib.hid (flat_take jl)
          have Hlen : Hid ((L.take j).flatten.length + L[j].length ≤ 1000000) := Lib.hid (by rw [← List.length_append, ← Hf.out]; have := flat_take_len (L := L) (j + 1); have := Hq.out; have := Hl.out; omega)
          obtain ⟨M, hM⟩ : ∃ M, M = L[j] := ⟨_, rfl⟩
          rw [← hM] at Hm HA Hr Hf Hlen
          clear hA hr hm
          have i1 : (j : Int) < (k : Int) := by omega
          have i3 : (0 : Int) ≤ (j : Int) := by omega
          have Iw : Hid (wrap64 ((j : Int) + 1) = (j : Int) + 1) := Lib.hid (by have := Hn2.out; unfold wrap64; omega)
          have Hk := Lib.hid hlt
          have Hge : Hid (w.heap.size ≤ wr.heap.size) := Lib.hid HB2.out.size
          clear hM jl hj hlt
          obtain ⟨z2, hz2⟩ : ∃ z2, z2 = (L.take j).flatten := ⟨_, rfl⟩
          rw [← hz2] at HO2 Hf Hlen
          clear hz2
          go_wp2_with (at_builtin; go_loud (refine wpList_append_wins rfl _ _ 29 rfl Tryz.underlying29 w.heap.size _ z2 M rfl HO2.out A _ c1 rfl Hm.out HA.out Hr.out.1 Hge.out Hlen.out ?_; intro v' w1 hown' hgrow; have HO3 := Lib.hid hown'; have HB3 : Hid (Below w.heap.size w w1) := Lib.hid (HB2.out.grown hgrow Hge.out (fun k hk => HO2.out.ge k hk)); clear hown' hgrow))
          go_roundw
          case rel => exact ⟨j + 1, Hk.out, by first | rfl | (rw [Iw.out]; rfl), by rw [Hf.out]; exact HO3, HB3⟩
          case measure => have := Hk.out; (try rw [Iw.out]); simp [intOf]; omega
        · have ik : ((j : Int) < (k : Int)) = False := eq_false (by omega)
          have hjn : j = k := by omega
          subst hjn
          have Hf : Hid ((L.take j).flatten = L.flatten) := Lib.hid (by rw [Hn.out, List.take_length])
          obtain ⟨A, c', rfl, _⟩ := HO2.out.slice
          have HO3 : Hid (OwnW wr w.heap.size (.slice A s c') L.flatten) := Lib.hid (by have := HO2.out; rw [Hf.out, ← Hq.out] at this; exact this)
          have Hf2 : Hid ((L.take j).flatten.length = s) := Lib.hid (by rw [Hf.out, ← Hq.out])
          rw [Hf2.out]
          clear HO2 hj hlt Hf Hf2
          go_wp2
          go_ret
          exact ⟨A, c', rfl, HO3.out, HB2.out⟩
end Go.Proofs.YtpgichlaghhdeaaGreatDoor

namespace Go.Proofs.YtpgichlaghhdeaaGreatDoor
set_option maxRecDepth 10000
open Go.RowKit

set_option maxHeartbeats 4000000 in
theorem mjoined_any (HK : Hid MSortK) (b off c n q : Nat) (L : List (List Win)) (w : World) (hn : n = L.length) (hb : b < w.heap.size) (hR : RowsW w b off L) (hq : q = L.flatten.length) (hl : q ≤ 5000) (hn2 : n ≤ 1000) :
    Calls Tryz.prog 54 #[.slice (some ⟨b, off, none⟩) n c] w fun e w' => ∃ s A c' m, Mu.Sorted L.flatten s ∧ m = (Mu.joinL s).length ∧ e = .returned (.slice A m c') ∧ OwnW w' w.heap.size (.slice A m c') (Mu.joinL s) ∧ Below w.heap.size w w' := by
  have Hq := Lib.hid hq
  have Hl := Lib.hid hl
  have C := mconcat_any b off c n q L w hn hb hR hq hl hn2
  clear hR hn hb hq hl hn2
  go_enter Tryz.func54, Tryz.ntmps54
  go_wp2_with fail
  refine C.mono ?_
  rintro e w1 ⟨A1, c1, rfl, hO1, hB1⟩
  have HB1 := Lib.hid hB1
  have K := fun W hO => HK.out (.slice A1 q c1) w.heap.size L.flatten W hO (by have := Hq.out; have := Hl.out; omega)
  have K1 := K w1 hO1
  clear C hO1 hB1 K
  go_wp2_with fail
  refine K1.mono ?_
  rintro e w2 ⟨rfl, s, hs, hO2, hB2⟩
  have Hs := Lib.hid hs
  have HB2 : Hid (Below w.heap.size w w2) := Lib.hid (hB2 w HB1.out (Nat.le_refl _))
  have Hsl : Hid (q = s.length) := Lib.hid (by rw [Hq.out]; exact hs.1.length_eq.symm)
  have hr := hO2.rows
  have H0 := Lib.hid (Going.begin HB2.out hr.1 hr.2)
  rw [← Hsl.out] at H0
  have T := through_any A1 q c1 w2
  obtain ⟨g, hg⟩ : ∃ g, g = w2.heap.size := ⟨_, rfl⟩
  have Hg : Hid (w.heap.size ≤ g) := Lib.hid (by rw [hg]; exact HB2.out.size)
  rw [← hg] at H0 T
  clear hg hr hO2 hs hB2 K1 HB1
  go_wp2_with fail
  refine T.mono ?_
  rintro e w3 ⟨rfl, hw3⟩
  rw [← hw3] at H0
  clear hw3 T
  go_wp2_with fail
  go_loopw [4] (fun z wr => ∃ all rest x A m c', z = .slice A m c' ∧ Hid (m = all.length) ∧ Hid (OwnW wr (g + 1) (.slice A m c') all) ∧ Hid (Going w g rest x wr) ∧ Hid (rest.foldl Mu.joinS all = Mu.joinL s) ∧ Hid (all.length + rest.length ≤ 5000)) (fun _ wr => behindN wr g)
  case atStart => exact ⟨[], s, ⟨0, 0, 0⟩, none, 0, 0, rfl, Lib.hid rfl, Lib.hid (OwnW.nil _ _), H0, Lib.hid rfl, Lib.hid (by have := Hsl.out; have := Hl.out; simp only [List.length_nil]; omega)⟩
  case round =>
    clear H0
    obtain ⟨all, rest, x, A, m, c', rfl, Hml, HO, HW, Hf, Hn⟩ := hrel
    cases rest with
    | nil =>
      have Hf2 : Hid (all = Mu.joinL s) := Lib.hid Hf.out
      rw [Hf2.out] at HO Hml
      clear Hf Hn
      go_wp2_with fail
      refine (next_end g x wr HW.out.walk).mono ?_
      rintro e w4 ⟨rfl, rfl⟩
      go_wp2
      go_ret
      exact ⟨s, A, c', m, Hs.out, Hml.out, rfl, HO.out.lower (Nat.le_succ_of_le Hg.out), HW.out.below⟩
    | cons y rest =>
      go_wp2_with fail
      refine (next_on g x y rest wr HW.out.walk).mono ?_
      rintro e w4 ⟨rfl, hw, hgr⟩
      have HW2 := Lib.hid (HW.out.next Hg.out hw hgr)
      have HO2 := Lib.hid (HO.out.aside hgr (Nat.lt_succ_self g))
      have Hm : Hid (behindN wr g = rest.length + 1) := Lib.hid HW.out.walk.n
      have Hgl : Hid (g < w4.heap.size) := Lib.hid hw.lt
      clear hw hgr HW HO
      obtain ⟨y0, y1, y2⟩ := y
      by_cases hall : all = []
      · subst hall
        have Hf2 : Hid (rest.foldl Mu.joinS ([] ++ [⟨y0, y1, y2⟩]) = Mu.joinL s) := Lib.hid Hf.out
        obtain rfl : m = 0 := Hml.out
        clear Hf Hml
        go_wp2_with fail
        go_quiet (fail)
        have HB4 : Hid (Below w4.heap.size w4 (w4.drewN nq)) := Lib.hid (below_drew (Below.refl _ _) nq)
        obtain ⟨W, hW⟩ : ∃ W, W = w4.drewN nq := ⟨_, rfl⟩
        rw [← hW] at HB4 ⊢
        clear hW
        have HW3 := Lib.hid (HW2.out.on HB4.out)
        have HO3 := Lib.hid (HO2.out.below HB4.out)
        clear HW2 HO2 HB4
        have c0 := HW3.out.walk.c0
        have c1 := HW3.out.walk.c1
        have c2 := HW3.out.walk.c2
        simp only at c0 c1 c2
        have ON := Lib.hid (WinsAt.one W y0 y1 y2 56)
        have HBn := Lib.hid (below_new W (.cells #[.int .i64 y0, .int .i64 y1, .int .i64 y2] 56))
        have HOn := Lib.hid (HO3.out.below HBn.out)
        have Hgs : Hid (g + 1 ≤ W.heap.size) := Lib.hid HW3.out.walk.lt
        go_wp2_with (at_builtin; go_loud (refine wpList_append_wins rfl _ _ 29 rfl Tryz.underlying29 (g + 1) _ [] [(⟨y0, y1, y2⟩ : Win)] rfl HOn.out (some ⟨W.heap.size, 0, none⟩) 1 _ rfl rfl ON.out (fun e => nomatch e) (Nat.le_trans Hgs.out HBn.out.size) (by have h := Hn.out; simp at h ⊢; try omega) ?_; intro v' w5 hown' hgrow; obtain ⟨A5, c5, rfl, _⟩ := hown'.slice; obtain ⟨m5, hm5⟩ : ∃ m5, m5 = ([] ++ [(⟨y0, y1, y2⟩ : Win)]).length := ⟨_, rfl⟩; rw [← hm5] at hown' ⊢; have Hm5 := Lib.hid hm5; have HO5 := Lib.hid hown'; have HB5 : Hid (Below (g + 1) W w5) := Lib.hid ((HBn.out.mono Hgs.out).grown hgrow (Nat.le_trans Hgs.out HBn.out.size) (fun k hk => HOn.out.ge k hk)); clear hm5 hown' hgrow))
        have HW5 := Lib.hid (HW3.out.off Hg.out HB5.out)
        go_roundw
        case rel => exact ⟨[] ++ [⟨y0, y1, y2⟩], rest, _, A5, m5, c5, rfl, Hm5, HO5, HW5, Hf2, Lib.hid (by have h := Hn.out; simp at h ⊢; omega)⟩
        case measure => rw [Hm.out, HW5.out.walk.n]; omega
      · obtain ⟨pre, v, rfl⟩ : ∃ pre v, all = pre ++ [v] := ⟨all.dropLast, all.getLast hall, (List.dropLast_concat_getLast hall).symm⟩
        clear hall
        obtain ⟨v0, v1, v2⟩ := v
        obtain ⟨g2, rfl, hm2, hb2, hlt2, h3, hf⟩ := HO2.out.last
        obtain ⟨k, hk⟩ : ∃ k, k = pre.length := ⟨_, rfl⟩
        have Hk := Lib.hid hk
        rw [← hk] at hm2 h3 hf
        clear hk
        subst hm2
        have Hlt : Hid (g2 < w4.heap.size) := Lib.hid hlt2
        have Hb2 : Hid (g + 1 ≤ g2) := Lib.hid hb2
        have hS : Wi3 w4.drew g2 (k * 3) ⟨v0, v1, v2⟩ ∧ Wi3 w4.drew g 0 ⟨y0, y1, y2⟩ := ⟨h3.drew, HW2.out.walk.wi.drew⟩
        have i0 : (0 : Int) ≤ (k : Int) := by omega
        have i1 : (k : Int) < (k : Int) + 1 := by omega
        have i5 : k < k + 1 := by omega
        have hk5 : k ≤ 5000 := by have := Hn.out; have := Hk.out; simp only [List.length_append, List.length_cons, List.length_nil] at *; omega
        have iw : wrap64 ((k : Int) + 1 - 1) = (k : Int) := by unfold wrap64; omega
        have iw2 : wrap64 (k : Int) = (k : Int) := by unfold wrap64; omega
        have ik : ((k : Int) < 0) = False := eq_false (by omega)
        have HB0 : Hid (Below w4.heap.size w4 w4.drew) := Lib.hid (below_drew (Below.refl _ _) 1)
        clear h3 hf hb2 hlt2 hk5
        have kE := fun W => endsAhead_any v0 v1 v2 y0 y1 y2 W
        by_cases hbf : Mu.before ⟨v0, v1, v2⟩ ⟨y0, y1, y2⟩
        · rw [decide_eq_true hbf] at kE
          have Hf2 : Hid (rest.foldl Mu.joinS ((pre ++ [⟨v0, v1, v2⟩]) ++ [⟨y0, y1, y2⟩]) = Mu.joinL s) := Lib.hid (by rw [← Mu.joinS_far (by simp) hbf]; exact Hf.out)
          clear hbf Hf
          go_wp2_with fail
          refine wp_region_held_drew (S := (fun W : World => Wi3 W g2 (k * 3) ⟨v0, v1, v2⟩ ∧ Wi3 W g 0 ⟨y0, y1, y2⟩)) (by kernel_rfl) hS (fun hHeld => ?_)
          refine wpAnyH_take (i := 0) (oi := { dst := some 18, op := Op.move (Operand.tmp 6), type := 3, pos := _, after := #[], guard := none }) (v := ?_) rfl (by kernel_rfl) (by kernel_rfl) (by kernel_rfl) (fun _ _ _ h => h) (Or.inl ⟨by rfl, ?hy⟩) hHeld ?_
          case hy => intro w0 hSw; (try dsimp only at hSw); go_simp; (try with_reducible rfl)
          (try simp only [Act.put, List.setIfInBounds_toArray, List.set_cons_zero, List.set_cons_succ])
          refine wpAnyH_take (i := 1) (oi := { dst := some 19, op := Op.binOp BinOp.lss 3 (Operand.tmp 18) (Operand.const (Value.int IntKind.i64 0)) 3, type := 4, pos := _, after := #[{ on := 0, ground := Ground.data }], guard := none }) (v := ?_) rfl (by kernel_rfl) (by kernel_rfl) (by kernel_rfl) (fun _ _ _ h => h) (Or.inl ⟨by rfl, ?hy⟩) hHeld ?_
          case hy => intro w0 hSw; clear hSw; go_simp; (try rw [ik]); (try with_reducible rfl)
          (try simp only [Act.put, List.setIfInBounds_toArray, List.set_cons_zero, List.set_cons_succ])
          refine wpAnyH_take (i := 2) (oi := { dst := some 20, op := Op.move (Operand.tmp 19), type := 4, pos := _, after := #[{ on := 1, ground := Ground.data }], guard := none }) (v := ?_) rfl (by kernel_rfl) (by kernel_rfl) (by kernel_rfl) (fun _ _ _ h => h) (Or.inl ⟨by rfl, ?hy⟩) hHeld ?_
          case hy => intro w0 hSw; (try dsimp only at hSw); go_simp; (try with_reducible rfl)
          (try simp only [Act.put, List.setIfInBounds_toArray, List.set_cons_zero, List.set_cons_succ])
          refine wpAnyH_take (i := 3) (oi := { dst := some 21, op := Op.move (Operand.tmp 4), type := 29, pos := _, after := #[{ on := 2, ground := Ground.guard }], guard := some (2, false) }) (v := ?_) rfl (by kernel_rfl) (by kernel_rfl) (by kernel_rfl) (fun _ _ _ h => h) (Or.inl ⟨by rfl, ?hy⟩) hHeld ?_
          case hy => intro w0 hSw; (try dsimp only at hSw); go_simp; (try with_reducible rfl)
          (try simp only [Act.put, List.setIfInBounds_toArray, List.set_cons_zero, List.set_cons_succ])
          refine wpAnyH_take (i := 4) (oi := { dst := some 22, op := Op.move (Operand.tmp 6), type := 3, pos := _, after := #[{ on := 2, ground := Ground.guard }], guard := some (2, false) }) (v := ?_) rfl (by kernel_rfl) (by kernel_rfl) (by kernel_rfl) (fun _ _ _ h => h) (Or.inl ⟨by rfl, ?hy⟩) hHeld ?_
          case hy => intro w0 hSw; (try dsimp only at hSw); go_simp; (try with_reducible rfl)
          (try simp only [Act.put, List.setIfInBounds_toArray, List.set_cons_zero, List.set_cons_succ])
          refine wpAnyH_take (i := 5) (oi := { dst := some 23, op := Op.indexAddr 29 (Operand.tmp 21) (Operand.tmp 22), type := 0, pos := _, after := #[{ on := 3, ground := Ground.data }, { on := 4, ground := Ground.data }, { on := 2, ground := Ground.guard }], guard := some (2, false) }) (v := ?_) rfl (by kernel_rfl) (by kernel_rfl) (by kernel_rfl) (fun _ _ _ h => h) (Or.inl ⟨by rfl, ?hy⟩) hHeld ?_
          case hy => intro w0 hSw; (try dsimp only at hSw); go_simp; (try with_reducible rfl)
          (try simp only [Act.put, List.setIfInBounds_toArray, List.set_cons_zero, List.set_cons_succ])
          refine wpAnyH_take (i := 6) (oi := { dst := some 24, op := Op.load 56 (Operand.tmp 23), type := 56, pos := _, after := #[{ on := 5, ground := Ground.data }, { on := 2, ground := Ground.guard }], guard := some (2, false) }) (v := ?_) rfl (by kernel_rfl) (by kernel_rfl) (by kernel_rfl) (fun _ _ _ h => h) (Or.inl ⟨by rfl, ?hy⟩) hHeld ?_
          case hy => intro w0 hSw; have d0 := hSw.1.c0; have d1 := hSw.1.c1; have d2 := hSw.1.c2; clear hSw; dsimp only at d0 d1 d2; go_simp; (try with_reducible rfl)
          (try simp only [Act.put, List.setIfInBounds_toArray, List.set_cons_zero, List.set_cons_succ])
          refine wpAnyH_take (i := 7) (oi := { dst := some 25, op := Op.build 101 #[(0, Operand.tmp 24)], type := 101, pos := _, after := #[{ on := 6, ground := Ground.data }, { on := 2, ground := Ground.guard }], guard := some (2, false) }) (v := ?_) rfl (by kernel_rfl) (by kernel_rfl) (by kernel_rfl) (fun _ _ _ h => h) (Or.inl ⟨by rfl, ?hy⟩) hHeld ?_
          case hy => intro w0 hSw; (try dsimp only at hSw); go_simp; (try with_reducible rfl)
          (try simp only [Act.put, List.setIfInBounds_toArray, List.set_cons_zero, List.set_cons_succ])
          refine wpAnyH_take (i := 8) (oi := { dst := some 26, op := Op.move (Operand.tmp 5), type := 97, pos := _, after := #[{ on := 2, ground := Ground.guard }], guard := some (2, false) }) (v := ?_) rfl (by kernel_rfl) (by kernel_rfl) (by kernel_rfl) (fun _ _ _ h => h) (Or.inl ⟨by rfl, ?hy⟩) hHeld ?_
          case hy => intro w0 hSw; (try dsimp only at hSw); go_simp; (try with_reducible rfl)
          (try simp only [Act.put, List.setIfInBounds_toArray, List.set_cons_zero, List.set_cons_succ])
          refine wpAnyH_take (i := 9) (oi := { dst := some 27, op := Op.nilCheck (Operand.tmp 26), type := 0, pos := _, after := #[{ on := 8, ground := Ground.data }, { on := 2, ground := Ground.guard }], guard := some (2, false) }) (v := ?_) rfl (by kernel_rfl) (by kernel_rfl) (by kernel_rfl) (fun _ _ _ h => h) (Or.inl ⟨by rfl, ?hy⟩) hHeld ?_
          case hy => intro w0 hSw; (try dsimp only at hSw); go_simp; (try with_reducible rfl)
          (try simp only [Act.put, List.setIfInBounds_toArray, List.set_cons_zero, List.set_cons_succ])
          refine wpAnyH_take (i := 10) (oi := { dst := some 28, op := Op.fieldAddr 103 (Operand.tmp 27) 0, type := 0, pos := _, after := #[{ on := 9, ground := Ground.data }, { on := 2, ground := Ground.guard }], guard := some (2, false) }) (v := ?_) rfl (by kernel_rfl) (by kernel_rfl) (by kernel_rfl) (fun _ _ _ h => h) (Or.inl ⟨by rfl, ?hy⟩) hHeld ?_
          case hy => intro w0 hSw; (try dsimp only at hSw); go_simp; (try with_reducible rfl)
          (try simp only [Act.put, List.setIfInBounds_toArray, List.set_cons_zero, List.set_cons_succ])
          refine wpAnyH_take (i := 11) (oi := { dst := some 29, op := Op.fieldAddr 101 (Operand.tmp 28) 0, type := 0, pos := _, after := #[{ on := 10, ground := Ground.data }, { on := 2, ground := Ground.guard }], guard := some (2, false) }) (v := ?_) rfl (by kernel_rfl) (by kernel_rfl) (by kernel_rfl) (fun _ _ _ h => h) (Or.inl ⟨by rfl, ?hy⟩) hHeld ?_
          case hy => intro w0 hSw; (try dsimp only at hSw); go_simp; (try with_reducible rfl)
          (try simp only [Act.put, List.setIfInBounds_toArray, List.set_cons_zero, List.set_cons_succ])
          refine wpAnyH_take (i := 12) (oi := { dst := some 30, op := Op.load 56 (Operand.tmp 29), type := 56, pos := _, after := #[{ on := 11, ground := Ground.data }, { on := 2, ground := Ground.guard }], guard := some (2, false) }) (v := ?_) rfl (by kernel_rfl) (by kernel_rfl) (by kernel_rfl) (fun _ _ _ h => h) (Or.inl ⟨by rfl, ?hy⟩) hHeld ?_
          case hy => intro w0 hSw; have d0 := hSw.2.c0; have d1 := hSw.2.c1; have d2 := hSw.2.c2; clear hSw; dsimp only at d0 d1 d2; go_simp; (try with_reducible rfl)
          (try simp only [Act.put, List.setIfInBounds_toArray, List.set_cons_zero, List.set_cons_succ])
          refine wpAnyH_ready (rs := [13]) (by kernel_rfl) (by simp) ?_
          refine AllReadyH.cons (o := { dst := some 31, op := Op.call { callee := Callee.value (Operand.func 83), args := #[Operand.tmp 25, Operand.tmp 30], argTypes := #[101, 56] }, type := 4, pos := _, after := #[{ on := 7, ground := Ground.data }, { on := 12, ground := Ground.data }, { on := 2, ground := Ground.chain }, { on := 2, ground := Ground.guard }], guard := some (2, false) }) rfl (fun K hK => ?_) AllReadyH.nil
          go_simp
          refine (kE _).mono ?_
          rintro e w6 ⟨rfl, hB'⟩
          replace hS : Wi3 w6 g2 (k * 3) ⟨v0, v1, v2⟩ ∧ Wi3 w6 g 0 ⟨y0, y1, y2⟩ := ⟨hS.1.below hB' Hlt.out, hS.2.below hB' Hgl.out⟩
          have HB3 := Lib.hid hB'
          clear hB'
          go_wp2_with fail
          refine hK.out _ _ hS (fun hHeld => ?_)
          clear hK K
          (try simp only [Act.put, List.setIfInBounds_toArray, List.set_cons_zero, List.set_cons_succ])
          refine wpAnyH_take (i := 14) (oi := { dst := some 32, op := Op.pick (Operand.tmp 20) (Operand.const (Value.bool true)) (Operand.tmp 31), type := 4, pos := _, after := #[{ on := 2, ground := Ground.data }, { on := 13, ground := Ground.data }], guard := none }) (v := ?_) rfl (by kernel_rfl) (by kernel_rfl) (by kernel_rfl) (fun _ _ _ h => h) (Or.inl ⟨by rfl, ?hy⟩) hHeld ?_
          case hy => intro w0 hSw; (try dsimp only at hSw); go_simp; (try with_reducible rfl)
          (try simp only [Act.put, List.setIfInBounds_toArray, List.set_cons_zero, List.set_cons_succ])
          refine wpAnyH_done (by kernel_rfl) ?_ _
          clear hHeld hS
          have HW6 := Lib.hid (HW2.out.on (below2 HB0.out HB3.out))
          have HO6 := Lib.hid (HO2.out.below (below2 HB0.out HB3.out))
          clear HW2 HO2 HB3 HB0 kE
          have c0 := HW6.out.walk.c0
          have c1 := HW6.out.walk.c1
          have c2 := HW6.out.walk.c2
          simp only at c0 c1 c2
          have ON := Lib.hid (WinsAt.one w6 y0 y1 y2 56)
          have HBn := Lib.hid (below_new w6 (.cells #[.int .i64 y0, .int .i64 y1, .int .i64 y2] 56))
          have HOn := Lib.hid (HO6.out.below HBn.out)
          have Hgs : Hid (g + 1 ≤ w6.heap.size) := Lib.hid HW6.out.walk.lt
          go_wp2_with (at_builtin; go_loud (refine wpList_append_wins rfl _ _ 29 rfl Tryz.underlying29 (g + 1) _ (pre ++ [(⟨v0, v1, v2⟩ : Win)]) [(⟨y0, y1, y2⟩ : Win)] rfl HOn.out (some ⟨w6.heap.size, 0, none⟩) 1 _ rfl rfl ON.out (fun e => nomatch e) (Nat.le_trans Hgs.out HBn.out.size) (by have h := Hn.out; simp at h ⊢; try omega) ?_; intro v' w5 hown' hgrow; obtain ⟨A5, c5, rfl, _⟩ := hown'.slice; obtain ⟨m5, hm5⟩ : ∃ m5, m5 = ((pre ++ [(⟨v0, v1, v2⟩ : Win)]) ++ [(⟨y0, y1, y2⟩ : Win)]).length := ⟨_, rfl⟩; rw [← hm5] at hown' ⊢; have Hm5 := Lib.hid hm5; have HO5 := Lib.hid hown'; have HB5 : Hid (Below (g + 1) w6 w5) := Lib.hid ((HBn.out.mono Hgs.out).grown hgrow (Nat.le_trans Hgs.out HBn.out.size) (fun k hk => HOn.out.ge k hk)); clear hm5 hown' hgrow))
          have HW5 := Lib.hid (HW6.out.off Hg.out HB5.out)
          go_roundw
          case rel => exact ⟨(pre ++ [⟨v0, v1, v2⟩]) ++ [⟨y0, y1, y2⟩], rest, _, A5, m5, c5, rfl, Hm5, HO5, HW5, Hf2, Lib.hid (by have h := Hn.out; simp at h ⊢; omega)⟩
          case measure => rw [Hm.out, HW5.out.walk.n]; omega
        · rw [decide_eq_false hbf] at kE
          obtain ⟨t, ht⟩ : ∃ t, max v2 y2 = t := ⟨_, rfl⟩
          have Hf2 : Hid (rest.foldl Mu.joinS (pre ++ [⟨v0, v1, t⟩]) = Mu.joinL s) := Lib.hid (by
            have := Hf.out
            rw [List.foldl_cons, Mu.joinS_near (v := ⟨v0, v1, v2⟩) (by simp) hbf, List.dropLast_concat] at this
            rw [← ht]; exact this)
          clear hbf Hf
          go_wp2_with fail
          refine wp_region_held_drew (S := (fun W : World => Wi3 W g2 (k * 3) ⟨v0, v1, v2⟩ ∧ Wi3 W g 0 ⟨y0, y1, y2⟩)) (by kernel_rfl) hS (fun hHeld => ?_)
          refine wpAnyH_take (i := 0) (oi := { dst := some 18, op := Op.move (Operand.tmp 6), type := 3, pos := _, after := #[], guard := none }) (v := ?_) rfl (by kernel_rfl) (by kernel_rfl) (by kernel_rfl) (fun _ _ _ h => h) (Or.inl ⟨by rfl, ?hy⟩) hHeld ?_
          case hy => intro w0 hSw; (try dsimp only at hSw); go_simp; (try with_reducible rfl)
          (try simp only [Act.put, List.setIfInBounds_toArray, List.set_cons_zero, List.set_cons_succ])
          refine wpAnyH_take (i := 1) (oi := { dst := some 19, op := Op.binOp BinOp.lss 3 (Operand.tmp 18) (Operand.const (Value.int IntKind.i64 0)) 3, type := 4, pos := _, after := #[{ on := 0, ground := Ground.data }], guard := none }) (v := ?_) rfl (by kernel_rfl) (by kernel_rfl) (by kernel_rfl) (fun _ _ _ h => h) (Or.inl ⟨by rfl, ?hy⟩) hHeld ?_
          case hy => intro w0 hSw; clear hSw; go_simp; (try rw [ik]); (try with_reducible rfl)
          (try simp only [Act.put, List.setIfInBounds_toArray, List.set_cons_zero, List.set_cons_succ])
          refine wpAnyH_take (i := 2) (oi := { dst := some 20, op := Op.move (Operand.tmp 19), type := 4, pos := _, after := #[{ on := 1, ground := Ground.data }], guard := none }) (v := ?_) rfl (by kernel_rfl) (by kernel_rfl) (by kernel_rfl) (fun _ _ _ h => h) (Or.inl ⟨by rfl, ?hy⟩) hHeld ?_
          case hy => intro w0 hSw; (try dsimp only at hSw); go_simp; (try with_reducible rfl)
          (try simp only [Act.put, List.setIfInBounds_toArray, List.set_cons_zero, List.set_cons_succ])
          refine wpAnyH_take (i := 3) (oi := { dst := some 21, op := Op.move (Operand.tmp 4), type := 29, pos := _, after := #[{ on := 2, ground := Ground.guard }], guard := some (2, false) }) (v := ?_) rfl (by kernel_rfl) (by kernel_rfl) (by kernel_rfl) (fun _ _ _ h => h) (Or.inl ⟨by rfl, ?hy⟩) hHeld ?_
          case hy => intro w0 hSw; (try dsimp only at hSw); go_simp; (try with_reducible rfl)
          (try simp only [Act.put, List.setIfInBounds_toArray, List.set_cons_zero, List.set_cons_succ])
          refine wpAnyH_take (i := 4) (oi := { dst := some 22, op := Op.move (Operand.tmp 6), type := 3, pos := _, after := #[{ on := 2, ground := Ground.guard }], guard := some (2, false) }) (v := ?_) rfl (by kernel_rfl) (by kernel_rfl) (by kernel_rfl) (fun _ _ _ h => h) (Or.inl ⟨by rfl, ?hy⟩) hHeld ?_
          case hy => intro w0 hSw; (try dsimp only at hSw); go_simp; (try with_reducible rfl)
          (try simp only [Act.put, List.setIfInBounds_toArray, List.set_cons_zero, List.set_cons_succ])
          refine wpAnyH_take (i := 5) (oi := { dst := some 23, op := Op.indexAddr 29 (Operand.tmp 21) (Operand.tmp 22), type := 0, pos := _, after := #[{ on := 3, ground := Ground.data }, { on := 4, ground := Ground.data }, { on := 2, ground := Ground.guard }], guard := some (2, false) }) (v := ?_) rfl (by kernel_rfl) (by kernel_rfl) (by kernel_rfl) (fun _ _ _ h => h) (Or.inl ⟨by rfl, ?hy⟩) hHeld ?_
          case hy => intro w0 hSw; (try dsimp only at hSw); go_simp; (try with_reducible rfl)
          (try simp only [Act.put, List.setIfInBounds_toArray, List.set_cons_zero, List.set_cons_succ])
          refine wpAnyH_take (i := 6) (oi := { dst := some 24, op := Op.load 56 (Operand.tmp 23), type := 56, pos := _, after := #[{ on := 5, ground := Ground.data }, { on := 2, ground := Ground.guard }], guard := some (2, false) }) (v := ?_) rfl (by kernel_rfl) (by kernel_rfl) (by kernel_rfl) (fun _ _ _ h => h) (Or.inl ⟨by rfl, ?hy⟩) hHeld ?_
          case hy => intro w0 hSw; have d0 := hSw.1.c0; have d1 := hSw.1.c1; have d2 := hSw.1.c2; clear hSw; dsimp only at d0 d1 d2; go_simp; (try with_reducible rfl)
          (try simp only [Act.put, List.setIfInBounds_toArray, List.set_cons_zero, List.set_cons_succ])
          refine wpAnyH_take (i := 7) (oi := { dst := some 25, op := Op.build 101 #[(0, Operand.tmp 24)], type := 101, pos := _, after := #[{ on := 6, ground := Ground.data }, { on := 2, ground := Ground.guard }], guard := some (2, false) }) (v := ?_) rfl (by kernel_rfl) (by kernel_rfl) (by kernel_rfl) (fun _ _ _ h => h) (Or.inl ⟨by rfl, ?hy⟩) hHeld ?_
          case hy => intro w0 hSw; (try dsimp only at hSw); go_simp; (try with_reducible rfl)
          (try simp only [Act.put, List.setIfInBounds_toArray, List.set_cons_zero, List.set_cons_succ])
          refine wpAnyH_take (i := 8) (oi := { dst := some 26, op := Op.move (Operand.tmp 5), type := 97, pos := _, after := #[{ on := 2, ground := Ground.guard }], guard := some (2, false) }) (v := ?_) rfl (by kernel_rfl) (by kernel_rfl) (by kernel_rfl) (fun _ _ _ h => h) (Or.inl ⟨by rfl, ?hy⟩) hHeld ?_
          case hy => intro w0 hSw; (try dsimp only at hSw); go_simp; (try with_reducible rfl)
          (try simp only [Act.put, List.setIfInBounds_toArray, List.set_cons_zero, List.set_cons_succ])
          refine wpAnyH_take (i := 9) (oi := { dst := some 27, op := Op.nilCheck (Operand.tmp 26), type := 0, pos := _, after := #[{ on := 8, ground := Ground.data }, { on := 2, ground := Ground.guard }], guard := some (2, false) }) (v := ?_) rfl (by kernel_rfl) (by kernel_rfl) (by kernel_rfl) (fun _ _ _ h => h) (Or.inl ⟨by rfl, ?hy⟩) hHeld ?_
          case hy => intro w0 hSw; (try dsimp only at hSw); go_simp; (try with_reducible rfl)
          (try simp only [Act.put, List.setIfInBounds_toArray, List.set_cons_zero, List.set_cons_succ])
          refine wpAnyH_take (i := 10) (oi := { dst := some 28, op := Op.fieldAddr 103 (Operand.tmp 27) 0, type := 0, pos := _, after := #[{ on := 9, ground := Ground.data }, { on := 2, ground := Ground.guard }], guard := some (2, false) }) (v := ?_) rfl (by kernel_rfl) (by kernel_rfl) (by kernel_rfl) (fun _ _ _ h => h) (Or.inl ⟨by rfl, ?hy⟩) hHeld ?_
          case hy => intro w0 hSw; (try dsimp only at hSw); go_simp; (try with_reducible rfl)
          (try simp only [Act.put, List.setIfInBounds_toArray, List.set_cons_zero, List.set_cons_succ])
          refine wpAnyH_take (i := 11) (oi := { dst := some 29, op := Op.fieldAddr 101 (Operand.tmp 28) 0, type := 0, pos := _, after := #[{ on := 10, ground := Ground.data }, { on := 2, ground := Ground.guard }], guard := some (2, false) }) (v := ?_) rfl (by kernel_rfl) (by kernel_rfl) (by kernel_rfl) (fun _ _ _ h => h) (Or.inl ⟨by rfl, ?hy⟩) hHeld ?_
          case hy => intro w0 hSw; (try dsimp only at hSw); go_simp; (try with_reducible rfl)
          (try simp only [Act.put, List.setIfInBounds_toArray, List.set_cons_zero, List.set_cons_succ])
          refine wpAnyH_take (i := 12) (oi := { dst := some 30, op := Op.load 56 (Operand.tmp 29), type := 56, pos := _, after := #[{ on := 11, ground := Ground.data }, { on := 2, ground := Ground.guard }], guard := some (2, false) }) (v := ?_) rfl (by kernel_rfl) (by kernel_rfl) (by kernel_rfl) (fun _ _ _ h => h) (Or.inl ⟨by rfl, ?hy⟩) hHeld ?_
          case hy => intro w0 hSw; have d0 := hSw.2.c0; have d1 := hSw.2.c1; have d2 := hSw.2.c2; clear hSw; dsimp only at d0 d1 d2; go_simp; (try with_reducible rfl)
          (try simp only [Act.put, List.setIfInBounds_toArray, List.set_cons_zero, List.set_cons_succ])
          refine wpAnyH_ready (rs := [13]) (by kernel_rfl) (by simp) ?_
          refine AllReadyH.cons (o := { dst := some 31, op := Op.call { callee := Callee.value (Operand.func 83), args := #[Operand.tmp 25, Operand.tmp 30], argTypes := #[101, 56] }, type := 4, pos := _, after := #[{ on := 7, ground := Ground.data }, { on := 12, ground := Ground.data }, { on := 2, ground := Ground.chain }, { on := 2, ground := Ground.guard }], guard := some (2, false) }) rfl (fun K hK => ?_) AllReadyH.nil
          go_simp
          refine (kE _).mono ?_
          rintro e w6 ⟨rfl, hB'⟩
          replace hS : Wi3 w6 g2 (k * 3) ⟨v0, v1, v2⟩ ∧ Wi3 w6 g 0 ⟨y0, y1, y2⟩ := ⟨hS.1.below hB' Hlt.out, hS.2.below hB' Hgl.out⟩
          have HB3 := Lib.hid hB'
          clear hB'
          go_wp2_with fail
          refine hK.out _ _ hS (fun hHeld => ?_)
          clear hK K
          (try simp only [Act.put, List.setIfInBounds_toArray, List.set_cons_zero, List.set_cons_succ])
          refine wpAnyH_take (i := 14) (oi := { dst := some 32, op := Op.pick (Operand.tmp 20) (Operand.const (Value.bool true)) (Operand.tmp 31), type := 4, pos := _, after := #[{ on := 2, ground := Ground.data }, { on := 13, ground := Ground.data }], guard := none }) (v := ?_) rfl (by kernel_rfl) (by kernel_rfl) (by kernel_rfl) (fun _ _ _ h => h) (Or.inl ⟨by rfl, ?hy⟩) hHeld ?_
          case hy => intro w0 hSw; (try dsimp only at hSw); go_simp; (try with_reducible rfl)
          (try simp only [Act.put, List.setIfInBounds_toArray, List.set_cons_zero, List.set_cons_succ])
          refine wpAnyH_done (by kernel_rfl) ?_ _
          clear hHeld hS
          have HW6 := Lib.hid (HW2.out.on (below2 HB0.out HB3.out))
          have HO6 := Lib.hid (HO2.out.below (below2 HB0.out HB3.out))
          clear HW2 HO2 HB3 HB0 kE
          have c2 := HW6.out.walk.c2
          simp only at c2
          obtain ⟨g3, e3, _, _, _, h3, hf⟩ := HO6.out.last
          cases e3
          rw [← Hk.out] at h3 hf
          have d2 := h3.c2
          dsimp only at d2
          clear h3
          have HO7 : Hid (OwnW (w6.setCell ⟨g2, k * 3 + 2, none⟩ (.int .i64 t)).drew (g + 1) (.slice (some ⟨g2, 0, none⟩) (k + 1) c') (pre ++ [⟨v0, v1, t⟩])) := Lib.hid (by have h := HO6.out.setTo t; rw [← Hk.out] at h; exact h.below (below_drew (Below.refl _ _) 1))
          have HB7 : Hid (Below (g + 1) w6 (w6.setCell ⟨g2, k * 3 + 2, none⟩ (.int .i64 t)).drew) := Lib.hid (below_drew (below_setCell9 w6 Hb2.out) 1)
          have HW7 := Lib.hid (HW6.out.off Hg.out HB7.out)
          clear HO6
          go_wp2_with fail
          go_region
          go_wp2
          go_roundw
          case rel => exact ⟨pre ++ [⟨v0, v1, t⟩], rest, _, some ⟨g2, 0, none⟩, k + 1, c', rfl, Lib.hid (by rw [Hk.out]; simp), HO7, HW7, Hf2, Lib.hid (by have h := Hn.out; simp at h ⊢; omega)⟩
          case measure => rw [Hm.out, HW7.out.walk.n]; omega
end Go.Proofs.YtpgichlaghhdeaaGreatDoor
