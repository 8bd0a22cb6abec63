/-
  Layer 4 (spot): the walk of Beds.
-/
import Derived.Test.YtndpcnimebedcaaDoorSpotText
import Derived.Test.YtndpcnimebedcaaDoorSpotBM
import Derived.Lib.OwnBridge
import Derived.Sort.OwnSortedInts
import Derived.Laws.AppendOwnNone
namespace Go.Proofs.YtndpcnimebedcaaDoor
open Go.RowKit Go.Sort

/-- The slice at A holds the spots ls, in blocks below B. -/
def SpotsAt (w : World) (B : Nat) (A : Option Addr) (ls : List (Int × Int)) : Prop :=
  ∀ i (h : i < ls.length), ∃ b off, A = some ⟨b, off, none⟩ ∧ b < B ∧ w.cell? ⟨b, off + i * 2, none⟩ = some (.int .i64 ls[i].1) ∧ w.cell? ⟨b, off + i * 2 + 1, none⟩ = some (.int .i64 ls[i].2)

theorem SpotsAt.below {w w' : World} {B B' : Nat} {A : Option Addr} {ls : List (Int × Int)} (h : SpotsAt w B A ls) (hb : Below B' w w') (hB : B ≤ B') : SpotsAt w' B A ls := fun i hi => by
  obtain ⟨b, off, e, hlt, h0, h1⟩ := h i hi
  exact ⟨b, off, e, hlt, (hb.cell (p := ⟨b, off + i * 2, none⟩) (by show b < B'; omega)).trans h0, (hb.cell (p := ⟨b, off + i * 2 + 1, none⟩) (by show b < B'; omega)).trans h1⟩
theorem SpotsAt.more {w : World} {B B' : Nat} {A : Option Addr} {ls : List (Int × Int)} (h : SpotsAt w B A ls) (hB : B ≤ B') : SpotsAt w B' A ls := fun i hi => by
  obtain ⟨b, off, e, hlt, h0, h1⟩ := h i hi
  exact ⟨b, off, e, by omega, h0, h1⟩
theorem SpotsAt.on {w w' : World} {A : Option Addr} {ls : List (Int × Int)} (h : SpotsAt w w.heap.size A ls) (hb : Below w.heap.size w w') : SpotsAt w' w'.heap.size A ls := (h.below hb (Nat.le_refl _)).more hb.size

theorem Tryd.infoI2 : (Tryd.prog.info? 3).map (fun i => (i.zero, i.size, i.bytes)) = some (some (.int .i64 0), 1, 8) := by kernel_rfl

/-- What holds ahead of each round of Beds. -/
def BedsRel (w : World) (ls : List (Int × Int)) (v i : Value) (wr : World) : Prop :=
  ∃ k : Nat, k ≤ ls.length ∧ i = .int .i64 (k : Int) ∧ wr.ownsRow w.heap.size 3 1 v (Sp.vb (ls.take k)).length ((Sp.vb (ls.take k)).map (Value.int .i64)) ∧ Below w.heap.size w wr

theorem compact_len (zs : List Int) : (Lib.compact zs).length ≤ zs.length := by
  unfold Lib.compact Lib.compactUpTo
  rw [List.length_map]
  exact Nat.le_trans (List.length_filter_le _ _) (by simp)

/-- What the sort and the compaction leave. -/
theorem beds_left {w w1 : World} {g cap nn q : Nat} {os : Array Obj} {zs ms : List Int} (hl : ms.length = zs.length) (hown : w1.ownsRow w.heap.size 3 1 (.slice (some ⟨g, 0, none⟩) zs.length cap) zs.length (zs.map (Value.int .i64))) (hbel : Below w.heap.size w w1) :
    (putRow (Value.int .i64) (Sort.ahead (grow (putRow (Value.int .i64) (Sort.ahead w1 nn) g 0 ms.toArray) os) q) g 0 (Lib.compact ms ++ List.replicate (ms.length - (Lib.compact ms).length) 0).toArray).ownsRow w.heap.size 3 1 (.slice (some ⟨g, 0, none⟩) (Lib.compact ms).length cap) (Lib.compact ms).length ((Lib.compact ms).map (Value.int .i64)) ∧
    Below w.heap.size w (putRow (Value.int .i64) (Sort.ahead (grow (putRow (Value.int .i64) (Sort.ahead w1 nn) g 0 ms.toArray) os) q) g 0 (Lib.compact ms ++ List.replicate (ms.length - (Lib.compact ms).length) 0).toArray) := by
  have hle := compact_len ms
  rcases hown.2 with ⟨h0, _⟩ | ⟨g', cap', cur, hv, hbase, hb, h1, h2, h3, h4⟩
  · cases h0
  cases hv
  have hs := ownsRow_sortedI (n := nn) (os := os) (ts := ms) hl hbase hb h1 h2 h3
  have hc := Lib.ownsRow_putRow (q := q) (k := (Lib.compact ms).length) (ys := Lib.compact ms ++ List.replicate (ms.length - (Lib.compact ms).length) 0) hs (by simp; omega) (by omega)
  rw [List.take_left] at hc
  exact ⟨hc, Lib.below_putRow (hbel.grown (grownBy_sortedI _) hbel.size (fun j hj => by cases hj; exact hbase)) hbase⟩

theorem sorted_holds {w1 : World} {g nn : Nat} {os : Array Obj} {zs ms : List Int} (hl : ms.length = zs.length) (hg : g < w1.heap.size) (hH : Holds (Value.int .i64) w1 g 0 zs.toArray) :
    Holds (Value.int .i64) (grow (putRow (Value.int .i64) (Sort.ahead w1 nn) g 0 ms.toArray) os) g 0 ms.toArray :=
  holds_grow (Value.int .i64) _ os g 0 _ (by simpa [putRow, mapBlock, Sort.ahead] using hg) (holds_putRow (Value.int .i64) _ g 0 _ _ (holds_ahead (Value.int .i64) w1 nn g 0 _ hH) (by simp [hl]))

set_option maxHeartbeats 2000000 in
theorem Beds_any (A : Option Addr) (cap : Nat) (ls : List (Int × Int)) (w : World) (hA : SpotsAt w w.heap.size A ls) (hl : ls.length ≤ 1000) :
    Calls Tryd.prog 23 #[.slice A ls.length cap] w fun e w' => ∃ v, e = .returned v ∧ w'.ownsRow w.heap.size 3 1 v (Sp.beds ls).length ((Sp.beds ls).map (Value.int .i64)) ∧ Below w.heap.size w w' := by
  obtain ⟨i0, hi, hz0, hz1, hz2⟩ := info_parts Tryd.infoI2
  have HA := Lib.hid hA
  have Hl := Lib.hid hl
  clear hA hl
  go_enter Tryd.func23, Tryd.ntmps23
  go_wp2_with fail
  go_loopw [3, 9] (fun v i wr => BedsRel w ls v i wr) (fun _ i _ => ls.length - (intOf i).toNat)
  case atStart => exact ⟨0, Nat.zero_le _, rfl, World.ownsRow_nil _ _ _ _, Below.refl _ _⟩
  case round =>
    obtain ⟨k, hk, rfl, hown, hB⟩ := hrel
    by_cases hlt : k < ls.length
    · obtain ⟨b, off, rfl, hb, hc0, hc1⟩ := (HA.out.below hB (Nat.le_refl _)) k hlt
      have i1 : (k : Int) < (ls.length : Int) := by omega
      have i3 : (0 : Int) ≤ (k : Int) := by omega
      have i5 : wrap64 ((k : Int) + 1) = (k : Int) + 1 := by have := Hl.out; unfold wrap64; omega
      obtain ⟨x, hx⟩ : ∃ x, x = ls[k].1 := ⟨_, rfl⟩
      obtain ⟨y, hy⟩ : ∃ y, y = ls[k].2 := ⟨_, rfl⟩
      rw [← hx] at hc0
      rw [← hy] at hc1
      have h1 := fun W => mayBe_any x y W
      have HX : Hid (Sp.vb (ls.take (k + 1)) = Sp.vb (ls.take k) ++ (if Sp.may x y then [x] else [])) := Lib.hid (by rw [hx, hy]; exact Sp.vb_take hlt)
      clear hx hy
      cases hm : Sp.may x y
      · rw [hm] at h1
        have HX' := HX.out
        rw [hm] at HX'
        simp only [Bool.false_eq_true, if_false, List.append_nil] at HX'
        have HX2 := Lib.hid HX'
        clear HX HX' hm
        go_wp2_with fail
        refine (h1 _).mono ?_
        rintro e w1 ⟨rfl, hB1⟩
        have hB01 := below2 (below_new2 _ _ _) hB1
        clear h1 hB1
        go_wp2
        go_roundw
        case rel => exact ⟨k + 1, by omega, by first | rfl | (rw [i5]; rfl) | go_num, by rw [HX2.out]; exact owns_below hown hB01, hB.trans (hB01.mono hB.size)⟩
        case measure => first | (rw [i5]; clear i5; simp [intOf]; omega) | (simp only [intOf, i5]; clear i5; omega)
      · rw [hm] at h1
        have HX' := HX.out
        rw [hm] at HX'
        simp only [if_true] at HX'
        have HX2 := Lib.hid HX'
        clear HX HX' hm
        go_wp2_with fail
        refine (h1 _).mono ?_
        rintro e w1 ⟨rfl, hB1⟩
        have hB01 := below2 (below_new2 _ _ _) hB1
        have kk := (Two.new1 wr (.cells #[.int .i64 x, .int .i64 y] 23) x y 48).below hB1
        have k10 := kk.c0
        have hown1 := owns_below hown hB01
        have hB2 : Below w.heap.size w w1 := hB.trans (hB01.mono hB.size)
        have hn : (Sp.vb (ls.take k)).length ≤ 1000 := by
          have h1 := Sp.vb_len (ls.take k)
          have h2 := Hl.out
          rw [List.length_take] at h1
          omega
        obtain ⟨vs, hvs⟩ : ∃ vs, vs = Sp.vb (ls.take k) := ⟨_, rfl⟩
        rw [← hvs] at hown1 hn
        have Hvs := Lib.hid hvs
        clear h1 hB1 kk hvs hown
        go_wp2_with (at_builtin; refine wpList_append_own _ rfl _ _ 38 rfl w.heap.size 3 i0 (.int .i64 0) 1 8 Tryd.underlying38 hi hz0 hz1 hz2 rfl (by decide) _ _ _ rfl (hown1.alloc _) ⟨w1.heap.size, 0, none⟩ 1 1 [.int .i64 x] rfl rfl (cell_one_new _ _ _) (by simp [Value.oneCell']) (by unfold maxLen; omega) (by omega) (by have := hB2.size; simp; omega) ?_; intro v' w2 hown' hgrow _; obtain ⟨g', cap', rfl⟩ := ownsRow_succ hown')
        go_roundw
        case rel => exact ⟨k + 1, by omega, by first | rfl | (rw [i5]; rfl) | go_num, by rw [HX2.out, ← Hvs.out]; simpa using hown', gets_below hB2 hown1 hgrow⟩
        case measure => first | (rw [i5]; clear i5; simp [intOf]; omega) | (simp only [intOf, i5]; clear i5; omega)
    · obtain rfl : k = ls.length := by omega
      rw [List.take_length] at hown
      obtain ⟨zs, hzs⟩ : ∃ zs, zs = Sp.vb ls := ⟨_, rfl⟩
      have Hn : Hid (zs.length ≤ 1000) := Lib.hid (by rw [hzs]; exact Nat.le_trans (Sp.vb_len ls) Hl.out)
      obtain ⟨ms, hms⟩ : ∃ ms, ms = zs.mergeSort fun x y => decide (x ≤ y) := ⟨_, rfl⟩
      have Hb : Hid (Sp.beds ls = Lib.compact ms) := Lib.hid (by unfold Sp.beds; rw [hms, hzs])
      have Hlen : Hid (ms.length = zs.length) := Lib.hid (by rw [hms, List.length_mergeSort])
      rw [← hzs] at hown
      have Hms := Lib.hid hms
      clear hzs hms
      by_cases hv : u3 = .slice none 0 0
      · subst hv
        have hz : zs = [] := by
          rcases hown.2 with ⟨_, h0⟩ | ⟨g, c, cur, h0, _⟩
          · exact List.length_eq_zero_iff.1 h0
          · cases h0
        have Hz : Hid (Sp.beds ls = []) := Lib.hid (by rw [Hb.out, Hms.out, hz]; simp; rfl)
        clear hz hown
        have hs1 := Tryd.slices_Sort_int_none none 0 wr
        have hs2 := Tryd.slices_Compact_int_empty none 0 wr
        go_wp2_with fail
        refine hs1.mono ?_
        rintro e w1 ⟨rfl, rfl⟩
        go_wp2_with fail
        refine hs2.mono ?_
        rintro e w2 ⟨rfl, rfl⟩
        go_wp2
        go_ret
        exact ⟨_, rfl, by rw [Hz.out]; exact World.ownsRow_nil _ _ _ _, hB⟩
      · obtain ⟨g, cap1, rfl, hbg, hgl, hncap, hcm, hlen, hH⟩ := Lib.holds_of_ownsRow hown hv
        have hs1 := Tryd.slices_Sort_int g 0 cap1 zs wr hH hgl (by have := Hn.out; omega)
        rw [← Hms.out] at hs1
        have hs2 := fun nn os => Tryd.slices_Compact_int g 0 cap1 ms _ (sorted_holds (nn := nn) (os := os) Hlen.out hgl hH) (by have := Hn.out; have := Hlen.out; omega) (by have := Hlen.out; omega)
        rw [Hlen.out] at hs2
        have Hl3 := fun nn os q => Lib.hid (beds_left (nn := nn) (os := os) (q := q) Hlen.out hown hB)
        rw [Hlen.out] at Hl3
        clear hv hbg hgl hncap hcm hlen hH hown
        go_wp2_with fail
        refine hs1.mono ?_
        rintro e w1 ⟨rfl, nn, os, rfl⟩
        go_wp2_with fail
        refine (hs2 nn os).mono ?_
        rintro e w2 ⟨rfl, q, rfl⟩
        go_wp2
        go_ret
        have := (Hl3 nn os q).out
        exact ⟨_, rfl, by rw [Hb.out]; exact this.1, this.2⟩

end Go.Proofs.YtndpcnimebedcaaDoor
