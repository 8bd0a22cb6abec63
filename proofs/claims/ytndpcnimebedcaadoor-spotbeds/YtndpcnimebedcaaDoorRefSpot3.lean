/-
  Layer 4 (spot), the reference: Beds, Own, Same.
-/
import Derived.Test.YtndpcnimebedcaaDoorSpotBeds
namespace Go.Proofs.YtndpcnimebedcaaDoor
open Go.RowKit

/-- What holds ahead of each round of the reference's Beds. -/
def RBedsRel (w : World) (ls : List (Int × Int)) (v z : Value) (wr : World) : Prop :=
  ∃ k : Nat, k ≤ 99 ∧ z = .int .i64 ((k : Int) + 1) ∧ wr.ownsRow w.heap.size 3 1 v (Sp.upTo ls k).length ((Sp.upTo ls k).map (Value.int .i64)) ∧ Below w.heap.size w wr
/-- .. and of its inner loop. -/
def RBedsIn (w : World) (ls : List (Int × Int)) (v : Value) (k : Nat) (x z : Value) (wr : World) : Prop :=
  ∃ i : Nat, i ≤ ls.length ∧ z = .int .i64 (i : Int) ∧ x = .bool (Sp.has (ls.take i) ((k : Int) + 1)) ∧ wr.ownsRow w.heap.size 3 1 v (Sp.upTo ls k).length ((Sp.upTo ls k).map (Value.int .i64)) ∧ Below w.heap.size w wr

theorem Sp.has_take {ls : List (Int × Int)} {i : Nat} {b : Int} (h : i < ls.length) : Sp.has (ls.take (i + 1)) b = (Sp.has (ls.take i) b || (Sp.may ls[i].1 ls[i].2 && ls[i].1 == b)) := by
  unfold Sp.has
  rw [List.take_succ_eq_append_getElem h, List.any_append]
  simp

set_option maxRecDepth 10000 in
set_option maxHeartbeats 2000000 in
theorem RBeds_any (A : Option Addr) (cap : Nat) (ls : List (Int × Int)) (w : World) (hA : SpotsAt w w.heap.size A ls) (hl : ls.length ≤ 1000) :
    Calls Tryd.prog 24 #[.slice A ls.length cap] w fun e w' => ∃ v, e = .returned v ∧ w'.ownsRow w.heap.size 3 1 v (Sp.beds ls).length ((Sp.beds ls).map (Value.int .i64)) ∧ Below w.heap.size w w' := by
  rw [Sp.beds_eq]
  obtain ⟨i0, hi, hz0, hz1, hz2⟩ := info_parts Tryd.infoI2
  have HA := Lib.hid hA
  have Hl := Lib.hid hl
  clear hA hl
  go_enter Tryd.func24, Tryd.ntmps24
  go_wp2_with fail
  go_loopw [3, 4] (fun v z wr => RBedsRel w ls v z wr) (fun _ z _ => 100 - (intOf z).toNat)
  case atStart => exact ⟨0, by omega, rfl, World.ownsRow_nil _ _ _ _, Below.refl _ _⟩
  case round =>
    obtain ⟨k, hk, rfl, hown, hB⟩ := hrel
    by_cases hk9 : k < 99
    · have hd1 : decide ((k : Int) + 1 ≤ 99) = true := decide_eq_true (by omega)
      have hw1 : wrap64 ((k : Int) + 1 + 1) = (k : Int) + 1 + 1 := by unfold wrap64; omega
      obtain ⟨b, hb⟩ : ∃ b : Int, b = (k : Int) + 1 := ⟨_, rfl⟩
      have Hb := Lib.hid hb
      rw [← hb] at hd1 hw1
      rw [← hb]
      clear hb
      go_wp2_with fail
      go_loopw [5, 6] (fun x z wr => RBedsIn w ls u3 k x z wr) (fun _ z _ => ls.length - (intOf z).toNat)
      case atStart => exact ⟨0, Nat.zero_le _, rfl, rfl, hown, hB⟩
      case round =>
        clear hown hB
        obtain ⟨i, hi1, rfl, rfl, hown, hB⟩ := hrel
        by_cases hlt : i < ls.length
        · obtain ⟨bk, off, rfl, hbk, hc0, hc1⟩ := (HA.out.below hB (Nat.le_refl _)) i hlt
          have i1 : (i : Int) < (ls.length : Int) := by omega
          have i3 : (0 : Int) ≤ (i : Int) := by omega
          have i5 : wrap64 ((i : Int) + 1) = (i : Int) + 1 := by have := Hl.out; unfold wrap64; omega
          obtain ⟨x, hx⟩ : ∃ x, x = ls[i].1 := ⟨_, rfl⟩
          obtain ⟨y, hy⟩ : ∃ y, y = ls[i].2 := ⟨_, rfl⟩
          rw [← hx] at hc0
          rw [← hy] at hc1
          have h1 := fun W => RIs_any x y W
          have HX : Hid (Sp.has (ls.take (i + 1)) ((k : Int) + 1) = (Sp.has (ls.take i) ((k : Int) + 1) || (Sp.may x y && x == b))) := Lib.hid (by rw [hx, hy, Hb.out]; exact Sp.has_take hlt)
          clear hx hy
          obtain ⟨f, hf⟩ : ∃ f, f = Sp.has (ls.take i) ((k : Int) + 1) := ⟨_, rfl⟩
          rw [← hf] at HX ⊢
          clear hf
          cases f
          · cases hm : Sp.may x y
            · rw [hm] at h1 HX
              simp only [Bool.false_or, Bool.false_and] at HX
              clear hm
              go_wp2_with fail
              refine (h1 _).mono ?_
              rintro e w1 ⟨rfl, hB1⟩
              have hown1 := owns_below hown hB1
              have hB2 : Below w.heap.size w w1 := hB.trans (hB1.mono hB.size)
              clear h1 hown hB
              go_wp2
              go_roundw
              case rel => exact ⟨i + 1, by omega, by first | rfl | (rw [i5]; rfl), by rw [HX.out], hown1, hB2⟩
              case measure => first | (rw [i5]; clear i5; simp [intOf]; omega) | (simp only [intOf]; clear i5; omega)
            · rw [hm] at h1 HX
              simp only [Bool.false_or, Bool.true_and] at HX
              clear hm
              go_wp2_with fail
              refine (h1 _).mono ?_
              rintro e w1 ⟨rfl, hB1⟩
              have hown1 := owns_below hown hB1
              have hB2 : Below w.heap.size w w1 := hB.trans (hB1.mono hB.size)
              have hc2 : w1.cell? ⟨bk, off + i * 2, none⟩ = some (.int .i64 x) := (hB1.cell (p := ⟨bk, off + i * 2, none⟩) (Nat.lt_of_lt_of_le hbk hB.size)).trans hc0
              clear h1 hown hB hc0 hc1
              go_wp2
              go_roundw
              case rel => exact ⟨i + 1, by omega, by first | rfl | (rw [i5]; rfl), by rw [HX.out], hown1, hB2⟩
              case measure => first | (rw [i5]; clear i5; simp [intOf]; omega) | (simp only [intOf]; clear i5; omega)
          · simp only [Bool.true_or] at HX
            clear h1
            go_wp2
            go_roundw
            case rel => exact ⟨i + 1, by omega, by first | rfl | (rw [i5]; rfl), by rw [HX.out], hown, hB⟩
            case measure => first | (rw [i5]; clear i5; simp [intOf]; omega) | (simp only [intOf]; clear i5; omega)
        · obtain rfl : i = ls.length := by omega
          rw [List.take_length]
          have HU : Hid (Sp.upTo ls (k + 1) = Sp.upTo ls k ++ (if Sp.has ls ((k : Int) + 1) then [(k : Int) + 1] else [])) := Lib.hid rfl
          obtain ⟨f, hf⟩ : ∃ f, f = Sp.has ls ((k : Int) + 1) := ⟨_, rfl⟩
          rw [← hf] at HU ⊢
          clear hf hlt
          cases f
          · simp only [Bool.false_eq_true, if_false, List.append_nil] at HU
            go_wp2_with fail
            go_roundw
            case rel => exact ⟨k + 1, by omega, by rw [hw1, Hb.out]; rfl, by rw [HU.out]; exact hown, hB⟩
            case measure => rw [hw1]; clear hw1; have := Hb.out; simp only [intOf]; omega
          · simp only [if_true] at HU
            have hn : (Sp.upTo ls k).length ≤ 100 := Nat.le_trans (Sp.upTo_len ls k) (by omega)
            obtain ⟨vs, hvs⟩ : ∃ vs, vs = Sp.upTo ls k := ⟨_, rfl⟩
            rw [← hvs] at hown hn
            have Hvs := Lib.hid hvs
            clear hvs
            go_wp2_with (at_builtin; refine wpList_append_own _ rfl _ _ 38 rfl w.heap.size 3 i0 (.int .i64 0) 1 8 Tryd.underlying38 hi hz0 hz1 hz2 rfl (by decide) _ _ _ rfl (hown.alloc _) ⟨wr.heap.size, 0, none⟩ 1 1 [.int .i64 b] rfl rfl (cell_one_new _ _ _) (by simp [Value.oneCell']) (by unfold maxLen; omega) (by omega) (by have := hB.size; simp; omega) ?_; intro v' w2 hown' hgrow _; obtain ⟨g', cap', rfl⟩ := ownsRow_succ hown')
            go_roundw
            case rel => exact ⟨k + 1, by omega, by rw [hw1, Hb.out]; rfl, by rw [HU.out, ← Hvs.out, ← Hb.out]; simpa using hown', gets_below hB hown hgrow⟩
            case measure => rw [hw1]; clear hw1; have := Hb.out; simp only [intOf]; omega
    · obtain rfl : k = 99 := by omega
      go_wp2
      go_ret
      exact ⟨_, rfl, hown, hB⟩

end Go.Proofs.YtndpcnimebedcaaDoor
