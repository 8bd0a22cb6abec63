/-
  Layer 5 (life): the document's rows hold.
-/
import Derived.Test.YtipblfmabhggkaaLifeWay
import Derived.Test.YtipblfmabhggkaaLifeName
import Derived.Test.YtipblfmabhggkaaRefSame
namespace Go.Proofs.Ytipblfmabhggkaa
open Go.RowKit

theorem IntsAt.two (w : World) (a b : Int) (t : TypeId) : IntsAt (w.alloc (.cells #[.int .i64 a, .int .i64 b] t)) (w.heap.size + 1) (some ⟨w.heap.size, 0, none⟩) [a, b] := fun i hi => by
  have hb := World.alloc_heap_new w (.cells #[.int .i64 a, .int .i64 b] t)
  refine ⟨w.heap.size, 0, rfl, by omega, ?_⟩
  simp only [World.cell?, hb]
  match i, hi with
  | 0, _ => rfl
  | 1, _ => rfl
theorem IntsAt.on {w w' : World} {A : Option Addr} {zs : List Int} (h : IntsAt w w.heap.size A zs) (hb : Below w.heap.size w w') : IntsAt w' w'.heap.size A zs := (h.below hb (Nat.le_refl _)).more hb.size

theorem c_life : Lf.nx 4 6 = 1 ∧ Lf.ok 4 6 = true ∧ Lf.nx 0 3 = 0 ∧ Lf.ok 0 3 = false ∧ Lf.way 0 2 = [1, 2] ∧ Lf.runP 0 [3, 1, 2, 3] = 3 ∧ Lf.runN 0 [3, 1, 2, 3] = 3 ∧ Lf.isP 0 = true ∧ Lf.isP 2 = true ∧ Lf.isP 3 = true ∧ Lf.reach 0 = [0, 1, 2, 3, 4] := by decide +kernel
theorem c_name : nameS 3 = strOf [97, 99, 107, 101, 100] := rfl

set_option maxRecDepth 10000 in
set_option maxHeartbeats 4000000 in
theorem lived_any (w : World) :
    Calls Try.prog 18 #[] w fun e w' => e = .returned (.bool true) ∧ Below w.heap.size w w' := by
  obtain ⟨n1, n2, n3, n4, n5, n6, n7, n8, n9, n10, n11⟩ := c_life
  have h1 := fun W => Next_any 4 6 W
  rw [n1, n2] at h1
  have h2 := fun W => Next_any 0 3 W
  rw [n3, n4] at h2
  have h3 := fun W => Way_any 0 2 W
  rw [n5, n8, n9] at h3
  have h4 := fun A cap W hW => Run_any 0 A cap [3, 1, 2, 3] W hW (by decide)
  rw [n6, n7] at h4
  have h5 := fun W => Name_any 3 W
  rw [c_name, n10] at h5
  have h6 := fun W => Reach_any 0 W
  rw [n11] at h6
  clear n1 n2 n3 n4 n5 n6 n7 n8 n9 n10 n11
  go_enter Try.func18, Try.ntmps18
  go_wp2_with fail
  refine (h1 _).mono ?_
  rintro e w1 ⟨rfl, hB0⟩
  clear h1
  go_wp2_with fail
  refine (h2 _).mono ?_
  rintro e w2 ⟨rfl, hB1⟩
  replace hB0 := below2 hB0 hB1
  clear h2 hB1
  go_wp2_with fail
  refine (h3 _).mono ?_
  rintro e w3 ⟨u, rfl, hown, hB1⟩
  replace hB0 := below2 hB0 hB1
  obtain ⟨A1, c1, rfl⟩ := ownsRow_slice hown
  have hI : IntsAt w3 w3.heap.size A1 [1, 2] := IntsAt.of_own hown
  clear h3 hB1 hown
  go_wp2_with fail
  refine (h4 _ _ _ ((IntsAt.four w3 3 1 2 3 3).more (by simp))).mono ?_
  rintro e w4 ⟨rfl, hB1⟩
  replace hB1 := below2 (below_new _ _) hB1
  replace hB0 := below2 hB0 hB1
  replace hI := hI.on hB1
  clear h4 hB1
  go_wp2_with fail
  refine (h5 _).mono ?_
  rintro e w5 ⟨rfl, hB1⟩
  replace hB0 := below2 hB0 hB1
  replace hI := hI.on hB1
  clear h5 hB1
  have hI2 := IntsAt.two w5 1 2 3
  replace hI := hI.on (below_new w5 (.cells #[.int .i64 1, .int .i64 2] 3))
  have hSm := Same_any A1 (some ⟨w5.heap.size, 0, none⟩) c1 2 [1, 2] [1, 2] _ hI (hI2.more (by simp)) (by decide) (by decide)
  rw [decide_eq_true (rfl : ([1, 2] : List Int) = [1, 2])] at hSm
  clear hI hI2
  have q1 : (⟨#[97, 99, 107, 101, 100]⟩ : ByteArray) = strOf [97, 99, 107, 101, 100] := rfl
  go_wp2_with fail
  refine hSm.mono ?_
  rintro e w6 ⟨rfl, n, rfl⟩
  clear hSm
  go_wp2_with fail
  refine (h6 _).mono ?_
  rintro e w7 ⟨u, rfl, hown, hB1⟩
  obtain ⟨A2, c2, rfl⟩ := ownsRow_slice hown
  have HB := Lib.hid (below2 (below_drew (below2 hB0 (below_new w5 (.cells #[.int .i64 1, .int .i64 2] 3))) n) hB1)
  clear hown hB1 hB0 h6
  go_wp2
  go_ret
  exact ⟨rfl, HB.out⟩
end Go.Proofs.Ytipblfmabhggkaa
