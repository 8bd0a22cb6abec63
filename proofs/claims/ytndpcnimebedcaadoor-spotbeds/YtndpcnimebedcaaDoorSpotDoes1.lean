/-
  Layer 4 (spot): the walk of the law SpotDoes.
-/
import Derived.Test.YtndpcnimebedcaaDoorSpotSpots
import Derived.Test.YtndpcnimebedcaaDoorRefSpot2
import Derived.Test.YtndpcnimebedcaaDoorRefSpot3
import Derived.Test.YtndpcnimebedcaaDoorRefSpot4
import Derived.Deep.RegionHeld3
namespace Go.Proofs.YtndpcnimebedcaaDoor
open Go.RowKit

theorem below_undrew {W w' : World} (h : Below W.drew.heap.size W.drew w') : Below W.heap.size W w' := ⟨h.os, h.tape, h.output, h.size, h.block⟩
theorem beds_len (ls : List (Int × Int)) : (Sp.beds ls).length ≤ 99 := by rw [Sp.beds_eq]; exact Sp.upTo_len ls 99
theorem Same_eq (A B : Option Addr) (ca cb : Nat) (ls : List (Int × Int)) (w : World) (hA : IntsAt w w.heap.size A (Sp.beds ls)) (hB : IntsAt w w.heap.size B (Sp.beds ls)) :
    Calls Tryd.prog 22 #[.slice A (Sp.beds ls).length ca, .slice B (Sp.beds ls).length cb] w fun e w' => e = .returned (.bool true) ∧ Below w.heap.size w w' := by
  have hl := beds_len ls
  have h := Same_any A B ca cb (Sp.beds ls) (Sp.beds ls) w hA hB (by omega) (by omega)
  rw [decide_eq_true (rfl : Sp.beds ls = Sp.beds ls)] at h
  refine h.mono ?_
  rintro e w' ⟨rfl, n, rfl⟩
  exact ⟨rfl, below_drew (Below.refl _ _) _⟩
theorem RSame_b (A B : Option Addr) (ca cb : Nat) (ls : List (Int × Int)) (w : World) (hA : SpotsAt w w.heap.size A ls) (hB : SpotsAt w w.heap.size B ls) (hl : ls.length ≤ 1000) :
    Calls Tryd.prog 25 #[.slice A ls.length ca, .slice B ls.length cb] w fun e w' => e = .returned (.bool true) ∧ Below w.heap.size w w' := by
  refine (RSame_any A B ca cb ls w hA hB hl).mono ?_
  rintro e w' ⟨rfl, n, rfl⟩
  exact ⟨rfl, below_drew (Below.refl _ _) _⟩
/-- A slice of one's own with these numbers. -/
def OwnedI (w : World) (zs : List Int) (e : Ending) (w' : World) : Prop := ∃ A c, e = .returned (.slice A zs.length c) ∧ IntsAt w' w'.heap.size A zs ∧ Below w.heap.size w w'
theorem Beds_i (A : Option Addr) (cap : Nat) (ls : List (Int × Int)) (w : World) (hA : SpotsAt w w.heap.size A ls) (hl : ls.length ≤ 1000) : Calls Tryd.prog 23 #[.slice A ls.length cap] w (OwnedI w (Sp.beds ls)) := by
  refine (Beds_any A cap ls w hA hl).mono ?_
  rintro e w' ⟨v, rfl, hown, hB⟩
  obtain ⟨A1, c1, rfl⟩ := ownsRow_slice hown
  exact ⟨A1, c1, rfl, IntsAt.of_own hown, hB⟩
theorem RBeds_i (A : Option Addr) (cap : Nat) (ls : List (Int × Int)) (w : World) (hA : SpotsAt w w.heap.size A ls) (hl : ls.length ≤ 1000) : Calls Tryd.prog 24 #[.slice A ls.length cap] w (OwnedI w (Sp.beds ls)) := by
  refine (RBeds_any A cap ls w hA hl).mono ?_
  rintro e w' ⟨v, rfl, hown, hB⟩
  obtain ⟨A1, c1, rfl⟩ := ownsRow_slice hown
  exact ⟨A1, c1, rfl, IntsAt.of_own hown, hB⟩
theorem IntsAt.on {w w' : World} {A : Option Addr} {zs : List Int} (h : IntsAt w w.heap.size A zs) (hb : Below w.heap.size w w') : IntsAt w' w'.heap.size A zs := (h.below hb (Nat.le_refl _)).more hb.size

set_option maxRecDepth 10000 in
set_option maxHeartbeats 8000000 in
theorem does_go (b c b' c' n : Int) (text : ByteArray) (A : Option Addr) (cap : Nat) (ls : List (Int × Int)) (w : World) (HE : Hid (Errs w)) (HA : Hid (SpotsAt w w.heap.size A ls)) (HN : Hid (A = none → cap = 0)) (Ht : Hid (text.size ≤ 400)) (Hl : Hid (ls.length ≤ 1000)) (d1 : decide ((200 : Int) < (text.size : Int)) = false) (d2 : decide ((100 : Int) < (ls.length : Int)) = false) :
    Calls Tryd.prog 3 #[.agg #[.int .i64 b, .int .i64 c], .agg #[.int .i64 b', .int .i64 c'], .int .i64 n, .string text, .slice A ls.length cap] w fun e w' => e = .returned (.bool true) ∧ Below w.heap.size w w' := by
  have p1 := fun W => Number_any b c W
  have p2 := fun W => RNumber_any b c W
  have p3 := fun W => At_any n W
  have p4 := fun W => RAt_any n W
  have p5 := fun W => Print_any b c W
  have p6 := fun W => RPrint_any b c W
  have p7 := fun W hW => Parse_any text Ht.out W hW
  have p8 := fun W => RParse_any text W
  have i1 := fun W => Is_any b c W
  have i2 := fun W => RIs_any b c W
  have l1 := fun W => Less_any b c b' c' W
  have l2 := fun W => RLess_any b c b' c' W
  obtain ⟨a, ha⟩ : ∃ a, a = Sp.num b c := ⟨_, rfl⟩
  obtain ⟨e, he⟩ : ∃ e, e = Sp.numE b c := ⟨_, rfl⟩
  obtain ⟨y0, hy0⟩ : ∃ y, y = Sp.atB n := ⟨_, rfl⟩
  obtain ⟨y1, hy1⟩ : ∃ y, y = Sp.atC n := ⟨_, rfl⟩
  obtain ⟨g, hg⟩ : ∃ y, y = Sp.atE n := ⟨_, rfl⟩
  obtain ⟨u, hu⟩ : ∃ y, y = strOf (Sp.prn b c) := ⟨_, rfl⟩
  obtain ⟨x0, hx0⟩ : ∃ y, y = Sp.parB (bl text) := ⟨_, rfl⟩
  obtain ⟨x1, hx1⟩ : ∃ y, y = Sp.parC (bl text) := ⟨_, rfl⟩
  obtain ⟨k, hk⟩ : ∃ y, y = Sp.parE (bl text) := ⟨_, rfl⟩
  obtain ⟨is, his⟩ : ∃ y, y = Sp.may b c := ⟨_, rfl⟩
  obtain ⟨le, hle⟩ : ∃ y, y = Sp.less b c b' c' := ⟨_, rfl⟩
  rw [← ha, ← he] at p1 p2
  rw [← hy0, ← hy1, ← hg] at p3 p4
  rw [← hu, ← he] at p5 p6
  rw [← hx0, ← hx1, ← hk] at p7 p8
  rw [← his] at i1 i2
  rw [← hle] at l1 l2
  clear ha he hy0 hy1 hg hu hx0 hx1 hk his hle
  have hOw := fun W hW => ROwn_any A cap ls W hW HN.out Hl.out
  go_enter Tryd.func3, Tryd.ntmps3
  go_wp2_with fail
  refine (hOw _ (HA.out.on (below_new2 w (.cells #[.int .i64 b, .int .i64 c] 23) (.cells #[.int .i64 b', .int .i64 c'] 23)))).mono ?_
  rintro x w1 ⟨A2, cap2, rfl, hO, hB1⟩
  have ks := ((Two.new w b c 23).alloc (.cells #[.int .i64 b', .int .i64 c'] 23)).below hB1
  have kt := (Two.new1 w (.cells #[.int .i64 b, .int .i64 c] 23) b' c' 23).below hB1
  have hB0 := below2 (below_new2 _ _ _) hB1
  clear hOw hB1
  have ks0 := ks.c0
  have ks1 := ks.c1
  go_wp2_with fail
  refine (p1 _).mono ?_
  rintro x w2 ⟨rfl, hB1⟩
  replace ks := ks.below hB1
  replace kt := kt.below hB1
  replace hO := hO.on hB1
  replace hB0 := below2 hB0 hB1
  clear ks0 ks1 hB1
  have ks0 := ks.c0
  have ks1 := ks.c1
  clear p1
  go_wp2_with fail
  refine (p2 _).mono ?_
  rintro x w3 ⟨rfl, hB1⟩
  replace ks := ks.below hB1
  replace kt := kt.below hB1
  replace hO := hO.on hB1
  replace hB0 := below2 hB0 hB1
  clear ks0 ks1 hB1
  clear p2
  go_wp2_with fail
  refine (p3 _).mono ?_
  rintro x w4 ⟨rfl, hB1⟩
  replace ks := ks.below hB1
  replace kt := kt.below hB1
  replace hO := hO.on hB1
  replace hB0 := below2 hB0 hB1
  clear hB1
  replace ks := ks.alloc (.cells #[.int .i64 y0, .int .i64 y1] 23)
  replace kt := kt.alloc (.cells #[.int .i64 y0, .int .i64 y1] 23)
  replace hO := hO.on (below_new w4 (.cells #[.int .i64 y0, .int .i64 y1] 23))
  replace hB0 := below2 hB0 (below_new w4 (.cells #[.int .i64 y0, .int .i64 y1] 23))
  have ky := Two.new w4 y0 y1 23
  clear p3
  go_wp2_with fail
  refine (p4 _).mono ?_
  rintro x w5 ⟨rfl, hB1⟩
  replace ks := ks.below hB1
  replace kt := kt.below hB1
  replace ky := ky.below hB1
  replace hO := hO.on hB1
  replace hB0 := below2 hB0 hB1
  clear hB1
  replace ks := ks.alloc (.cells #[.int .i64 y0, .int .i64 y1] 23)
  replace kt := kt.alloc (.cells #[.int .i64 y0, .int .i64 y1] 23)
  replace ky := ky.alloc (.cells #[.int .i64 y0, .int .i64 y1] 23)
  replace hO := hO.on (below_new w5 (.cells #[.int .i64 y0, .int .i64 y1] 23))
  replace hB0 := below2 hB0 (below_new w5 (.cells #[.int .i64 y0, .int .i64 y1] 23))
  have kz := Two.new w5 y0 y1 23
  clear p4
  have ks0 := ks.c0
  have ks1 := ks.c1
  go_wp2_with fail
  refine (p5 _).mono ?_
  rintro x w6 ⟨rfl, hB1⟩
  replace ks := ks.below hB1
  replace kt := kt.below hB1
  replace ky := ky.below hB1
  replace kz := kz.below hB1
  replace hO := hO.on hB1
  replace hB0 := below2 hB0 hB1
  clear ks0 ks1 hB1
  have ks0 := ks.c0
  have ks1 := ks.c1
  clear p5
  go_wp2_with fail
  refine (p6 _).mono ?_
  rintro x w7 ⟨rfl, hB1⟩
  replace ks := ks.below hB1
  replace kt := kt.below hB1
  replace ky := ky.below hB1
  replace kz := kz.below hB1
  replace hO := hO.on hB1
  replace hB0 := below2 hB0 hB1
  clear ks0 ks1 hB1
  clear p6
  have HE7 := Lib.hid (HE.out.below hB0)
  go_wp2_with fail
  refine (p7 _ HE7.out).mono ?_
  rintro x w8 ⟨rfl, hB1⟩
  replace ks := ks.below hB1
  replace kt := kt.below hB1
  replace ky := ky.below hB1
  replace kz := kz.below hB1
  replace hO := hO.on hB1
  replace hB0 := below2 hB0 hB1
  clear hB1
  replace ks := ks.alloc (.cells #[.int .i64 x0, .int .i64 x1] 23)
  replace kt := kt.alloc (.cells #[.int .i64 x0, .int .i64 x1] 23)
  replace ky := ky.alloc (.cells #[.int .i64 x0, .int .i64 x1] 23)
  replace kz := kz.alloc (.cells #[.int .i64 x0, .int .i64 x1] 23)
  replace hO := hO.on (below_new w8 (.cells #[.int .i64 x0, .int .i64 x1] 23))
  replace hB0 := below2 hB0 (below_new w8 (.cells #[.int .i64 x0, .int .i64 x1] 23))
  have kp := Two.new w8 x0 x1 23
  clear p7 HE7
  go_wp2_with fail
  refine (p8 _).mono ?_
  rintro x w9 ⟨rfl, hB1⟩
  replace ks := ks.below hB1
  replace kt := kt.below hB1
  replace ky := ky.below hB1
  replace kz := kz.below hB1
  replace kp := kp.below hB1
  replace hO := hO.on hB1
  replace hB0 := below2 hB0 hB1
  clear hB1
  replace ks := ks.alloc (.cells #[.int .i64 x0, .int .i64 x1] 23)
  replace kt := kt.alloc (.cells #[.int .i64 x0, .int .i64 x1] 23)
  replace ky := ky.alloc (.cells #[.int .i64 x0, .int .i64 x1] 23)
  replace kz := kz.alloc (.cells #[.int .i64 x0, .int .i64 x1] 23)
  replace kp := kp.alloc (.cells #[.int .i64 x0, .int .i64 x1] 23)
  replace hO := hO.on (below_new w9 (.cells #[.int .i64 x0, .int .i64 x1] 23))
  replace hB0 := below2 hB0 (below_new w9 (.cells #[.int .i64 x0, .int .i64 x1] 23))
  have kq := Two.new w9 x0 x1 23
  clear p8
  have ky0 := ky.c0
  have ky1 := ky.c1
  have kz0 := kz.c0
  have kz1 := kz.c1
  have kp0 := kp.c0
  have kp1 := kp.c1
  have kq0 := kq.c0
  have kq1 := kq.c1
  go_wp2_with fail
  clear ky0 ky1 kz0 kz1 kp0 kp1 kq0 kq1 ky kz kp kq
  go_region_held3 (fun W => W.cell? ⟨w.heap.size, 0, none⟩ = some (.int .i64 b) ∧ W.cell? ⟨w.heap.size, 1, none⟩ = some (.int .i64 c) ∧ W.cell? ⟨w.heap.size + 1, 0, none⟩ = some (.int .i64 b') ∧ W.cell? ⟨w.heap.size + 1, 1, none⟩ = some (.int .i64 c')) (exact ⟨ks.c0, ks.c1, kt.c0, kt.c1⟩) (first
    | (go_at_call 17; refine (spots_any _ (by first | exact HE.out.below hB0 | exact HE.out.below (below_drew hB0 1))).mono ?_; rintro e w' ⟨rfl, hB'⟩; first | (have hB2 := below_undrew hB'; clear hB'; replace hB0 := below2 hB0 hB2; replace ks := ks.below hB2; replace kt := kt.below hB2; replace hO := hO.on hB2; clear hB2) | (have hB2 := hB'; clear hB'; replace hB0 := below2 hB0 hB2; replace ks := ks.below hB2; replace kt := kt.below hB2; replace hO := hO.on hB2; clear hB2))
    | (go_at_call 18; refine (i1 _).mono ?_; rintro e w' ⟨rfl, hB'⟩; first | (have hB2 := below_undrew hB'; clear hB'; replace hB0 := below2 hB0 hB2; replace ks := ks.below hB2; replace kt := kt.below hB2; replace hO := hO.on hB2; clear hB2) | (have hB2 := hB'; clear hB'; replace hB0 := below2 hB0 hB2; replace ks := ks.below hB2; replace kt := kt.below hB2; replace hO := hO.on hB2; clear hB2))
    | (go_at_call 19; refine (i2 _).mono ?_; rintro e w' ⟨rfl, hB'⟩; first | (have hB2 := below_undrew hB'; clear hB'; replace hB0 := below2 hB0 hB2; replace ks := ks.below hB2; replace kt := kt.below hB2; replace hO := hO.on hB2; clear hB2) | (have hB2 := hB'; clear hB'; replace hB0 := below2 hB0 hB2; replace ks := ks.below hB2; replace kt := kt.below hB2; replace hO := hO.on hB2; clear hB2))
    | (go_at_call 20; refine (l1 _).mono ?_; rintro e w' ⟨rfl, hB'⟩; first | (have hB2 := below_undrew hB'; clear hB'; replace hB0 := below2 hB0 hB2; replace ks := ks.below hB2; replace kt := kt.below hB2; replace hO := hO.on hB2; clear hB2) | (have hB2 := hB'; clear hB'; replace hB0 := below2 hB0 hB2; replace ks := ks.below hB2; replace kt := kt.below hB2; replace hO := hO.on hB2; clear hB2))
    | (go_at_call 21; refine (l2 _).mono ?_; rintro e w' ⟨rfl, hB'⟩; first | (have hB2 := below_undrew hB'; clear hB'; replace hB0 := below2 hB0 hB2; replace ks := ks.below hB2; replace kt := kt.below hB2; replace hO := hO.on hB2; clear hB2) | (have hB2 := hB'; clear hB'; replace hB0 := below2 hB0 hB2; replace ks := ks.below hB2; replace kt := kt.below hB2; replace hO := hO.on hB2; clear hB2))
    | (go_at_call 23; refine (Beds_i _ _ ls _ ((HA.out.below hB0 (Nat.le_refl _)).more hB0.size) Hl.out).mono ?_; rintro e w' ⟨A3, c3, rfl, hI1, hB2⟩; replace hB0 := below2 hB0 hB2; replace ks := ks.below hB2; replace kt := kt.below hB2; replace hO := hO.on hB2; clear hB2)
    | (go_at_call 24; refine (RBeds_i _ _ ls _ hO Hl.out).mono ?_; rintro e w' ⟨A4, c4, rfl, hI2, hB2⟩; replace hB0 := below2 hB0 hB2; replace ks := ks.below hB2; replace kt := kt.below hB2; replace hO := hO.on hB2; replace hI1 := hI1.on hB2; clear hB2)
    | (go_at_call 22; refine (Same_eq _ _ _ _ ls _ hI1 hI2).mono ?_; rintro e w' ⟨rfl, hB'⟩; first | (have hB2 := below_undrew hB'; clear hB'; replace hB0 := below2 hB0 hB2; replace ks := ks.below hB2; replace kt := kt.below hB2; replace hO := hO.on hB2; clear hB2) | (have hB2 := hB'; clear hB'; replace hB0 := below2 hB0 hB2; replace ks := ks.below hB2; replace kt := kt.below hB2; replace hO := hO.on hB2; clear hB2))
    | (go_at_call 25; refine (RSame_b _ _ _ _ ls _ ((HA.out.below hB0 (Nat.le_refl _)).more hB0.size) hO Hl.out).mono ?_; rintro e w' ⟨rfl, hB'⟩; first | (have hB2 := below_undrew hB'; clear hB'; replace hB0 := below2 hB0 hB2; replace ks := ks.below hB2; replace kt := kt.below hB2; replace hO := hO.on hB2; clear hB2) | (have hB2 := hB'; clear hB'; replace hB0 := below2 hB0 hB2; replace ks := ks.below hB2; replace kt := kt.below hB2; replace hO := hO.on hB2; clear hB2)))
  all_goals
    go_wp2
    go_ret
    exact ⟨rfl, hB0⟩

end Go.Proofs.YtndpcnimebedcaaDoor
