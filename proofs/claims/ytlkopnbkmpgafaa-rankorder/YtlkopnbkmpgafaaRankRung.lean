/-
  Layer 7 (rank): the document's rows (ranked).
-/
import Derived.Test.YtlkopnbkmpgafaaRankK
import Derived.StillTailTactics
import Derived.Deep.RegionHeld3
import Derived.Laws.ResultCell
namespace Go.Proofs.Ytlkopnbkmpgafaa
open Go.RowKit

theorem ret_al1 {fn : Func} {p : Tmp} {k : Nat} {a : Alm} {tmps : Array Value} {w : World} (h : fn.results = #[.cell p 34]) (hp : tmps.getD p undef = .pointer (some ⟨k, 0, none⟩)) (h2 : Six w k a) :
    (results fn tmps).run Try.prog w = .ok (.agg (sixV a)) w := by
  obtain ⟨t, hb⟩ := h2.blk
  exact results_cell_row h tmps w k t (sixV a) (0, 0) _ hp hb Try.underlying34 rfl (by rfl)
theorem one_any (ph pr si : Int) (w : World) :
    Calls Try.prog 26 #[.int .i64 ph, .int .i64 pr, .int .i64 si] w fun e w' => e = .returned (.agg #[.int .i64 0, .int .i64 0, .int .i64 ph, .int .i64 pr, .int .i64 si, .int .i64 0]) ∧ Below w.heap.size w w' := by
  have K0 := Lib.hid (Six.new w 0 0 0 0 0 0 34)
  have HB := Lib.hid (below_new w (.cells #[.int .i64 0, .int .i64 0, .int .i64 0, .int .i64 0, .int .i64 0, .int .i64 0] 34))
  go_enter Try.func26, Try.ntmps26
  obtain ⟨tz, hz⟩ := K0.out.blk
  have Hz := Lib.hid hz
  clear hz
  go_wp2_with (refine wpList_store_row rfl 34 _ _ rfl w.heap.size (sixV ⟨0, 0, ph, pr, si, 0⟩) rfl rfl tz _ Hz.out (by rfl) rfl (six_one _) ?_)
  (try simp only [Exit.inBlock, Exit.then]); refine bodyPost_ret (ret_al1 (a := ⟨0, 0, ph, pr, si, 0⟩) rfl rfl ⟨tz, setRow_heap _ _ _ _ _ _ Hz.out⟩) rfl ?_
  exact ⟨rfl, below_setRow HB.out (Nat.le_refl _) _⟩

theorem AlmsAt.drew {w : World} {B : Nat} {A : Option Addr} {ls : List Alm} (h : AlmsAt w B A ls) : AlmsAt w.drew B A ls := fun i hi => by
  obtain ⟨b, o, e, hlt, h6⟩ := h i hi
  exact ⟨b, o, e, hlt, ⟨h6.c0, h6.c1, h6.c2, h6.c3, h6.c4, h6.c5⟩⟩
/-- The document's rows. -/
def rkL : List Alm := [⟨0, 0, 1, 1, 5, 0⟩, ⟨0, 0, 3, 1, 0, 0⟩, ⟨0, 0, 2, 3, 9, 0⟩, ⟨0, 0, 1, 2, 1, 0⟩]
def rkS : List Alm := [⟨0, 0, 2, 3, 9, 0⟩, ⟨0, 0, 1, 1, 5, 0⟩, ⟨0, 0, 1, 2, 1, 0⟩, ⟨0, 0, 3, 1, 0, 0⟩]
theorem rk_sort : Rk.sort rkL = rkS := by decide
theorem rk_top2 : Rk.top 2 rkL = rkS.take 2 := by decide
theorem rk_top0 : Rk.top 0 rkL = [] := by decide
theorem rk_place0 : Rk.place rkL 0 0 = (0, true) := by decide
theorem rk_place1 : Rk.place rkL 1 0 = (0, false) := by decide
theorem rk_cmp : Rk.cmp ⟨0, 0, 1, 1, 5, 0⟩ ⟨0, 0, 3, 1, 0, 0⟩ = -1 := by decide
theorem rk_merge : Rk.merge (rkL.take 2) (rkL.drop 2) = rkS := by decide
theorem AlmsAt.four (w : World) (a b c d : Alm) (t : TypeId) (cs : Array Value) (hc : cs = (flat6 [a, b, c, d]).toArray) : AlmsAt (w.alloc (.cells cs t)) (w.heap.size + 1) (some ⟨w.heap.size, 0, none⟩) [a, b, c, d] := by
  have hb := World.alloc_heap_new w (.cells cs t)
  subst hc
  intro i hi
  refine ⟨w.heap.size, 0, rfl, by omega, ?_⟩
  have hi' : i < 4 := hi
  have h4 : i = 0 ∨ i = 1 ∨ i = 2 ∨ i = 3 := by omega
  rcases h4 with rfl | rfl | rfl | rfl <;> (refine ⟨?_, ?_, ?_, ?_, ?_, ?_⟩ <;> (simp only [World.cell?, hb]; rfl))

theorem RASame_n (A B : Option Addr) (m n ca cb : Nat) (ls : List Alm) (w : World) (hm : m = ls.length) (hn : n = ls.length) (hA : AlmsAt w w.heap.size A ls) (hB : AlmsAt w w.heap.size B ls) (hl : ls.length ≤ 1000) :
    Calls Try.prog 14 #[.slice A m ca, .slice B n cb] w fun e w' => e = .returned (.bool true) ∧ Below w.heap.size w w' := by
  subst hm
  have h := RASame_any A B ca cb ls w hA hB hl
  rw [← hn] at h ⊢
  refine h.mono ?_
  rintro e w' ⟨rfl, k, hw⟩
  exact ⟨rfl, by rw [hw]; exact below_drew (Below.refl _ _) _⟩
/-- What a call ends with that hands back these alarms. -/
def GivesA (w : World) (n : Nat) (ls : List Alm) (e : Ending) (w' : World) : Prop := ∃ A c, e = .returned (.slice A n c) ∧ AlmsAt w' w'.heap.size A ls ∧ Below w.heap.size w w'
theorem OwnedA.gives {w : World} {n : Nat} {ls : List Alm} {e : Ending} {w' : World} (h : OwnedA w ls e w') (hn : n = ls.length) : GivesA w n ls e w' := by
  obtain ⟨v, rfl, ho, hB⟩ := h
  obtain ⟨A, c, rfl, hA, _, _⟩ := ho.slice
  exact ⟨A, c, by rw [hn], hA, hB⟩
theorem kSort (HK : Hid RankK) (p : Nat) (w : World) (h : AlmsAt w w.heap.size (some ⟨p, 0, none⟩) rkL) : Calls Try.prog 9 #[.slice (some ⟨p, 0, none⟩) 4 4] w (GivesA w 4 rkS) := by
  have k := KSort_n HK (some ⟨p, 0, none⟩) 4 4 rkL w rfl h (fun e => nomatch e) (by decide)
  rw [rk_sort] at k
  exact k.mono fun _ _ h => h.gives rfl
theorem kTop2 (HK : Hid RankK) (p : Nat) (w : World) (h : AlmsAt w w.heap.size (some ⟨p, 0, none⟩) rkL) : Calls Try.prog 10 #[.int .i64 2, .slice (some ⟨p, 0, none⟩) 4 4] w (GivesA w 2 (rkS.take 2)) := by
  have k := KTop_n HK 2 (some ⟨p, 0, none⟩) 4 4 rkL w rfl h (fun e => nomatch e) (by decide)
  rw [rk_top2] at k
  exact k.mono fun _ _ h => h.gives rfl
theorem kTop0 (HK : Hid RankK) (p : Nat) (w : World) (h : AlmsAt w w.heap.size (some ⟨p, 0, none⟩) rkL) : Calls Try.prog 10 #[.int .i64 0, .slice (some ⟨p, 0, none⟩) 4 4] w (GivesA w 0 []) := by
  have k := KTop_n HK 0 (some ⟨p, 0, none⟩) 4 4 rkL w rfl h (fun e => nomatch e) (by decide)
  rw [rk_top0] at k
  exact k.mono fun _ _ h => h.gives rfl
theorem kCmp (HK : Hid RankK) (w : World) : Calls Try.prog 18 #[.agg #[.int .i64 0, .int .i64 0, .int .i64 1, .int .i64 1, .int .i64 5, .int .i64 0], .agg #[.int .i64 0, .int .i64 0, .int .i64 3, .int .i64 1, .int .i64 0, .int .i64 0]] w fun e w' => e = .returned (.int .i64 (-1)) ∧ Below w.heap.size w w' := by
  have k := KCompare_any HK 0 0 1 1 5 0 0 0 3 1 0 0 w
  rw [rk_cmp] at k
  exact k
theorem kMerge (HK : Hid RankK) (p : Nat) (w : World) (h : AlmsAt w w.heap.size (some ⟨p, 0, none⟩) rkL) : Calls Try.prog 13 #[.slice (some ⟨p, 0, none⟩) 2 4, .slice (some ⟨p, 12, none⟩) 2 2] w (GivesA w 4 rkS) := by
  have k := KMerge_n HK (some ⟨p, 0, none⟩) (some ⟨p, 12, none⟩) 2 2 4 2 (rkL.take 2) (rkL.drop 2) w rfl rfl (h.take 2) (h.drop 2) (fun e => nomatch e) (fun e => nomatch e) (by decide) (by decide)
  rw [rk_merge] at k
  exact k.mono fun _ _ h => h.gives rfl

set_option maxRecDepth 10000 in
set_option maxHeartbeats 4000000 in
set_option linter.unusedSimpArgs false in
theorem ranked_any (HK : Hid RankK) (w : World) :
    Calls Try.prog 21 #[] w fun e w' => e = .returned (.bool true) ∧ Below w.heap.size w w' := by
  go_enter Try.func21, Try.ntmps21
  go_wp2_with fail
  refine (one_any 1 1 5 _).mono ?_
  rintro e w1 ⟨rfl, hB1⟩
  go_wp2_with fail
  refine (one_any 3 1 0 _).mono ?_
  rintro e w2 ⟨rfl, hB2⟩
  go_wp2_with fail
  refine (one_any 2 3 9 _).mono ?_
  rintro e w3 ⟨rfl, hB3⟩
  go_wp2_with fail
  refine (one_any 1 2 1 _).mono ?_
  rintro e w4 ⟨rfl, hB4⟩
  have HB4 := Lib.hid (below2 (below2 (below2 hB1 hB2) hB3) hB4)
  clear hB1 hB2 hB3 hB4
  go_wp2_with fail
  obtain ⟨w5, hw5⟩ : ∃ W, W = (w4.alloc (.cells #[.int .i64 0, .int .i64 0, .int .i64 1, .int .i64 1, .int .i64 5, .int .i64 0, .int .i64 0, .int .i64 0, .int .i64 3, .int .i64 1, .int .i64 0, .int .i64 0, .int .i64 0, .int .i64 0, .int .i64 2, .int .i64 3, .int .i64 9, .int .i64 0, .int .i64 0, .int .i64 0, .int .i64 1, .int .i64 2, .int .i64 1, .int .i64 0] 34)).drew := ⟨_, rfl⟩
  have hL0 : AlmsAt w5 w5.heap.size (some ⟨w4.heap.size, 0, none⟩) rkL := by rw [hw5]; exact ((AlmsAt.four w4 _ _ _ _ 34 #[.int .i64 0, .int .i64 0, .int .i64 1, .int .i64 1, .int .i64 5, .int .i64 0, .int .i64 0, .int .i64 0, .int .i64 3, .int .i64 1, .int .i64 0, .int .i64 0, .int .i64 0, .int .i64 0, .int .i64 2, .int .i64 3, .int .i64 9, .int .i64 0, .int .i64 0, .int .i64 0, .int .i64 1, .int .i64 2, .int .i64 1, .int .i64 0] rfl).drew).more (by simp)
  have HB5 : Hid (Below w.heap.size w w5) := Lib.hid (by rw [hw5]; have h := HB4.out.alloc HB4.out.size (.cells #[.int .i64 0, .int .i64 0, .int .i64 1, .int .i64 1, .int .i64 5, .int .i64 0, .int .i64 0, .int .i64 0, .int .i64 3, .int .i64 1, .int .i64 0, .int .i64 0, .int .i64 0, .int .i64 0, .int .i64 2, .int .i64 3, .int .i64 9, .int .i64 0, .int .i64 0, .int .i64 0, .int .i64 1, .int .i64 2, .int .i64 1, .int .i64 0] 34); exact ⟨h.os, h.tape, h.output, h.size, h.block⟩)
  have hq : ∀ j v, (#[.int .i64 0, .int .i64 0, .int .i64 1, .int .i64 1, .int .i64 5, .int .i64 0, .int .i64 0, .int .i64 0, .int .i64 3, .int .i64 1, .int .i64 0, .int .i64 0, .int .i64 0, .int .i64 0, .int .i64 2, .int .i64 3, .int .i64 9, .int .i64 0, .int .i64 0, .int .i64 0, .int .i64 1, .int .i64 2, .int .i64 1, .int .i64 0] : Array Value)[j]? = some v → w5.cell? ⟨w4.heap.size, j, none⟩ = some v := by
    intro j v hv
    rw [hw5]
    show (w4.alloc (.cells #[.int .i64 0, .int .i64 0, .int .i64 1, .int .i64 1, .int .i64 5, .int .i64 0, .int .i64 0, .int .i64 0, .int .i64 3, .int .i64 1, .int .i64 0, .int .i64 0, .int .i64 0, .int .i64 0, .int .i64 2, .int .i64 3, .int .i64 9, .int .i64 0, .int .i64 0, .int .i64 0, .int .i64 1, .int .i64 2, .int .i64 1, .int .i64 0] 34)).cell? _ = _
    simp only [World.cell?, World.alloc_heap_new w4 (.cells #[.int .i64 0, .int .i64 0, .int .i64 1, .int .i64 1, .int .i64 5, .int .i64 0, .int .i64 0, .int .i64 0, .int .i64 3, .int .i64 1, .int .i64 0, .int .i64 0, .int .i64 0, .int .i64 0, .int .i64 2, .int .i64 3, .int .i64 9, .int .i64 0, .int .i64 0, .int .i64 0, .int .i64 1, .int .i64 2, .int .i64 1, .int .i64 0] 34)]
    exact hv
  refine wp_region_still_tail 12 (by kernel_rfl) (by kernel_rfl) ?_
  change wpStill _ _ (w4.alloc (.cells #[.int .i64 0, .int .i64 0, .int .i64 1, .int .i64 1, .int .i64 5, .int .i64 0, .int .i64 0, .int .i64 0, .int .i64 3, .int .i64 1, .int .i64 0, .int .i64 0, .int .i64 0, .int .i64 0, .int .i64 2, .int .i64 3, .int .i64 9, .int .i64 0, .int .i64 0, .int .i64 0, .int .i64 1, .int .i64 2, .int .i64 1, .int .i64 0] 34)).drew (fun a' => wpList _ _ _ _ a' (w4.alloc (.cells #[.int .i64 0, .int .i64 0, .int .i64 1, .int .i64 1, .int .i64 5, .int .i64 0, .int .i64 0, .int .i64 0, .int .i64 3, .int .i64 1, .int .i64 0, .int .i64 0, .int .i64 0, .int .i64 0, .int .i64 2, .int .i64 3, .int .i64 9, .int .i64 0, .int .i64 0, .int .i64 0, .int .i64 1, .int .i64 2, .int .i64 1, .int .i64 0] 34)).drew) _ _
  rw [← hw5]
  clear hw5
  have q0 := hq 0 _ rfl
  have q1 := hq 1 _ rfl
  have q2 := hq 2 _ rfl
  have q3 := hq 3 _ rfl
  have q4 := hq 4 _ rfl
  have q5 := hq 5 _ rfl
  have q6 := hq 6 _ rfl
  have q7 := hq 7 _ rfl
  have q8 := hq 8 _ rfl
  have q9 := hq 9 _ rfl
  have q10 := hq 10 _ rfl
  have q11 := hq 11 _ rfl
  have q12 := hq 12 _ rfl
  have q13 := hq 13 _ rfl
  have q14 := hq 14 _ rfl
  have q15 := hq 15 _ rfl
  have q16 := hq 16 _ rfl
  have q17 := hq 17 _ rfl
  have q18 := hq 18 _ rfl
  have q19 := hq 19 _ rfl
  have q20 := hq 20 _ rfl
  have q21 := hq 21 _ rfl
  have q22 := hq 22 _ rfl
  have q23 := hq 23 _ rfl
  have HL0 := Lib.hid hL0
  clear hq HB4 hL0
  simp only [List.take_succ_cons, List.take_zero, List.drop_succ_cons, List.drop_zero]
  still_step
  still_step
  still_step
  still_step
  still_step
  still_step
  still_step
  still_step
  still_step
  still_step
  still_step
  still_step
  refine wpStill_nil ?_
  clear q0 q1 q2 q3 q4 q5 q6 q7 q8 q9 q10 q11 q12 q13 q14 q15 q16 q17 q18 q19 q20 q21 q22 q23
  have HS0 : Hid (AlmsAt (w5.alloc (.cells #[.int .i64 0, .int .i64 0, .int .i64 2, .int .i64 3, .int .i64 9, .int .i64 0, .int .i64 0, .int .i64 0, .int .i64 1, .int .i64 1, .int .i64 5, .int .i64 0, .int .i64 0, .int .i64 0, .int .i64 1, .int .i64 2, .int .i64 1, .int .i64 0, .int .i64 0, .int .i64 0, .int .i64 3, .int .i64 1, .int .i64 0, .int .i64 0] 34)) (w5.alloc (.cells #[.int .i64 0, .int .i64 0, .int .i64 2, .int .i64 3, .int .i64 9, .int .i64 0, .int .i64 0, .int .i64 0, .int .i64 1, .int .i64 1, .int .i64 5, .int .i64 0, .int .i64 0, .int .i64 0, .int .i64 1, .int .i64 2, .int .i64 1, .int .i64 0, .int .i64 0, .int .i64 0, .int .i64 3, .int .i64 1, .int .i64 0, .int .i64 0] 34)).heap.size (some ⟨w5.heap.size, 0, none⟩) rkS) := Lib.hid ((AlmsAt.four w5 _ _ _ _ 34 #[.int .i64 0, .int .i64 0, .int .i64 2, .int .i64 3, .int .i64 9, .int .i64 0, .int .i64 0, .int .i64 0, .int .i64 1, .int .i64 1, .int .i64 5, .int .i64 0, .int .i64 0, .int .i64 0, .int .i64 1, .int .i64 2, .int .i64 1, .int .i64 0, .int .i64 0, .int .i64 0, .int .i64 3, .int .i64 1, .int .i64 0, .int .i64 0] rfl).more (by simp))
  have HN := Lib.hid (below_new w5 (.cells #[.int .i64 0, .int .i64 0, .int .i64 2, .int .i64 3, .int .i64 9, .int .i64 0, .int .i64 0, .int .i64 0, .int .i64 1, .int .i64 1, .int .i64 5, .int .i64 0, .int .i64 0, .int .i64 0, .int .i64 1, .int .i64 2, .int .i64 1, .int .i64 0, .int .i64 0, .int .i64 0, .int .i64 3, .int .i64 1, .int .i64 0, .int .i64 0] 34))
  have HL1 := Lib.hid (HL0.out.on HN.out)
  have HB6 := Lib.hid (below2 HB5.out HN.out)
  have gP := fun (W : World) (h : AlmsAt W W.heap.size (some ⟨w4.heap.size, 0, none⟩) rkL) => Lib.hid (KPlace_n HK (some ⟨w4.heap.size, 0, none⟩) 4 4 rkL 0 0 W rfl h (fun e => nomatch e) (by decide))
  have gP1 := fun (W : World) (h : AlmsAt W W.heap.size (some ⟨w4.heap.size, 0, none⟩) rkL) => Lib.hid (KPlace_n HK (some ⟨w4.heap.size, 0, none⟩) 4 4 rkL 1 0 W rfl h (fun e => nomatch e) (by decide))
  rw [rk_place0] at gP
  rw [rk_place1] at gP1
  clear HL0 HB5 HN
  go_wp2_with fail
  refine (gP _ HL1.out).out.mono ?_
  rintro e w6 ⟨rfl, hB'⟩
  have HL2 := Lib.hid (HL1.out.on hB')
  have HS2 := Lib.hid (HS0.out.on hB')
  have HB7 := Lib.hid (below2 HB6.out hB')
  clear hB' HL1 HS0 HB6 gP
  go_wp2_with fail
  refine (gP1 _ HL2.out).out.mono ?_
  rintro e w7 ⟨rfl, hB'⟩
  have hL := HL2.out.on hB'
  have hS := HS2.out.on hB'
  have hB := below2 HB7.out hB'
  clear hB' HL2 HS2 HB7 gP1
  obtain ⟨p, hp⟩ : ∃ p, p = w4.heap.size := ⟨_, rfl⟩
  obtain ⟨r, hr⟩ : ∃ r, r = w5.heap.size := ⟨_, rfl⟩
  rw [← hp] at hL ⊢
  rw [← hr] at hS ⊢
  clear hp hr
  go_wp2_with fail
  refine wp_region_held_drew (S := (fun W : World => AlmsAt W W.heap.size (some ⟨p, 0, none⟩) rkL)) (by kernel_rfl) (by first | exact hL | exact hL.drew) (fun hHeld => ?_)
  refine wpAnyH_take (i := 0) (oi := { dst := some 37, op := Op.move (Operand.tmp 1), type := 22, pos := _, after := #[], guard := none }) (v := ?_) rfl (by kernel_rfl) (by kernel_rfl) (by kernel_rfl) (fun _ _ _ h => h) (Or.inl ⟨by rfl, ?hy⟩) hHeld ?_
  case hy => intro w0 hSw; (try dsimp only at hSw); go_simp; (try with_reducible rfl)
  (try simp only [Act.put, List.setIfInBounds_toArray, List.set_cons_zero, List.set_cons_succ])
  refine wpAnyH_take (i := 2) (oi := { dst := some 39, op := Op.move (Operand.tmp 2), type := 22, pos := _, after := #[], guard := none }) (v := ?_) rfl (by kernel_rfl) (by kernel_rfl) (by kernel_rfl) (fun _ _ _ h => h) (Or.inl ⟨by rfl, ?hy⟩) hHeld ?_
  case hy => intro w0 hSw; (try dsimp only at hSw); go_simp; (try with_reducible rfl)
  (try simp only [Act.put, List.setIfInBounds_toArray, List.set_cons_zero, List.set_cons_succ])
  refine wpAnyH_ready (rs := [1]) (by kernel_rfl) (by simp) ?_
  refine AllReadyH.cons (o := { dst := some 38, op := Op.call { callee := Callee.value (Operand.func 9), args := #[Operand.tmp 37], argTypes := #[22] }, type := 22, pos := _, after := #[{ on := 0, ground := Ground.data }], guard := none }) rfl (fun K hK => ?_) AllReadyH.nil
  go_simp
  refine (kSort HK p _ (by first | exact hL | exact hL.drew)).mono ?_
  rintro e x1 ⟨A1, c1, rfl, hA1, hB'⟩
  replace hL := hL.on (by first | exact below_undrew hB' | exact hB')
  replace hS := hS.on (by first | exact below_undrew hB' | exact hB')
  replace hB := below2 hB (by first | exact below_undrew hB' | exact hB')
  clear hB'
  go_wp2_with fail
  refine hK.out _ _ (by first | exact hL | exact hL.drew) (fun hHeld => ?_)
  clear hK K
  (try simp only [Act.put, List.setIfInBounds_toArray, List.set_cons_zero, List.set_cons_succ])
  refine wpAnyH_ready (rs := [3]) (by kernel_rfl) (by simp) ?_
  refine AllReadyH.cons (o := { dst := some 40, op := Op.call { callee := Callee.value (Operand.func 14), args := #[Operand.tmp 38, Operand.tmp 39], argTypes := #[22, 22] }, type := 4, pos := _, after := #[{ on := 1, ground := Ground.data }, { on := 2, ground := Ground.data }, { on := 1, ground := Ground.chain }], guard := none }) rfl (fun K hK => ?_) AllReadyH.nil
  go_simp
  refine (RASame_n A1 (some ⟨r, 0, none⟩) 4 4 c1 4 rkS _ rfl rfl hA1 hS (by decide)).mono ?_
  rintro e x2 ⟨rfl, hB'⟩
  replace hL := hL.on (by first | exact below_undrew hB' | exact hB')
  replace hS := hS.on (by first | exact below_undrew hB' | exact hB')
  replace hB := below2 hB (by first | exact below_undrew hB' | exact hB')
  clear hB'
  clear hA1
  go_wp2_with fail
  refine hK.out _ _ (by first | exact hL | exact hL.drew) (fun hHeld => ?_)
  clear hK K
  (try simp only [Act.put, List.setIfInBounds_toArray, List.set_cons_zero, List.set_cons_succ])
  refine wpAnyH_take (i := 4) (oi := { dst := some 41, op := Op.move (Operand.tmp 40), type := 4, pos := _, after := #[{ on := 3, ground := Ground.data }, { on := 3, ground := Ground.chain }], guard := none }) (v := ?_) rfl (by kernel_rfl) (by kernel_rfl) (by kernel_rfl) (fun _ _ _ h => h) (Or.inl ⟨by rfl, ?hy⟩) hHeld ?_
  case hy => intro w0 hSw; (try dsimp only at hSw); go_simp; (try with_reducible rfl)
  (try simp only [Act.put, List.setIfInBounds_toArray, List.set_cons_zero, List.set_cons_succ])
  refine wpAnyH_take (i := 5) (oi := { dst := some 42, op := Op.move (Operand.tmp 1), type := 22, pos := _, after := #[{ on := 4, ground := Ground.guard }], guard := some (4, true) }) (v := ?_) rfl (by kernel_rfl) (by kernel_rfl) (by kernel_rfl) (fun _ _ _ h => h) (Or.inl ⟨by rfl, ?hy⟩) hHeld ?_
  case hy => intro w0 hSw; (try dsimp only at hSw); go_simp; (try with_reducible rfl)
  (try simp only [Act.put, List.setIfInBounds_toArray, List.set_cons_zero, List.set_cons_succ])
  refine wpAnyH_take (i := 7) (oi := { dst := some 44, op := Op.move (Operand.tmp 2), type := 22, pos := _, after := #[{ on := 4, ground := Ground.guard }], guard := some (4, true) }) (v := ?_) rfl (by kernel_rfl) (by kernel_rfl) (by kernel_rfl) (fun _ _ _ h => h) (Or.inl ⟨by rfl, ?hy⟩) hHeld ?_
  case hy => intro w0 hSw; (try dsimp only at hSw); go_simp; (try with_reducible rfl)
  (try simp only [Act.put, List.setIfInBounds_toArray, List.set_cons_zero, List.set_cons_succ])
  refine wpAnyH_take (i := 8) (oi := { dst := some 45, op := Op.slice 22 (Operand.tmp 44) none (some (Operand.const (Value.int IntKind.i64 2))) none, type := 22, pos := _, after := #[{ on := 7, ground := Ground.data }, { on := 4, ground := Ground.guard }], guard := some (4, true) }) (v := ?_) rfl (by kernel_rfl) (by kernel_rfl) (by kernel_rfl) (fun _ _ _ h => h) (Or.inl ⟨by rfl, ?hy⟩) hHeld ?_
  case hy => intro w0 hSw; (try dsimp only at hSw); go_simp; (try with_reducible rfl)
  (try simp only [Act.put, List.setIfInBounds_toArray, List.set_cons_zero, List.set_cons_succ])
  refine wpAnyH_ready (rs := [6]) (by kernel_rfl) (by simp) ?_
  refine AllReadyH.cons (o := { dst := some 43, op := Op.call { callee := Callee.value (Operand.func 10), args := #[Operand.const (Value.int IntKind.i64 2), Operand.tmp 42], argTypes := #[3, 22] }, type := 22, pos := _, after := #[{ on := 5, ground := Ground.data }, { on := 4, ground := Ground.chain }, { on := 4, ground := Ground.guard }], guard := some (4, true) }) rfl (fun K hK => ?_) AllReadyH.nil
  go_simp
  refine (kTop2 HK p _ (by first | exact hL | exact hL.drew)).mono ?_
  rintro e x3 ⟨A2, c2, rfl, hA2, hB'⟩
  replace hL := hL.on (by first | exact below_undrew hB' | exact hB')
  replace hS := hS.on (by first | exact below_undrew hB' | exact hB')
  replace hB := below2 hB (by first | exact below_undrew hB' | exact hB')
  clear hB'
  go_wp2_with fail
  refine hK.out _ _ (by first | exact hL | exact hL.drew) (fun hHeld => ?_)
  clear hK K
  (try simp only [Act.put, List.setIfInBounds_toArray, List.set_cons_zero, List.set_cons_succ])
  refine wpAnyH_ready (rs := [9]) (by kernel_rfl) (by simp) ?_
  refine AllReadyH.cons (o := { dst := some 46, op := Op.call { callee := Callee.value (Operand.func 14), args := #[Operand.tmp 43, Operand.tmp 45], argTypes := #[22, 22] }, type := 4, pos := _, after := #[{ on := 6, ground := Ground.data }, { on := 8, ground := Ground.data }, { on := 6, ground := Ground.chain }, { on := 4, ground := Ground.guard }], guard := some (4, true) }) rfl (fun K hK => ?_) AllReadyH.nil
  go_simp
  refine (RASame_n A2 (some ⟨r, 0, none⟩) 2 2 c2 4 (rkS.take 2) _ rfl rfl hA2 (hS.take 2) (by decide)).mono ?_
  rintro e x4 ⟨rfl, hB'⟩
  replace hL := hL.on (by first | exact below_undrew hB' | exact hB')
  replace hS := hS.on (by first | exact below_undrew hB' | exact hB')
  replace hB := below2 hB (by first | exact below_undrew hB' | exact hB')
  clear hB'
  clear hA2
  go_wp2_with fail
  refine hK.out _ _ (by first | exact hL | exact hL.drew) (fun hHeld => ?_)
  clear hK K
  (try simp only [Act.put, List.setIfInBounds_toArray, List.set_cons_zero, List.set_cons_succ])
  refine wpAnyH_take (i := 10) (oi := { dst := some 47, op := Op.pick (Operand.tmp 41) (Operand.tmp 46) (Operand.const (Value.bool false)), type := 4, pos := _, after := #[{ on := 4, ground := Ground.data }, { on := 9, ground := Ground.data }], guard := none }) (v := ?_) rfl (by kernel_rfl) (by kernel_rfl) (by kernel_rfl) (fun _ _ _ h => h) (Or.inl ⟨by rfl, ?hy⟩) hHeld ?_
  case hy => intro w0 hSw; (try dsimp only at hSw); go_simp; (try with_reducible rfl)
  (try simp only [Act.put, List.setIfInBounds_toArray, List.set_cons_zero, List.set_cons_succ])
  refine wpAnyH_take (i := 11) (oi := { dst := some 48, op := Op.move (Operand.tmp 47), type := 4, pos := _, after := #[{ on := 10, ground := Ground.data }, { on := 9, ground := Ground.chain }], guard := none }) (v := ?_) rfl (by kernel_rfl) (by kernel_rfl) (by kernel_rfl) (fun _ _ _ h => h) (Or.inl ⟨by rfl, ?hy⟩) hHeld ?_
  case hy => intro w0 hSw; (try dsimp only at hSw); go_simp; (try with_reducible rfl)
  (try simp only [Act.put, List.setIfInBounds_toArray, List.set_cons_zero, List.set_cons_succ])
  refine wpAnyH_take (i := 12) (oi := { dst := some 49, op := Op.move (Operand.tmp 1), type := 22, pos := _, after := #[{ on := 11, ground := Ground.guard }], guard := some (11, true) }) (v := ?_) rfl (by kernel_rfl) (by kernel_rfl) (by kernel_rfl) (fun _ _ _ h => h) (Or.inl ⟨by rfl, ?hy⟩) hHeld ?_
  case hy => intro w0 hSw; (try dsimp only at hSw); go_simp; (try with_reducible rfl)
  (try simp only [Act.put, List.setIfInBounds_toArray, List.set_cons_zero, List.set_cons_succ])
  refine wpAnyH_ready (rs := [13]) (by kernel_rfl) (by simp) ?_
  refine AllReadyH.cons (o := { dst := some 50, op := Op.call { callee := Callee.value (Operand.func 10), args := #[Operand.const (Value.int IntKind.i64 0), Operand.tmp 49], argTypes := #[3, 22] }, type := 22, pos := _, after := #[{ on := 12, ground := Ground.data }, { on := 11, ground := Ground.chain }, { on := 11, ground := Ground.guard }], guard := some (11, true) }) rfl (fun K hK => ?_) AllReadyH.nil
  go_simp
  refine (kTop0 HK p _ (by first | exact hL | exact hL.drew)).mono ?_
  rintro e x5 ⟨A3, c3, rfl, hA3, hB'⟩
  replace hL := hL.on (by first | exact below_undrew hB' | exact hB')
  replace hS := hS.on (by first | exact below_undrew hB' | exact hB')
  replace hB := below2 hB (by first | exact below_undrew hB' | exact hB')
  clear hB'
  clear hA3
  go_wp2_with fail
  refine hK.out _ _ (by first | exact hL | exact hL.drew) (fun hHeld => ?_)
  clear hK K
  (try simp only [Act.put, List.setIfInBounds_toArray, List.set_cons_zero, List.set_cons_succ])
  refine wpAnyH_take (i := 14) (oi := { dst := some 51, op := Op.call { callee := Callee.builtin Builtin.len, args := #[Operand.tmp 50], argTypes := #[22] }, type := 3, pos := _, after := #[{ on := 13, ground := Ground.data }, { on := 11, ground := Ground.guard }], guard := some (11, true) }) (v := ?_) rfl (by kernel_rfl) (by kernel_rfl) (by kernel_rfl) (fun _ _ _ h => h) (Or.inl ⟨by rfl, ?hy⟩) hHeld ?_
  case hy => intro w0 hSw; (try dsimp only at hSw); go_simp; (try with_reducible rfl)
  (try simp only [Act.put, List.setIfInBounds_toArray, List.set_cons_zero, List.set_cons_succ])
  refine wpAnyH_take (i := 15) (oi := { dst := some 52, op := Op.binOp BinOp.eql 3 (Operand.tmp 51) (Operand.const (Value.int IntKind.i64 0)) 3, type := 4, pos := _, after := #[{ on := 14, ground := Ground.data }, { on := 11, ground := Ground.guard }], guard := some (11, true) }) (v := ?_) rfl (by kernel_rfl) (by kernel_rfl) (by kernel_rfl) (fun _ _ _ h => h) (Or.inl ⟨by rfl, ?hy⟩) hHeld ?_
  case hy => intro w0 hSw; (try dsimp only at hSw); go_simp; (try with_reducible rfl)
  (try simp only [Act.put, List.setIfInBounds_toArray, List.set_cons_zero, List.set_cons_succ])
  refine wpAnyH_take (i := 16) (oi := { dst := some 53, op := Op.pick (Operand.tmp 48) (Operand.tmp 52) (Operand.const (Value.bool false)), type := 4, pos := _, after := #[{ on := 11, ground := Ground.data }, { on := 15, ground := Ground.data }], guard := none }) (v := ?_) rfl (by kernel_rfl) (by kernel_rfl) (by kernel_rfl) (fun _ _ _ h => h) (Or.inl ⟨by rfl, ?hy⟩) hHeld ?_
  case hy => intro w0 hSw; (try dsimp only at hSw); go_simp; (try with_reducible rfl)
  (try simp only [Act.put, List.setIfInBounds_toArray, List.set_cons_zero, List.set_cons_succ])
  refine wpAnyH_take (i := 17) (oi := { dst := some 54, op := Op.move (Operand.tmp 53), type := 4, pos := _, after := #[{ on := 16, ground := Ground.data }, { on := 13, ground := Ground.chain }], guard := none }) (v := ?_) rfl (by kernel_rfl) (by kernel_rfl) (by kernel_rfl) (fun _ _ _ h => h) (Or.inl ⟨by rfl, ?hy⟩) hHeld ?_
  case hy => intro w0 hSw; (try dsimp only at hSw); go_simp; (try with_reducible rfl)
  (try simp only [Act.put, List.setIfInBounds_toArray, List.set_cons_zero, List.set_cons_succ])
  refine wpAnyH_take (i := 18) (oi := { dst := some 55, op := Op.move (Operand.tmp 4), type := 4, pos := _, after := #[{ on := 17, ground := Ground.guard }], guard := some (17, true) }) (v := ?_) rfl (by kernel_rfl) (by kernel_rfl) (by kernel_rfl) (fun _ _ _ h => h) (Or.inl ⟨by rfl, ?hy⟩) hHeld ?_
  case hy => intro w0 hSw; (try dsimp only at hSw); go_simp; (try with_reducible rfl)
  (try simp only [Act.put, List.setIfInBounds_toArray, List.set_cons_zero, List.set_cons_succ])
  refine wpAnyH_take (i := 19) (oi := { dst := some 56, op := Op.pick (Operand.tmp 54) (Operand.tmp 55) (Operand.const (Value.bool false)), type := 4, pos := _, after := #[{ on := 17, ground := Ground.data }, { on := 18, ground := Ground.data }], guard := none }) (v := ?_) rfl (by kernel_rfl) (by kernel_rfl) (by kernel_rfl) (fun _ _ _ h => h) (Or.inl ⟨by rfl, ?hy⟩) hHeld ?_
  case hy => intro w0 hSw; (try dsimp only at hSw); go_simp; (try with_reducible rfl)
  (try simp only [Act.put, List.setIfInBounds_toArray, List.set_cons_zero, List.set_cons_succ])
  refine wpAnyH_take (i := 20) (oi := { dst := some 57, op := Op.move (Operand.tmp 56), type := 4, pos := _, after := #[{ on := 19, ground := Ground.data }, { on := 17, ground := Ground.chain }], guard := none }) (v := ?_) rfl (by kernel_rfl) (by kernel_rfl) (by kernel_rfl) (fun _ _ _ h => h) (Or.inl ⟨by rfl, ?hy⟩) hHeld ?_
  case hy => intro w0 hSw; (try dsimp only at hSw); go_simp; (try with_reducible rfl)
  (try simp only [Act.put, List.setIfInBounds_toArray, List.set_cons_zero, List.set_cons_succ])
  refine wpAnyH_take (i := 21) (oi := { dst := some 58, op := Op.move (Operand.tmp 3), type := 3, pos := _, after := #[{ on := 20, ground := Ground.guard }], guard := some (20, true) }) (v := ?_) rfl (by kernel_rfl) (by kernel_rfl) (by kernel_rfl) (fun _ _ _ h => h) (Or.inl ⟨by rfl, ?hy⟩) hHeld ?_
  case hy => intro w0 hSw; (try dsimp only at hSw); go_simp; (try with_reducible rfl)
  (try simp only [Act.put, List.setIfInBounds_toArray, List.set_cons_zero, List.set_cons_succ])
  refine wpAnyH_take (i := 22) (oi := { dst := some 59, op := Op.binOp BinOp.eql 3 (Operand.tmp 58) (Operand.const (Value.int IntKind.i64 0)) 3, type := 4, pos := _, after := #[{ on := 21, ground := Ground.data }, { on := 20, ground := Ground.guard }], guard := some (20, true) }) (v := ?_) rfl (by kernel_rfl) (by kernel_rfl) (by kernel_rfl) (fun _ _ _ h => h) (Or.inl ⟨by rfl, ?hy⟩) hHeld ?_
  case hy => intro w0 hSw; (try dsimp only at hSw); go_simp; (try with_reducible rfl)
  (try simp only [Act.put, List.setIfInBounds_toArray, List.set_cons_zero, List.set_cons_succ])
  refine wpAnyH_take (i := 23) (oi := { dst := some 60, op := Op.pick (Operand.tmp 57) (Operand.tmp 59) (Operand.const (Value.bool false)), type := 4, pos := _, after := #[{ on := 20, ground := Ground.data }, { on := 22, ground := Ground.data }], guard := none }) (v := ?_) rfl (by kernel_rfl) (by kernel_rfl) (by kernel_rfl) (fun _ _ _ h => h) (Or.inl ⟨by rfl, ?hy⟩) hHeld ?_
  case hy => intro w0 hSw; (try dsimp only at hSw); go_simp; (try with_reducible rfl)
  (try simp only [Act.put, List.setIfInBounds_toArray, List.set_cons_zero, List.set_cons_succ])
  refine wpAnyH_take (i := 24) (oi := { dst := some 61, op := Op.move (Operand.tmp 60), type := 4, pos := _, after := #[{ on := 23, ground := Ground.data }, { on := 20, ground := Ground.chain }], guard := none }) (v := ?_) rfl (by kernel_rfl) (by kernel_rfl) (by kernel_rfl) (fun _ _ _ h => h) (Or.inl ⟨by rfl, ?hy⟩) hHeld ?_
  case hy => intro w0 hSw; (try dsimp only at hSw); go_simp; (try with_reducible rfl)
  (try simp only [Act.put, List.setIfInBounds_toArray, List.set_cons_zero, List.set_cons_succ])
  refine wpAnyH_take (i := 25) (oi := { dst := some 62, op := Op.move (Operand.tmp 6), type := 4, pos := _, after := #[{ on := 24, ground := Ground.guard }], guard := some (24, true) }) (v := ?_) rfl (by kernel_rfl) (by kernel_rfl) (by kernel_rfl) (fun _ _ _ h => h) (Or.inl ⟨by rfl, ?hy⟩) hHeld ?_
  case hy => intro w0 hSw; (try dsimp only at hSw); go_simp; (try with_reducible rfl)
  (try simp only [Act.put, List.setIfInBounds_toArray, List.set_cons_zero, List.set_cons_succ])
  refine wpAnyH_take (i := 26) (oi := { dst := some 63, op := Op.unOp UnOp.not 4 (Operand.tmp 62), type := 4, pos := _, after := #[{ on := 25, ground := Ground.data }, { on := 24, ground := Ground.guard }], guard := some (24, true) }) (v := ?_) rfl (by kernel_rfl) (by kernel_rfl) (by kernel_rfl) (fun _ _ _ h => h) (Or.inl ⟨by rfl, ?hy⟩) hHeld ?_
  case hy => intro w0 hSw; (try dsimp only at hSw); go_simp; (try with_reducible rfl)
  (try simp only [Act.put, List.setIfInBounds_toArray, List.set_cons_zero, List.set_cons_succ])
  refine wpAnyH_take (i := 27) (oi := { dst := some 64, op := Op.pick (Operand.tmp 61) (Operand.tmp 63) (Operand.const (Value.bool false)), type := 4, pos := _, after := #[{ on := 24, ground := Ground.data }, { on := 26, ground := Ground.data }], guard := none }) (v := ?_) rfl (by kernel_rfl) (by kernel_rfl) (by kernel_rfl) (fun _ _ _ h => h) (Or.inl ⟨by rfl, ?hy⟩) hHeld ?_
  case hy => intro w0 hSw; (try dsimp only at hSw); go_simp; (try with_reducible rfl)
  (try simp only [Act.put, List.setIfInBounds_toArray, List.set_cons_zero, List.set_cons_succ])
  refine wpAnyH_take (i := 28) (oi := { dst := some 65, op := Op.move (Operand.tmp 64), type := 4, pos := _, after := #[{ on := 27, ground := Ground.data }, { on := 24, ground := Ground.chain }], guard := none }) (v := ?_) rfl (by kernel_rfl) (by kernel_rfl) (by kernel_rfl) (fun _ _ _ h => h) (Or.inl ⟨by rfl, ?hy⟩) hHeld ?_
  case hy => intro w0 hSw; (try dsimp only at hSw); go_simp; (try with_reducible rfl)
  (try simp only [Act.put, List.setIfInBounds_toArray, List.set_cons_zero, List.set_cons_succ])
  refine wpAnyH_take (i := 29) (oi := { dst := some 66, op := Op.move (Operand.tmp 1), type := 22, pos := _, after := #[{ on := 28, ground := Ground.guard }], guard := some (28, true) }) (v := ?_) rfl (by kernel_rfl) (by kernel_rfl) (by kernel_rfl) (fun _ _ _ h => h) (Or.inl ⟨by rfl, ?hy⟩) hHeld ?_
  case hy => intro w0 hSw; (try dsimp only at hSw); go_simp; (try with_reducible rfl)
  (try simp only [Act.put, List.setIfInBounds_toArray, List.set_cons_zero, List.set_cons_succ])
  refine wpAnyH_take (i := 30) (oi := { dst := some 67, op := Op.indexAddr 22 (Operand.tmp 66) (Operand.const (Value.int IntKind.i64 0)), type := 0, pos := _, after := #[{ on := 29, ground := Ground.data }, { on := 28, ground := Ground.guard }], guard := some (28, true) }) (v := ?_) rfl (by kernel_rfl) (by kernel_rfl) (by kernel_rfl) (fun _ _ _ h => h) (Or.inl ⟨by rfl, ?hy⟩) hHeld ?_
  case hy => intro w0 hSw; (try dsimp only at hSw); go_simp; (try with_reducible rfl)
  (try simp only [Act.put, List.setIfInBounds_toArray, List.set_cons_zero, List.set_cons_succ])
  refine wpAnyH_take (i := 31) (oi := { dst := some 68, op := Op.load 34 (Operand.tmp 67), type := 34, pos := _, after := #[{ on := 30, ground := Ground.data }, { on := 28, ground := Ground.guard }], guard := some (28, true) }) (v := ?_) rfl (by kernel_rfl) (by kernel_rfl) (by kernel_rfl) (fun _ _ _ h => h) (Or.inl ⟨by rfl, ?hy⟩) hHeld ?_
  case hy => intro w0 hSw; obtain ⟨b0, o0, e0, _, h6⟩ := hSw 0 (by decide); cases e0; have q0 := h6.c0; have q1 := h6.c1; have q2 := h6.c2; have q3 := h6.c3; have q4 := h6.c4; have q5 := h6.c5; simp only [rkL, List.getElem_cons_zero, List.getElem_cons_succ, Nat.zero_add, Nat.zero_mul, Nat.one_mul, Nat.reduceAdd] at q0 q1 q2 q3 q4 q5; clear hSw h6; go_simp; (try with_reducible rfl)
  (try simp only [Act.put, List.setIfInBounds_toArray, List.set_cons_zero, List.set_cons_succ])
  refine wpAnyH_take (i := 32) (oi := { dst := some 69, op := Op.move (Operand.tmp 1), type := 22, pos := _, after := #[{ on := 28, ground := Ground.guard }], guard := some (28, true) }) (v := ?_) rfl (by kernel_rfl) (by kernel_rfl) (by kernel_rfl) (fun _ _ _ h => h) (Or.inl ⟨by rfl, ?hy⟩) hHeld ?_
  case hy => intro w0 hSw; (try dsimp only at hSw); go_simp; (try with_reducible rfl)
  (try simp only [Act.put, List.setIfInBounds_toArray, List.set_cons_zero, List.set_cons_succ])
  refine wpAnyH_take (i := 33) (oi := { dst := some 70, op := Op.indexAddr 22 (Operand.tmp 69) (Operand.const (Value.int IntKind.i64 1)), type := 0, pos := _, after := #[{ on := 32, ground := Ground.data }, { on := 28, ground := Ground.guard }], guard := some (28, true) }) (v := ?_) rfl (by kernel_rfl) (by kernel_rfl) (by kernel_rfl) (fun _ _ _ h => h) (Or.inl ⟨by rfl, ?hy⟩) hHeld ?_
  case hy => intro w0 hSw; (try dsimp only at hSw); go_simp; (try with_reducible rfl)
  (try simp only [Act.put, List.setIfInBounds_toArray, List.set_cons_zero, List.set_cons_succ])
  refine wpAnyH_take (i := 34) (oi := { dst := some 71, op := Op.load 34 (Operand.tmp 70), type := 34, pos := _, after := #[{ on := 33, ground := Ground.data }, { on := 28, ground := Ground.guard }], guard := some (28, true) }) (v := ?_) rfl (by kernel_rfl) (by kernel_rfl) (by kernel_rfl) (fun _ _ _ h => h) (Or.inl ⟨by rfl, ?hy⟩) hHeld ?_
  case hy => intro w0 hSw; obtain ⟨b0, o0, e0, _, h6⟩ := hSw 1 (by decide); cases e0; have q0 := h6.c0; have q1 := h6.c1; have q2 := h6.c2; have q3 := h6.c3; have q4 := h6.c4; have q5 := h6.c5; simp only [rkL, List.getElem_cons_zero, List.getElem_cons_succ, Nat.zero_add, Nat.zero_mul, Nat.one_mul, Nat.reduceAdd] at q0 q1 q2 q3 q4 q5; clear hSw h6; go_simp; (try with_reducible rfl)
  (try simp only [Act.put, List.setIfInBounds_toArray, List.set_cons_zero, List.set_cons_succ])
  refine wpAnyH_ready (rs := [35]) (by kernel_rfl) (by simp) ?_
  refine AllReadyH.cons (o := { dst := some 72, op := Op.call { callee := Callee.value (Operand.func 18), args := #[Operand.tmp 68, Operand.tmp 71], argTypes := #[34, 34] }, type := 3, pos := _, after := #[{ on := 31, ground := Ground.data }, { on := 34, ground := Ground.data }, { on := 28, ground := Ground.chain }, { on := 28, ground := Ground.guard }], guard := some (28, true) }) rfl (fun K hK => ?_) AllReadyH.nil
  go_simp
  refine (kCmp HK _).mono ?_
  rintro e x6 ⟨rfl, hB'⟩
  replace hL := hL.on (by first | exact below_undrew hB' | exact hB')
  replace hS := hS.on (by first | exact below_undrew hB' | exact hB')
  replace hB := below2 hB (by first | exact below_undrew hB' | exact hB')
  clear hB'
  go_wp2_with fail
  refine hK.out _ _ (by first | exact hL | exact hL.drew) (fun hHeld => ?_)
  clear hK K
  (try simp only [Act.put, List.setIfInBounds_toArray, List.set_cons_zero, List.set_cons_succ])
  refine wpAnyH_take (i := 36) (oi := { dst := some 73, op := Op.binOp BinOp.eql 3 (Operand.tmp 72) (Operand.const (Value.int IntKind.i64 (-1))) 3, type := 4, pos := _, after := #[{ on := 35, ground := Ground.data }, { on := 28, ground := Ground.guard }], guard := some (28, true) }) (v := ?_) rfl (by kernel_rfl) (by kernel_rfl) (by kernel_rfl) (fun _ _ _ h => h) (Or.inl ⟨by rfl, ?hy⟩) hHeld ?_
  case hy => intro w0 hSw; (try dsimp only at hSw); go_simp; (try with_reducible rfl)
  (try simp only [Act.put, List.setIfInBounds_toArray, List.set_cons_zero, List.set_cons_succ])
  refine wpAnyH_take (i := 37) (oi := { dst := some 74, op := Op.pick (Operand.tmp 65) (Operand.tmp 73) (Operand.const (Value.bool false)), type := 4, pos := _, after := #[{ on := 28, ground := Ground.data }, { on := 36, ground := Ground.data }], guard := none }) (v := ?_) rfl (by kernel_rfl) (by kernel_rfl) (by kernel_rfl) (fun _ _ _ h => h) (Or.inl ⟨by rfl, ?hy⟩) hHeld ?_
  case hy => intro w0 hSw; (try dsimp only at hSw); go_simp; (try with_reducible rfl)
  (try simp only [Act.put, List.setIfInBounds_toArray, List.set_cons_zero, List.set_cons_succ])
  refine wpAnyH_take (i := 38) (oi := { dst := some 75, op := Op.move (Operand.tmp 74), type := 4, pos := _, after := #[{ on := 37, ground := Ground.data }, { on := 35, ground := Ground.chain }], guard := none }) (v := ?_) rfl (by kernel_rfl) (by kernel_rfl) (by kernel_rfl) (fun _ _ _ h => h) (Or.inl ⟨by rfl, ?hy⟩) hHeld ?_
  case hy => intro w0 hSw; (try dsimp only at hSw); go_simp; (try with_reducible rfl)
  (try simp only [Act.put, List.setIfInBounds_toArray, List.set_cons_zero, List.set_cons_succ])
  refine wpAnyH_take (i := 39) (oi := { dst := some 76, op := Op.move (Operand.tmp 1), type := 22, pos := _, after := #[{ on := 38, ground := Ground.guard }], guard := some (38, true) }) (v := ?_) rfl (by kernel_rfl) (by kernel_rfl) (by kernel_rfl) (fun _ _ _ h => h) (Or.inl ⟨by rfl, ?hy⟩) hHeld ?_
  case hy => intro w0 hSw; (try dsimp only at hSw); go_simp; (try with_reducible rfl)
  (try simp only [Act.put, List.setIfInBounds_toArray, List.set_cons_zero, List.set_cons_succ])
  refine wpAnyH_take (i := 40) (oi := { dst := some 77, op := Op.slice 22 (Operand.tmp 76) none (some (Operand.const (Value.int IntKind.i64 2))) none, type := 22, pos := _, after := #[{ on := 39, ground := Ground.data }, { on := 38, ground := Ground.guard }], guard := some (38, true) }) (v := ?_) rfl (by kernel_rfl) (by kernel_rfl) (by kernel_rfl) (fun _ _ _ h => h) (Or.inl ⟨by rfl, ?hy⟩) hHeld ?_
  case hy => intro w0 hSw; (try dsimp only at hSw); go_simp; (try with_reducible rfl)
  (try simp only [Act.put, List.setIfInBounds_toArray, List.set_cons_zero, List.set_cons_succ])
  refine wpAnyH_take (i := 41) (oi := { dst := some 78, op := Op.move (Operand.tmp 1), type := 22, pos := _, after := #[{ on := 38, ground := Ground.guard }], guard := some (38, true) }) (v := ?_) rfl (by kernel_rfl) (by kernel_rfl) (by kernel_rfl) (fun _ _ _ h => h) (Or.inl ⟨by rfl, ?hy⟩) hHeld ?_
  case hy => intro w0 hSw; (try dsimp only at hSw); go_simp; (try with_reducible rfl)
  (try simp only [Act.put, List.setIfInBounds_toArray, List.set_cons_zero, List.set_cons_succ])
  refine wpAnyH_take (i := 42) (oi := { dst := some 79, op := Op.slice 22 (Operand.tmp 78) (some (Operand.const (Value.int IntKind.i64 2))) none none, type := 22, pos := _, after := #[{ on := 41, ground := Ground.data }, { on := 38, ground := Ground.guard }], guard := some (38, true) }) (v := ?_) rfl (by kernel_rfl) (by kernel_rfl) (by kernel_rfl) (fun _ _ _ h => h) (Or.inl ⟨by rfl, ?hy⟩) hHeld ?_
  case hy => intro w0 hSw; (try dsimp only at hSw); go_simp; (try with_reducible rfl)
  (try simp only [Act.put, List.setIfInBounds_toArray, List.set_cons_zero, List.set_cons_succ])
  refine wpAnyH_take (i := 44) (oi := { dst := some 81, op := Op.move (Operand.tmp 2), type := 22, pos := _, after := #[{ on := 38, ground := Ground.guard }], guard := some (38, true) }) (v := ?_) rfl (by kernel_rfl) (by kernel_rfl) (by kernel_rfl) (fun _ _ _ h => h) (Or.inl ⟨by rfl, ?hy⟩) hHeld ?_
  case hy => intro w0 hSw; (try dsimp only at hSw); go_simp; (try with_reducible rfl)
  (try simp only [Act.put, List.setIfInBounds_toArray, List.set_cons_zero, List.set_cons_succ])
  refine wpAnyH_ready (rs := [43]) (by kernel_rfl) (by simp) ?_
  refine AllReadyH.cons (o := { dst := some 80, op := Op.call { callee := Callee.value (Operand.func 13), args := #[Operand.tmp 77, Operand.tmp 79], argTypes := #[22, 22] }, type := 22, pos := _, after := #[{ on := 40, ground := Ground.data }, { on := 42, ground := Ground.data }, { on := 38, ground := Ground.chain }, { on := 38, ground := Ground.guard }], guard := some (38, true) }) rfl (fun K hK => ?_) AllReadyH.nil
  go_simp
  refine (kMerge HK p _ (by first | exact hL | exact hL.drew)).mono ?_
  rintro e x7 ⟨A4, c4, rfl, hA4, hB'⟩
  replace hL := hL.on (by first | exact below_undrew hB' | exact hB')
  replace hS := hS.on (by first | exact below_undrew hB' | exact hB')
  replace hB := below2 hB (by first | exact below_undrew hB' | exact hB')
  clear hB'
  go_wp2_with fail
  refine hK.out _ _ (by first | exact hL | exact hL.drew) (fun hHeld => ?_)
  clear hK K
  (try simp only [Act.put, List.setIfInBounds_toArray, List.set_cons_zero, List.set_cons_succ])
  refine wpAnyH_ready (rs := [45]) (by kernel_rfl) (by simp) ?_
  refine AllReadyH.cons (o := { dst := some 82, op := Op.call { callee := Callee.value (Operand.func 14), args := #[Operand.tmp 80, Operand.tmp 81], argTypes := #[22, 22] }, type := 4, pos := _, after := #[{ on := 43, ground := Ground.data }, { on := 44, ground := Ground.data }, { on := 43, ground := Ground.chain }, { on := 38, ground := Ground.guard }], guard := some (38, true) }) rfl (fun K hK => ?_) AllReadyH.nil
  go_simp
  refine (RASame_n A4 (some ⟨r, 0, none⟩) 4 4 c4 4 rkS _ rfl rfl hA4 hS (by decide)).mono ?_
  rintro e x8 ⟨rfl, hB'⟩
  replace hL := hL.on (by first | exact below_undrew hB' | exact hB')
  replace hS := hS.on (by first | exact below_undrew hB' | exact hB')
  replace hB := below2 hB (by first | exact below_undrew hB' | exact hB')
  clear hB'
  clear hA4
  go_wp2_with fail
  refine hK.out _ _ (by first | exact hL | exact hL.drew) (fun hHeld => ?_)
  clear hK K
  (try simp only [Act.put, List.setIfInBounds_toArray, List.set_cons_zero, List.set_cons_succ])
  refine wpAnyH_take (i := 46) (oi := { dst := some 83, op := Op.pick (Operand.tmp 75) (Operand.tmp 82) (Operand.const (Value.bool false)), type := 4, pos := _, after := #[{ on := 38, ground := Ground.data }, { on := 45, ground := Ground.data }], guard := none }) (v := ?_) rfl (by kernel_rfl) (by kernel_rfl) (by kernel_rfl) (fun _ _ _ h => h) (Or.inl ⟨by rfl, ?hy⟩) hHeld ?_
  case hy => intro w0 hSw; (try dsimp only at hSw); go_simp; (try with_reducible rfl)
  (try simp only [Act.put, List.setIfInBounds_toArray, List.set_cons_zero, List.set_cons_succ])
  refine wpAnyH_take (i := 47) (oi := { dst := some 0, op := Op.assign (Operand.tmp 83), type := 4, pos := _, after := #[{ on := 46, ground := Ground.data }, { on := 45, ground := Ground.chain }, { on := 0, ground := Ground.phase }, { on := 1, ground := Ground.phase }, { on := 2, ground := Ground.phase }, { on := 3, ground := Ground.phase }, { on := 4, ground := Ground.phase }, { on := 5, ground := Ground.phase }, { on := 6, ground := Ground.phase }, { on := 7, ground := Ground.phase }, { on := 8, ground := Ground.phase }, { on := 9, ground := Ground.phase }, { on := 10, ground := Ground.phase }, { on := 11, ground := Ground.phase }, { on := 12, ground := Ground.phase }, { on := 13, ground := Ground.phase }, { on := 14, ground := Ground.phase }, { on := 15, ground := Ground.phase }, { on := 16, ground := Ground.phase }, { on := 17, ground := Ground.phase }, { on := 18, ground := Ground.phase }, { on := 19, ground := Ground.phase }, { on := 20, ground := Ground.phase }, { on := 21, ground := Ground.phase }, { on := 22, ground := Ground.phase }, { on := 23, ground := Ground.phase }, { on := 24, ground := Ground.phase }, { on := 25, ground := Ground.phase }, { on := 26, ground := Ground.phase }, { on := 27, ground := Ground.phase }, { on := 28, ground := Ground.phase }, { on := 29, ground := Ground.phase }, { on := 30, ground := Ground.phase }, { on := 31, ground := Ground.phase }, { on := 32, ground := Ground.phase }, { on := 33, ground := Ground.phase }, { on := 34, ground := Ground.phase }, { on := 35, ground := Ground.phase }, { on := 36, ground := Ground.phase }, { on := 37, ground := Ground.phase }, { on := 38, ground := Ground.phase }, { on := 39, ground := Ground.phase }, { on := 40, ground := Ground.phase }, { on := 41, ground := Ground.phase }, { on := 42, ground := Ground.phase }, { on := 43, ground := Ground.phase }, { on := 44, ground := Ground.phase }, { on := 45, ground := Ground.phase }, { on := 46, ground := Ground.phase }], guard := none }) (v := ?_) rfl (by kernel_rfl) (by kernel_rfl) (by kernel_rfl) (fun _ _ _ h => h) (Or.inl ⟨by rfl, ?hy⟩) hHeld ?_
  case hy => intro w0 hSw; (try dsimp only at hSw); go_simp; (try with_reducible rfl)
  (try simp only [Act.put, List.setIfInBounds_toArray, List.set_cons_zero, List.set_cons_succ])
  refine wpAnyH_done (by kernel_rfl) ?_ _
  clear hHeld
  have HB := Lib.hid hB
  clear hL hS hB
  go_wp2
  go_ret
  exact ⟨rfl, HB.out⟩
end Go.Proofs.Ytlkopnbkmpgafaa
