/-
  Layer 10 (mute): the document's rows (printed by tools/gen-muterung.py).
-/
import Derived.Test.YthbkfjnpdcfepaaMuteK
namespace Go.Proofs.Ythbkfjnpdcfepaa
set_option maxRecDepth 10000
open Go.RowKit

theorem mAdd (HM : Hid MuteK) (A B : Option Addr) (c d : Nat) (W : World) (hA : WinsAt W W.heap.size A [⟨1, 1, 5⟩, ⟨1, 7, 20⟩]) (hB : WinsAt W W.heap.size B [⟨1, 5, 9⟩]) (h0 : Roomy A [⟨1, 1, 5⟩, ⟨1, 7, 20⟩] c) (h1 : Roomy B [⟨1, 5, 9⟩] d) : Calls Try.prog 8 #[.slice A 2 c, .slice B 1 d] W (GivesW W 1 [⟨1, 1, 20⟩] 0) := by
  have e1 : Mu.turn [⟨1, 1, 5⟩, ⟨1, 7, 20⟩] [⟨1, 5, 9⟩] true = [⟨1, 1, 20⟩] := by decide +kernel
  have e2 : Mu.turnE [⟨1, 1, 5⟩, ⟨1, 7, 20⟩] [⟨1, 5, 9⟩] true = 0 := by decide +kernel
  have k := HM.out.add A 2 c [⟨1, 1, 5⟩, ⟨1, 7, 20⟩] B 1 d [⟨1, 5, 9⟩] 1 W ⟨rfl, hA, h0, by omega⟩ ⟨rfl, hB, h1, by omega⟩ (by rw [e1]; rfl)
  rw [e1, e2] at k
  exact k
theorem mCut (HM : Hid MuteK) (A B : Option Addr) (c d : Nat) (W : World) (hA : WinsAt W W.heap.size A [⟨1, 1, 5⟩, ⟨1, 7, 20⟩]) (hB : WinsAt W W.heap.size B [⟨1, 5, 9⟩]) (h0 : Roomy A [⟨1, 1, 5⟩, ⟨1, 7, 20⟩] c) (h1 : Roomy B [⟨1, 5, 9⟩] d) : Calls Try.prog 10 #[.slice A 2 c, .slice B 1 d] W (GivesW W 2 [⟨1, 1, 5⟩, ⟨1, 9, 20⟩] 0) := by
  have e1 : Mu.turn [⟨1, 1, 5⟩, ⟨1, 7, 20⟩] [⟨1, 5, 9⟩] false = [⟨1, 1, 5⟩, ⟨1, 9, 20⟩] := by decide +kernel
  have e2 : Mu.turnE [⟨1, 1, 5⟩, ⟨1, 7, 20⟩] [⟨1, 5, 9⟩] false = 0 := by decide +kernel
  have k := HM.out.cut A 2 c [⟨1, 1, 5⟩, ⟨1, 7, 20⟩] B 1 d [⟨1, 5, 9⟩] 2 W ⟨rfl, hA, h0, by omega⟩ ⟨rfl, hB, h1, by omega⟩ (by rw [e1]; rfl)
  rw [e1, e2] at k
  exact k
theorem mBad (HM : Hid MuteK) (A B : Option Addr) (c d : Nat) (W : World) (hA : WinsAt W W.heap.size A [⟨1, 1, 5⟩, ⟨1, 7, 20⟩]) (hB : WinsAt W W.heap.size B [⟨0, 0, 0⟩]) (h0 : Roomy A [⟨1, 1, 5⟩, ⟨1, 7, 20⟩] c) (h1 : Roomy B [⟨0, 0, 0⟩] d) : Calls Try.prog 8 #[.slice A 2 c, .slice B 1 d] W (GivesW W 0 [] 1) := by
  have e1 : Mu.turn [⟨1, 1, 5⟩, ⟨1, 7, 20⟩] [⟨0, 0, 0⟩] true = [] := by decide +kernel
  have e2 : Mu.turnE [⟨1, 1, 5⟩, ⟨1, 7, 20⟩] [⟨0, 0, 0⟩] true = 1 := by decide +kernel
  have k := HM.out.add A 2 c [⟨1, 1, 5⟩, ⟨1, 7, 20⟩] B 1 d [⟨0, 0, 0⟩] 0 W ⟨rfl, hA, h0, by omega⟩ ⟨rfl, hB, h1, by omega⟩ (by rw [e1]; rfl)
  rw [e1, e2] at k
  exact k
theorem mTill (HM : Hid MuteK) (A : Option Addr) (c : Nat) (W : World) (hA : WinsAt W W.heap.size A [⟨1, 1, 5⟩, ⟨1, 7, 20⟩]) (h0 : Roomy A [⟨1, 1, 5⟩, ⟨1, 7, 20⟩] c) : Calls Try.prog 12 #[.slice A 2 c, .int .i64 1, .int .i64 7] W fun e w' => e = .returned (.tuple #[.int .i64 20, .bool true]) ∧ Below W.heap.size W w' := by
  have e0 : Mu.tillN [⟨1, 1, 5⟩, ⟨1, 7, 20⟩] 1 7 = 20 := by decide +kernel
  have e1 : Mu.has [⟨1, 1, 5⟩, ⟨1, 7, 20⟩] 1 7 = true := by decide +kernel
  have k := HM.out.till A 2 c [⟨1, 1, 5⟩, ⟨1, 7, 20⟩] 1 7 W ⟨rfl, hA, h0, by omega⟩
  rw [e0, e1] at k
  exact k
theorem mIs (HM : Hid MuteK) (A : Option Addr) (c : Nat) (W : World) (hA : WinsAt W W.heap.size A [⟨1, 1, 5⟩, ⟨1, 7, 20⟩]) (h0 : Roomy A [⟨1, 1, 5⟩, ⟨1, 7, 20⟩] c) : Calls Try.prog 16 #[.slice A 2 c] W fun e w' => e = .returned (.bool true) ∧ Below W.heap.size W w' := by
  have e0 : Mu.isL [⟨1, 1, 5⟩, ⟨1, 7, 20⟩] = true := by decide +kernel
  have k := HM.out.is A 2 c [⟨1, 1, 5⟩, ⟨1, 7, 20⟩] W ⟨rfl, hA, h0, by omega⟩
  rw [e0] at k
  exact k
theorem mHas4 (HM : Hid MuteK) (A : Option Addr) (c : Nat) (W : World) (hA : WinsAt W W.heap.size A [⟨1, 1, 5⟩, ⟨1, 7, 20⟩]) (h0 : Roomy A [⟨1, 1, 5⟩, ⟨1, 7, 20⟩] c) : Calls Try.prog 18 #[.slice A 2 c, .int .i64 1, .int .i64 4] W fun e w' => e = .returned (.bool true) ∧ Below W.heap.size W w' := by
  have e0 : Mu.has [⟨1, 1, 5⟩, ⟨1, 7, 20⟩] 1 4 = true := by decide +kernel
  have k := HM.out.has A 2 c [⟨1, 1, 5⟩, ⟨1, 7, 20⟩] 1 4 W ⟨rfl, hA, h0, by omega⟩
  rw [e0] at k
  exact k
theorem mHas5 (HM : Hid MuteK) (A : Option Addr) (c : Nat) (W : World) (hA : WinsAt W W.heap.size A [⟨1, 1, 5⟩, ⟨1, 7, 20⟩]) (h0 : Roomy A [⟨1, 1, 5⟩, ⟨1, 7, 20⟩] c) : Calls Try.prog 18 #[.slice A 2 c, .int .i64 1, .int .i64 5] W fun e w' => e = .returned (.bool false) ∧ Below W.heap.size W w' := by
  have e0 : Mu.has [⟨1, 1, 5⟩, ⟨1, 7, 20⟩] 1 5 = false := by decide +kernel
  have k := HM.out.has A 2 c [⟨1, 1, 5⟩, ⟨1, 7, 20⟩] 1 5 W ⟨rfl, hA, h0, by omega⟩
  rw [e0] at k
  exact k
theorem mTot (HM : Hid MuteK) (A : Option Addr) (c : Nat) (W : World) (hA : WinsAt W W.heap.size A [⟨1, 1, 5⟩, ⟨1, 7, 20⟩]) (h0 : Roomy A [⟨1, 1, 5⟩, ⟨1, 7, 20⟩] c) : Calls Try.prog 20 #[.slice A 2 c, .int .i64 1] W fun e w' => e = .returned (.int .i64 17) ∧ Below W.heap.size W w' := by
  have e0 : Mu.total [⟨1, 1, 5⟩, ⟨1, 7, 20⟩] 1 = 17 := by decide +kernel
  have k := HM.out.total A 2 c [⟨1, 1, 5⟩, ⟨1, 7, 20⟩] 1 W ⟨rfl, hA, h0, by omega⟩
  rw [e0] at k
  exact k
theorem mSame1 (HT : Hid WSameK) (A B : Option Addr) (c d : Nat) (W : World) (hA : WinsAt W W.heap.size A [⟨1, 1, 20⟩]) (hB : WinsAt W W.heap.size B [⟨1, 1, 20⟩]) : Calls Try.prog 14 #[.slice A 1 c, .slice B 1 d] W fun e w' => e = .returned (.bool true) ∧ Below W.heap.size W w' := HT.out A B 1 c d [⟨1, 1, 20⟩] W rfl hA hB (by omega)
theorem mSame2 (HT : Hid WSameK) (A B : Option Addr) (c d : Nat) (W : World) (hA : WinsAt W W.heap.size A [⟨1, 1, 5⟩, ⟨1, 9, 20⟩]) (hB : WinsAt W W.heap.size B [⟨1, 1, 5⟩, ⟨1, 9, 20⟩]) : Calls Try.prog 14 #[.slice A 2 c, .slice B 2 d] W fun e w' => e = .returned (.bool true) ∧ Below W.heap.size W w' := HT.out A B 2 c d [⟨1, 1, 5⟩, ⟨1, 9, 20⟩] W rfl hA hB (by omega)

set_option maxHeartbeats 4000000 in
theorem muted_any (HM : Hid MuteK) (HT : Hid WSameK) : MutedK := by
  intro w
  have HS := Lib.hid (((St.start w).box2 #[.int .i64 1, .int .i64 1, .int .i64 5, .int .i64 1, .int .i64 7, .int .i64 20] #[.int .i64 1, .int .i64 5, .int .i64 9] 32 32).more (winF (some ⟨w.heap.size, 0, none⟩) [⟨1, 1, 5⟩, ⟨1, 7, 20⟩]) ((WinsAt.two w 1 1 5 1 7 20 32).on (below_new _ _)))
  go_enter Try.func15, Try.ntmps15
  go_wp2_with fail
  obtain ⟨u, hu⟩ : ∃ W, W = (w.alloc (.cells #[.int .i64 1, .int .i64 1, .int .i64 5, .int .i64 1, .int .i64 7, .int .i64 20] 32)).alloc (.cells #[.int .i64 1, .int .i64 5, .int .i64 9] 32) := ⟨_, rfl⟩
  have Hus : Hid (u.heap.size = w.heap.size + 1 + 1) := Lib.hid (by rw [hu]; simp)
  rw [← hu] at HS ⊢
  clear hu
  have T1 := WinsAt.one u 1 5 9 32
  rw [Hus.out] at T1
  have HN := Lib.hid (HS.out.on (below_new u (.cells #[.int .i64 1, .int .i64 5, .int .i64 9] 32)))
  refine (mAdd HM _ _ _ _ _ (HN.out.fact 0 rfl) T1 ⟨(fun e => nomatch e), (by simp)⟩ ⟨(fun e => nomatch e), (by simp)⟩).mono ?_
  rintro e w1 ⟨A1, c1, rfl, hO, hB⟩
  have HX := Lib.hid (hO.rows.1)
  replace HS := Lib.hid (((HN.out.on hB)).more (winF A1 [⟨1, 1, 20⟩]) HX.out)
  clear hO hB HN T1 HX Hus
  obtain ⟨p1, hp1⟩ : ∃ p, p = w.heap.size + 1 := ⟨_, rfl⟩
  rw [← hp1] at HS ⊢
  clear hp1
  obtain ⟨p0, hp0⟩ : ∃ p, p = w.heap.size := ⟨_, rfl⟩
  rw [← hp0] at HS ⊢
  clear hp0
  go_wp2_with (first
    | (refine wpList_load_st rfl 32 _ rfl HS.out 0 _ _ rfl rfl _ Try.underlying32 rfl (by rfl) ?_))
  have T2 := WinsAt.one w1 1 5 9 32
  have HN := Lib.hid (HS.out.on (below_new w1 (.cells #[.int .i64 1, .int .i64 5, .int .i64 9] 32)))
  refine (mCut HM _ _ _ _ _ (HN.out.fact 1 rfl) T2 ⟨(fun e => nomatch e), (by simp)⟩ ⟨(fun e => nomatch e), (by simp)⟩).mono ?_
  rintro e w2 ⟨A2, c2, rfl, hO, hB⟩
  replace HS := Lib.hid ((HN.out.on hB).more (winF A2 [⟨1, 1, 5⟩, ⟨1, 9, 20⟩]) hO.rows.1)
  clear hO hB HN T2
  go_wp2_with (first
    | (refine wpList_load_st rfl 32 _ rfl HS.out 0 _ _ rfl rfl _ Try.underlying32 rfl (by rfl) ?_))
  have T3 := WinsAt.one w2 0 0 0 32
  have HN := Lib.hid (HS.out.on (below_new w2 (.cells #[.int .i64 0, .int .i64 0, .int .i64 0] 32)))
  refine (mBad HM _ _ _ _ _ (HN.out.fact 2 rfl) T3 ⟨(fun e => nomatch e), (by simp)⟩ ⟨(fun e => nomatch e), (by simp)⟩).mono ?_
  rintro e w3 ⟨A3, c3, rfl, hO, hB⟩
  replace HS := Lib.hid (HN.out.on hB)
  clear hO hB HN T3
  go_wp2_with fail
  refine (mTill HM _ _ _ (HS.out.fact 2 rfl) ⟨(fun e => nomatch e), (by simp)⟩).mono ?_
  rintro e w4 ⟨rfl, hB⟩
  replace HS := Lib.hid (HS.out.on hB)
  clear hB
  go_wp2_with fail
  have T4 := WinsAt.one w4 1 1 20 32
  have HN := Lib.hid (HS.out.on (below_new w4 (.cells #[.int .i64 1, .int .i64 1, .int .i64 20] 32)))
  refine (mSame1 HT _ _ _ _ _ (HN.out.fact 1 rfl) T4).mono ?_
  rintro e w5 ⟨rfl, hB⟩
  replace HS := Lib.hid (HN.out.on hB)
  clear hB HN T4
  go_wp2_with fail
  have T5 := WinsAt.two w5 1 1 5 1 9 20 32
  have HN := Lib.hid (HS.out.on (below_new w5 (.cells #[.int .i64 1, .int .i64 1, .int .i64 5, .int .i64 1, .int .i64 9, .int .i64 20] 32)))
  refine (mSame2 HT _ _ _ _ _ (HN.out.fact 0 rfl) T5).mono ?_
  rintro e w6 ⟨rfl, hB⟩
  replace HS := Lib.hid (HN.out.on hB)
  clear hB HN T5
  go_wp2_with fail
  refine (mIs HM _ _ _ (HS.out.fact 2 rfl) ⟨(fun e => nomatch e), (by simp)⟩).mono ?_
  rintro e w7 ⟨rfl, hB⟩
  replace HS := Lib.hid (HS.out.on hB)
  clear hB
  go_wp2_with fail
  refine (mHas4 HM _ _ _ (HS.out.fact 2 rfl) ⟨(fun e => nomatch e), (by simp)⟩).mono ?_
  rintro e w8 ⟨rfl, hB⟩
  replace HS := Lib.hid (HS.out.on hB)
  clear hB
  go_wp2_with fail
  refine (mHas5 HM _ _ _ (HS.out.fact 2 rfl) ⟨(fun e => nomatch e), (by simp)⟩).mono ?_
  rintro e w9 ⟨rfl, hB⟩
  replace HS := Lib.hid (HS.out.on hB)
  clear hB
  go_wp2_with fail
  refine (mTot HM _ _ _ (HS.out.fact 2 rfl) ⟨(fun e => nomatch e), (by simp)⟩).mono ?_
  rintro e w10 ⟨rfl, hB⟩
  replace HS := Lib.hid (HS.out.on hB)
  clear hB
  go_wp2
  go_ret
  exact ⟨rfl, HS.out.below⟩
end Go.Proofs.Ythbkfjnpdcfepaa
