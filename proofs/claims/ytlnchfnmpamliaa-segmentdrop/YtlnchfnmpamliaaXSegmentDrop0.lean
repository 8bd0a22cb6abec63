/-
  Layer 14 (segment): the law SegmentDrop, over the structure (printed by tools/gen-segdrop.py).
-/
import Derived.Test.YtlnchfnmpamliaaXJb
import Derived.Test.YtlnchfnmpamliaaXJd
import Derived.Deep.Cut
namespace Go.Proofs.Ytlnchfnmpamliaa
set_option maxRecDepth 10000
open Go.RowKit

/-- What is behind a beginning of a slice of texts. -/
theorem run_slice_from14 (w : World) (A : Option Addr) (n c j K C : Nat) (hj : j ≤ n) (hK : n - j = K) (hC : c - j = C) (A2 : Option Addr) (hA2 : (if c = j then A else A.map (·.add j)) = A2) : (Instr.slice 22 (.slice A n c) (some (.int .i64 (j : Int))) none none).run Try.prog w = .ok (.slice A2 K C) w := by
  have hs : (sizeOf 9).run Try.prog w = .ok 1 w := by kernel_rfl
  have hb : (Instr.sliceBound (.int .i64 (j : Int)) n .sliceB).run Try.prog w = .ok j w := by simp [Instr.sliceBound, asIntOf, hj]
  have h1 : (0 : Int) ≤ (j : Int) := by omega
  subst hK hC hA2
  simp [Instr.slice, Instr.sliceBounds, run_underlying Try.underlying22, hs, hb, Result.andThen]
theorem StrsAt.drop14 {w : World} {B : Nat} {A : Option Addr} {ss : List ByteArray} (h : StrsAt w B A ss) (j c : Nat) (hc : ss.length ≤ c) (A2 : Option Addr) (hA2 : (if c = j then A else A.map (·.add j)) = A2) : StrsAt w B A2 (ss.drop j) := fun i hi => by
  rw [List.length_drop] at hi
  obtain ⟨b, off, e, hb, hx⟩ := h (j + i) (by omega)
  rw [if_neg (by omega)] at hA2
  refine ⟨b, off + j, ?_, hb, ?_⟩
  · rw [← hA2, e]; show some (Addr.add _ _) = _; simp [Addr.add]
  · rw [List.getElem_drop, Nat.add_assoc]; exact hx

set_option maxHeartbeats 4000000 in
theorem segmentDrop_new {E : World → Prop} (HS : Hid (SegK E)) (HC : Hid (PartedK E)) (size first : Int) (A1 : Option Addr) (N1 cap1 : Nat) (l : List ByteArray) (upto more : Int) (t : ByteArray) (w : World) (hE : E w) (hA1 : StrsAt w w.heap.size A1 l) 
    (KN : ∀ (W : World) (_h : E W), Hid (Calls Try.prog 8 #[.int .i64 size, .int .i64 first] W fun e w' => ∃ A c, e = .returned (.tuple #[.agg #[.int .i64 0, .int .i64 0, .slice A 0 c], .int .i64 1]) ∧ FilsAt w' w'.heap.size A ([] : List Fil) ∧ RoomyF A ([] : List Fil) c ∧ Below W.heap.size W w')) :
    Calls Try.prog 5 #[.int .i64 size, .int .i64 first, .slice A1 N1 cap1, .int .i64 upto, .int .i64 more, .string t] w fun e w' => e = .returned (.bool true) ∧ Below w.heap.size w w' := by
  have S0 := Lib.hid (((St.start w).more (strsF14 A1 w.heap.size l) ⟨hA1, Nat.le_refl _⟩).more (eSg HS) hE)
  clear hE hA1
  go_enter Try.func5, Try.ntmps5
  go_wp2_with fail
  refine (KN _ (S0.out.fact 0 rfl)).out.mono ?_
  rintro e w1 ⟨Af, cf, rfl, hT, hR, hB⟩
  have S1 := Lib.hid ((S0.out.on hB).more (filF14 Af w1.heap.size ([] : List Fil)) ⟨hT, Nat.le_refl _⟩)
  have HRf := Lib.hid hR
  clear hB hT hR S0
  obtain ⟨Bf, hBe⟩ : ∃ b, b = w1.heap.size := ⟨_, rfl⟩
  rw [← hBe] at S1
  clear hBe
  go_wp2_with (refine wpList_store_st rfl 25 _ _ rfl S1.out _ #[.int .i64 0, .int .i64 0, .slice Af 0 cf] _ rfl rfl (by rfl) rfl (seg_one14 _ _ _ _ _) ?_; intro b0 w2 hp hS hBn; (try rw [← hp]); have S2 := Lib.hid hS; clear hS hp hBn)
  refine (Lib.hid (HC.out _ (S2.out.fact 1 rfl))).out.mono ?_
  rintro e w3 ⟨rfl, hB⟩
  have S3 := Lib.hid (S2.out.on hB)
  clear hB S2
  go_wp2
  go_ret
  exact ⟨rfl, S3.out.below⟩

set_option maxHeartbeats 4000000 in
theorem segmentDrop_far1 {E : World → Prop} (HS : Hid (SegK E)) (HC : Hid (PartedK E)) (size first : Int) (A1 : Option Addr) (N1 cap1 : Nat) (l : List ByteArray) (upto more : Int) (t : ByteArray) (w : World) (hE : E w) (hA1 : StrsAt w w.heap.size A1 l) (sz fi : Int) (n0 : Nat) (fs0 : List Fil)
    (KN : ∀ (W : World) (_h : E W), Hid (Calls Try.prog 8 #[.int .i64 size, .int .i64 first] W fun e w' => ∃ A c, e = .returned (.tuple #[.agg #[.int .i64 sz, .int .i64 fi, .slice A n0 c], .int .i64 0]) ∧ FilsAt w' w'.heap.size A fs0 ∧ RoomyF A fs0 c ∧ Below W.heap.size W w'))
    (pf1 : ∀ (W : World) (A : Option Addr) (c : Nat) (_hA : FilsAt W W.heap.size A fs0) (_hB : StrsAt W W.heap.size A1 l), Hid (Calls Try.prog 9 #[.agg #[.int .i64 sz, .int .i64 fi, .slice A n0 c], .slice A1 N1 cap1] W fun e w' => e = .returned (.bool true) ∧ Below W.heap.size W w')) :
    Calls Try.prog 5 #[.int .i64 size, .int .i64 first, .slice A1 N1 cap1, .int .i64 upto, .int .i64 more, .string t] w fun e w' => e = .returned (.bool true) ∧ Below w.heap.size w w' := by
  have S0 := Lib.hid (((St.start w).more (strsF14 A1 w.heap.size l) ⟨hA1, Nat.le_refl _⟩).more (eSg HS) hE)
  clear hE hA1
  go_enter Try.func5, Try.ntmps5
  go_wp2_with fail
  refine (KN _ (S0.out.fact 0 rfl)).out.mono ?_
  rintro e w1 ⟨Af, cf, rfl, hT, hR, hB⟩
  have S1 := Lib.hid ((S0.out.on hB).more (filF14 Af w1.heap.size fs0) ⟨hT, Nat.le_refl _⟩)
  have HRf := Lib.hid hR
  clear hB hT hR S0
  obtain ⟨Bf, hBe⟩ : ∃ b, b = w1.heap.size := ⟨_, rfl⟩
  rw [← hBe] at S1
  clear hBe
  go_wp2_with (first
    | (refine wpList_store_st rfl 25 _ _ rfl S1.out _ #[.int .i64 sz, .int .i64 fi, .slice Af n0 cf] _ rfl rfl (by rfl) rfl (seg_one14 _ _ _ _ _) ?_; intro b0 w2 hp hS hBn; (try rw [← hp]); have S2 := Lib.hid hS; clear hS hp hBn)
    | (refine wpList_loadg_st (by rfl) 25 _ rfl S2.out 0 _ _ rfl rfl _ Try.underlying25 rfl (by rfl) ?_))
  refine (pf1 _ Af cf ((S2.out.fact 0 rfl).1.more (S2.out.fact 0 rfl).2) ((S2.out.fact 2 rfl).1.more (S2.out.fact 2 rfl).2)).out.mono ?_
  rintro e w3 ⟨rfl, hB⟩
  have S3 := Lib.hid (S2.out.on hB)
  clear hB S2
  go_wp2_with fail
  refine (Lib.hid (HC.out _ (S3.out.fact 1 rfl))).out.mono ?_
  rintro e w4 ⟨rfl, hB⟩
  have S4 := Lib.hid (S3.out.on hB)
  clear hB S3
  go_wp2
  go_ret
  exact ⟨rfl, S4.out.below⟩

set_option maxHeartbeats 4000000 in
theorem segmentDrop_long {E : World → Prop} (HS : Hid (SegK E)) (HC : Hid (PartedK E)) (size first : Int) (A1 : Option Addr) (N1 cap1 : Nat) (l : List ByteArray) (upto more : Int) (t : ByteArray) (w : World) (hE : E w) (hA1 : StrsAt w w.heap.size A1 l) (sz fi : Int) (n0 : Nat) (fs0 : List Fil) (j3 : ((100 : Int) < (t.size : Int)) = True)
    (KN : ∀ (W : World) (_h : E W), Hid (Calls Try.prog 8 #[.int .i64 size, .int .i64 first] W fun e w' => ∃ A c, e = .returned (.tuple #[.agg #[.int .i64 sz, .int .i64 fi, .slice A n0 c], .int .i64 0]) ∧ FilsAt w' w'.heap.size A fs0 ∧ RoomyF A fs0 c ∧ Below W.heap.size W w'))
    (pf1 : ∀ (W : World) (A : Option Addr) (c : Nat) (_hA : FilsAt W W.heap.size A fs0) (_hB : StrsAt W W.heap.size A1 l), Hid (Calls Try.prog 9 #[.agg #[.int .i64 sz, .int .i64 fi, .slice A n0 c], .slice A1 N1 cap1] W fun e w' => e = .returned (.bool false) ∧ Below W.heap.size W w')) :
    Calls Try.prog 5 #[.int .i64 size, .int .i64 first, .slice A1 N1 cap1, .int .i64 upto, .int .i64 more, .string t] w fun e w' => e = .returned (.bool true) ∧ Below w.heap.size w w' := by
  have S0 := Lib.hid (((St.start w).more (strsF14 A1 w.heap.size l) ⟨hA1, Nat.le_refl _⟩).more (eSg HS) hE)
  clear hE hA1
  go_enter Try.func5, Try.ntmps5
  go_wp2_with fail
  refine (KN _ (S0.out.fact 0 rfl)).out.mono ?_
  rintro e w1 ⟨Af, cf, rfl, hT, hR, hB⟩
  have S1 := Lib.hid ((S0.out.on hB).more (filF14 Af w1.heap.size fs0) ⟨hT, Nat.le_refl _⟩)
  have HRf := Lib.hid hR
  clear hB hT hR S0
  obtain ⟨Bf, hBe⟩ : ∃ b, b = w1.heap.size := ⟨_, rfl⟩
  rw [← hBe] at S1
  clear hBe
  go_wp2_with (first
    | (refine wpList_store_st rfl 25 _ _ rfl S1.out _ #[.int .i64 sz, .int .i64 fi, .slice Af n0 cf] _ rfl rfl (by rfl) rfl (seg_one14 _ _ _ _ _) ?_; intro b0 w2 hp hS hBn; (try rw [← hp]); have S2 := Lib.hid hS; clear hS hp hBn)
    | (refine wpList_loadg_st (by rfl) 25 _ rfl S2.out 0 _ _ rfl rfl _ Try.underlying25 rfl (by rfl) ?_))
  refine (pf1 _ Af cf ((S2.out.fact 0 rfl).1.more (S2.out.fact 0 rfl).2) ((S2.out.fact 2 rfl).1.more (S2.out.fact 2 rfl).2)).out.mono ?_
  rintro e w3 ⟨rfl, hB⟩
  have S3 := Lib.hid (S2.out.on hB)
  clear hB S2
  go_wp2_with fail
  refine (Lib.hid (HC.out _ (S3.out.fact 1 rfl))).out.mono ?_
  rintro e w4 ⟨rfl, hB⟩
  have S4 := Lib.hid (S3.out.on hB)
  clear hB S3
  go_wp2
  go_ret
  exact ⟨rfl, S4.out.below⟩

set_option maxHeartbeats 4000000 in
theorem segmentDrop_late {E : World → Prop} (HS : Hid (SegK E)) (HC : Hid (PartedK E)) (size first : Int) (A1 : Option Addr) (N1 cap1 : Nat) (l : List ByteArray) (upto more : Int) (t : ByteArray) (w : World) (hE : E w) (hA1 : StrsAt w w.heap.size A1 l) (sz fi : Int) (n0 : Nat) (fs0 : List Fil) (j3 : ((100 : Int) < (t.size : Int)) = False) (j4 : ((800000000 : Int) < first) = True)
    (KN : ∀ (W : World) (_h : E W), Hid (Calls Try.prog 8 #[.int .i64 size, .int .i64 first] W fun e w' => ∃ A c, e = .returned (.tuple #[.agg #[.int .i64 sz, .int .i64 fi, .slice A n0 c], .int .i64 0]) ∧ FilsAt w' w'.heap.size A fs0 ∧ RoomyF A fs0 c ∧ Below W.heap.size W w'))
    (pf1 : ∀ (W : World) (A : Option Addr) (c : Nat) (_hA : FilsAt W W.heap.size A fs0) (_hB : StrsAt W W.heap.size A1 l), Hid (Calls Try.prog 9 #[.agg #[.int .i64 sz, .int .i64 fi, .slice A n0 c], .slice A1 N1 cap1] W fun e w' => e = .returned (.bool false) ∧ Below W.heap.size W w')) :
    Calls Try.prog 5 #[.int .i64 size, .int .i64 first, .slice A1 N1 cap1, .int .i64 upto, .int .i64 more, .string t] w fun e w' => e = .returned (.bool true) ∧ Below w.heap.size w w' := by
  have S0 := Lib.hid (((St.start w).more (strsF14 A1 w.heap.size l) ⟨hA1, Nat.le_refl _⟩).more (eSg HS) hE)
  clear hE hA1
  go_enter Try.func5, Try.ntmps5
  go_wp2_with fail
  refine (KN _ (S0.out.fact 0 rfl)).out.mono ?_
  rintro e w1 ⟨Af, cf, rfl, hT, hR, hB⟩
  have S1 := Lib.hid ((S0.out.on hB).more (filF14 Af w1.heap.size fs0) ⟨hT, Nat.le_refl _⟩)
  have HRf := Lib.hid hR
  clear hB hT hR S0
  obtain ⟨Bf, hBe⟩ : ∃ b, b = w1.heap.size := ⟨_, rfl⟩
  rw [← hBe] at S1
  clear hBe
  go_wp2_with (first
    | (refine wpList_store_st rfl 25 _ _ rfl S1.out _ #[.int .i64 sz, .int .i64 fi, .slice Af n0 cf] _ rfl rfl (by rfl) rfl (seg_one14 _ _ _ _ _) ?_; intro b0 w2 hp hS hBn; (try rw [← hp]); have S2 := Lib.hid hS; clear hS hp hBn)
    | (refine wpList_loadg_st (by rfl) 25 _ rfl S2.out 0 _ _ rfl rfl _ Try.underlying25 rfl (by rfl) ?_))
  refine (pf1 _ Af cf ((S2.out.fact 0 rfl).1.more (S2.out.fact 0 rfl).2) ((S2.out.fact 2 rfl).1.more (S2.out.fact 2 rfl).2)).out.mono ?_
  rintro e w3 ⟨rfl, hB⟩
  have S3 := Lib.hid (S2.out.on hB)
  clear hB S2
  go_wp2_with fail
  refine (Lib.hid (HC.out _ (S3.out.fact 1 rfl))).out.mono ?_
  rintro e w4 ⟨rfl, hB⟩
  have S4 := Lib.hid (S3.out.on hB)
  clear hB S3
  go_wp2
  go_ret
  exact ⟨rfl, S4.out.below⟩
end Go.Proofs.Ytlnchfnmpamliaa
