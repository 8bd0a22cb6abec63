/-
  Layer 14 (segment): the law SegmentDoes, over the structure beside the references (printed by tools/gen-segdoes.py).
-/
import Derived.Test.YtlnchfnmpamliaaGreatXSegSm
import Derived.Deep.RegionHeld3
import Derived.Deep.DeepCutAuto
import Derived.BigQuiet
import Derived.Deep.QuietTactic
namespace Go.Proofs.YtlnchfnmpamliaaGreat
set_option maxRecDepth 10000
open Go.RowKit

theorem below_drew12 {B : Nat} {a w : World} (h : Below B a w) : Below B a w.drew := ⟨h.os, h.tape, h.output, h.size, h.block⟩
theorem fils_setRow14 {W : World} {D : Option Addr} {T pc : Nat} {fs : List Fil} (h : FilsAt W T D fs ∧ T ≤ W.heap.size) (cs : Array Value) (hne : ∀ a, D = some a → a.block ≠ pc) : FilsAt (W.setRow pc cs) T D fs ∧ T ≤ (W.setRow pc cs).heap.size := by
  refine ⟨fun i hi => ?_, Nat.le_trans h.2 (grown_setRow W pc cs).size⟩
  obtain ⟨b, off, e, hb, h3⟩ := h.1 i hi
  have f : ∀ j, (W.setRow pc cs).cell? ⟨b, j, none⟩ = W.cell? ⟨b, j, none⟩ := fun j => World.cell?_of_block (setRow_other W pc b cs (hne _ e))
  exact ⟨b, off, e, hb, ⟨(f _).trans h3.c0, (f _).trans h3.c1, (f _).trans h3.c2⟩⟩

set_option maxHeartbeats 1000000 in
theorem segmentDoes_far {E : World → Prop} (HS : Hid (SegK E)) (sz fi : Int) (A : Option Addr) (n c : Nat) (fs : List Fil) (A1 : Option Addr) (N1 cap1 : Nat) (ss : List ByteArray) (u size : Int) (w : World) (hE : E w) (hA : FilsAt w w.heap.size A fs) (hA1 : StrsAt w w.heap.size A1 ss)
    (pf : ∀ (W : World) (_hA : FilsAt W W.heap.size A fs) (_hB : StrsAt W W.heap.size A1 ss), Hid (Calls Tryz.prog 4 #[.agg #[.int .i64 sz, .int .i64 fi, .slice A n c], .slice A1 N1 cap1] W fun e w' => e = .returned (.bool true) ∧ Below W.heap.size W w')) :
    Calls Tryz.prog 3 #[.agg #[.int .i64 sz, .int .i64 fi, .slice A n c], .slice A1 N1 cap1, .int .i64 u, .int .i64 size] w fun e w' => e = .returned (.bool true) ∧ Below w.heap.size w w' := by
  have S0 := Lib.hid (((((St.start w).more (strsF14 A1 w.heap.size ss) ⟨hA1, Nat.le_refl _⟩).more (filF14 A w.heap.size fs) ⟨hA, Nat.le_refl _⟩).more (eSg HS) hE).new #[.int .i64 sz, .int .i64 fi, .slice A n c] 24)
  clear hE hA hA1
  go_enter Tryz.func3, Tryz.ntmps3
  go_wp2_with (refine wpList_load_st rfl 24 _ rfl S0.out 0 _ _ rfl rfl _ Tryz.underlying24 rfl (by rfl) ?_)
  refine (pf _ ((S0.out.fact 1 rfl).1.more (S0.out.fact 1 rfl).2) ((S0.out.fact 2 rfl).1.more (S0.out.fact 2 rfl).2)).out.mono ?_
  rintro e w1 ⟨rfl, hB⟩
  have S1 := Lib.hid (S0.out.on hB)
  clear hB S0
  clear pf
  obtain ⟨p0, hp0⟩ : ∃ p, p = w.heap.size := ⟨_, rfl⟩
  rw [← hp0] at S1 ⊢
  clear hp0
  go_wp2
  go_ret
  exact ⟨rfl, S1.out.below⟩

set_option maxRecDepth 10000 in
set_option maxHeartbeats 8000000 in
theorem segmentDoes_go {E : World → Prop} (HS : Hid (SegK E)) (HC : Hid (PartedK E)) (sz fi : Int) (A : Option Addr) (n c : Nat) (fs : List Fil) (A1 : Option Addr) (N1 cap1 : Nat) (ss : List ByteArray) (u size : Int) (w : World) (hE : E w) (hA : FilsAt w w.heap.size A fs) (hA1 : StrsAt w w.heap.size A1 ss) (hR0 : Hid (RoomyF A fs c)) (ts : List ByteArray) (L : Nat) (e0 : Int) (z : Bool) (s1 f1 : Int) (n1 : Nat) (fs1 : List Fil) (e1 : Int) (s2 f2 : Int) (n2 : Nat) (fs2 : List Fil) (e2 : Int) (s3 f3 : Int) (n3 : Nat) (fs3 : List Fil) (e3 : Int) (s4 f4 : Int) (n4 : Nat) (fs4 : List Fil) (e4 : Int) (s5 f5 : Int) (n5 : Nat) (fs5 : List Fil) (e5 : Int) (s6 f6 : Int) (n6 : Nat) (fs6 : List Fil) (e6 : Int)
    (pf : ∀ (W : World) (_hA : FilsAt W W.heap.size A fs) (_hB : StrsAt W W.heap.size A1 ss), Hid (Calls Tryz.prog 4 #[.agg #[.int .i64 sz, .int .i64 fi, .slice A n c], .slice A1 N1 cap1] W fun e w' => e = .returned (.bool false) ∧ Below W.heap.size W w'))
    (KO : ∀ (W : World) (A : Option Addr) (c : Nat) (_hA : FilsAt W W.heap.size A fs) (_hR : RoomyF A fs c), Hid (Calls Tryz.prog 5 #[.agg #[.int .i64 sz, .int .i64 fi, .slice A n c]] W fun e w' => ∃ A' c', e = .returned (.agg #[.int .i64 sz, .int .i64 fi, .slice A' n c']) ∧ FilsAt w' w'.heap.size A' fs ∧ RoomyF A' fs c' ∧ Below W.heap.size W w'))
    (KR : ∀ (W : World) (A : Option Addr) (c : Nat) (_h : E W) (_hA : FilsAt W W.heap.size A fs) (_hR : RoomyF A fs c), Hid (Calls Tryz.prog 6 #[.agg #[.int .i64 sz, .int .i64 fi, .slice A n c]] W fun e w' => ∃ A c, e = .returned (.tuple #[.slice A L c, .int .i64 e0]) ∧ StrsAt w' w'.heap.size A ts ∧ L ≤ c ∧ Below W.heap.size W w'))
    (RR : ∀ (W : World) (A : Option Addr) (c : Nat) (_hA : FilsAt W W.heap.size A fs) (_hR : RoomyF A fs c), Hid (Calls Tryz.prog 7 #[.agg #[.int .i64 sz, .int .i64 fi, .slice A n c]] W fun e w' => ∃ A c, e = .returned (.tuple #[.slice A L c, .int .i64 e0]) ∧ StrsAt w' w'.heap.size A ts ∧ L ≤ c ∧ Below W.heap.size W w'))
    (KOT : ∀ (W : World) (_hB : StrsAt W W.heap.size A1 ss), Hid (Calls Tryz.prog 10 #[.slice A1 N1 cap1] W fun e w' => ∃ A2 c2, e = .returned (.slice A2 N1 c2) ∧ StrsAt w' w'.heap.size A2 ss ∧ Below W.heap.size W w'))
    (K1 : ∀ (W : World) (A : Option Addr) (c : Nat) (_h : E W) (_hA : FilsAt W W.heap.size A fs) (_hR : RoomyF A fs c) (_hB : StrsAt W W.heap.size A1 ss), Hid (Calls Tryz.prog 8 #[.agg #[.int .i64 sz, .int .i64 fi, .slice A n c], .slice A1 N1 cap1] W fun e w' => ∃ A c, e = .returned (.tuple #[.agg #[.int .i64 s1, .int .i64 f1, .slice A n1 c], .int .i64 e1]) ∧ OwnS w' W.heap.size A fs1 c ∧ Below W.heap.size W w'))
    (R1 : ∀ (W : World) (A : Option Addr) (c : Nat) (A2 : Option Addr) (c2 : Nat) (_hA : FilsAt W W.heap.size A fs) (_hR : RoomyF A fs c) (_hB : StrsAt W W.heap.size A2 ss), Hid (Calls Tryz.prog 9 #[.agg #[.int .i64 sz, .int .i64 fi, .slice A n c], .slice A2 N1 c2] W fun e w' => ∃ A c, e = .returned (.tuple #[.agg #[.int .i64 s1, .int .i64 f1, .slice A n1 c], .int .i64 e1]) ∧ OwnS w' W.heap.size A fs1 c ∧ Below W.heap.size W w'))
    (K2 : ∀ (W : World) (A : Option Addr) (c : Nat) (_h : E W) (_hA : FilsAt W W.heap.size A fs) (_hR : RoomyF A fs c), Hid (Calls Tryz.prog 11 #[.agg #[.int .i64 sz, .int .i64 fi, .slice A n c]] W fun e w' => ∃ A c, e = .returned (.tuple #[.agg #[.int .i64 s2, .int .i64 f2, .slice A n2 c], .int .i64 e2]) ∧ OwnS w' W.heap.size A fs2 c ∧ Below W.heap.size W w'))
    (R2 : ∀ (W : World) (A : Option Addr) (c : Nat) (_hA : FilsAt W W.heap.size A fs) (_hR : RoomyF A fs c), Hid (Calls Tryz.prog 12 #[.agg #[.int .i64 sz, .int .i64 fi, .slice A n c]] W fun e w' => ∃ A c, e = .returned (.tuple #[.agg #[.int .i64 s2, .int .i64 f2, .slice A n2 c], .int .i64 e2]) ∧ OwnS w' W.heap.size A fs2 c ∧ Below W.heap.size W w'))
    (K3 : ∀ (W : World) (A : Option Addr) (c : Nat) (_h : E W) (_hA : FilsAt W W.heap.size A fs) (_hR : RoomyF A fs c), Hid (Calls Tryz.prog 13 #[.agg #[.int .i64 sz, .int .i64 fi, .slice A n c], .int .i64 u] W fun e w' => ∃ A c, e = .returned (.tuple #[.agg #[.int .i64 s3, .int .i64 f3, .slice A n3 c], .int .i64 e3]) ∧ OwnS w' W.heap.size A fs3 c ∧ Below W.heap.size W w'))
    (R3 : ∀ (W : World) (A : Option Addr) (c : Nat) (_hA : FilsAt W W.heap.size A fs) (_hR : RoomyF A fs c), Hid (Calls Tryz.prog 14 #[.agg #[.int .i64 sz, .int .i64 fi, .slice A n c], .int .i64 u] W fun e w' => ∃ A c, e = .returned (.tuple #[.agg #[.int .i64 s3, .int .i64 f3, .slice A n3 c], .int .i64 e3]) ∧ OwnS w' W.heap.size A fs3 c ∧ Below W.heap.size W w'))
    (K4 : ∀ (W : World) (A : Option Addr) (c : Nat) (_h : E W) (_hA : FilsAt W W.heap.size A fs) (_hR : RoomyF A fs c), Hid (Calls Tryz.prog 15 #[.agg #[.int .i64 sz, .int .i64 fi, .slice A n c]] W fun e w' => ∃ A c, e = .returned (.tuple #[.agg #[.int .i64 s4, .int .i64 f4, .slice A n4 c], .int .i64 e4]) ∧ OwnS w' W.heap.size A fs4 c ∧ Below W.heap.size W w'))
    (R4 : ∀ (W : World) (A : Option Addr) (c : Nat) (_hA : FilsAt W W.heap.size A fs) (_hR : RoomyF A fs c), Hid (Calls Tryz.prog 16 #[.agg #[.int .i64 sz, .int .i64 fi, .slice A n c]] W fun e w' => ∃ A c, e = .returned (.tuple #[.agg #[.int .i64 s4, .int .i64 f4, .slice A n4 c], .int .i64 e4]) ∧ OwnS w' W.heap.size A fs4 c ∧ Below W.heap.size W w'))
    (K5 : ∀ (W : World) (A : Option Addr) (c : Nat) (_h : E W) (_hA : FilsAt W W.heap.size A fs) (_hR : RoomyF A fs c), Hid (Calls Tryz.prog 17 #[.agg #[.int .i64 sz, .int .i64 fi, .slice A n c], .int .i64 u] W fun e w' => ∃ A c, e = .returned (.tuple #[.agg #[.int .i64 s5, .int .i64 f5, .slice A n5 c], .int .i64 e5]) ∧ OwnS w' W.heap.size A fs5 c ∧ Below W.heap.size W w'))
    (R5 : ∀ (W : World) (A : Option Addr) (c : Nat) (_hA : FilsAt W W.heap.size A fs) (_hR : RoomyF A fs c), Hid (Calls Tryz.prog 18 #[.agg #[.int .i64 sz, .int .i64 fi, .slice A n c], .int .i64 u] W fun e w' => ∃ A c, e = .returned (.tuple #[.agg #[.int .i64 s5, .int .i64 f5, .slice A n5 c], .int .i64 e5]) ∧ OwnS w' W.heap.size A fs5 c ∧ Below W.heap.size W w'))
    (K6 : ∀ (W : World) (_h : E W), Hid (Calls Tryz.prog 19 #[.int .i64 size, .int .i64 u] W fun e w' => ∃ A c, e = .returned (.tuple #[.agg #[.int .i64 s6, .int .i64 f6, .slice A n6 c], .int .i64 e6]) ∧ OwnS w' W.heap.size A fs6 c ∧ Below W.heap.size W w'))
    (R6 : ∀ (W : World), Hid (Calls Tryz.prog 20 #[.int .i64 size, .int .i64 u] W fun e w' => ∃ A c, e = .returned (.tuple #[.agg #[.int .i64 s6, .int .i64 f6, .slice A n6 c], .int .i64 e6]) ∧ OwnS w' W.heap.size A fs6 c ∧ Below W.heap.size W w'))
    (KT : ∀ (W : World) (A B : Option Addr) (c d : Nat) (_hA : StrsAt W W.heap.size A ts) (_hB : StrsAt W W.heap.size B ts), Hid (Calls Tryz.prog 21 #[.slice A L c, .slice B L d] W fun e w' => e = .returned (.bool true) ∧ Below W.heap.size W w'))
    (KS1 : ∀ (W : World) (A B : Option Addr) (c d : Nat) (_hA : FilsAt W W.heap.size A fs1) (_hB : FilsAt W W.heap.size B fs1), Hid (Calls Tryz.prog 22 #[.agg #[.int .i64 s1, .int .i64 f1, .slice A n1 c], .agg #[.int .i64 s1, .int .i64 f1, .slice B n1 d]] W fun e w' => e = .returned (.bool true) ∧ Below W.heap.size W w'))
    (KS2 : ∀ (W : World) (A B : Option Addr) (c d : Nat) (_hA : FilsAt W W.heap.size A fs2) (_hB : FilsAt W W.heap.size B fs2), Hid (Calls Tryz.prog 22 #[.agg #[.int .i64 s2, .int .i64 f2, .slice A n2 c], .agg #[.int .i64 s2, .int .i64 f2, .slice B n2 d]] W fun e w' => e = .returned (.bool true) ∧ Below W.heap.size W w'))
    (KS3 : ∀ (W : World) (A B : Option Addr) (c d : Nat) (_hA : FilsAt W W.heap.size A fs3) (_hB : FilsAt W W.heap.size B fs3), Hid (Calls Tryz.prog 22 #[.agg #[.int .i64 s3, .int .i64 f3, .slice A n3 c], .agg #[.int .i64 s3, .int .i64 f3, .slice B n3 d]] W fun e w' => e = .returned (.bool true) ∧ Below W.heap.size W w'))
    (KS4 : ∀ (W : World) (A B : Option Addr) (c d : Nat) (_hA : FilsAt W W.heap.size A fs4) (_hB : FilsAt W W.heap.size B fs4), Hid (Calls Tryz.prog 22 #[.agg #[.int .i64 s4, .int .i64 f4, .slice A n4 c], .agg #[.int .i64 s4, .int .i64 f4, .slice B n4 d]] W fun e w' => e = .returned (.bool true) ∧ Below W.heap.size W w'))
    (KS5 : ∀ (W : World) (A B : Option Addr) (c d : Nat) (_hA : FilsAt W W.heap.size A fs5) (_hB : FilsAt W W.heap.size B fs5), Hid (Calls Tryz.prog 22 #[.agg #[.int .i64 s5, .int .i64 f5, .slice A n5 c], .agg #[.int .i64 s5, .int .i64 f5, .slice B n5 d]] W fun e w' => e = .returned (.bool true) ∧ Below W.heap.size W w'))
    (KS6 : ∀ (W : World) (A B : Option Addr) (c d : Nat) (_hA : FilsAt W W.heap.size A fs6) (_hB : FilsAt W W.heap.size B fs6), Hid (Calls Tryz.prog 22 #[.agg #[.int .i64 s6, .int .i64 f6, .slice A n6 c], .agg #[.int .i64 s6, .int .i64 f6, .slice B n6 d]] W fun e w' => e = .returned (.bool true) ∧ Below W.heap.size W w'))
    (KS0 : ∀ (W : World) (A B : Option Addr) (c d : Nat) (_hA : FilsAt W W.heap.size A fs) (_hB : FilsAt W W.heap.size B fs), Hid (Calls Tryz.prog 22 #[.agg #[.int .i64 sz, .int .i64 fi, .slice A n c], .agg #[.int .i64 sz, .int .i64 fi, .slice B n d]] W fun e w' => e = .returned (.bool true) ∧ Below W.heap.size W w'))
    (M1 : ∀ (W : World) (A : Option Addr) (c base : Nat) (_h : OwnS W base A fs1 c), Hid (Calls Tryz.prog 23 #[.agg #[.int .i64 s1, .int .i64 f1, .slice A n1 c]] W fun e w' => e = .returned (.tuple #[]) ∧ SmS W A w'))
    (M2 : ∀ (W : World) (A : Option Addr) (c base : Nat) (_h : OwnS W base A fs2 c), Hid (Calls Tryz.prog 23 #[.agg #[.int .i64 s2, .int .i64 f2, .slice A n2 c]] W fun e w' => e = .returned (.tuple #[]) ∧ SmS W A w'))
    (M3 : ∀ (W : World) (A : Option Addr) (c base : Nat) (_h : OwnS W base A fs3 c), Hid (Calls Tryz.prog 23 #[.agg #[.int .i64 s3, .int .i64 f3, .slice A n3 c]] W fun e w' => e = .returned (.tuple #[]) ∧ SmS W A w'))
    (M4 : ∀ (W : World) (A : Option Addr) (c base : Nat) (_h : OwnS W base A fs4 c), Hid (Calls Tryz.prog 23 #[.agg #[.int .i64 s4, .int .i64 f4, .slice A n4 c]] W fun e w' => e = .returned (.tuple #[]) ∧ SmS W A w'))
    (M5 : ∀ (W : World) (A : Option Addr) (c base : Nat) (_h : OwnS W base A fs5 c), Hid (Calls Tryz.prog 23 #[.agg #[.int .i64 s5, .int .i64 f5, .slice A n5 c]] W fun e w' => e = .returned (.tuple #[]) ∧ SmS W A w'))
    (KI : ∀ (W : World) (A : Option Addr) (c : Nat) (_h : E W) (_hA : FilsAt W W.heap.size A fs) (_hR : RoomyF A fs c), Hid (Calls Tryz.prog 25 #[.agg #[.int .i64 sz, .int .i64 fi, .slice A n c]] W fun e w' => e = .returned (.bool z) ∧ Below W.heap.size W w'))
    (RI : ∀ (W : World) (A : Option Addr) (c : Nat) (_hA : FilsAt W W.heap.size A fs) (_hR : RoomyF A fs c), Hid (Calls Tryz.prog 26 #[.agg #[.int .i64 sz, .int .i64 fi, .slice A n c]] W fun e w' => e = .returned (.bool z) ∧ Below W.heap.size W w')) :
    Calls Tryz.prog 3 #[.agg #[.int .i64 sz, .int .i64 fi, .slice A n c], .slice A1 N1 cap1, .int .i64 u, .int .i64 size] w fun e w' => e = .returned (.bool true) ∧ Below w.heap.size w w' := by
  have ze0 := beq_self_eq_true e0
  have ze1 := beq_self_eq_true e1
  have ze2 := beq_self_eq_true e2
  have ze3 := beq_self_eq_true e3
  have ze4 := beq_self_eq_true e4
  have ze5 := beq_self_eq_true e5
  have ze6 := beq_self_eq_true e6
  have S0 := Lib.hid (((((St.start w).more (strsF14 A1 w.heap.size ss) ⟨hA1, Nat.le_refl _⟩).more (filF14 A w.heap.size fs) ⟨hA, Nat.le_refl _⟩).more (eSg HS) hE).new #[.int .i64 sz, .int .i64 fi, .slice A n c] 24)
  clear hE hA hA1
  go_enter Tryz.func3, Tryz.ntmps3
  go_wp2_with (refine wpList_load_st rfl 24 _ rfl S0.out 0 _ _ rfl rfl _ Tryz.underlying24 rfl (by rfl) ?_)
  refine (pf _ ((S0.out.fact 1 rfl).1.more (S0.out.fact 1 rfl).2) ((S0.out.fact 2 rfl).1.more (S0.out.fact 2 rfl).2)).out.mono ?_
  rintro e w1 ⟨rfl, hB⟩
  have S1 := Lib.hid (S0.out.on hB)
  clear hB S0
  clear pf
  obtain ⟨p0, hp0⟩ : ∃ p, p = w.heap.size := ⟨_, rfl⟩
  rw [← hp0] at S1 ⊢
  clear hp0
  go_wp2_with (refine wpList_load_st rfl 24 _ rfl S1.out 0 _ _ rfl rfl _ Tryz.underlying24 rfl (by rfl) ?_)
  refine (KO w1 A c ((S1.out.fact 1 rfl).1.more (S1.out.fact 1 rfl).2) hR0.out).out.mono ?_
  rintro e w2 ⟨Ao, co, rfl, hT, hR, hB⟩
  have S2 := Lib.hid ((S1.out.on hB).more (filF14 Ao w2.heap.size fs) ⟨hT, Nat.le_refl _⟩)
  have HRo := Lib.hid hR
  clear hB hT hR S1
  obtain ⟨Bo, hBe⟩ : ∃ b, b = w2.heap.size := ⟨_, rfl⟩
  rw [← hBe] at S2
  clear hBe
  go_wp2_with (first
    | (refine wpList_store_st rfl 24 _ _ rfl S2.out _ #[.int .i64 sz, .int .i64 fi, .slice Ao n co] _ rfl rfl (by rfl) rfl (seg_one14 _ _ _ _ _) ?_; intro po w3 hp hS hBn; (try rw [← hp]); have S3 := Lib.hid hS; clear hS hp hBn)
    | (refine wpList_load_st rfl 24 _ rfl S3.out 1 _ _ rfl rfl _ Tryz.underlying24 rfl (by rfl) ?_))
  have SO := S3
  obtain ⟨wO, hwO⟩ : ∃ x, x = w3 := ⟨_, rfl⟩
  rw [← hwO] at SO
  have S3o := Lib.hid (S3.out.more ⟨fun W => Below wO.heap.size wO W, fun _ _ h hB => below2 h hB⟩ (by rw [hwO]; exact Below.refl _ _))
  clear S3 hwO
  refine (KR _ A c (S3o.out.fact 2 rfl) ((S3o.out.fact 3 rfl).1.more (S3o.out.fact 3 rfl).2) hR0.out).out.mono ?_
  rintro e w4 ⟨Ar, cr, rfl, hT, _, hB⟩
  have S4 := Lib.hid ((S3o.out.on hB).more (strsF14 Ar w4.heap.size ts) ⟨hT, Nat.le_refl _⟩)
  clear hB hT S3o
  obtain ⟨Br, hBe⟩ : ∃ b, b = w4.heap.size := ⟨_, rfl⟩
  rw [← hBe] at S4
  clear hBe
  go_wp2_with (refine wpList_load_st rfl 24 _ rfl S4.out 0 _ _ rfl rfl _ Tryz.underlying24 rfl (by rfl) ?_)
  refine (RR _ Ao co ((S4.out.fact 2 rfl).1.more (S4.out.fact 2 rfl).2) HRo.out).out.mono ?_
  rintro e w5 ⟨Aq, cq, rfl, hT, _, hB⟩
  have S5 := Lib.hid ((S4.out.on hB).more (strsF14 Aq w5.heap.size ts) ⟨hT, Nat.le_refl _⟩)
  clear hB hT S4
  obtain ⟨Bq, hBe⟩ : ∃ b, b = w5.heap.size := ⟨_, rfl⟩
  rw [← hBe] at S5
  clear hBe
  clear KR RR KO
  go_wp2_with (refine wpList_load_st rfl 24 _ rfl S5.out 1 _ _ rfl rfl _ Tryz.underlying24 rfl (by rfl) ?_)
  obtain ⟨b1, hb⟩ : ∃ b, b = w5.heap.size := ⟨_, rfl⟩
  have Hb1 := Lib.hid hb
  have HO1 : Hid (wO.heap.size ≤ b1) := Lib.hid (by rw [hb]; exact (S5.out.fact 2 rfl).size)
  clear hb
  refine (K1 _ A c (S5.out.fact 4 rfl) ((S5.out.fact 5 rfl).1.more (S5.out.fact 5 rfl).2) hR0.out ((S5.out.fact 6 rfl).1.more (S5.out.fact 6 rfl).2)).out.mono ?_
  rintro e w6 ⟨D1, d1, rfl, hO, hB⟩
  obtain ⟨T1, hT⟩ : ∃ b, b = w6.heap.size := ⟨_, rfl⟩
  rw [← Hb1.out] at hO
  have Hl1 : Hid (∀ a, D1 = some a → a.block < T1) := Lib.hid (by rw [hT]; exact hO.lt)
  have HT1 : Hid (b1 ≤ T1) := Lib.hid (by rw [hT, Hb1.out]; exact hB.size)
  have Hg1 := Lib.hid hT
  have S6 := Lib.hid ((((S5.out.on hB).more (szF T1) (Nat.le_of_eq hT)).more (ownSF b1 D1 fs1 d1) hO).more (filF14 D1 T1 fs1) (by rw [hT]; exact ⟨hO.fils, Nat.le_refl _⟩))
  clear hB hO hT S5
  clear K1
  go_wp2_with (refine wpList_store_st rfl 24 _ _ rfl S6.out _ #[.int .i64 s1, .int .i64 f1, .slice D1 n1 d1] _ rfl rfl (by rfl) rfl (seg_one14 _ _ _ _ _) ?_; intro q1 w7 hp hS hBn; have HQ1 : Hid (q1 = T1) := Lib.hid (hp.trans Hg1.out.symm); (try rw [← hp]); have S7 := Lib.hid hS; clear hS hp hBn)
  go_cut [16, 17] (fun pv hv wx => ∃ pc Dr dr Tr, pv = .pointer (some ⟨pc, 0, none⟩) ∧ hv = .int .i64 e1 ∧ Hid (St w wx ((pc, #[.int .i64 s1, .int .i64 f1, .slice Dr n1 dr]) :: [(q1, #[.int .i64 s1, .int .i64 f1, .slice D1 n1 d1]), (po, #[.int .i64 sz, .int .i64 fi, .slice Ao n co]), (p0, #[.int .i64 sz, .int .i64 fi, .slice A n c])]) [filF14 Dr Tr fs1, filF14 D1 T1 fs1, ownSF b1 D1 fs1 d1, szF T1, strsF14 Aq Bq ts, strsF14 Ar Br ts, ⟨fun W => Below wO.heap.size wO W, fun _ _ h hB => below2 h hB⟩, filF14 Ao Bo fs, eSg HS, filF14 A p0 fs, strsF14 A1 p0 ss]))
  case first =>
    have hS0 : St w w7.drew [(q1, #[.int .i64 s1, .int .i64 f1, .slice D1 n1 d1]), (po, #[.int .i64 sz, .int .i64 fi, .slice Ao n co]), (p0, #[.int .i64 sz, .int .i64 fi, .slice A n c])] [filF14 D1 T1 fs1, ownSF b1 D1 fs1 d1, szF T1, strsF14 Aq Bq ts, strsF14 Ar Br ts, ⟨fun W => Below wO.heap.size wO W, fun _ _ h hB => below2 h hB⟩, filF14 Ao Bo fs, eSg HS, filF14 A p0 fs, strsF14 A1 p0 ss] := S7.out.drew
    refine wp_region_held_drew (S := (fun W : World => St w W [(q1, #[.int .i64 s1, .int .i64 f1, .slice D1 n1 d1]), (po, #[.int .i64 sz, .int .i64 fi, .slice Ao n co]), (p0, #[.int .i64 sz, .int .i64 fi, .slice A n c])] [filF14 D1 T1 fs1, ownSF b1 D1 fs1 d1, szF T1, strsF14 Aq Bq ts, strsF14 Ar Br ts, ⟨fun W => Below wO.heap.size wO W, fun _ _ h hB => below2 h hB⟩, filF14 Ao Bo fs, eSg HS, filF14 A p0 fs, strsF14 A1 p0 ss])) (by kernel_rfl) hS0 (fun hHeld => ?_)
    have HBr := Lib.hid (below_drew12 (Below.refl w7.heap.size w7))
    have hS := hS0
    clear hS0
    generalize hWd : w7.drew = Wd at hS HBr hHeld ⊢
    clear hWd
    refine wpAnyH_take (i := 0) (oi := { dst := some 61, op := Op.load 24 (Operand.tmp 9), type := 24, pos := _, after := #[], guard := none }) (v := ?_) rfl (by kernel_rfl) (by kernel_rfl) (by kernel_rfl) (fun _ _ _ h => h) (Or.inl ⟨by rfl, ?hy⟩) hHeld ?_
    case hy => intro w0 hSw; have d0 := hSw.cell 1 rfl 0 rfl; have d1 := hSw.cell 1 rfl 1 rfl; have d2 := hSw.cell 1 rfl 2 rfl; clear hSw; go_simp; (try with_reducible rfl)
    (try simp only [Act.put, List.setIfInBounds_toArray, List.set_cons_zero, List.set_cons_succ])
    refine wpAnyH_take (i := 1) (oi := { dst := some 62, op := Op.move (Operand.tmp 1), type := 25, pos := _, after := #[], guard := none }) (v := ?_) rfl (by kernel_rfl) (by kernel_rfl) (by kernel_rfl) (fun _ _ _ h => h) (Or.inl ⟨by rfl, ?hy⟩) hHeld ?_
    case hy => intro w0 hSw; (try dsimp only at hSw); go_simp; (try with_reducible rfl)
    (try simp only [Act.put, List.setIfInBounds_toArray, List.set_cons_zero, List.set_cons_succ])
    refine wpAnyH_ready (rs := [2, 7]) (by kernel_rfl) (by simp) ?_
    refine AllReadyH.cons (o := { dst := some 63, op := Op.call { callee := Callee.value (Operand.func 10), args := #[Operand.tmp 62], argTypes := #[25] }, type := 25, pos := _, after := #[{ on := 1, ground := Ground.data }], guard := none }) rfl (fun K hK => ?_) (AllReadyH.cons (o := { dst := some 16, op := Op.alloc 24, type := 0, pos := _, after := #[], guard := none }) rfl (fun K hK => ?_) AllReadyH.nil)
    · go_simp
      refine (KOT _ ((hS.fact 9 rfl).1.more (hS.fact 9 rfl).2)).out.mono ?_
      rintro e y0 ⟨A2, c2, rfl, hT2, hB'⟩
      have hU := (St.start y0).more (strsF14 A2 y0.heap.size ss) ⟨hT2, Nat.le_refl _⟩
      replace hS := hS.on hB'
      replace HBr := Lib.hid (below2 HBr.out hB')
      clear hB' hT2
      go_wp2_with fail
      refine hK.out _ _ hS (fun hHeld => ?_)
      clear hK K
      (try simp only [Act.put, List.setIfInBounds_toArray, List.set_cons_zero, List.set_cons_succ])
      refine wpAnyH_ready (rs := [3, 7]) (by kernel_rfl) (by simp) ?_
      refine AllReadyH.cons (o := { dst := some 64, op := Op.call { callee := Callee.value (Operand.func 9), args := #[Operand.tmp 61, Operand.tmp 63], argTypes := #[24, 25] }, type := 31, pos := _, after := #[{ on := 0, ground := Ground.data }, { on := 2, ground := Ground.data }, { on := 2, ground := Ground.chain }], guard := none }) rfl (fun K hK => ?_) (AllReadyH.cons (o := { dst := some 16, op := Op.alloc 24, type := 0, pos := _, after := #[], guard := none }) rfl (fun K hK => ?_) AllReadyH.nil)
      · go_simp
        refine (R1 _ Ao co A2 c2 ((hS.fact 6 rfl).1.more (hS.fact 6 rfl).2) HRo.out ((hU.fact 0 rfl).1.more (hU.fact 0 rfl).2)).out.mono ?_
        rintro e y1 ⟨D1r, d1r, rfl, hO9, hB'⟩
        have hV := (St.start y1).more (filF14 D1r y1.heap.size fs1) ⟨hO9.fils, Nat.le_refl _⟩
        have hlt9 := hO9.lt
        clear hO9 hU
        replace hS := hS.on hB'
        replace HBr := Lib.hid (below2 HBr.out hB')
        clear hB'
        go_wp2_with fail
        refine hK.out _ _ hS (fun hHeld => ?_)
        clear hK K
        (try simp only [Act.put, List.setIfInBounds_toArray, List.set_cons_zero, List.set_cons_succ])
        refine wpAnyH_take (i := 4) (oi := { dst := some 60, op := Op.move (Operand.tmp 64), type := 31, pos := _, after := #[{ on := 3, ground := Ground.data }], guard := none }) (v := ?_) rfl (by kernel_rfl) (by kernel_rfl) (by kernel_rfl) (fun _ _ _ h => h) (Or.inl ⟨by rfl, ?hy⟩) hHeld ?_
        case hy => intro w0 hSw; (try dsimp only at hSw); go_simp; (try with_reducible rfl)
        (try simp only [Act.put, List.setIfInBounds_toArray, List.set_cons_zero, List.set_cons_succ])
        refine wpAnyH_take (i := 5) (oi := { dst := some 65, op := Op.extract (Operand.tmp 60) 0, type := 24, pos := _, after := #[{ on := 4, ground := Ground.data }], guard := none }) (v := ?_) rfl (by kernel_rfl) (by kernel_rfl) (by kernel_rfl) (fun _ _ _ h => h) (Or.inl ⟨by rfl, ?hy⟩) hHeld ?_
        case hy => intro w0 hSw; (try dsimp only at hSw); go_simp; (try with_reducible rfl)
        (try simp only [Act.put, List.setIfInBounds_toArray, List.set_cons_zero, List.set_cons_succ])
        refine wpAnyH_take (i := 6) (oi := { dst := some 66, op := Op.extract (Operand.tmp 60) 1, type := 28, pos := _, after := #[{ on := 4, ground := Ground.data }, { on := 8, ground := Ground.gcOnly Departure.lateStores }], guard := none }) (v := ?_) rfl (by kernel_rfl) (by kernel_rfl) (by kernel_rfl) (fun _ _ _ h => h) (Or.inl ⟨by rfl, ?hy⟩) hHeld ?_
        case hy => intro w0 hSw; (try dsimp only at hSw); go_simp; (try with_reducible rfl)
        (try simp only [Act.put, List.setIfInBounds_toArray, List.set_cons_zero, List.set_cons_succ])
        refine wpAnyH_ready (rs := [7]) (by kernel_rfl) (by simp) ?_
        refine AllReadyH.cons (o := { dst := some 16, op := Op.alloc 24, type := 0, pos := _, after := #[], guard := none }) rfl (fun K hK => ?_) AllReadyH.nil
        go_simp
        have hN := hS.new #[.int .i64 0, .int .i64 0, .slice none 0 0] 24
        replace hS := hS.on (below_new y1 (.cells #[.int .i64 0, .int .i64 0, .slice none 0 0] 24))
        replace hV := hV.on (below_new y1 (.cells #[.int .i64 0, .int .i64 0, .slice none 0 0] 24))
        obtain ⟨pc, hpc⟩ : ∃ x, x = y1.heap.size := ⟨_, rfl⟩
        have Hpc : Hid (w7.heap.size ≤ pc) := Lib.hid (by rw [hpc]; exact HBr.out.size)
        have Hne : Hid (∀ a, D1r = some a → a.block ≠ pc) := Lib.hid (fun a e => by have h9 := hlt9 a e; omega)
        clear hlt9
        replace HBr := Lib.hid (below2 HBr.out (below_new y1 (.cells #[.int .i64 0, .int .i64 0, .slice none 0 0] 24)))
        rw [← hpc] at hN ⊢
        clear hpc
        generalize hWa : y1.alloc (.cells #[.int .i64 0, .int .i64 0, .slice none 0 0] 24) = Va at hS HBr hN hV ⊢
        clear hWa
        refine hK.out _ _ hS (fun hHeld => ?_)
        clear hK K
        (try simp only [Act.put, List.setIfInBounds_toArray, List.set_cons_zero, List.set_cons_succ])
        refine wpAnyH_ready (rs := [8]) (by kernel_rfl) (by simp) ?_
        refine AllReadyH.cons (o := { dst := none, op := Op.store 24 (Operand.tmp 16) (Operand.tmp 65), type := 0, pos := _, after := #[{ on := 7, ground := Ground.data }, { on := 5, ground := Ground.data }, { on := 3, ground := Ground.chain }, { on := 0, ground := Ground.phase }, { on := 1, ground := Ground.phase }, { on := 2, ground := Ground.phase }, { on := 3, ground := Ground.phase }, { on := 4, ground := Ground.phase }, { on := 5, ground := Ground.phase }, { on := 6, ground := Ground.textOnly Departure.lateStores }, { on := 7, ground := Ground.phase }], guard := none }) rfl (fun K hK => ?_) AllReadyH.nil
        rw [if_pos (by rfl)]
        obtain ⟨tz, hz⟩ := hN.live (pc, #[.int .i64 0, .int .i64 0, .slice none 0 0]) (by simp)
        refine wp_store_row 24 _ _ rfl pc #[.int .i64 s1, .int .i64 f1, .slice D1r n1 d1r] rfl rfl tz _ hz (by rfl) rfl (seg_one14 _ _ _ _ _) ?_
        have hb3 := below_setRow HBr.out Hpc.out #[.int .i64 s1, .int .i64 f1, .slice D1r n1 d1r]
        have hc3 := setRow_heap _ _ _ #[.int .i64 s1, .int .i64 f1, .slice D1r n1 d1r] _ _ hz
        have hV9 := fils_setRow14 (hV.fact 0 rfl) #[.int .i64 s1, .int .i64 f1, .slice D1r n1 d1r] Hne.out
        clear hz hN hS hV
        have hS := S7.out.on hb3
        refine hK.out _ _ hS (fun hHeld => ?_)
        clear hK K
        (try simp only [Act.put])
        refine wpAnyH_take (i := 9) (oi := { dst := some 17, op := Op.assign (Operand.tmp 66), type := 28, pos := _, after := #[{ on := 6, ground := Ground.data }, { on := 8, ground := Ground.chain }, { on := 0, ground := Ground.phase }, { on := 1, ground := Ground.phase }, { on := 2, ground := Ground.phase }, { on := 3, ground := Ground.phase }, { on := 4, ground := Ground.phase }, { on := 5, ground := Ground.phase }, { on := 6, ground := Ground.phase }, { on := 7, ground := Ground.phase }, { on := 8, ground := Ground.phase }], guard := none }) (v := ?_) rfl (by kernel_rfl) (by kernel_rfl) (by kernel_rfl) (fun _ _ _ h => h) (Or.inl ⟨by rfl, ?hy⟩) hHeld ?_
        case hy => intro w0 hSw; (try dsimp only at hSw); go_simp; (try with_reducible rfl)
        (try simp only [Act.put, List.setIfInBounds_toArray, List.set_cons_zero, List.set_cons_succ])
        refine wpAnyH_done (by kernel_rfl) ?_ _
        clear hHeld
        go_wp2_with fail
        go_meet
        exact ⟨pc, D1r, d1r, _, rfl, rfl, Lib.hid ((hS.more (filF14 D1r _ fs1) hV9).add ⟨_, hc3⟩)⟩
      · go_simp
        have hN := hS.new #[.int .i64 0, .int .i64 0, .slice none 0 0] 24
        replace hS := hS.on (below_new y0 (.cells #[.int .i64 0, .int .i64 0, .slice none 0 0] 24))
        replace hU := hU.on (below_new y0 (.cells #[.int .i64 0, .int .i64 0, .slice none 0 0] 24))
        obtain ⟨pc, hpc⟩ : ∃ x, x = y0.heap.size := ⟨_, rfl⟩
        have Hpc : Hid (w7.heap.size ≤ pc) := Lib.hid (by rw [hpc]; exact HBr.out.size)
        replace HBr := Lib.hid (below2 HBr.out (below_new y0 (.cells #[.int .i64 0, .int .i64 0, .slice none 0 0] 24)))
        rw [← hpc] at hN ⊢
        clear hpc
        generalize hWa : y0.alloc (.cells #[.int .i64 0, .int .i64 0, .slice none 0 0] 24) = Va at hS HBr hN hU ⊢
        clear hWa
        refine hK.out _ _ hS (fun hHeld => ?_)
        clear hK K
        (try simp only [Act.put, List.setIfInBounds_toArray, List.set_cons_zero, List.set_cons_succ])
        refine wpAnyH_ready (rs := [3]) (by kernel_rfl) (by simp) ?_
        refine AllReadyH.cons (o := { dst := some 64, op := Op.call { callee := Callee.value (Operand.func 9), args := #[Operand.tmp 61, Operand.tmp 63], argTypes := #[24, 25] }, type := 31, pos := _, after := #[{ on := 0, ground := Ground.data }, { on := 2, ground := Ground.data }, { on := 2, ground := Ground.chain }], guard := none }) rfl (fun K hK => ?_) AllReadyH.nil
        go_simp
        have hpl := lt14 (hN.live (pc, #[.int .i64 0, .int .i64 0, .slice none 0 0]) (by simp))
        refine (R1 _ Ao co A2 c2 ((hS.fact 6 rfl).1.more (hS.fact 6 rfl).2) HRo.out ((hU.fact 0 rfl).1.more (hU.fact 0 rfl).2)).out.mono ?_
        rintro e y1 ⟨D1r, d1r, rfl, hO9, hB'⟩
        have hV := (St.start y1).more (filF14 D1r y1.heap.size fs1) ⟨hO9.fils, Nat.le_refl _⟩
        have Hne : Hid (∀ a, D1r = some a → a.block ≠ pc) := Lib.hid (fun a e => by have h9 := (hO9.own a e).1; simp only at hpl; omega)
        clear hpl
        clear hO9 hU
        replace hS := hS.on hB'
        replace HBr := Lib.hid (below2 HBr.out hB')
        replace hN := hN.on hB'
        clear hB'
        go_wp2_with fail
        refine hK.out _ _ hS (fun hHeld => ?_)
        clear hK K
        (try simp only [Act.put, List.setIfInBounds_toArray, List.set_cons_zero, List.set_cons_succ])
        refine wpAnyH_take (i := 4) (oi := { dst := some 60, op := Op.move (Operand.tmp 64), type := 31, pos := _, after := #[{ on := 3, ground := Ground.data }], guard := none }) (v := ?_) rfl (by kernel_rfl) (by kernel_rfl) (by kernel_rfl) (fun _ _ _ h => h) (Or.inl ⟨by rfl, ?hy⟩) hHeld ?_
        case hy => intro w0 hSw; (try dsimp only at hSw); go_simp; (try with_reducible rfl)
        (try simp only [Act.put, List.setIfInBounds_toArray, List.set_cons_zero, List.set_cons_succ])
        refine wpAnyH_take (i := 5) (oi := { dst := some 65, op := Op.extract (Operand.tmp 60) 0, type := 24, pos := _, after := #[{ on := 4, ground := Ground.data }], guard := none }) (v := ?_) rfl (by kernel_rfl) (by kernel_rfl) (by kernel_rfl) (fun _ _ _ h => h) (Or.inl ⟨by rfl, ?hy⟩) hHeld ?_
        case hy => intro w0 hSw; (try dsimp only at hSw); go_simp; (try with_reducible rfl)
        (try simp only [Act.put, List.setIfInBounds_toArray, List.set_cons_zero, List.set_cons_succ])
        refine wpAnyH_take (i := 6) (oi := { dst := some 66, op := Op.extract (Operand.tmp 60) 1, type := 28, pos := _, after := #[{ on := 4, ground := Ground.data }, { on := 8, ground := Ground.gcOnly Departure.lateStores }], guard := none }) (v := ?_) rfl (by kernel_rfl) (by kernel_rfl) (by kernel_rfl) (fun _ _ _ h => h) (Or.inl ⟨by rfl, ?hy⟩) hHeld ?_
        case hy => intro w0 hSw; (try dsimp only at hSw); go_simp; (try with_reducible rfl)
        (try simp only [Act.put, List.setIfInBounds_toArray, List.set_cons_zero, List.set_cons_succ])
        refine wpAnyH_ready (rs := [8]) (by kernel_rfl) (by simp) ?_
        refine AllReadyH.cons (o := { dst := none, op := Op.store 24 (Operand.tmp 16) (Operand.tmp 65), type := 0, pos := _, after := #[{ on := 7, ground := Ground.data }, { on := 5, ground := Ground.data }, { on := 3, ground := Ground.chain }, { on := 0, ground := Ground.phase }, { on := 1, ground := Ground.phase }, { on := 2, ground := Ground.phase }, { on := 3, ground := Ground.phase }, { on := 4, ground := Ground.phase }, { on := 5, ground := Ground.phase }, { on := 6, ground := Ground.textOnly Departure.lateStores }, { on := 7, ground := Ground.phase }], guard := none }) rfl (fun K hK => ?_) AllReadyH.nil
        rw [if_pos (by rfl)]
        obtain ⟨tz, hz⟩ := hN.live (pc, #[.int .i64 0, .int .i64 0, .slice none 0 0]) (by simp)
        refine wp_store_row 24 _ _ rfl pc #[.int .i64 s1, .int .i64 f1, .slice D1r n1 d1r] rfl rfl tz _ hz (by rfl) rfl (seg_one14 _ _ _ _ _) ?_
        have hb3 := below_setRow HBr.out Hpc.out #[.int .i64 s1, .int .i64 f1, .slice D1r n1 d1r]
        have hc3 := setRow_heap _ _ _ #[.int .i64 s1, .int .i64 f1, .slice D1r n1 d1r] _ _ hz
        have hV9 := fils_setRow14 (hV.fact 0 rfl) #[.int .i64 s1, .int .i64 f1, .slice D1r n1 d1r] Hne.out
        clear hz hN hS hV
        have hS := S7.out.on hb3
        refine hK.out _ _ hS (fun hHeld => ?_)
        clear hK K
        (try simp only [Act.put])
        refine wpAnyH_take (i := 9) (oi := { dst := some 17, op := Op.assign (Operand.tmp 66), type := 28, pos := _, after := #[{ on := 6, ground := Ground.data }, { on := 8, ground := Ground.chain }, { on := 0, ground := Ground.phase }, { on := 1, ground := Ground.phase }, { on := 2, ground := Ground.phase }, { on := 3, ground := Ground.phase }, { on := 4, ground := Ground.phase }, { on := 5, ground := Ground.phase }, { on := 6, ground := Ground.phase }, { on := 7, ground := Ground.phase }, { on := 8, ground := Ground.phase }], guard := none }) (v := ?_) rfl (by kernel_rfl) (by kernel_rfl) (by kernel_rfl) (fun _ _ _ h => h) (Or.inl ⟨by rfl, ?hy⟩) hHeld ?_
        case hy => intro w0 hSw; (try dsimp only at hSw); go_simp; (try with_reducible rfl)
        (try simp only [Act.put, List.setIfInBounds_toArray, List.set_cons_zero, List.set_cons_succ])
        refine wpAnyH_done (by kernel_rfl) ?_ _
        clear hHeld
        go_wp2_with fail
        go_meet
        exact ⟨pc, D1r, d1r, _, rfl, rfl, Lib.hid ((hS.more (filF14 D1r _ fs1) hV9).add ⟨_, hc3⟩)⟩
    · go_simp
      have hN := hS.new #[.int .i64 0, .int .i64 0, .slice none 0 0] 24
      replace hS := hS.on (below_new Wd (.cells #[.int .i64 0, .int .i64 0, .slice none 0 0] 24))
      obtain ⟨pc, hpc⟩ : ∃ x, x = Wd.heap.size := ⟨_, rfl⟩
      have Hpc : Hid (w7.heap.size ≤ pc) := Lib.hid (by rw [hpc]; exact HBr.out.size)
      replace HBr := Lib.hid (below2 HBr.out (below_new Wd (.cells #[.int .i64 0, .int .i64 0, .slice none 0 0] 24)))
      rw [← hpc] at hN ⊢
      clear hpc
      generalize hWa : Wd.alloc (.cells #[.int .i64 0, .int .i64 0, .slice none 0 0] 24) = Va at hS HBr hN  ⊢
      clear hWa
      refine hK.out _ _ hS (fun hHeld => ?_)
      clear hK K
      (try simp only [Act.put, List.setIfInBounds_toArray, List.set_cons_zero, List.set_cons_succ])
      refine wpAnyH_ready (rs := [2]) (by kernel_rfl) (by simp) ?_
      refine AllReadyH.cons (o := { dst := some 63, op := Op.call { callee := Callee.value (Operand.func 10), args := #[Operand.tmp 62], argTypes := #[25] }, type := 25, pos := _, after := #[{ on := 1, ground := Ground.data }], guard := none }) rfl (fun K hK => ?_) AllReadyH.nil
      go_simp
      refine (KOT _ ((hS.fact 9 rfl).1.more (hS.fact 9 rfl).2)).out.mono ?_
      rintro e y0 ⟨A2, c2, rfl, hT2, hB'⟩
      have hU := (St.start y0).more (strsF14 A2 y0.heap.size ss) ⟨hT2, Nat.le_refl _⟩
      replace hS := hS.on hB'
      replace HBr := Lib.hid (below2 HBr.out hB')
      replace hN := hN.on hB'
      clear hB' hT2
      go_wp2_with fail
      refine hK.out _ _ hS (fun hHeld => ?_)
      clear hK K
      (try simp only [Act.put, List.setIfInBounds_toArray, List.set_cons_zero, List.set_cons_succ])
      refine wpAnyH_ready (rs := [3]) (by kernel_rfl) (by simp) ?_
      refine AllReadyH.cons (o := { dst := some 64, op := Op.call { callee := Callee.value (Operand.func 9), args := #[Operand.tmp 61, Operand.tmp 63], argTypes := #[24, 25] }, type := 31, pos := _, after := #[{ on := 0, ground := Ground.data }, { on := 2, ground := Ground.data }, { on := 2, ground := Ground.chain }], guard := none }) rfl (fun K hK => ?_) AllReadyH.nil
      go_simp
      have hpl := lt14 (hN.live (pc, #[.int .i64 0, .int .i64 0, .slice none 0 0]) (by simp))
      refine (R1 _ Ao co A2 c2 ((hS.fact 6 rfl).1.more (hS.fact 6 rfl).2) HRo.out ((hU.fact 0 rfl).1.more (hU.fact 0 rfl).2)).out.mono ?_
      rintro e y1 ⟨D1r, d1r, rfl, hO9, hB'⟩
      have hV := (St.start y1).more (filF14 D1r y1.heap.size fs1) ⟨hO9.fils, Nat.le_refl _⟩
      have Hne : Hid (∀ a, D1r = some a → a.block ≠ pc) := Lib.hid (fun a e => by have h9 := (hO9.own a e).1; simp only at hpl; omega)
      clear hpl
      clear hO9 hU
      replace hS := hS.on hB'
      replace HBr := Lib.hid (below2 HBr.out hB')
      replace hN := hN.on hB'
      clear hB'
      go_wp2_with fail
      refine hK.out _ _ hS (fun hHeld => ?_)
      clear hK K
      (try simp only [Act.put, List.setIfInBounds_toArray, List.set_cons_zero, List.set_cons_succ])
      refine wpAnyH_take (i := 4) (oi := { dst := some 60, op := Op.move (Operand.tmp 64), type := 31, pos := _, after := #[{ on := 3, ground := Ground.data }], guard := none }) (v := ?_) rfl (by kernel_rfl) (by kernel_rfl) (by kernel_rfl) (fun _ _ _ h => h) (Or.inl ⟨by rfl, ?hy⟩) hHeld ?_
      case hy => intro w0 hSw; (try dsimp only at hSw); go_simp; (try with_reducible rfl)
      (try simp only [Act.put, List.setIfInBounds_toArray, List.set_cons_zero, List.set_cons_succ])
      refine wpAnyH_take (i := 5) (oi := { dst := some 65, op := Op.extract (Operand.tmp 60) 0, type := 24, pos := _, after := #[{ on := 4, ground := Ground.data }], guard := none }) (v := ?_) rfl (by kernel_rfl) (by kernel_rfl) (by kernel_rfl) (fun _ _ _ h => h) (Or.inl ⟨by rfl, ?hy⟩) hHeld ?_
      case hy => intro w0 hSw; (try dsimp only at hSw); go_simp; (try with_reducible rfl)
      (try simp only [Act.put, List.setIfInBounds_toArray, List.set_cons_zero, List.set_cons_succ])
      refine wpAnyH_take (i := 6) (oi := { dst := some 66, op := Op.extract (Operand.tmp 60) 1, type := 28, pos := _, after := #[{ on := 4, ground := Ground.data }, { on := 8, ground := Ground.gcOnly Departure.lateStores }], guard := none }) (v := ?_) rfl (by kernel_rfl) (by kernel_rfl) (by kernel_rfl) (fun _ _ _ h => h) (Or.inl ⟨by rfl, ?hy⟩) hHeld ?_
      case hy => intro w0 hSw; (try dsimp only at hSw); go_simp; (try with_reducible rfl)
      (try simp only [Act.put, List.setIfInBounds_toArray, List.set_cons_zero, List.set_cons_succ])
      refine wpAnyH_ready (rs := [8]) (by kernel_rfl) (by simp) ?_
      refine AllReadyH.cons (o := { dst := none, op := Op.store 24 (Operand.tmp 16) (Operand.tmp 65), type := 0, pos := _, after := #[{ on := 7, ground := Ground.data }, { on := 5, ground := Ground.data }, { on := 3, ground := Ground.chain }, { on := 0, ground := Ground.phase }, { on := 1, ground := Ground.phase }, { on := 2, ground := Ground.phase }, { on := 3, ground := Ground.phase }, { on := 4, ground := Ground.phase }, { on := 5, ground := Ground.phase }, { on := 6, ground := Ground.textOnly Departure.lateStores }, { on := 7, ground := Ground.phase }], guard := none }) rfl (fun K hK => ?_) AllReadyH.nil
      rw [if_pos (by rfl)]
      obtain ⟨tz, hz⟩ := hN.live (pc, #[.int .i64 0, .int .i64 0, .slice none 0 0]) (by simp)
      refine wp_store_row 24 _ _ rfl pc #[.int .i64 s1, .int .i64 f1, .slice D1r n1 d1r] rfl rfl tz _ hz (by rfl) rfl (seg_one14 _ _ _ _ _) ?_
      have hb3 := below_setRow HBr.out Hpc.out #[.int .i64 s1, .int .i64 f1, .slice D1r n1 d1r]
      have hc3 := setRow_heap _ _ _ #[.int .i64 s1, .int .i64 f1, .slice D1r n1 d1r] _ _ hz
      have hV9 := fils_setRow14 (hV.fact 0 rfl) #[.int .i64 s1, .int .i64 f1, .slice D1r n1 d1r] Hne.out
      clear hz hN hS hV
      have hS := S7.out.on hb3
      refine hK.out _ _ hS (fun hHeld => ?_)
      clear hK K
      (try simp only [Act.put])
      refine wpAnyH_take (i := 9) (oi := { dst := some 17, op := Op.assign (Operand.tmp 66), type := 28, pos := _, after := #[{ on := 6, ground := Ground.data }, { on := 8, ground := Ground.chain }, { on := 0, ground := Ground.phase }, { on := 1, ground := Ground.phase }, { on := 2, ground := Ground.phase }, { on := 3, ground := Ground.phase }, { on := 4, ground := Ground.phase }, { on := 5, ground := Ground.phase }, { on := 6, ground := Ground.phase }, { on := 7, ground := Ground.phase }, { on := 8, ground := Ground.phase }], guard := none }) (v := ?_) rfl (by kernel_rfl) (by kernel_rfl) (by kernel_rfl) (fun _ _ _ h => h) (Or.inl ⟨by rfl, ?hy⟩) hHeld ?_
      case hy => intro w0 hSw; (try dsimp only at hSw); go_simp; (try with_reducible rfl)
      (try simp only [Act.put, List.setIfInBounds_toArray, List.set_cons_zero, List.set_cons_succ])
      refine wpAnyH_done (by kernel_rfl) ?_ _
      clear hHeld
      go_wp2_with fail
      go_meet
      exact ⟨pc, D1r, d1r, _, rfl, rfl, Lib.hid ((hS.more (filF14 D1r _ fs1) hV9).add ⟨_, hc3⟩)⟩
  case rest =>
    obtain ⟨r1, D1r, d1r, T1r, rfl, rfl, S8⟩ := hcut
    clear S7 KOT R1
    go_wp2_with (refine wpList_load_st rfl 24 _ rfl S8.out 3 _ _ rfl rfl _ Tryz.underlying24 rfl (by rfl) ?_)
    obtain ⟨b2, hb⟩ : ∃ b, b = wc.heap.size := ⟨_, rfl⟩
    have Hb2 := Lib.hid hb
    have HO2 : Hid (wO.heap.size ≤ b2) := Lib.hid (by rw [hb]; exact (S8.out.fact 6 rfl).size)
    have HP2 : Hid (T1 ≤ b2) := Lib.hid (by rw [hb]; exact S8.out.fact 3 rfl)
    clear hb
    refine (K2 _ A c (S8.out.fact 8 rfl) ((S8.out.fact 9 rfl).1.more (S8.out.fact 9 rfl).2) hR0.out).out.mono ?_
    rintro e w9 ⟨D2, d2, rfl, hO, hB⟩
    obtain ⟨T2, hT⟩ : ∃ b, b = w9.heap.size := ⟨_, rfl⟩
    rw [← Hb2.out] at hO
    have Hl2 : Hid (∀ a, D2 = some a → a.block < T2) := Lib.hid (by rw [hT]; exact hO.lt)
    have HT2 : Hid (b2 ≤ T2) := Lib.hid (by rw [hT, Hb2.out]; exact hB.size)
    have Hg2 := Lib.hid hT
    have S9 := Lib.hid ((((S8.out.on hB).more (szF T2) (Nat.le_of_eq hT)).more (ownSF b2 D2 fs2 d2) hO).more (filF14 D2 T2 fs2) (by rw [hT]; exact ⟨hO.fils, Nat.le_refl _⟩))
    clear hB hO hT S8
    go_wp2_with (first
      | (refine wpList_store_st rfl 24 _ _ rfl S9.out _ #[.int .i64 s2, .int .i64 f2, .slice D2 n2 d2] _ rfl rfl (by rfl) rfl (seg_one14 _ _ _ _ _) ?_; intro q2 w10 hp hS hBn; have HQ2 : Hid (q2 = T2) := Lib.hid (hp.trans Hg2.out.symm); (try rw [← hp]); have S10 := Lib.hid hS; clear hS hp hBn)
      | (refine wpList_load_st rfl 24 _ rfl S10.out 3 _ _ rfl rfl _ Tryz.underlying24 rfl (by rfl) ?_))
    refine (R2 _ Ao co ((S10.out.fact 10 rfl).1.more (S10.out.fact 10 rfl).2) HRo.out).out.mono ?_
    rintro e w11 ⟨D2r, d2r, rfl, hO, hB⟩
    obtain ⟨T2r, hT⟩ : ∃ b, b = w11.heap.size := ⟨_, rfl⟩
    have S11 := Lib.hid ((S10.out.on hB).more (filF14 D2r T2r fs2) (by rw [hT]; exact ⟨hO.fils, Nat.le_refl _⟩))
    clear hB hO hT S10
    clear K2 R2
    go_wp2_with (first
      | (refine wpList_store_st rfl 24 _ _ rfl S11.out _ #[.int .i64 s2, .int .i64 f2, .slice D2r n2 d2r] _ rfl rfl (by rfl) rfl (seg_one14 _ _ _ _ _) ?_; intro r2 w12 hp hS hBn; (try rw [← hp]); have S12 := Lib.hid hS; clear hS hp hBn)
      | (refine wpList_load_st rfl 24 _ rfl S12.out 5 _ _ rfl rfl _ Tryz.underlying24 rfl (by rfl) ?_))
    obtain ⟨b3, hb⟩ : ∃ b, b = w12.heap.size := ⟨_, rfl⟩
    have Hb3 := Lib.hid hb
    have HO3 : Hid (wO.heap.size ≤ b3) := Lib.hid (by rw [hb]; exact (S12.out.fact 10 rfl).size)
    have HP3 : Hid (T2 ≤ b3) := Lib.hid (by rw [hb]; exact S12.out.fact 3 rfl)
    clear hb
    refine (K3 _ A c (S12.out.fact 12 rfl) ((S12.out.fact 13 rfl).1.more (S12.out.fact 13 rfl).2) hR0.out).out.mono ?_
    rintro e w13 ⟨D3, d3, rfl, hO, hB⟩
    obtain ⟨T3, hT⟩ : ∃ b, b = w13.heap.size := ⟨_, rfl⟩
    rw [← Hb3.out] at hO
    have Hl3 : Hid (∀ a, D3 = some a → a.block < T3) := Lib.hid (by rw [hT]; exact hO.lt)
    have HT3 : Hid (b3 ≤ T3) := Lib.hid (by rw [hT, Hb3.out]; exact hB.size)
    have Hg3 := Lib.hid hT
    have S13 := Lib.hid ((((S12.out.on hB).more (szF T3) (Nat.le_of_eq hT)).more (ownSF b3 D3 fs3 d3) hO).more (filF14 D3 T3 fs3) (by rw [hT]; exact ⟨hO.fils, Nat.le_refl _⟩))
    clear hB hO hT S12
    go_wp2_with (first
      | (refine wpList_store_st rfl 24 _ _ rfl S13.out _ #[.int .i64 s3, .int .i64 f3, .slice D3 n3 d3] _ rfl rfl (by rfl) rfl (seg_one14 _ _ _ _ _) ?_; intro q3 w14 hp hS hBn; have HQ3 : Hid (q3 = T3) := Lib.hid (hp.trans Hg3.out.symm); (try rw [← hp]); have S14 := Lib.hid hS; clear hS hp hBn)
      | (refine wpList_load_st rfl 24 _ rfl S14.out 5 _ _ rfl rfl _ Tryz.underlying24 rfl (by rfl) ?_))
    refine (R3 _ Ao co ((S14.out.fact 14 rfl).1.more (S14.out.fact 14 rfl).2) HRo.out).out.mono ?_
    rintro e w15 ⟨D3r, d3r, rfl, hO, hB⟩
    obtain ⟨T3r, hT⟩ : ∃ b, b = w15.heap.size := ⟨_, rfl⟩
    have S15 := Lib.hid ((S14.out.on hB).more (filF14 D3r T3r fs3) (by rw [hT]; exact ⟨hO.fils, Nat.le_refl _⟩))
    clear hB hO hT S14
    clear K3 R3
    go_wp2_with (first
      | (refine wpList_store_st rfl 24 _ _ rfl S15.out _ #[.int .i64 s3, .int .i64 f3, .slice D3r n3 d3r] _ rfl rfl (by rfl) rfl (seg_one14 _ _ _ _ _) ?_; intro r3 w16 hp hS hBn; (try rw [← hp]); have S16 := Lib.hid hS; clear hS hp hBn)
      | (refine wpList_load_st rfl 24 _ rfl S16.out 7 _ _ rfl rfl _ Tryz.underlying24 rfl (by rfl) ?_))
    obtain ⟨b4, hb⟩ : ∃ b, b = w16.heap.size := ⟨_, rfl⟩
    have Hb4 := Lib.hid hb
    have HO4 : Hid (wO.heap.size ≤ b4) := Lib.hid (by rw [hb]; exact (S16.out.fact 14 rfl).size)
    have HP4 : Hid (T3 ≤ b4) := Lib.hid (by rw [hb]; exact S16.out.fact 3 rfl)
    clear hb
    refine (K4 _ A c (S16.out.fact 16 rfl) ((S16.out.fact 17 rfl).1.more (S16.out.fact 17 rfl).2) hR0.out).out.mono ?_
    rintro e w17 ⟨D4, d4, rfl, hO, hB⟩
    obtain ⟨T4, hT⟩ : ∃ b, b = w17.heap.size := ⟨_, rfl⟩
    rw [← Hb4.out] at hO
    have Hl4 : Hid (∀ a, D4 = some a → a.block < T4) := Lib.hid (by rw [hT]; exact hO.lt)
    have HT4 : Hid (b4 ≤ T4) := Lib.hid (by rw [hT, Hb4.out]; exact hB.size)
    have Hg4 := Lib.hid hT
    have S17 := Lib.hid ((((S16.out.on hB).more (szF T4) (Nat.le_of_eq hT)).more (ownSF b4 D4 fs4 d4) hO).more (filF14 D4 T4 fs4) (by rw [hT]; exact ⟨hO.fils, Nat.le_refl _⟩))
    clear hB hO hT S16
    go_wp2_with (first
      | (refine wpList_store_st rfl 24 _ _ rfl S17.out _ #[.int .i64 s4, .int .i64 f4, .slice D4 n4 d4] _ rfl rfl (by rfl) rfl (seg_one14 _ _ _ _ _) ?_; intro q4 w18 hp hS hBn; have HQ4 : Hid (q4 = T4) := Lib.hid (hp.trans Hg4.out.symm); (try rw [← hp]); have S18 := Lib.hid hS; clear hS hp hBn)
      | (refine wpList_load_st rfl 24 _ rfl S18.out 7 _ _ rfl rfl _ Tryz.underlying24 rfl (by rfl) ?_))
    refine (R4 _ Ao co ((S18.out.fact 18 rfl).1.more (S18.out.fact 18 rfl).2) HRo.out).out.mono ?_
    rintro e w19 ⟨D4r, d4r, rfl, hO, hB⟩
    obtain ⟨T4r, hT⟩ : ∃ b, b = w19.heap.size := ⟨_, rfl⟩
    have S19 := Lib.hid ((S18.out.on hB).more (filF14 D4r T4r fs4) (by rw [hT]; exact ⟨hO.fils, Nat.le_refl _⟩))
    clear hB hO hT S18
    clear K4 R4
    go_wp2_with (first
      | (refine wpList_store_st rfl 24 _ _ rfl S19.out _ #[.int .i64 s4, .int .i64 f4, .slice D4r n4 d4r] _ rfl rfl (by rfl) rfl (seg_one14 _ _ _ _ _) ?_; intro r4 w20 hp hS hBn; (try rw [← hp]); have S20 := Lib.hid hS; clear hS hp hBn)
      | (refine wpList_load_st rfl 24 _ rfl S20.out 9 _ _ rfl rfl _ Tryz.underlying24 rfl (by rfl) ?_))
    obtain ⟨b5, hb⟩ : ∃ b, b = w20.heap.size := ⟨_, rfl⟩
    have Hb5 := Lib.hid hb
    have HO5 : Hid (wO.heap.size ≤ b5) := Lib.hid (by rw [hb]; exact (S20.out.fact 18 rfl).size)
    have HP5 : Hid (T4 ≤ b5) := Lib.hid (by rw [hb]; exact S20.out.fact 3 rfl)
    clear hb
    refine (K5 _ A c (S20.out.fact 20 rfl) ((S20.out.fact 21 rfl).1.more (S20.out.fact 21 rfl).2) hR0.out).out.mono ?_
    rintro e w21 ⟨D5, d5, rfl, hO, hB⟩
    obtain ⟨T5, hT⟩ : ∃ b, b = w21.heap.size := ⟨_, rfl⟩
    rw [← Hb5.out] at hO
    have Hl5 : Hid (∀ a, D5 = some a → a.block < T5) := Lib.hid (by rw [hT]; exact hO.lt)
    have HT5 : Hid (b5 ≤ T5) := Lib.hid (by rw [hT, Hb5.out]; exact hB.size)
    have Hg5 := Lib.hid hT
    have S21 := Lib.hid ((((S20.out.on hB).more (szF T5) (Nat.le_of_eq hT)).more (ownSF b5 D5 fs5 d5) hO).more (filF14 D5 T5 fs5) (by rw [hT]; exact ⟨hO.fils, Nat.le_refl _⟩))
    clear hB hO hT S20
    go_wp2_with (first
      | (refine wpList_store_st rfl 24 _ _ rfl S21.out _ #[.int .i64 s5, .int .i64 f5, .slice D5 n5 d5] _ rfl rfl (by rfl) rfl (seg_one14 _ _ _ _ _) ?_; intro q5 w22 hp hS hBn; have HQ5 : Hid (q5 = T5) := Lib.hid (hp.trans Hg5.out.symm); (try rw [← hp]); have S22 := Lib.hid hS; clear hS hp hBn)
      | (refine wpList_load_st rfl 24 _ rfl S22.out 9 _ _ rfl rfl _ Tryz.underlying24 rfl (by rfl) ?_))
    refine (R5 _ Ao co ((S22.out.fact 22 rfl).1.more (S22.out.fact 22 rfl).2) HRo.out).out.mono ?_
    rintro e w23 ⟨D5r, d5r, rfl, hO, hB⟩
    obtain ⟨T5r, hT⟩ : ∃ b, b = w23.heap.size := ⟨_, rfl⟩
    have S23 := Lib.hid ((S22.out.on hB).more (filF14 D5r T5r fs5) (by rw [hT]; exact ⟨hO.fils, Nat.le_refl _⟩))
    clear hB hO hT S22
    clear K5 R5
    go_wp2_with (refine wpList_store_st rfl 24 _ _ rfl S23.out _ #[.int .i64 s5, .int .i64 f5, .slice D5r n5 d5r] _ rfl rfl (by rfl) rfl (seg_one14 _ _ _ _ _) ?_; intro r5 w24 hp hS hBn; (try rw [← hp]); have S24 := Lib.hid hS; clear hS hp hBn)
    obtain ⟨b6, hb⟩ : ∃ b, b = w24.heap.size := ⟨_, rfl⟩
    have Hb6 := Lib.hid hb
    have HO6 : Hid (wO.heap.size ≤ b6) := Lib.hid (by rw [hb]; exact (S24.out.fact 22 rfl).size)
    clear hb
    refine (K6 _ (S24.out.fact 24 rfl)).out.mono ?_
    rintro e w25 ⟨D6, d6, rfl, hO, hB⟩
    obtain ⟨T6, hT⟩ : ∃ b, b = w25.heap.size := ⟨_, rfl⟩
    rw [← Hb6.out] at hO
    have Hl6 : Hid (∀ a, D6 = some a → a.block < T6) := Lib.hid (by rw [hT]; exact hO.lt)
    have HT6 : Hid (b6 ≤ T6) := Lib.hid (by rw [hT, Hb6.out]; exact hB.size)
    have Hg6 := Lib.hid hT
    have S25 := Lib.hid ((((S24.out.on hB).more (szF T6) (Nat.le_of_eq hT)).more (ownSF b6 D6 fs6 d6) hO).more (filF14 D6 T6 fs6) (by rw [hT]; exact ⟨hO.fils, Nat.le_refl _⟩))
    clear hB hO hT S24
    go_wp2_with (refine wpList_store_st rfl 24 _ _ rfl S25.out _ #[.int .i64 s6, .int .i64 f6, .slice D6 n6 d6] _ rfl rfl (by rfl) rfl (seg_one14 _ _ _ _ _) ?_; intro q6 w26 hp hS hBn; have HQ6 : Hid (q6 = T6) := Lib.hid (hp.trans Hg6.out.symm); (try rw [← hp]); have S26 := Lib.hid hS; clear hS hp hBn)
    refine (R6 _).out.mono ?_
    rintro e w27 ⟨D6r, d6r, rfl, hO, hB⟩
    obtain ⟨T6r, hT⟩ : ∃ b, b = w27.heap.size := ⟨_, rfl⟩
    have S27 := Lib.hid ((S26.out.on hB).more (filF14 D6r T6r fs6) (by rw [hT]; exact ⟨hO.fils, Nat.le_refl _⟩))
    clear hB hO hT S26
    clear K6 R6
    go_wp2_with (refine wpList_store_st rfl 24 _ _ rfl S27.out _ #[.int .i64 s6, .int .i64 f6, .slice D6r n6 d6r] _ rfl rfl (by rfl) rfl (seg_one14 _ _ _ _ _) ?_; intro r6 w28 hp hS hBn; (try rw [← hp]); have S28 := Lib.hid hS; clear hS hp hBn)
    refine (KT _ Ar Aq cr cq ((S28.out.fact 25 rfl).1.more (S28.out.fact 25 rfl).2) ((S28.out.fact 24 rfl).1.more (S28.out.fact 24 rfl).2)).out.mono ?_
    rintro e w29 ⟨rfl, hB⟩
    have S29 := Lib.hid (S28.out.on hB)
    clear hB S28
    have h0 := S29.out.cell 11 rfl 0 rfl
    have h1 := S29.out.cell 11 rfl 1 rfl
    have h2 := S29.out.cell 11 rfl 2 rfl
    have h3 := S29.out.cell 10 rfl 0 rfl
    have h4 := S29.out.cell 10 rfl 1 rfl
    have h5 := S29.out.cell 10 rfl 2 rfl
    go_wp2_with fail
    refine (KS1 _ D1 D1r d1 d1r ((S29.out.fact 21 rfl).1.more (S29.out.fact 21 rfl).2) ((S29.out.fact 20 rfl).1.more (S29.out.fact 20 rfl).2)).out.mono ?_
    rintro e w30 ⟨rfl, hB⟩
    have S30 := Lib.hid (S29.out.on hB)
    clear hB S29
    clear h0 h1 h2 h3 h4 h5
    have h0 := S30.out.cell 9 rfl 0 rfl
    have h1 := S30.out.cell 9 rfl 1 rfl
    have h2 := S30.out.cell 9 rfl 2 rfl
    have h3 := S30.out.cell 8 rfl 0 rfl
    have h4 := S30.out.cell 8 rfl 1 rfl
    have h5 := S30.out.cell 8 rfl 2 rfl
    go_wp2_with fail
    refine (KS2 _ D2 D2r d2 d2r ((S30.out.fact 17 rfl).1.more (S30.out.fact 17 rfl).2) ((S30.out.fact 16 rfl).1.more (S30.out.fact 16 rfl).2)).out.mono ?_
    rintro e w31 ⟨rfl, hB⟩
    have S31 := Lib.hid (S30.out.on hB)
    clear hB S30
    clear h0 h1 h2 h3 h4 h5
    have h0 := S31.out.cell 7 rfl 0 rfl
    have h1 := S31.out.cell 7 rfl 1 rfl
    have h2 := S31.out.cell 7 rfl 2 rfl
    have h3 := S31.out.cell 6 rfl 0 rfl
    have h4 := S31.out.cell 6 rfl 1 rfl
    have h5 := S31.out.cell 6 rfl 2 rfl
    go_wp2_with fail
    refine (KS3 _ D3 D3r d3 d3r ((S31.out.fact 13 rfl).1.more (S31.out.fact 13 rfl).2) ((S31.out.fact 12 rfl).1.more (S31.out.fact 12 rfl).2)).out.mono ?_
    rintro e w32 ⟨rfl, hB⟩
    have S32 := Lib.hid (S31.out.on hB)
    clear hB S31
    clear h0 h1 h2 h3 h4 h5
    have h0 := S32.out.cell 5 rfl 0 rfl
    have h1 := S32.out.cell 5 rfl 1 rfl
    have h2 := S32.out.cell 5 rfl 2 rfl
    have h3 := S32.out.cell 4 rfl 0 rfl
    have h4 := S32.out.cell 4 rfl 1 rfl
    have h5 := S32.out.cell 4 rfl 2 rfl
    go_wp2_with fail
    refine (KS4 _ D4 D4r d4 d4r ((S32.out.fact 9 rfl).1.more (S32.out.fact 9 rfl).2) ((S32.out.fact 8 rfl).1.more (S32.out.fact 8 rfl).2)).out.mono ?_
    rintro e w33 ⟨rfl, hB⟩
    have S33 := Lib.hid (S32.out.on hB)
    clear hB S32
    clear h0 h1 h2 h3 h4 h5
    have h0 := S33.out.cell 3 rfl 0 rfl
    have h1 := S33.out.cell 3 rfl 1 rfl
    have h2 := S33.out.cell 3 rfl 2 rfl
    have h3 := S33.out.cell 2 rfl 0 rfl
    have h4 := S33.out.cell 2 rfl 1 rfl
    have h5 := S33.out.cell 2 rfl 2 rfl
    go_wp2_with fail
    refine (KS5 _ D5 D5r d5 d5r ((S33.out.fact 5 rfl).1.more (S33.out.fact 5 rfl).2) ((S33.out.fact 4 rfl).1.more (S33.out.fact 4 rfl).2)).out.mono ?_
    rintro e w34 ⟨rfl, hB⟩
    have S34 := Lib.hid (S33.out.on hB)
    clear hB S33
    clear h0 h1 h2 h3 h4 h5
    have h0 := S34.out.cell 1 rfl 0 rfl
    have h1 := S34.out.cell 1 rfl 1 rfl
    have h2 := S34.out.cell 1 rfl 2 rfl
    have h3 := S34.out.cell 0 rfl 0 rfl
    have h4 := S34.out.cell 0 rfl 1 rfl
    have h5 := S34.out.cell 0 rfl 2 rfl
    go_wp2_with fail
    refine (KS6 _ D6 D6r d6 d6r ((S34.out.fact 1 rfl).1.more (S34.out.fact 1 rfl).2) ((S34.out.fact 0 rfl).1.more (S34.out.fact 0 rfl).2)).out.mono ?_
    rintro e w35 ⟨rfl, hB⟩
    have S35 := Lib.hid (S34.out.on hB)
    clear hB S34
    clear h0 h1 h2 h3 h4 h5
    clear KT KS1 KS2 KS3 KS4 KS5 KS6
    go_wp2_with ((refine wpList_load_st rfl 24 _ rfl S35.out 11 _ _ rfl rfl _ Tryz.underlying24 rfl (by rfl) ?_))
    have HB1 : Hid (BlkS w35 q1 s1 f1 D1 n1 d1 fs1 b1) := Lib.hid ⟨S35.out.live (q1, _) (by simp), S35.out.fact 22 rfl⟩
    have HB2 : Hid (BlkS w35 q2 s2 f2 D2 n2 d2 fs2 b2) := Lib.hid ⟨S35.out.live (q2, _) (by simp), S35.out.fact 18 rfl⟩
    have HB3 : Hid (BlkS w35 q3 s3 f3 D3 n3 d3 fs3 b3) := Lib.hid ⟨S35.out.live (q3, _) (by simp), S35.out.fact 14 rfl⟩
    have HB4 : Hid (BlkS w35 q4 s4 f4 D4 n4 d4 fs4 b4) := Lib.hid ⟨S35.out.live (q4, _) (by simp), S35.out.fact 10 rfl⟩
    have HB5 : Hid (BlkS w35 q5 s5 f5 D5 n5 d5 fs5 b5) := Lib.hid ⟨S35.out.live (q5, _) (by simp), S35.out.fact 6 rfl⟩
    have HBO : Hid (Below wO.heap.size wO w35) := Lib.hid (S35.out.fact 26 rfl)
    clear S35
    refine (M1 w35 D1 d1 b1 HB1.out.own).out.mono ?_
    rintro e v1 ⟨rfl, hS⟩
    replace HBO := Lib.hid (HBO.out.trans (hS.below (fun a e => Nat.le_trans HO1.out (HB1.out.own.own a e).1) HBO.out.size))
    replace HB2 := Lib.hid (HB2.out.aside hS (fun a e => by have h1 := Hl1.out a e; have p2 := HP2.out; have t2 := HT2.out; omega) (by have h1 := HT2.out; have h2 := HQ2.out; omega))
    replace HB3 := Lib.hid (HB3.out.aside hS (fun a e => by have h1 := Hl1.out a e; have p2 := HP2.out; have t2 := HT2.out; have p3 := HP3.out; have t3 := HT3.out; omega) (by have h1 := HT3.out; have h2 := HQ3.out; omega))
    replace HB4 := Lib.hid (HB4.out.aside hS (fun a e => by have h1 := Hl1.out a e; have p2 := HP2.out; have t2 := HT2.out; have p3 := HP3.out; have t3 := HT3.out; have p4 := HP4.out; have t4 := HT4.out; omega) (by have h1 := HT4.out; have h2 := HQ4.out; omega))
    replace HB5 := Lib.hid (HB5.out.aside hS (fun a e => by have h1 := Hl1.out a e; have p2 := HP2.out; have t2 := HT2.out; have p3 := HP3.out; have t3 := HT3.out; have p4 := HP4.out; have t4 := HT4.out; have p5 := HP5.out; have t5 := HT5.out; omega) (by have h1 := HT5.out; have h2 := HQ5.out; omega))
    clear hS HB1 M1
    have x0 : v1.cell? ⟨q2, 0, none⟩ = some (.int .i64 s2) := cell14 HB2.out.blk 0
    have x1 : v1.cell? ⟨q2, 1, none⟩ = some (.int .i64 f2) := cell14 HB2.out.blk 1
    have x2 : v1.cell? ⟨q2, 2, none⟩ = some (.slice D2 n2 d2) := cell14 HB2.out.blk 2
    go_wp2_with fail
    refine (M2 v1 D2 d2 b2 HB2.out.own).out.mono ?_
    rintro e v2 ⟨rfl, hS⟩
    replace HBO := Lib.hid (HBO.out.trans (hS.below (fun a e => Nat.le_trans HO2.out (HB2.out.own.own a e).1) HBO.out.size))
    replace HB3 := Lib.hid (HB3.out.aside hS (fun a e => by have h1 := Hl2.out a e; have p3 := HP3.out; have t3 := HT3.out; omega) (by have h1 := HT3.out; have h2 := HQ3.out; omega))
    replace HB4 := Lib.hid (HB4.out.aside hS (fun a e => by have h1 := Hl2.out a e; have p3 := HP3.out; have t3 := HT3.out; have p4 := HP4.out; have t4 := HT4.out; omega) (by have h1 := HT4.out; have h2 := HQ4.out; omega))
    replace HB5 := Lib.hid (HB5.out.aside hS (fun a e => by have h1 := Hl2.out a e; have p3 := HP3.out; have t3 := HT3.out; have p4 := HP4.out; have t4 := HT4.out; have p5 := HP5.out; have t5 := HT5.out; omega) (by have h1 := HT5.out; have h2 := HQ5.out; omega))
    clear hS HB2 M2 x0 x1 x2
    have x0 : v2.cell? ⟨q3, 0, none⟩ = some (.int .i64 s3) := cell14 HB3.out.blk 0
    have x1 : v2.cell? ⟨q3, 1, none⟩ = some (.int .i64 f3) := cell14 HB3.out.blk 1
    have x2 : v2.cell? ⟨q3, 2, none⟩ = some (.slice D3 n3 d3) := cell14 HB3.out.blk 2
    go_wp2_with fail
    refine (M3 v2 D3 d3 b3 HB3.out.own).out.mono ?_
    rintro e v3 ⟨rfl, hS⟩
    replace HBO := Lib.hid (HBO.out.trans (hS.below (fun a e => Nat.le_trans HO3.out (HB3.out.own.own a e).1) HBO.out.size))
    replace HB4 := Lib.hid (HB4.out.aside hS (fun a e => by have h1 := Hl3.out a e; have p4 := HP4.out; have t4 := HT4.out; omega) (by have h1 := HT4.out; have h2 := HQ4.out; omega))
    replace HB5 := Lib.hid (HB5.out.aside hS (fun a e => by have h1 := Hl3.out a e; have p4 := HP4.out; have t4 := HT4.out; have p5 := HP5.out; have t5 := HT5.out; omega) (by have h1 := HT5.out; have h2 := HQ5.out; omega))
    clear hS HB3 M3 x0 x1 x2
    have x0 : v3.cell? ⟨q4, 0, none⟩ = some (.int .i64 s4) := cell14 HB4.out.blk 0
    have x1 : v3.cell? ⟨q4, 1, none⟩ = some (.int .i64 f4) := cell14 HB4.out.blk 1
    have x2 : v3.cell? ⟨q4, 2, none⟩ = some (.slice D4 n4 d4) := cell14 HB4.out.blk 2
    go_wp2_with fail
    refine (M4 v3 D4 d4 b4 HB4.out.own).out.mono ?_
    rintro e v4 ⟨rfl, hS⟩
    replace HBO := Lib.hid (HBO.out.trans (hS.below (fun a e => Nat.le_trans HO4.out (HB4.out.own.own a e).1) HBO.out.size))
    replace HB5 := Lib.hid (HB5.out.aside hS (fun a e => by have h1 := Hl4.out a e; have p5 := HP5.out; have t5 := HT5.out; omega) (by have h1 := HT5.out; have h2 := HQ5.out; omega))
    clear hS HB4 M4 x0 x1 x2
    have x0 : v4.cell? ⟨q5, 0, none⟩ = some (.int .i64 s5) := cell14 HB5.out.blk 0
    have x1 : v4.cell? ⟨q5, 1, none⟩ = some (.int .i64 f5) := cell14 HB5.out.blk 1
    have x2 : v4.cell? ⟨q5, 2, none⟩ = some (.slice D5 n5 d5) := cell14 HB5.out.blk 2
    go_wp2_with fail
    refine (M5 v4 D5 d5 b5 HB5.out.own).out.mono ?_
    rintro e v5 ⟨rfl, hS⟩
    replace HBO := Lib.hid (HBO.out.trans (hS.below (fun a e => Nat.le_trans HO5.out (HB5.out.own.own a e).1) HBO.out.size))
    clear hS HB5 M5 x0 x1 x2
    have SN := Lib.hid (SO.out.on HBO.out)
    clear HBO SO
    go_wp2_with fail
    have hS : St w v5.drew [(po, #[.int .i64 sz, .int .i64 fi, .slice Ao n co]), (p0, #[.int .i64 sz, .int .i64 fi, .slice A n c])] [filF14 Ao Bo fs, eSg HS, filF14 A p0 fs, strsF14 A1 p0 ss] := SN.out.drew
    clear SN
    refine wp_region_held_drew (S := (fun W : World => St w W [(po, #[.int .i64 sz, .int .i64 fi, .slice Ao n co]), (p0, #[.int .i64 sz, .int .i64 fi, .slice A n c])] [filF14 Ao Bo fs, eSg HS, filF14 A p0 fs, strsF14 A1 p0 ss])) (by kernel_rfl) hS (fun hHeld => ?_)
    refine wpAnyH_ready (rs := [0]) (by kernel_rfl) (by simp) ?_
    refine AllReadyH.cons (o := { dst := some 201, op := Op.call { callee := Callee.value (Operand.func 24), args := #[], argTypes := #[] }, type := 4, pos := _, after := #[], guard := none }) rfl (fun K hK => ?_) AllReadyH.nil
    go_simp
    refine (HC.out _ (hS.fact 1 rfl)).mono ?_
    rintro e z1 ⟨rfl, hB'⟩
    replace hS := hS.on hB'
    clear hB'
    go_wp2_with fail
    refine hK.out _ _ hS (fun hHeld => ?_)
    clear hK K
    (try simp only [Act.put, List.setIfInBounds_toArray, List.set_cons_zero, List.set_cons_succ])
    refine wpAnyH_take (i := 1) (oi := { dst := some 202, op := Op.move (Operand.tmp 201), type := 4, pos := _, after := #[{ on := 0, ground := Ground.data }, { on := 0, ground := Ground.chain }], guard := none }) (v := ?_) rfl (by kernel_rfl) (by kernel_rfl) (by kernel_rfl) (fun _ _ _ h => h) (Or.inl ⟨by rfl, ?hy⟩) hHeld ?_
    case hy => intro w0 hSw; (try dsimp only at hSw); go_simp; (try with_reducible rfl)
    (try simp only [Act.put, List.setIfInBounds_toArray, List.set_cons_zero, List.set_cons_succ])
    refine wpAnyH_take (i := 2) (oi := { dst := some 203, op := Op.move (Operand.tmp 38), type := 4, pos := _, after := #[{ on := 1, ground := Ground.guard }], guard := some (1, true) }) (v := ?_) rfl (by kernel_rfl) (by kernel_rfl) (by kernel_rfl) (fun _ _ _ h => h) (Or.inl ⟨by rfl, ?hy⟩) hHeld ?_
    case hy => intro w0 hSw; (try dsimp only at hSw); go_simp; (try with_reducible rfl)
    (try simp only [Act.put, List.setIfInBounds_toArray, List.set_cons_zero, List.set_cons_succ])
    refine wpAnyH_take (i := 3) (oi := { dst := some 204, op := Op.pick (Operand.tmp 202) (Operand.tmp 203) (Operand.const (Value.bool false)), type := 4, pos := _, after := #[{ on := 1, ground := Ground.data }, { on := 2, ground := Ground.data }], guard := none }) (v := ?_) rfl (by kernel_rfl) (by kernel_rfl) (by kernel_rfl) (fun _ _ _ h => h) (Or.inl ⟨by rfl, ?hy⟩) hHeld ?_
    case hy => intro w0 hSw; (try dsimp only at hSw); go_simp; (try with_reducible rfl)
    (try simp only [Act.put, List.setIfInBounds_toArray, List.set_cons_zero, List.set_cons_succ])
    refine wpAnyH_take (i := 4) (oi := { dst := some 205, op := Op.move (Operand.tmp 204), type := 4, pos := _, after := #[{ on := 3, ground := Ground.data }, { on := 1, ground := Ground.chain }], guard := none }) (v := ?_) rfl (by kernel_rfl) (by kernel_rfl) (by kernel_rfl) (fun _ _ _ h => h) (Or.inl ⟨by rfl, ?hy⟩) hHeld ?_
    case hy => intro w0 hSw; (try dsimp only at hSw); go_simp; (try with_reducible rfl)
    (try simp only [Act.put, List.setIfInBounds_toArray, List.set_cons_zero, List.set_cons_succ])
    refine wpAnyH_take (i := 5) (oi := { dst := some 206, op := Op.load 24 (Operand.tmp 4), type := 24, pos := _, after := #[{ on := 4, ground := Ground.guard }], guard := some (4, true) }) (v := ?_) rfl (by kernel_rfl) (by kernel_rfl) (by kernel_rfl) (fun _ _ _ h => h) (Or.inl ⟨by rfl, ?hy⟩) hHeld ?_
    case hy => intro w0 hSw; have d0 := hSw.cell 1 rfl 0 rfl; have d1 := hSw.cell 1 rfl 1 rfl; have d2 := hSw.cell 1 rfl 2 rfl; clear hSw; go_simp; (try with_reducible rfl)
    (try simp only [Act.put, List.setIfInBounds_toArray, List.set_cons_zero, List.set_cons_succ])
    refine wpAnyH_take (i := 7) (oi := { dst := some 208, op := Op.load 24 (Operand.tmp 9), type := 24, pos := _, after := #[{ on := 4, ground := Ground.guard }], guard := some (4, true) }) (v := ?_) rfl (by kernel_rfl) (by kernel_rfl) (by kernel_rfl) (fun _ _ _ h => h) (Or.inl ⟨by rfl, ?hy⟩) hHeld ?_
    case hy => intro w0 hSw; have d0 := hSw.cell 0 rfl 0 rfl; have d1 := hSw.cell 0 rfl 1 rfl; have d2 := hSw.cell 0 rfl 2 rfl; clear hSw; go_simp; (try with_reducible rfl)
    (try simp only [Act.put, List.setIfInBounds_toArray, List.set_cons_zero, List.set_cons_succ])
    refine wpAnyH_ready (rs := [6]) (by kernel_rfl) (by simp) ?_
    refine AllReadyH.cons (o := { dst := some 207, op := Op.call { callee := Callee.value (Operand.func 25), args := #[Operand.tmp 206], argTypes := #[24] }, type := 4, pos := _, after := #[{ on := 5, ground := Ground.data }, { on := 4, ground := Ground.chain }, { on := 4, ground := Ground.guard }], guard := some (4, true) }) rfl (fun K hK => ?_) AllReadyH.nil
    go_simp
    refine (KI _ A c (hS.fact 1 rfl) ((hS.fact 2 rfl).1.more (hS.fact 2 rfl).2) hR0.out).out.mono ?_
    rintro e z2 ⟨rfl, hB'⟩
    replace hS := hS.on hB'
    clear hB'
    go_wp2_with fail
    refine hK.out _ _ hS (fun hHeld => ?_)
    clear hK K
    (try simp only [Act.put, List.setIfInBounds_toArray, List.set_cons_zero, List.set_cons_succ])
    refine wpAnyH_ready (rs := [8]) (by kernel_rfl) (by simp) ?_
    refine AllReadyH.cons (o := { dst := some 209, op := Op.call { callee := Callee.value (Operand.func 26), args := #[Operand.tmp 208], argTypes := #[24] }, type := 4, pos := _, after := #[{ on := 7, ground := Ground.data }, { on := 6, ground := Ground.chain }, { on := 4, ground := Ground.guard }], guard := some (4, true) }) rfl (fun K hK => ?_) AllReadyH.nil
    go_simp
    refine (RI _ Ao co ((hS.fact 0 rfl).1.more (hS.fact 0 rfl).2) HRo.out).out.mono ?_
    rintro e z3 ⟨rfl, hB'⟩
    replace hS := hS.on hB'
    clear hB'
    go_wp2_with fail
    refine hK.out _ _ hS (fun hHeld => ?_)
    clear hK K
    (try simp only [Act.put, List.setIfInBounds_toArray, List.set_cons_zero, List.set_cons_succ])
    refine wpAnyH_take (i := 9) (oi := { dst := some 210, op := Op.binOp BinOp.eql 4 (Operand.tmp 207) (Operand.tmp 209) 4, type := 4, pos := _, after := #[{ on := 6, ground := Ground.data }, { on := 8, ground := Ground.data }, { on := 4, ground := Ground.guard }], guard := some (4, true) }) (v := ?_) rfl (by kernel_rfl) (by kernel_rfl) (by kernel_rfl) (fun _ _ _ h => h) (Or.inl ⟨by rfl, ?hy⟩) hHeld ?_
    case hy => have hz := beq_self_eq_true z; intro w0 hSw; clear hSw; go_simp; (try with_reducible rfl)
    (try simp only [Act.put, List.setIfInBounds_toArray, List.set_cons_zero, List.set_cons_succ])
    refine wpAnyH_take (i := 10) (oi := { dst := some 211, op := Op.pick (Operand.tmp 205) (Operand.tmp 210) (Operand.const (Value.bool false)), type := 4, pos := _, after := #[{ on := 4, ground := Ground.data }, { on := 9, ground := Ground.data }], guard := none }) (v := ?_) rfl (by kernel_rfl) (by kernel_rfl) (by kernel_rfl) (fun _ _ _ h => h) (Or.inl ⟨by rfl, ?hy⟩) hHeld ?_
    case hy => intro w0 hSw; (try dsimp only at hSw); go_simp; (try with_reducible rfl)
    (try simp only [Act.put, List.setIfInBounds_toArray, List.set_cons_zero, List.set_cons_succ])
    refine wpAnyH_take (i := 11) (oi := { dst := some 212, op := Op.move (Operand.tmp 211), type := 4, pos := _, after := #[{ on := 10, ground := Ground.data }, { on := 8, ground := Ground.chain }], guard := none }) (v := ?_) rfl (by kernel_rfl) (by kernel_rfl) (by kernel_rfl) (fun _ _ _ h => h) (Or.inl ⟨by rfl, ?hy⟩) hHeld ?_
    case hy => intro w0 hSw; (try dsimp only at hSw); go_simp; (try with_reducible rfl)
    (try simp only [Act.put, List.setIfInBounds_toArray, List.set_cons_zero, List.set_cons_succ])
    refine wpAnyH_take (i := 12) (oi := { dst := some 213, op := Op.load 24 (Operand.tmp 4), type := 24, pos := _, after := #[{ on := 11, ground := Ground.guard }], guard := some (11, true) }) (v := ?_) rfl (by kernel_rfl) (by kernel_rfl) (by kernel_rfl) (fun _ _ _ h => h) (Or.inl ⟨by rfl, ?hy⟩) hHeld ?_
    case hy => intro w0 hSw; have d0 := hSw.cell 1 rfl 0 rfl; have d1 := hSw.cell 1 rfl 1 rfl; have d2 := hSw.cell 1 rfl 2 rfl; clear hSw; go_simp; (try with_reducible rfl)
    (try simp only [Act.put, List.setIfInBounds_toArray, List.set_cons_zero, List.set_cons_succ])
    refine wpAnyH_take (i := 13) (oi := { dst := some 214, op := Op.load 24 (Operand.tmp 9), type := 24, pos := _, after := #[{ on := 11, ground := Ground.guard }], guard := some (11, true) }) (v := ?_) rfl (by kernel_rfl) (by kernel_rfl) (by kernel_rfl) (fun _ _ _ h => h) (Or.inl ⟨by rfl, ?hy⟩) hHeld ?_
    case hy => intro w0 hSw; have d0 := hSw.cell 0 rfl 0 rfl; have d1 := hSw.cell 0 rfl 1 rfl; have d2 := hSw.cell 0 rfl 2 rfl; clear hSw; go_simp; (try with_reducible rfl)
    (try simp only [Act.put, List.setIfInBounds_toArray, List.set_cons_zero, List.set_cons_succ])
    refine wpAnyH_ready (rs := [14]) (by kernel_rfl) (by simp) ?_
    refine AllReadyH.cons (o := { dst := some 215, op := Op.call { callee := Callee.value (Operand.func 22), args := #[Operand.tmp 213, Operand.tmp 214], argTypes := #[24, 24] }, type := 4, pos := _, after := #[{ on := 12, ground := Ground.data }, { on := 13, ground := Ground.data }, { on := 11, ground := Ground.chain }, { on := 11, ground := Ground.guard }], guard := some (11, true) }) rfl (fun K hK => ?_) AllReadyH.nil
    go_simp
    refine (KS0 _ A Ao c co ((hS.fact 2 rfl).1.more (hS.fact 2 rfl).2) ((hS.fact 0 rfl).1.more (hS.fact 0 rfl).2)).out.mono ?_
    rintro e z4 ⟨rfl, hB'⟩
    replace hS := hS.on hB'
    clear hB'
    go_wp2_with fail
    refine hK.out _ _ hS (fun hHeld => ?_)
    clear hK K
    (try simp only [Act.put, List.setIfInBounds_toArray, List.set_cons_zero, List.set_cons_succ])
    refine wpAnyH_take (i := 15) (oi := { dst := some 216, op := Op.pick (Operand.tmp 212) (Operand.tmp 215) (Operand.const (Value.bool false)), type := 4, pos := _, after := #[{ on := 11, ground := Ground.data }, { on := 14, ground := Ground.data }], guard := none }) (v := ?_) rfl (by kernel_rfl) (by kernel_rfl) (by kernel_rfl) (fun _ _ _ h => h) (Or.inl ⟨by rfl, ?hy⟩) hHeld ?_
    case hy => intro w0 hSw; (try dsimp only at hSw); go_simp; (try with_reducible rfl)
    (try simp only [Act.put, List.setIfInBounds_toArray, List.set_cons_zero, List.set_cons_succ])
    refine wpAnyH_take (i := 16) (oi := { dst := some 8, op := Op.assign (Operand.tmp 216), type := 4, pos := _, after := #[{ on := 15, ground := Ground.data }, { on := 14, ground := Ground.chain }, { on := 0, ground := Ground.phase }, { on := 1, ground := Ground.phase }, { on := 2, ground := Ground.phase }, { on := 3, ground := Ground.phase }, { on := 4, ground := Ground.phase }, { on := 5, ground := Ground.phase }, { on := 6, ground := Ground.phase }, { on := 7, ground := Ground.phase }, { on := 8, ground := Ground.phase }, { on := 9, ground := Ground.phase }, { on := 10, ground := Ground.phase }, { on := 11, ground := Ground.phase }, { on := 12, ground := Ground.phase }, { on := 13, ground := Ground.phase }, { on := 14, ground := Ground.phase }, { on := 15, ground := Ground.phase }], guard := none }) (v := ?_) rfl (by kernel_rfl) (by kernel_rfl) (by kernel_rfl) (fun _ _ _ h => h) (Or.inl ⟨by rfl, ?hy⟩) hHeld ?_
    case hy => intro w0 hSw; (try dsimp only at hSw); go_simp; (try with_reducible rfl)
    (try simp only [Act.put, List.setIfInBounds_toArray, List.set_cons_zero, List.set_cons_succ])
    refine wpAnyH_done (by kernel_rfl) ?_ _
    clear hHeld
    have HSe := Lib.hid hS
    clear hS
    go_wp2
    go_ret
    exact ⟨rfl, HSe.out.below⟩
end Go.Proofs.YtlnchfnmpamliaaGreat
