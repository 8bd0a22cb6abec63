/-
  Layer 14 (segment): the document's rows, over the structure (printed by tools/gen-segrung.py).
-/
import Derived.Test.YtlnchfnmpamliaaGreatXJb
namespace Go.Proofs.YtlnchfnmpamliaaGreat
set_option maxRecDepth 10000
open Go.RowKit

set_option maxHeartbeats 4000000 in
theorem parted_walk {E : World → Prop} (HS : Hid (SegK E)) (w : World) (hE : E w) (fs0 fsA fsB : List Fil) (abc3 c1 : List ByteArray)
    (KN : ∀ (W : World) (_h : E W), Hid (Calls Tryz.prog 19 #[.int .i64 25, .int .i64 5] W fun e w' => ∃ A c, e = .returned (.tuple #[.agg #[.int .i64 25, .int .i64 5, .slice A 1 c], .int .i64 0]) ∧ FilsAt w' w'.heap.size A fs0 ∧ RoomyF A fs0 c ∧ Below W.heap.size W w'))
    (KN19 : ∀ (W : World) (_h : E W), Hid (Calls Tryz.prog 19 #[.int .i64 19, .int .i64 5] W fun e w' => ∃ A c, e = .returned (.tuple #[.agg #[.int .i64 0, .int .i64 0, .slice A 0 c], .int .i64 1]) ∧ FilsAt w' w'.heap.size A ([] : List Fil) ∧ RoomyF A ([] : List Fil) c ∧ Below W.heap.size W w'))
    (KA : ∀ (W : World) (A : Option Addr) (c : Nat) (a : Addr) (_h : E W) (_hA : FilsAt W W.heap.size A fs0) (_hR : RoomyF A fs0 c) (_hB : StrsAt W W.heap.size (some a) [⟨#[97]⟩, ⟨#[98]⟩, ⟨#[99]⟩]), Hid (Calls Tryz.prog 8 #[.agg #[.int .i64 25, .int .i64 5, .slice A 1 c], .slice (some a) 3 3] W fun e w' => ∃ A c, e = .returned (.tuple #[.agg #[.int .i64 25, .int .i64 5, .slice A 2 c], .int .i64 0]) ∧ FilsAt w' w'.heap.size A fsA ∧ RoomyF A fsA c ∧ Below W.heap.size W w'))
    (KR : ∀ (W : World) (A : Option Addr) (c : Nat) (_h : E W) (_hA : FilsAt W W.heap.size A fsA) (_hR : RoomyF A fsA c), Hid (Calls Tryz.prog 6 #[.agg #[.int .i64 25, .int .i64 5, .slice A 2 c]] W fun e w' => ∃ A c, e = .returned (.tuple #[.slice A 3 c, .int .i64 0]) ∧ StrsAt w' w'.heap.size A abc3 ∧ 3 ≤ c ∧ Below W.heap.size W w'))
    (KD6 : ∀ (W : World) (A : Option Addr) (c : Nat) (_h : E W) (_hA : FilsAt W W.heap.size A fsA) (_hR : RoomyF A fsA c), Hid (Calls Tryz.prog 17 #[.agg #[.int .i64 25, .int .i64 5, .slice A 2 c], .int .i64 6] W fun e w' => ∃ A c, e = .returned (.tuple #[.agg #[.int .i64 25, .int .i64 5, .slice A 2 c], .int .i64 0]) ∧ FilsAt w' w'.heap.size A fsA ∧ RoomyF A fsA c ∧ Below W.heap.size W w'))
    (KD7 : ∀ (W : World) (A : Option Addr) (c : Nat) (_h : E W) (_hA : FilsAt W W.heap.size A fsA) (_hR : RoomyF A fsA c), Hid (Calls Tryz.prog 17 #[.agg #[.int .i64 25, .int .i64 5, .slice A 2 c], .int .i64 7] W fun e w' => ∃ A c, e = .returned (.tuple #[.agg #[.int .i64 25, .int .i64 7, .slice A 1 c], .int .i64 0]) ∧ FilsAt w' w'.heap.size A fsB ∧ RoomyF A fsB c ∧ Below W.heap.size W w'))
    (KR2 : ∀ (W : World) (A : Option Addr) (c : Nat) (_h : E W) (_hA : FilsAt W W.heap.size A fsB) (_hR : RoomyF A fsB c), Hid (Calls Tryz.prog 6 #[.agg #[.int .i64 25, .int .i64 7, .slice A 1 c]] W fun e w' => ∃ A c, e = .returned (.tuple #[.slice A 1 c, .int .i64 0]) ∧ StrsAt w' w'.heap.size A c1 ∧ 1 ≤ c ∧ Below W.heap.size W w'))
    (KT : ∀ (W : World) (A : Option Addr) (a : Addr) (c : Nat) (_hA : StrsAt W W.heap.size A abc3) (_hB : StrsAt W W.heap.size (some a) [⟨#[97]⟩, ⟨#[98]⟩, ⟨#[99]⟩]), Hid (Calls Tryz.prog 21 #[.slice A 3 c, .slice (some a) 3 3] W fun e w' => e = .returned (.bool true) ∧ Below W.heap.size W w'))
    (KT2 : ∀ (W : World) (A : Option Addr) (a : Addr) (c : Nat) (_hA : StrsAt W W.heap.size A c1) (_hB : StrsAt W W.heap.size (some a) [⟨#[99]⟩]), Hid (Calls Tryz.prog 21 #[.slice A 1 c, .slice (some a) 1 1] W fun e w' => e = .returned (.bool true) ∧ Below W.heap.size W w'))
    (KS : ∀ (W : World) (A B : Option Addr) (c d : Nat) (_hA : FilsAt W W.heap.size A fsA) (_hB : FilsAt W W.heap.size B fsA), Hid (Calls Tryz.prog 22 #[.agg #[.int .i64 25, .int .i64 5, .slice A 2 c], .agg #[.int .i64 25, .int .i64 5, .slice B 2 d]] W fun e w' => e = .returned (.bool true) ∧ Below W.heap.size W w'))
    (KI : ∀ (W : World) (A : Option Addr) (c : Nat) (_h : E W) (_hA : FilsAt W W.heap.size A fsA) (_hR : RoomyF A fsA c), Hid (Calls Tryz.prog 25 #[.agg #[.int .i64 25, .int .i64 5, .slice A 2 c]] W fun e w' => e = .returned (.bool true) ∧ Below W.heap.size W w')) :
    Calls Tryz.prog 24 #[] w fun e w' => e = .returned (.bool true) ∧ Below w.heap.size w w' := by
  have S0 := Lib.hid ((St.start w).more (eSg HS) hE)
  clear hE
  go_enter Tryz.func24, Tryz.ntmps24
  go_wp2_with fail
  refine (KN _ (S0.out.fact 0 rfl)).out.mono ?_
  rintro e w1 ⟨Af, cf, rfl, hT, hR, hB⟩
  have S1 := Lib.hid ((S0.out.on hB).more (filF14 Af w1.heap.size fs0) ⟨hT, Nat.le_refl _⟩)
  have HRf := Lib.hid hR
  clear hB hT hR S0
  obtain ⟨Bf, hBe⟩ : ∃ b, b = w1.heap.size := ⟨_, rfl⟩
  rw [← hBe] at S1
  clear hBe
  go_wp2_with (first
    | (refine wpList_store_st rfl 24 _ _ rfl S1.out _ #[.int .i64 25, .int .i64 5, .slice Af 1 cf] _ rfl rfl (by rfl) rfl (seg_one14 _ _ _ _ _) ?_; intro b0 w2 hp hS hBn; (try rw [← hp]); have S2 := Lib.hid hS; clear hS hp hBn)
    | (refine wpList_load_st rfl 24 _ rfl S2.out 0 _ _ rfl rfl _ Tryz.underlying24 rfl (by rfl) ?_))
  have hs3 := StrsAt.new w2 [⟨#[97]⟩, ⟨#[98]⟩, ⟨#[99]⟩] 9
  have S3 := Lib.hid (S2.out.on (below_new w2 (.cells #[.string ⟨#[97]⟩, .string ⟨#[98]⟩, .string ⟨#[99]⟩] 9)))
  clear S2
  refine (KA _ Af cf _ (S3.out.fact 1 rfl) ((S3.out.fact 0 rfl).1.more (S3.out.fact 0 rfl).2) HRf.out (by simpa using hs3)).out.mono ?_
  rintro e w4 ⟨Ax, cx, rfl, hT, hR, hB⟩
  have S4 := Lib.hid ((S3.out.on hB).more (filF14 Ax w4.heap.size fsA) ⟨hT, Nat.le_refl _⟩)
  have HRx := Lib.hid hR
  clear hB hT hR S3
  obtain ⟨Bx, hBe⟩ : ∃ b, b = w4.heap.size := ⟨_, rfl⟩
  rw [← hBe] at S4
  clear hBe
  clear hs3 KA KN
  go_wp2_with (first
    | (refine wpList_store_st rfl 24 _ _ rfl S4.out _ #[.int .i64 25, .int .i64 5, .slice Ax 2 cx] _ rfl rfl (by rfl) rfl (seg_one14 _ _ _ _ _) ?_; intro b1 w5 hp hS hBn; (try rw [← hp]); have S5 := Lib.hid hS; clear hS hp hBn)
    | (refine wpList_load_st rfl 24 _ rfl S5.out 0 _ _ rfl rfl _ Tryz.underlying24 rfl (by rfl) ?_))
  refine (KR _ Ax cx (S5.out.fact 2 rfl) ((S5.out.fact 0 rfl).1.more (S5.out.fact 0 rfl).2) HRx.out).out.mono ?_
  rintro e w6 ⟨At, ct, rfl, hT, _, hB⟩
  have S6 := Lib.hid ((S5.out.on hB).more (strsF14 At w6.heap.size abc3) ⟨hT, Nat.le_refl _⟩)
  clear hB hT S5
  obtain ⟨Bt, hBe⟩ : ∃ b, b = w6.heap.size := ⟨_, rfl⟩
  rw [← hBe] at S6
  clear hBe
  go_wp2_with (refine wpList_load_st rfl 24 _ rfl S6.out 0 _ _ rfl rfl _ Tryz.underlying24 rfl (by rfl) ?_)
  refine (KD6 _ Ax cx (S6.out.fact 3 rfl) ((S6.out.fact 1 rfl).1.more (S6.out.fact 1 rfl).2) HRx.out).out.mono ?_
  rintro e w7 ⟨Ay, cy, rfl, hT, hR, hB⟩
  have S7 := Lib.hid ((S6.out.on hB).more (filF14 Ay w7.heap.size fsA) ⟨hT, Nat.le_refl _⟩)
  have HRy := Lib.hid hR
  clear hB hT hR S6
  obtain ⟨By, hBe⟩ : ∃ b, b = w7.heap.size := ⟨_, rfl⟩
  rw [← hBe] at S7
  clear hBe
  go_wp2_with (first
    | (refine wpList_store_st rfl 24 _ _ rfl S7.out _ #[.int .i64 25, .int .i64 5, .slice Ay 2 cy] _ rfl rfl (by rfl) rfl (seg_one14 _ _ _ _ _) ?_; intro b2 w8 hp hS hBn; (try rw [← hp]); have S8 := Lib.hid hS; clear hS hp hBn)
    | (refine wpList_load_st rfl 24 _ rfl S8.out 1 _ _ rfl rfl _ Tryz.underlying24 rfl (by rfl) ?_))
  refine (KD7 _ Ax cx (S8.out.fact 4 rfl) ((S8.out.fact 2 rfl).1.more (S8.out.fact 2 rfl).2) HRx.out).out.mono ?_
  rintro e w9 ⟨Az, cz, rfl, hT, hR, hB⟩
  have S9 := Lib.hid ((S8.out.on hB).more (filF14 Az w9.heap.size fsB) ⟨hT, Nat.le_refl _⟩)
  have HRz := Lib.hid hR
  clear hB hT hR S8
  obtain ⟨Bz, hBe⟩ : ∃ b, b = w9.heap.size := ⟨_, rfl⟩
  rw [← hBe] at S9
  clear hBe
  go_wp2_with (first
    | (refine wpList_store_st rfl 24 _ _ rfl S9.out _ #[.int .i64 25, .int .i64 7, .slice Az 1 cz] _ rfl rfl (by rfl) rfl (seg_one14 _ _ _ _ _) ?_; intro b3 w10 hp hS hBn; (try rw [← hp]); have S10 := Lib.hid hS; clear hS hp hBn)
    | (refine wpList_load_st rfl 24 _ rfl S10.out 0 _ _ rfl rfl _ Tryz.underlying24 rfl (by rfl) ?_))
  refine (KR2 _ Az cz (S10.out.fact 5 rfl) ((S10.out.fact 0 rfl).1.more (S10.out.fact 0 rfl).2) HRz.out).out.mono ?_
  rintro e w11 ⟨Au, cu, rfl, hT, _, hB⟩
  have S11 := Lib.hid ((S10.out.on hB).more (strsF14 Au w11.heap.size c1) ⟨hT, Nat.le_refl _⟩)
  clear hB hT S10
  obtain ⟨Bu, hBe⟩ : ∃ b, b = w11.heap.size := ⟨_, rfl⟩
  rw [← hBe] at S11
  clear hBe
  go_wp2_with fail
  refine (KN19 _ (S11.out.fact 6 rfl)).out.mono ?_
  rintro e w12 ⟨Av, cv, rfl, hT, hR, hB⟩
  have S12 := Lib.hid ((S11.out.on hB).more (filF14 Av w12.heap.size ([] : List Fil)) ⟨hT, Nat.le_refl _⟩)
  have HRv := Lib.hid hR
  clear hB hT hR S11
  obtain ⟨Bv, hBe⟩ : ∃ b, b = w12.heap.size := ⟨_, rfl⟩
  rw [← hBe] at S12
  clear hBe
  clear KR KD6 KD7 KR2 KN19
  go_wp2_with (refine wpList_store_st rfl 24 _ _ rfl S12.out _ #[.int .i64 0, .int .i64 0, .slice Av 0 cv] _ rfl rfl (by rfl) rfl (seg_one14 _ _ _ _ _) ?_; intro b4 w13 hp hS hBn; (try rw [← hp]); have S13 := Lib.hid hS; clear hS hp hBn; have h2 := S13.out.cell 3 rfl 2 rfl)
  have hs4 := StrsAt.new w13 [⟨#[97]⟩, ⟨#[98]⟩, ⟨#[99]⟩] 9
  have S14 := Lib.hid (S13.out.on (below_new w13 (.cells #[.string ⟨#[97]⟩, .string ⟨#[98]⟩, .string ⟨#[99]⟩] 9)))
  clear S13
  refine (KT _ At _ ct ((S14.out.fact 4 rfl).1.more (S14.out.fact 4 rfl).2) (by simpa using hs4)).out.mono ?_
  rintro e w15 ⟨rfl, hB⟩
  have S15 := Lib.hid (S14.out.on hB)
  clear hB S14
  clear hs4 h2 KT
  have h0 := S15.out.cell 3 rfl 0 rfl
  have h1 := S15.out.cell 3 rfl 1 rfl
  have h2 := S15.out.cell 3 rfl 2 rfl
  have h3 := S15.out.cell 2 rfl 0 rfl
  have h4 := S15.out.cell 2 rfl 1 rfl
  have h5 := S15.out.cell 2 rfl 2 rfl
  go_wp2_with fail
  refine (KS _ Ax Ay cx cy ((S15.out.fact 5 rfl).1.more (S15.out.fact 5 rfl).2) ((S15.out.fact 3 rfl).1.more (S15.out.fact 3 rfl).2)).out.mono ?_
  rintro e w16 ⟨rfl, hB⟩
  have S16 := Lib.hid (S15.out.on hB)
  clear hB S15
  clear h0 h1 h2 h3 h4 h5 KS
  have h1 := S16.out.cell 1 rfl 1 rfl
  go_wp2_with fail
  have hs5 := StrsAt.new w16 [⟨#[99]⟩] 9
  have S17 := Lib.hid (S16.out.on (below_new w16 (.cells #[.string ⟨#[99]⟩] 9)))
  clear S16
  refine (KT2 _ Au _ cu ((S17.out.fact 1 rfl).1.more (S17.out.fact 1 rfl).2) (by simpa using hs5)).out.mono ?_
  rintro e w18 ⟨rfl, hB⟩
  have S18 := Lib.hid (S17.out.on hB)
  clear hB S17
  clear hs5 h1 KT2
  have h0 := S18.out.cell 3 rfl 0 rfl
  have h1 := S18.out.cell 3 rfl 1 rfl
  have h2 := S18.out.cell 3 rfl 2 rfl
  go_wp2_with fail
  refine (KI _ Ax cx (S18.out.fact 7 rfl) ((S18.out.fact 5 rfl).1.more (S18.out.fact 5 rfl).2) HRx.out).out.mono ?_
  rintro e w19 ⟨rfl, hB⟩
  have S19 := Lib.hid (S18.out.on hB)
  clear hB S18
  clear h0 h1 h2
  go_wp2
  go_ret
  exact ⟨rfl, S19.out.below⟩

theorem partedK {E : World → Prop} (HS : Hid (SegK E)) : PartedK E := fun w hE => by
  have hi0 := Sg.s0_is
  have hs0 := Sg.fs_small hi0
  have hA := Sg.pA_is
  have hsA := Sg.fs_small hA
  have hB := Sg.pB_is.1
  have hsB := Sg.fs_small hB
  have b0 : Sg.badE Sg.pA = 0 := by unfold Sg.badE; rw [hA]; rfl
  have b1 : Sg.badE Sg.pB = 0 := by unfold Sg.badE; rw [hB]; rfl
  have e0 := (Sg.new_ok Sg.s0_ok).1
  have KR := fun W A c (h : E W) hF (_ : RoomyF A Sg.pA.fs c) => Lib.hid (HS.out.read Sg.pA A 2 c W h hsA hF rfl)
  rw [Sg.pA_texts, b0] at KR
  have KR2 := fun W A c (h : E W) hF (_ : RoomyF A Sg.pB.fs c) => Lib.hid (HS.out.read Sg.pB A 1 c W h hsB hF rfl)
  rw [Sg.pB_is.2, b1] at KR2
  have KI := fun W A c (h : E W) hF (_ : RoomyF A Sg.pA.fs c) => Lib.hid (HS.out.is Sg.pA A 2 c W h hsA hF rfl)
  rw [hA] at KI
  have KT : ∀ (ts : List ByteArray) (_ : ts.length ≤ maxLen) (W : World) (A : Option Addr) (a : Addr) (c : Nat) (_hA : StrsAt W W.heap.size A ts) (_hB : StrsAt W W.heap.size (some a) ts), Hid (Calls Tryz.prog 21 #[.slice A ts.length c, .slice (some a) ts.length ts.length] W fun e w' => e = .returned (.bool true) ∧ Below W.heap.size W w') := fun ts hl W A a c h1 h2 =>
    Lib.hid ((Texts_any A (some a) c _ _ _ W h1 h2 hl).mono fun e w' ⟨h1, q, h2⟩ => ⟨by rw [h1]; simp, h2 ▸ below_drew (Below.refl _ _) q⟩)
  exact parted_walk HS w hE (Sg.newS 25 5).fs Sg.pA.fs Sg.pB.fs Sg.abc [⟨#[99]⟩]
    (fun W h => Lib.hid ((HS.out.new 25 5 W h).mono fun e w' hg => (hg.to e0 Sg.s0_ok).rows rfl rfl rfl rfl))
    (fun W h => Lib.hid ((HS.out.new 19 5 W h).mono fun e w' hg => (hg.to Sg.new_19.2 Sg.new_19.1).rows rfl rfl rfl rfl))
    (fun W A c a h hF hR hT => Lib.hid ((HS.out.add (Sg.newS 25 5) A 1 c (some a) 3 3 Sg.abc W h hs0 hF rfl hR hT rfl (by decide) (by decide) (by decide)).mono fun e w' hg => (hg.to Sg.pA_add.2 Sg.pA_add.1).rows rfl rfl rfl rfl))
    KR
    (fun W A c h hF hR => Lib.hid ((HS.out.drop Sg.pA A 2 c 6 W h hsA hF rfl hR).mono fun e w' hg => (hg.to Sg.pA_drop6 b0).rows rfl rfl rfl rfl))
    (fun W A c h hF hR => Lib.hid ((HS.out.drop Sg.pA A 2 c 7 W h hsA hF rfl hR).mono fun e w' hg => (hg.to Sg.pA_drop7 b0).rows rfl rfl rfl rfl))
    KR2 (KT Sg.abc (by decide)) (KT [⟨#[99]⟩] (by decide)) (same14 25 5 Sg.pA.fs 2 rfl (by decide)) KI
end Go.Proofs.YtlnchfnmpamliaaGreat
