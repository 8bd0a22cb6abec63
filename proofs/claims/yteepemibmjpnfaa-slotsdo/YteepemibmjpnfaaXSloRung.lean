/-
  Layer 15 (slots): the document's rows, over the structure (printed by tools/gen-slotrung.py).
-/
import Derived.Test.YteepemibmjpnfaaXSloPart
import Derived.Test.YteepemibmjpnfaaXSloK
import Derived.Test.YteepemibmjpnfaaXSloFar
namespace Go.Proofs.Yteepemibmjpnfaa
set_option maxRecDepth 10000
open Go.RowKit

set_option maxHeartbeats 4000000 in
theorem slotted_walk {E : World → Prop} (HS : Hid (SlotsK E)) (w : World) (hE : E w) (sm sn : Int) (sk sl sx sy : ByteArray) (xm xn : Int) (xk xl xx xy : ByteArray) (ym yn : Int) (yk yl yx yy : ByteArray) (zm zn : Int) (zk zl zx zy : ByteArray)
    (KN : ∀ (W : World) (_h : E W), Hid (Calls Try.prog 17 #[.int .i64 60] W fun e w' => e = .returned (.tuple #[.agg #[.int .i64 sm, .string sk, .string sl, .int .i64 sn, .string sx, .string sy], .int .i64 0]) ∧ Below W.heap.size W w'))
    (K1 : ∀ (W : World) (_h : E W), Hid (Calls Try.prog 9 #[.agg #[.int .i64 sm, .string sk, .string sl, .int .i64 sn, .string sx, .string sy]] W fun e w' => e = .returned (.tuple #[.string ⟨#[]⟩, .int .i64 0, .int .i64 0]) ∧ Below W.heap.size W w'))
    (K2 : ∀ (W : World) (_h : E W), Hid (Calls Try.prog 11 #[.agg #[.int .i64 sm, .string sk, .string sl, .int .i64 sn, .string sx, .string sy], .string ⟨#[97]⟩, .int .i64 (-1)] W fun e w' => e = .returned (.tuple #[.agg #[.int .i64 xm, .string xk, .string xl, .int .i64 xn, .string xx, .string xy], .bool true, .int .i64 0]) ∧ Below W.heap.size W w'))
    (K3 : ∀ (W : World) (_h : E W), Hid (Calls Try.prog 9 #[.agg #[.int .i64 xm, .string xk, .string xl, .int .i64 xn, .string xx, .string xy]] W fun e w' => e = .returned (.tuple #[.string ⟨#[97]⟩, .int .i64 1, .int .i64 0]) ∧ Below W.heap.size W w'))
    (K4 : ∀ (W : World) (_h : E W), Hid (Calls Try.prog 11 #[.agg #[.int .i64 xm, .string xk, .string xl, .int .i64 xn, .string xx, .string xy], .string ⟨#[98]⟩, .int .i64 1] W fun e w' => e = .returned (.tuple #[.agg #[.int .i64 ym, .string yk, .string yl, .int .i64 yn, .string yx, .string yy], .bool false, .int .i64 0]) ∧ Below W.heap.size W w'))
    (K5 : ∀ (W : World) (_h : E W), Hid (Calls Try.prog 13 #[.agg #[.int .i64 ym, .string yk, .string yl, .int .i64 yn, .string yx, .string yy], .int .i64 3] W fun e w' => e = .returned (.tuple #[.agg #[.int .i64 zm, .string zk, .string zl, .int .i64 zn, .string zx, .string zy], .int .i64 0]) ∧ Below W.heap.size W w'))
    (K6 : ∀ (W : World) (_h : E W), Hid (Calls Try.prog 9 #[.agg #[.int .i64 zm, .string zk, .string zl, .int .i64 zn, .string zx, .string zy]] W fun e w' => e = .returned (.tuple #[.string ⟨#[97]⟩, .int .i64 1, .int .i64 0]) ∧ Below W.heap.size W w'))
    (KM : ∀ (W : World) (_h : E W), Hid (Calls Try.prog 17 #[.int .i64 0] W fun e w' => e = .returned (.tuple #[.agg #[.int .i64 0, .string ⟨#[]⟩, .string ⟨#[]⟩, .int .i64 0, .string ⟨#[]⟩, .string ⟨#[]⟩], .int .i64 1]) ∧ Below W.heap.size W w')) :
    Calls Try.prog 19 #[] w fun e w' => e = .returned (.bool true) ∧ Below w.heap.size w w' := by
  have S0 := Lib.hid ((St.start w).more (eSl HS) hE)
  clear hE
  go_enter Try.func19, Try.ntmps19
  go_wp2_with fail
  refine (KN _ (S0.out.fact 0 rfl)).out.mono ?_
  rintro e w1 ⟨rfl, hB⟩
  have S1 := Lib.hid (S0.out.on hB)
  clear hB S0
  go_wp2_with (first
    | (refine wpList_store_st rfl 25 _ _ rfl S1.out _ #[.int .i64 sm, .string sk, .string sl, .int .i64 sn, .string sx, .string sy] _ rfl rfl (by rfl) rfl (sl_one15 _ _ _ _ _ _) ?_; intro b0 w2 hp hS hBn; (try rw [← hp]); have S2 := Lib.hid hS; clear hS hp hBn)
    | (refine wpList_loadg_st (by rfl) 25 _ rfl S2.out 0 _ _ rfl rfl _ Try.underlying25 rfl (by rfl) ?_))
  refine (K1 _ (S2.out.fact 0 rfl)).out.mono ?_
  rintro e w3 ⟨rfl, hB⟩
  have S3 := Lib.hid (S2.out.on hB)
  clear hB S2
  go_wp2_with (refine wpList_loadg_st (by rfl) 25 _ rfl S3.out 0 _ _ rfl rfl _ Try.underlying25 rfl (by rfl) ?_)
  refine (K2 _ (S3.out.fact 0 rfl)).out.mono ?_
  rintro e w4 ⟨rfl, hB⟩
  have S4 := Lib.hid (S3.out.on hB)
  clear hB S3
  go_wp2_with (first
    | (refine wpList_store_st rfl 25 _ _ rfl S4.out _ #[.int .i64 xm, .string xk, .string xl, .int .i64 xn, .string xx, .string xy] _ rfl rfl (by rfl) rfl (sl_one15 _ _ _ _ _ _) ?_; intro b1 w5 hp hS hBn; (try rw [← hp]); have S5 := Lib.hid hS; clear hS hp hBn)
    | (refine wpList_loadg_st (by rfl) 25 _ rfl S5.out 0 _ _ rfl rfl _ Try.underlying25 rfl (by rfl) ?_))
  refine (K3 _ (S5.out.fact 0 rfl)).out.mono ?_
  rintro e w6 ⟨rfl, hB⟩
  have S6 := Lib.hid (S5.out.on hB)
  clear hB S5
  go_wp2_with (refine wpList_loadg_st (by rfl) 25 _ rfl S6.out 0 _ _ rfl rfl _ Try.underlying25 rfl (by rfl) ?_)
  refine (K4 _ (S6.out.fact 0 rfl)).out.mono ?_
  rintro e w7 ⟨rfl, hB⟩
  have S7 := Lib.hid (S6.out.on hB)
  clear hB S6
  go_wp2_with (first
    | (refine wpList_store_st rfl 25 _ _ rfl S7.out _ #[.int .i64 ym, .string yk, .string yl, .int .i64 yn, .string yx, .string yy] _ rfl rfl (by rfl) rfl (sl_one15 _ _ _ _ _ _) ?_; intro b2 w8 hp hS hBn; (try rw [← hp]); have S8 := Lib.hid hS; clear hS hp hBn)
    | (refine wpList_loadg_st (by rfl) 25 _ rfl S8.out 0 _ _ rfl rfl _ Try.underlying25 rfl (by rfl) ?_))
  refine (K5 _ (S8.out.fact 0 rfl)).out.mono ?_
  rintro e w9 ⟨rfl, hB⟩
  have S9 := Lib.hid (S8.out.on hB)
  clear hB S8
  go_wp2_with (first
    | (refine wpList_store_st rfl 25 _ _ rfl S9.out _ #[.int .i64 zm, .string zk, .string zl, .int .i64 zn, .string zx, .string zy] _ rfl rfl (by rfl) rfl (sl_one15 _ _ _ _ _ _) ?_; intro b3 w10 hp hS hBn; (try rw [← hp]); have S10 := Lib.hid hS; clear hS hp hBn)
    | (refine wpList_loadg_st (by rfl) 25 _ rfl S10.out 0 _ _ rfl rfl _ Try.underlying25 rfl (by rfl) ?_))
  refine (K6 _ (S10.out.fact 0 rfl)).out.mono ?_
  rintro e w11 ⟨rfl, hB⟩
  have S11 := Lib.hid (S10.out.on hB)
  clear hB S10
  go_wp2_with fail
  refine (KM _ (S11.out.fact 0 rfl)).out.mono ?_
  rintro e w12 ⟨rfl, hB⟩
  have S12 := Lib.hid (S11.out.on hB)
  clear hB S11
  clear KN K1 K2 K3 K4 K5 K6 KM
  go_wp2_with (first
    | (refine wpList_store_st rfl 25 _ _ rfl S12.out _ #[.int .i64 0, .string ⟨#[]⟩, .string ⟨#[]⟩, .int .i64 0, .string ⟨#[]⟩, .string ⟨#[]⟩] _ rfl rfl (by rfl) rfl (sl_one15 _ _ _ _ _ _) ?_; intro b4 w13 hp hS hBn; (try rw [← hp]); have S13 := Lib.hid hS; clear hS hp hBn)
    | (refine wpList_loadg_st (by rfl) 25 _ rfl S13.out 0 _ _ rfl rfl _ Try.underlying25 rfl (by rfl) ?_))
  go_ret
  exact ⟨rfl, S13.out.below⟩

theorem slottedK {E : World → Prop} (HS : Hid (SlotsK E)) : SlottedK E := fun w hE => by
  have a0 := Sl.p0_ok
  have a1 := Sl.p1_ok
  have a3 := Sl.p3_ok
  have KN := fun W (h : E W) => Lib.hid (HS.out.new 60 W h)
  have e0 : Fi.newE 60 = 0 := by unfold Fi.newE; rw [if_pos (by decide)]
  have e1 : Fi.newE 0 = 1 := by unfold Fi.newE; rw [if_neg (by decide)]
  have e2 : Sl.newS 0 = Sl.no := by unfold Sl.newS Fi.new; rw [if_neg (by decide)]; rfl
  have b0 : Sl.badE Sl.p0 = 0 := by unfold Sl.badE; rw [if_pos a0.1.1]
  have b1 : Sl.badE Sl.p1 = 0 := by unfold Sl.badE; rw [if_pos a1.1.1]
  have b2 : Sl.badE Sl.p2 = 0 := by unfold Sl.badE; rw [if_pos Sl.p2_is]
  have b3 : Sl.badE Sl.p3 = 0 := by unfold Sl.badE; rw [if_pos a3.1]
  have d1 : Sl.done Sl.p0 [97] (-1) = true := by rw [Sl.done_iff Sl.p0_save]; decide
  have d2 : Sl.done Sl.p1 [98] 1 = false := by rw [Sl.done_iff Sl.p1_save]; decide
  have K1 := fun W (h : E W) => Lib.hid (HS.out.load Sl.p0 W h (Sl.is_small a0.1.1))
  have K2 := fun W (h : E W) => Lib.hid (HS.out.save Sl.p0 ⟨#[97]⟩ (-1) W h (Sl.is_small a0.1.1) (by decide))
  have K3 := fun W (h : E W) => Lib.hid (HS.out.load Sl.p1 W h (Sl.is_small a1.1.1))
  have K4 := fun W (h : E W) => Lib.hid (HS.out.save Sl.p1 ⟨#[98]⟩ 1 W h (Sl.is_small a1.1.1) (by decide))
  have K5 := fun W (h : E W) => Lib.hid (HS.out.crash Sl.p2 3 W h (Sl.is_small Sl.p2_is))
  have K6 := fun W (h : E W) => Lib.hid (HS.out.load Sl.p3 W h (Sl.is_small a3.1))
  have KM := fun W (h : E W) => Lib.hid (HS.out.new 0 W h)
  rw [e0] at KN
  rw [e1, e2] at KM
  rw [a0.2.1, a0.2.2, b0] at K1
  rw [show bl ⟨#[97]⟩ = [97] from rfl, d1, Sl.p0_save] at K2
  rw [a1.2.1, a1.2.2.1, b1] at K3
  rw [show bl ⟨#[98]⟩ = [98] from rfl, d2, Sl.p1_save] at K4
  rw [b2] at K5
  rw [a3.2.1, a3.2.2, b3] at K6
  exact slotted_walk HS w hE Sl.p0.a.most Sl.p0.b.most Sl.p0.a.kept Sl.p0.a.loose Sl.p0.b.kept Sl.p0.b.loose Sl.p1.a.most Sl.p1.b.most Sl.p1.a.kept Sl.p1.a.loose Sl.p1.b.kept Sl.p1.b.loose Sl.p2.a.most Sl.p2.b.most Sl.p2.a.kept Sl.p2.a.loose Sl.p2.b.kept Sl.p2.b.loose Sl.p3.a.most Sl.p3.b.most Sl.p3.a.kept Sl.p3.a.loose Sl.p3.b.kept Sl.p3.b.loose KN K1 K2 K3 K4 K5 K6 KM
end Go.Proofs.Yteepemibmjpnfaa
