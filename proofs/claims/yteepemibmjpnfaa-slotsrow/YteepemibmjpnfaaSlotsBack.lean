/-
  Layer 15 (slots): the law SlotsBack, over the structure (printed by tools/gen-slotsback.py).
-/
import Derived.Test.YteepemibmjpnfaaSloK
import Derived.Test.YteepemibmjpnfaaSloFar
import Derived.Deep.Cut
namespace Go.Proofs.Yteepemibmjpnfaa
set_option maxRecDepth 10000
open Go.RowKit

theorem ba_toList {s t : ByteArray} (h : s.toList = t.toList) : s = t := bl_inj (by rw [ByteArray.toList_eq, ByteArray.toList_eq] at h; exact h)
theorem run_eql_slots (w : World) (a d : Int) (b c e f : ByteArray) : (binOp .eql 25 (.agg #[.int .i64 a, .string b, .string c, .int .i64 d, .string e, .string f]) (.agg #[.int .i64 a, .string b, .string c, .int .i64 d, .string e, .string f])).run Try.prog w = .ok (.bool true) w := by
  go_simp
theorem run_eql_fil (w : World) (a : Int) (b c : ByteArray) : (binOp .eql 23 (.agg #[.int .i64 a, .string b, .string c]) (.agg #[.int .i64 a, .string b, .string c])).run Try.prog w = .ok (.bool true) w := by
  go_simp
theorem run_ne_fil (w : World) (a x : Int) (b c y z : ByteArray) (h : ¬ (a = x ∧ b.toList = y.toList ∧ c.toList = z.toList)) : (binOp .eql 23 (.agg #[.int .i64 a, .string b, .string c]) (.agg #[.int .i64 x, .string y, .string z])).run Try.prog w = .ok (.bool false) w := by
  go_simp
  intro h1 h2 h3
  exact absurd ⟨h1, h2, h3⟩ h

set_option maxHeartbeats 2000000 in
theorem slotsBack_far {E : World → Prop} (HS : Hid (SlotsK E)) (sm sn : Int) (sk sl sx sy : ByteArray) (t : ByteArray) (w : World) (hE : E w) 
    (pf : ∀ (W : World), Hid (Calls Try.prog 8 #[.agg #[.int .i64 sm, .string sk, .string sl, .int .i64 sn, .string sx, .string sy], .string t] W fun e w' => e = .returned (.bool true) ∧ Below W.heap.size W w')) :
    Calls Try.prog 4 #[.agg #[.int .i64 sm, .string sk, .string sl, .int .i64 sn, .string sx, .string sy], .string t] w fun e w' => e = .returned (.bool true) ∧ Below w.heap.size w w' := by
  have S0 := Lib.hid (((St.start w).more (eSl HS) hE).new #[.int .i64 sm, .string sk, .string sl, .int .i64 sn, .string sx, .string sy] 25)
  clear hE
  go_enter Try.func4, Try.ntmps4
  go_wp2_with (refine wpList_loadg_st (by rfl) 25 _ rfl S0.out 0 _ _ rfl rfl _ Try.underlying25 rfl (by rfl) ?_)
  refine (pf _).out.mono ?_
  rintro e w1 ⟨rfl, hB⟩
  have S1 := Lib.hid (S0.out.on hB)
  clear hB S0
  clear pf
  obtain ⟨p0, hp0⟩ : ∃ p, p = w.heap.size := ⟨_, rfl⟩
  rw [← hp0] at S1 ⊢
  clear hp0
  go_wp2
  go_ret
  exact ⟨rfl, S1.out.below⟩

set_option maxHeartbeats 2000000 in
theorem slotsBack_no {E : World → Prop} (HS : Hid (SlotsK E)) (HC : Hid (SlottedK E)) (sm sn : Int) (sk sl sx sy : ByteArray) (t : ByteArray) (w : World) (hE : E w) (s1 : ByteArray) (n1 e1 f1 : Int) (jf : (f1 != 0) = true)
    (pf : ∀ (W : World), Hid (Calls Try.prog 8 #[.agg #[.int .i64 sm, .string sk, .string sl, .int .i64 sn, .string sx, .string sy], .string t] W fun e w' => e = .returned (.bool false) ∧ Below W.heap.size W w'))
    (K1 : ∀ (W : World) (_h : E W), Hid (Calls Try.prog 9 #[.agg #[.int .i64 sm, .string sk, .string sl, .int .i64 sn, .string sx, .string sy]] W fun e w' => e = .returned (.tuple #[.string s1, .int .i64 n1, .int .i64 e1]) ∧ Below W.heap.size W w'))
    (K2 : ∀ (W : World) (_h : E W), Hid (Calls Try.prog 11 #[.agg #[.int .i64 sm, .string sk, .string sl, .int .i64 sn, .string sx, .string sy], .string t, .int .i64 (-1)] W fun e w' => e = .returned (.tuple #[.agg #[.int .i64 0, .string ⟨#[]⟩, .string ⟨#[]⟩, .int .i64 0, .string ⟨#[]⟩, .string ⟨#[]⟩], .bool false, .int .i64 f1]) ∧ Below W.heap.size W w')) :
    Calls Try.prog 4 #[.agg #[.int .i64 sm, .string sk, .string sl, .int .i64 sn, .string sx, .string sy], .string t] w fun e w' => e = .returned (.bool true) ∧ Below w.heap.size w w' := by
  have S0 := Lib.hid (((St.start w).more (eSl HS) hE).new #[.int .i64 sm, .string sk, .string sl, .int .i64 sn, .string sx, .string sy] 25)
  clear hE
  go_enter Try.func4, Try.ntmps4
  go_wp2_with (refine wpList_loadg_st (by rfl) 25 _ rfl S0.out 0 _ _ rfl rfl _ Try.underlying25 rfl (by rfl) ?_)
  refine (pf _).out.mono ?_
  rintro e w1 ⟨rfl, hB⟩
  have S1 := Lib.hid (S0.out.on hB)
  clear hB S0
  clear pf
  obtain ⟨p0, hp0⟩ : ∃ p, p = w.heap.size := ⟨_, rfl⟩
  rw [← hp0] at S1 ⊢
  clear hp0
  go_wp2_with (refine wpList_loadg_st (by rfl) 25 _ rfl S1.out 0 _ _ rfl rfl _ Try.underlying25 rfl (by rfl) ?_)
  refine (K1 _ (S1.out.fact 0 rfl)).out.mono ?_
  rintro e w2 ⟨rfl, hB⟩
  have S2 := Lib.hid (S1.out.on hB)
  clear hB S1
  go_wp2_with (refine wpList_loadg_st (by rfl) 25 _ rfl S2.out 0 _ _ rfl rfl _ Try.underlying25 rfl (by rfl) ?_)
  refine (K2 _ (S2.out.fact 0 rfl)).out.mono ?_
  rintro e w3 ⟨rfl, hB⟩
  have S3 := Lib.hid (S2.out.on hB)
  clear hB S2
  clear K1 K2
  go_wp2_with (refine wpList_store_st rfl 25 _ _ rfl S3.out _ #[.int .i64 0, .string ⟨#[]⟩, .string ⟨#[]⟩, .int .i64 0, .string ⟨#[]⟩, .string ⟨#[]⟩] _ rfl rfl (by rfl) rfl (sl_one15 _ _ _ _ _ _) ?_; intro b1 w4 hp hS hBn; (try rw [← hp]); have S4 := Lib.hid hS; clear hS hp hBn)
  refine (Lib.hid (HC.out _ (S4.out.fact 0 rfl))).out.mono ?_
  rintro e w5 ⟨rfl, hB⟩
  have S5 := Lib.hid (S4.out.on hB)
  clear hB S4
  have q1 := fun W => run_eql_slots W 0 0 ⟨#[]⟩ ⟨#[]⟩ ⟨#[]⟩ ⟨#[]⟩
  go_wp2_with (refine wpList_loadg_st (by rfl) 25 _ rfl S5.out 0 _ _ rfl rfl _ Try.underlying25 rfl (by rfl) ?_)
  go_ret
  exact ⟨rfl, S5.out.below⟩

set_option maxHeartbeats 2000000 in
theorem slotsBack_a {E : World → Prop} (HS : Hid (SlotsK E)) (HC : Hid (SlottedK E)) (sm sn : Int) (sk sl sx sy : ByteArray) (t : ByteArray) (w : World) (hE : E w) (s1 u1 : ByteArray) (n1 m1 : Int) (xn : Int) (xx xy : ByteArray) (jm : wrap64 (m1 - 1) = n1) (ju : u1 = t)
    (pf : ∀ (W : World), Hid (Calls Try.prog 8 #[.agg #[.int .i64 sm, .string sk, .string sl, .int .i64 sn, .string sx, .string sy], .string t] W fun e w' => e = .returned (.bool false) ∧ Below W.heap.size W w'))
    (K1 : ∀ (W : World) (_h : E W), Hid (Calls Try.prog 9 #[.agg #[.int .i64 sm, .string sk, .string sl, .int .i64 sn, .string sx, .string sy]] W fun e w' => e = .returned (.tuple #[.string s1, .int .i64 n1, .int .i64 0]) ∧ Below W.heap.size W w'))
    (K2 : ∀ (W : World) (_h : E W), Hid (Calls Try.prog 11 #[.agg #[.int .i64 sm, .string sk, .string sl, .int .i64 sn, .string sx, .string sy], .string t, .int .i64 (-1)] W fun e w' => e = .returned (.tuple #[.agg #[.int .i64 sm, .string sk, .string sl, .int .i64 xn, .string xx, .string xy], .bool true, .int .i64 0]) ∧ Below W.heap.size W w'))
    (K3 : ∀ (W : World) (_h : E W), Hid (Calls Try.prog 9 #[.agg #[.int .i64 sm, .string sk, .string sl, .int .i64 xn, .string xx, .string xy]] W fun e w' => e = .returned (.tuple #[.string u1, .int .i64 m1, .int .i64 0]) ∧ Below W.heap.size W w')) :
    Calls Try.prog 4 #[.agg #[.int .i64 sm, .string sk, .string sl, .int .i64 sn, .string sx, .string sy], .string t] w fun e w' => e = .returned (.bool true) ∧ Below w.heap.size w w' := by
  have S0 := Lib.hid (((St.start w).more (eSl HS) hE).new #[.int .i64 sm, .string sk, .string sl, .int .i64 sn, .string sx, .string sy] 25)
  clear hE
  go_enter Try.func4, Try.ntmps4
  go_wp2_with (refine wpList_loadg_st (by rfl) 25 _ rfl S0.out 0 _ _ rfl rfl _ Try.underlying25 rfl (by rfl) ?_)
  refine (pf _).out.mono ?_
  rintro e w1 ⟨rfl, hB⟩
  have S1 := Lib.hid (S0.out.on hB)
  clear hB S0
  clear pf
  obtain ⟨p0, hp0⟩ : ∃ p, p = w.heap.size := ⟨_, rfl⟩
  rw [← hp0] at S1 ⊢
  clear hp0
  go_wp2_with (refine wpList_loadg_st (by rfl) 25 _ rfl S1.out 0 _ _ rfl rfl _ Try.underlying25 rfl (by rfl) ?_)
  refine (K1 _ (S1.out.fact 0 rfl)).out.mono ?_
  rintro e w2 ⟨rfl, hB⟩
  have S2 := Lib.hid (S1.out.on hB)
  clear hB S1
  go_wp2_with (refine wpList_loadg_st (by rfl) 25 _ rfl S2.out 0 _ _ rfl rfl _ Try.underlying25 rfl (by rfl) ?_)
  refine (K2 _ (S2.out.fact 0 rfl)).out.mono ?_
  rintro e w3 ⟨rfl, hB⟩
  have S3 := Lib.hid (S2.out.on hB)
  clear hB S2
  go_wp2_with (first
    | (refine wpList_store_st rfl 25 _ _ rfl S3.out _ #[.int .i64 sm, .string sk, .string sl, .int .i64 xn, .string xx, .string xy] _ rfl rfl (by rfl) rfl (sl_one15 _ _ _ _ _ _) ?_; intro b1 w4 hp hS hBn; (try rw [← hp]); have S4 := Lib.hid hS; clear hS hp hBn)
    | (refine wpList_loadg_st (by rfl) 25 _ rfl S4.out 0 _ _ rfl rfl _ Try.underlying25 rfl (by rfl) ?_))
  refine (K3 _ (S4.out.fact 0 rfl)).out.mono ?_
  rintro e w5 ⟨rfl, hB⟩
  have S5 := Lib.hid (S4.out.on hB)
  clear hB S4
  clear K1 K2 K3
  go_wp2_with fail
  refine (Lib.hid (HC.out _ (S5.out.fact 0 rfl))).out.mono ?_
  rintro e w6 ⟨rfl, hB⟩
  have S6 := Lib.hid (S5.out.on hB)
  clear hB S5
  have q1 := fun W => run_eql_fil W sm sk sl
  go_wp2_with (first
    | (refine wpList_loadm_st (by rfl) 23 _ rfl S6.out 0 _ _ rfl 0 rfl [.int .i64 sm, .string sk, .string sl] rfl _ Try.underlying23 rfl (by rfl) ?_)
    | (refine wpList_loadm_st (by rfl) 23 _ rfl S6.out 1 _ _ rfl 0 rfl [.int .i64 sm, .string sk, .string sl] rfl _ Try.underlying23 rfl (by rfl) ?_))
  go_ret
  exact ⟨rfl, S6.out.below⟩

set_option maxHeartbeats 2000000 in
theorem slotsBack_b {E : World → Prop} (HS : Hid (SlotsK E)) (HC : Hid (SlottedK E)) (sm sn : Int) (sk sl sx sy : ByteArray) (t : ByteArray) (w : World) (hE : E w) (s1 u1 : ByteArray) (n1 m1 : Int) (xm : Int) (xk xl : ByteArray) (hne : Hid (¬ (xm = sm ∧ xk.toList = sk.toList ∧ xl.toList = sl.toList))) (jm : wrap64 (m1 - 1) = n1) (ju : u1 = t)
    (pf : ∀ (W : World), Hid (Calls Try.prog 8 #[.agg #[.int .i64 sm, .string sk, .string sl, .int .i64 sn, .string sx, .string sy], .string t] W fun e w' => e = .returned (.bool false) ∧ Below W.heap.size W w'))
    (K1 : ∀ (W : World) (_h : E W), Hid (Calls Try.prog 9 #[.agg #[.int .i64 sm, .string sk, .string sl, .int .i64 sn, .string sx, .string sy]] W fun e w' => e = .returned (.tuple #[.string s1, .int .i64 n1, .int .i64 0]) ∧ Below W.heap.size W w'))
    (K2 : ∀ (W : World) (_h : E W), Hid (Calls Try.prog 11 #[.agg #[.int .i64 sm, .string sk, .string sl, .int .i64 sn, .string sx, .string sy], .string t, .int .i64 (-1)] W fun e w' => e = .returned (.tuple #[.agg #[.int .i64 xm, .string xk, .string xl, .int .i64 sn, .string sx, .string sy], .bool true, .int .i64 0]) ∧ Below W.heap.size W w'))
    (K3 : ∀ (W : World) (_h : E W), Hid (Calls Try.prog 9 #[.agg #[.int .i64 xm, .string xk, .string xl, .int .i64 sn, .string sx, .string sy]] W fun e w' => e = .returned (.tuple #[.string u1, .int .i64 m1, .int .i64 0]) ∧ Below W.heap.size W w')) :
    Calls Try.prog 4 #[.agg #[.int .i64 sm, .string sk, .string sl, .int .i64 sn, .string sx, .string sy], .string t] w fun e w' => e = .returned (.bool true) ∧ Below w.heap.size w w' := by
  have S0 := Lib.hid (((St.start w).more (eSl HS) hE).new #[.int .i64 sm, .string sk, .string sl, .int .i64 sn, .string sx, .string sy] 25)
  clear hE
  go_enter Try.func4, Try.ntmps4
  go_wp2_with (refine wpList_loadg_st (by rfl) 25 _ rfl S0.out 0 _ _ rfl rfl _ Try.underlying25 rfl (by rfl) ?_)
  refine (pf _).out.mono ?_
  rintro e w1 ⟨rfl, hB⟩
  have S1 := Lib.hid (S0.out.on hB)
  clear hB S0
  clear pf
  obtain ⟨p0, hp0⟩ : ∃ p, p = w.heap.size := ⟨_, rfl⟩
  rw [← hp0] at S1 ⊢
  clear hp0
  go_wp2_with (refine wpList_loadg_st (by rfl) 25 _ rfl S1.out 0 _ _ rfl rfl _ Try.underlying25 rfl (by rfl) ?_)
  refine (K1 _ (S1.out.fact 0 rfl)).out.mono ?_
  rintro e w2 ⟨rfl, hB⟩
  have S2 := Lib.hid (S1.out.on hB)
  clear hB S1
  go_wp2_with (refine wpList_loadg_st (by rfl) 25 _ rfl S2.out 0 _ _ rfl rfl _ Try.underlying25 rfl (by rfl) ?_)
  refine (K2 _ (S2.out.fact 0 rfl)).out.mono ?_
  rintro e w3 ⟨rfl, hB⟩
  have S3 := Lib.hid (S2.out.on hB)
  clear hB S2
  go_wp2_with (first
    | (refine wpList_store_st rfl 25 _ _ rfl S3.out _ #[.int .i64 xm, .string xk, .string xl, .int .i64 sn, .string sx, .string sy] _ rfl rfl (by rfl) rfl (sl_one15 _ _ _ _ _ _) ?_; intro b1 w4 hp hS hBn; (try rw [← hp]); have S4 := Lib.hid hS; clear hS hp hBn)
    | (refine wpList_loadg_st (by rfl) 25 _ rfl S4.out 0 _ _ rfl rfl _ Try.underlying25 rfl (by rfl) ?_))
  refine (K3 _ (S4.out.fact 0 rfl)).out.mono ?_
  rintro e w5 ⟨rfl, hB⟩
  have S5 := Lib.hid (S4.out.on hB)
  clear hB S4
  clear K1 K2 K3
  go_wp2_with fail
  refine (Lib.hid (HC.out _ (S5.out.fact 0 rfl))).out.mono ?_
  rintro e w6 ⟨rfl, hB⟩
  have S6 := Lib.hid (S5.out.on hB)
  clear hB S5
  have q1 := fun W => run_ne_fil W xm sm xk xl sk sl hne.out
  have q2 := fun W => run_eql_fil W sn sx sy
  go_wp2_with (first
    | (refine wpList_loadm_st (by rfl) 23 _ rfl S6.out 0 _ _ rfl 0 rfl [.int .i64 xm, .string xk, .string xl] rfl _ Try.underlying23 rfl (by rfl) ?_)
    | (refine wpList_loadm_st (by rfl) 23 _ rfl S6.out 1 _ _ rfl 0 rfl [.int .i64 sm, .string sk, .string sl] rfl _ Try.underlying23 rfl (by rfl) ?_)
    | (refine wpList_loadm_st (by rfl) 23 _ rfl S6.out 0 _ _ rfl 3 rfl [.int .i64 sn, .string sx, .string sy] rfl _ Try.underlying23 rfl (by rfl) ?_)
    | (refine wpList_loadm_st (by rfl) 23 _ rfl S6.out 1 _ _ rfl 3 rfl [.int .i64 sn, .string sx, .string sy] rfl _ Try.underlying23 rfl (by rfl) ?_))
  go_ret
  exact ⟨rfl, S6.out.below⟩

theorem Sl.small_far {s : Slo} {t : ByteArray} (h : Sl.farB s t = false) : Sl.small s ∧ t.size ≤ 9000 := by
  obtain ⟨h1, h2, _⟩ := Sl.farB_no h
  exact ⟨⟨⟨by omega, by omega⟩, ⟨by omega, by omega⟩⟩, by omega⟩
theorem slotsBack_walk {E : World → Prop} (HS : Hid (SlotsK E)) (HC : Hid (SlottedK E)) (s : Slo) (t : ByteArray) (w : World) (hE : E w) :
    Calls Try.prog 4 #[.agg (Sl.v s), .string t] w fun e w' => e = .returned (.bool true) ∧ Below w.heap.size w w' := by
  have pf := fun W => Lib.hid (far15_any s t W)
  cases hf : Sl.farB s t
  case true => rw [hf] at pf; exact slotsBack_far HS s.a.most s.b.most s.a.kept s.a.loose s.b.kept s.b.loose t w hE pf
  rw [hf] at pf
  obtain ⟨hsm, ht⟩ := Sl.small_far hf
  have K1 := fun W (h : E W) => Lib.hid (HS.out.load s W h hsm)
  have K2 := fun W (h : E W) => Lib.hid (HS.out.save s t (-1) W h hsm ht)
  by_cases h : Sl.saveE s (bl t) = 0
  case neg =>
    rw [(Sl.save_no h).1, (Sl.save_no h).2] at K2
    exact slotsBack_no HS HC s.a.most s.b.most s.a.kept s.a.loose s.b.kept s.b.loose t w hE _ _ _ _ (by rw [bne_iff_ne]; exact h) pf K1 K2
  obtain ⟨hi, h2, h3, h4⟩ := Sl.saveE_zero.1 h
  have hb : Sl.badE s = 0 := by unfold Sl.badE; rw [if_pos hi]
  have hn : Sl.loadN s = (Sl.best s).2.1 := by unfold Sl.loadN; rw [if_pos hi]
  have hn2 := Sl.best_num s
  have hd : Sl.done s (bl t) (-1) = true := by rw [Sl.done_iff h]; decide
  obtain ⟨x1, x2, x3⟩ := Sl.save_load (d := -1) h (by decide)
  have x4 := Sl.save_side (d := -1) h (by decide)
  obtain ⟨x, hx⟩ : ∃ x, x = Sl.save s (bl t) (-1) := ⟨_, rfl⟩
  rw [← hx] at x1 x2 x3 x4 K2
  have hbx : Sl.badE x = 0 := by unfold Sl.badE; rw [if_pos x1]
  have K3 := fun W (h : E W) => Lib.hid (HS.out.load x W h (Sl.is_small x1))
  rw [x2, x3, hbx, strOf_bl] at K3
  rw [hb, hn] at K1
  rw [hd, h] at K2
  have jm : wrap64 ((Sl.best s).2.1 + 1 - 1) = (Sl.best s).2.1 := by unfold wrap64; omega
  by_cases hA : x.a = s.a
  · have ev : Sl.v x = #[.int .i64 s.a.most, .string s.a.kept, .string s.a.loose, .int .i64 x.b.most, .string x.b.kept, .string x.b.loose] := by unfold Sl.v; rw [hA]
    rw [ev] at K2 K3
    exact slotsBack_a HS HC s.a.most s.b.most s.a.kept s.a.loose s.b.kept s.b.loose t w hE _ _ _ _ _ _ _ jm rfl pf K1 K2 K3
  · have ev : Sl.v x = #[.int .i64 x.a.most, .string x.a.kept, .string x.a.loose, .int .i64 s.b.most, .string s.b.kept, .string s.b.loose] := by unfold Sl.v; rw [x4.resolve_left hA]
    rw [ev] at K2 K3
    refine slotsBack_b HS HC s.a.most s.b.most s.a.kept s.a.loose s.b.kept s.b.loose t w hE _ _ _ _ _ _ _ (Lib.hid ?_) jm rfl pf K1 K2 K3
    rintro ⟨g1, g2, g3⟩
    refine hA ?_
    have ea : x.a = ⟨x.a.most, x.a.kept, x.a.loose⟩ := rfl
    have eb : s.a = ⟨s.a.most, s.a.kept, s.a.loose⟩ := rfl
    rw [ea, eb, g1, ba_toList g2, ba_toList g3]
end Go.Proofs.Yteepemibmjpnfaa
