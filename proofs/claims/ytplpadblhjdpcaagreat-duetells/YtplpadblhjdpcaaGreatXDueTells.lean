/-
  Layer 9 (due): the law DueTells, over the contracts.
-/
import Derived.Test.YtplpadblhjdpcaaGreatXJa
import Derived.Test.YtplpadblhjdpcaaGreatXDueTellsK
import Derived.Test.YtplpadblhjdpcaaGreatXJc
namespace Go.Proofs.YtplpadblhjdpcaaGreat
set_option maxRecDepth 10000
open Go.RowKit

/-- A whole block is read, where a guard lets it. -/
theorem wpList_load_stG {ops : Array Oper} {rest : List Oper} {o : Oper} {a : Act} {w : World} {Q : Exit → Act → World → Prop} (hw : Region.wanted o (yielded ops a.tmps) = true) (ty : TypeId) (x : Operand) (ho : o.op = .load ty x)
    {w0 : World} {L : List (Nat × Array Value)} {M : List Fact} (hS : St w0 w L M) (i k : Nat) (cs : Array Value) (hi : L[i]? = some (k, cs)) (hx : a.eval x = .pointer (some ⟨k, 0, none⟩)) (d : TypeDesc)
    (hu : Tryz.prog.underlying ty = some d) (hd : (match d with | .struct _ | .array _ _ => true | _ => false) = true) (hz : (Tryz.prog.info? ty).map (·.size) = some cs.size)
    (h : wpList Tryz.prog ops Q rest (a.put o.dst (.agg cs)) w) : wpList Tryz.prog ops Q (o :: rest) a w := by
  have hr := exec_load_st8 ty x ho hS i k cs hi hx d hu hd hz
  refine wpList_step fun K hK => ?_
  rw [if_pos hw]
  unfold Oper.wp
  rw [hr]
  exact hK _ _ h
theorem run_eql_same9 (x0 x1 x2 x3 x4 x5 : Int) (w : World) :
    (binOp .eql 38 (.agg #[.int .i64 x0, .int .i64 x1, .int .i64 x2, .int .i64 x3, .int .i64 x4, .int .i64 x5]) (.agg #[.int .i64 x0, .int .i64 x1, .int .i64 x2, .int .i64 x3, .int .i64 x4, .int .i64 x5])).run Tryz.prog w = .ok (.bool true) w := by
  go_simp

theorem dueTells_far (m n : Int) (A : Option Addr) (l c : Nat) (ls : List Alm) (b ch t : Int) (B : Option Addr) (k d : Nat) (ts : List Trn) (w : World) (hA : AlmsAt w w.heap.size A ls) (hB0 : TrnsAt w w.heap.size B ts) (hf : 60 < l) :
    Calls Tryz.prog 3 #[.agg #[.int .i64 m, .int .i64 n, .slice A l c], .agg #[.int .i64 b, .int .i64 ch], .int .i64 t, .slice B k d] w fun e w' => e = .returned (.bool true) ∧ Below w.heap.size w w' := by
  have HS0 := Lib.hid ((((St.start w).more (rowF A ls) hA).more (turnF B ts) hB0).box2 #[.int .i64 m, .int .i64 n, .slice A l c] #[.int .i64 b, .int .i64 ch] 24 26)
  have HF := fun W => far9_v m n A l c true (by simp; omega) W
  clear hA hB0 hf
  go_enter Tryz.func3, Tryz.ntmps3
  go_wp2_with fail
  refine (HF _).mono ?_
  rintro e w1 ⟨rfl, hB⟩
  have HS := Lib.hid (HS0.out.on hB)
  clear hB HS0 HF
  obtain ⟨p2, hp2⟩ : ∃ p, p = w.heap.size + 1 := ⟨_, rfl⟩
  rw [← hp2] at HS ⊢
  clear hp2
  obtain ⟨p1, hp1⟩ : ∃ p, p = w.heap.size := ⟨_, rfl⟩
  rw [← hp1] at HS ⊢
  clear hp1
  go_wp2
  go_ret
  exact ⟨rfl, HS.out.below⟩
theorem dueTells_long (m n : Int) (A : Option Addr) (l c : Nat) (ls : List Alm) (b ch t : Int) (B : Option Addr) (k d : Nat) (ts : List Trn) (w : World) (hA : AlmsAt w w.heap.size A ls) (hB0 : TrnsAt w w.heap.size B ts) (hf : l ≤ 60) (hk : 60 < k) :
    Calls Tryz.prog 3 #[.agg #[.int .i64 m, .int .i64 n, .slice A l c], .agg #[.int .i64 b, .int .i64 ch], .int .i64 t, .slice B k d] w fun e w' => e = .returned (.bool true) ∧ Below w.heap.size w w' := by
  have HS0 := Lib.hid ((((St.start w).more (rowF A ls) hA).more (turnF B ts) hB0).box2 #[.int .i64 m, .int .i64 n, .slice A l c] #[.int .i64 b, .int .i64 ch] 24 26)
  have HF := fun W => far9_v m n A l c false (by simp; omega) W
  have ik : ((60 : Int) < (k : Int)) = True := eq_true (by omega)
  clear hA hB0 hf hk
  go_enter Tryz.func3, Tryz.ntmps3
  go_wp2_with fail
  refine (HF _).mono ?_
  rintro e w1 ⟨rfl, hB⟩
  have HS := Lib.hid (HS0.out.on hB)
  clear hB HS0 HF
  obtain ⟨p2, hp2⟩ : ∃ p, p = w.heap.size + 1 := ⟨_, rfl⟩
  rw [← hp2] at HS ⊢
  clear hp2
  obtain ⟨p1, hp1⟩ : ∃ p, p = w.heap.size := ⟨_, rfl⟩
  rw [← hp1] at HS ⊢
  clear hp1
  go_wp2
  go_ret
  exact ⟨rfl, HS.out.below⟩

set_option maxHeartbeats 8000000 in
theorem dueTells_ok (HD : Hid DueK) (HR : Hid RefK9) (HT : Hid TSameK) (HE : Hid SameK) (HC : Hid ComingK) (m n : Int) (A : Option Addr) (l c : Nat) (ls : List Alm) (b ch t : Int) (B : Option Addr) (k d : Nat) (ts : List Trn) (w : World) (hl : l = ls.length) (hk : k = ts.length) (hA : AlmsAt w w.heap.size A ls) (h0 : A = none → c = 0) (hB0 : TrnsAt w w.heap.size B ts) (h1 : B = none → d = 0) (hf : l ≤ 60) (hf2 : k ≤ 60) :
    Calls Tryz.prog 3 #[.agg #[.int .i64 m, .int .i64 n, .slice A l c], .agg #[.int .i64 b, .int .i64 ch], .int .i64 t, .slice B k d] w fun e w' => e = .returned (.bool true) ∧ Below w.heap.size w w' := by
  obtain ⟨T, hT⟩ : ∃ T, T = Du.turns m n ls t := ⟨_, rfl⟩
  obtain ⟨q, hq⟩ : ∃ q, q = T.length := ⟨_, rfl⟩
  have Hq2 : q ≤ 1000 := by
    rw [hq, hT]; unfold Du.turns
    split
    · rw [Du.order_len]; have := Du.turnsL_len t ls; omega
    · exact Nat.zero_le _
  obtain ⟨er, her⟩ : ∃ e, e = Du.turnsE m n ls t := ⟨_, rfl⟩
  obtain ⟨O, hO⟩ : ∃ O, O = Du.order ts := ⟨_, rfl⟩
  have hkO : k = O.length := by rw [hO, Du.order_len]; exact hk
  obtain ⟨ap, hap⟩ : ∃ p, p = Du.atP b ch t ls := ⟨_, rfl⟩
  obtain ⟨hs, hhs⟩ : ∃ p, p = Bd.has b ch ls := ⟨_, rfl⟩
  obtain ⟨fb, hfb⟩ : ∃ p, p = Du.firstB ls := ⟨_, rfl⟩
  obtain ⟨fa, hfa⟩ : ∃ p, p = Du.firstA ls := ⟨_, rfl⟩
  have U1 := fun (W : World) (A2 : Option Addr) (c2 : Nat) (h : AlmsAt W W.heap.size A2 ls) (hn : A2 = none → c2 = 0) => Lib.hid (by have k := HD.out.turns m n A2 l c2 ls t q W ⟨hl, h, hn, by omega⟩ (by rw [hq, hT]); rw [← hT, ← her] at k; exact k)
  have U2 := fun (W : World) (A2 : Option Addr) (c2 : Nat) (h : AlmsAt W W.heap.size A2 ls) (hn : A2 = none → c2 = 0) => Lib.hid (by have k := HR.out.turns m n A2 l c2 ls t q W ⟨hl, h, hn, by omega⟩ (by rw [hq, hT]); rw [← hT, ← her] at k; exact k)
  have N1 := fun (W : World) (A2 : Option Addr) (c2 : Nat) (h : AlmsAt W W.heap.size A2 ls) (hn : A2 = none → c2 = 0) => Lib.hid (by have k := HD.out.next m n A2 l c2 ls W ⟨hl, h, hn, by omega⟩; rw [← hfa, ← hfb] at k; exact k)
  have N2 := fun (W : World) (A2 : Option Addr) (c2 : Nat) (h : AlmsAt W W.heap.size A2 ls) (hn : A2 = none → c2 = 0) => Lib.hid (by have k := HR.out.next m n A2 l c2 ls W ⟨hl, h, hn, by omega⟩; rw [← hfa, ← hfb] at k; exact k)
  have P1 := fun (W : World) (A2 : Option Addr) (c2 : Nat) (h : AlmsAt W W.heap.size A2 ls) (hn : A2 = none → c2 = 0) => Lib.hid (by have k := HD.out.at' m n A2 l c2 ls b ch t W ⟨hl, h, hn, by omega⟩; rw [← hap, ← hhs] at k; exact k)
  have P2 := fun (W : World) (A2 : Option Addr) (c2 : Nat) (h : AlmsAt W W.heap.size A2 ls) (hn : A2 = none → c2 = 0) => Lib.hid (by have k := HR.out.at' m n A2 l c2 ls b ch t W ⟨hl, h, hn, by omega⟩; rw [← hap, ← hhs] at k; exact k)
  have F1 := fun (W : World) (A2 : Option Addr) (c2 : Nat) (h : AlmsAt W W.heap.size A2 ls) (hn : A2 = none → c2 = 0) => Lib.hid (by have k := HD.out.first A2 l c2 ls W ⟨hl, h, hn, by omega⟩; rw [← hfa, ← hfb] at k; exact k)
  have F2 := fun (W : World) (A2 : Option Addr) (c2 : Nat) (h : AlmsAt W W.heap.size A2 ls) (hn : A2 = none → c2 = 0) => Lib.hid (by have k := HR.out.first A2 l c2 ls W ⟨hl, h, hn, by omega⟩; rw [← hfa, ← hfb] at k; exact k)
  have GO := fun (W : World) (h : AlmsAt W W.heap.size A ls) => Lib.hid (HR.out.ownB m n A l c ls W ⟨hl, h, h0, by omega⟩)
  have GT := fun (W : World) (h : TrnsAt W W.heap.size B ts) => Lib.hid (HR.out.ownT B k d ts W hk h h1 (by omega))
  have O1 := fun (W : World) (h : TrnsAt W W.heap.size B ts) => Lib.hid (by have z := HD.out.order B k d ts W hk h h1 (by omega); rw [← hO] at z; exact z)
  have O2 := fun (W : World) (A2 : Option Addr) (c2 : Nat) (h : TrnsAt W W.heap.size A2 ts) (hn : A2 = none → c2 = 0) => Lib.hid (by have z := HR.out.order A2 k c2 ts W hk h hn (by omega); rw [← hO] at z; exact z)
  have S1 := fun (W : World) (A2 A3 : Option Addr) (c2 c3 : Nat) (h : TrnsAt W W.heap.size A2 T) (h' : TrnsAt W W.heap.size A3 T) => Lib.hid (HT.out A2 A3 q c2 c3 T W hq h h' Hq2)
  have S2 := fun (W : World) (A2 A3 : Option Addr) (c2 c3 : Nat) (h : TrnsAt W W.heap.size A2 O) (h' : TrnsAt W W.heap.size A3 O) => Lib.hid (HT.out A2 A3 k c2 c3 O W hkO h h' (by omega))
  have S3 := fun (W : World) (A3 : Option Addr) (c3 : Nat) (h : TrnsAt W W.heap.size B ts) (h' : TrnsAt W W.heap.size A3 ts) => Lib.hid (HT.out B A3 k d c3 ts W hk h h' (by omega))
  have E1 := fun (W : World) (A3 : Option Addr) (c3 : Nat) (h : AlmsAt W W.heap.size A ls) (h' : AlmsAt W W.heap.size A3 ls) => Lib.hid (HE.out m n A A3 l c c3 ls W hl h h' (by omega))
  obtain ⟨x0, x1, x2, x3, x4, x5⟩ := fa
  dsimp only [sixV] at N1 N2 F1 F2
  have NA := Lib.hid h0
  have NB := Lib.hid h1
  clear hT hq her hO hkO hap hhs hfb hfa Hq2 hl hk h0 h1
  have HS0 := Lib.hid ((((St.start w).more (rowF A ls) hA).more (turnF B ts) hB0).box2 #[.int .i64 m, .int .i64 n, .slice A l c] #[.int .i64 b, .int .i64 ch] 24 26)
  have HF := fun W => far9_v m n A l c false (by simp; omega) W
  have ik : ((60 : Int) < (k : Int)) = False := eq_false (by omega)
  clear hA hB0 hf hf2
  go_enter Tryz.func3, Tryz.ntmps3
  go_wp2_with fail
  refine (HF _).mono ?_
  rintro e w1 ⟨rfl, hB⟩
  have HS := Lib.hid (HS0.out.on hB)
  clear hB HS0 HF
  obtain ⟨p2, hp2⟩ : ∃ p, p = w.heap.size + 1 := ⟨_, rfl⟩
  rw [← hp2] at HS ⊢
  clear hp2
  obtain ⟨p1, hp1⟩ : ∃ p, p = w.heap.size := ⟨_, rfl⟩
  rw [← hp1] at HS ⊢
  clear hp1
  go_wp2_with (first
    | (refine wpList_load_st rfl 24 _ rfl HS.out 1 _ _ rfl rfl _ Tryz.underlying24 rfl (by rfl) ?_))
  refine ((GO _ (HS.out.fact 1 rfl)).out).mono ?_
  rintro e w2 ⟨A9, c9, rfl, hO, hB⟩
  replace HS := Lib.hid ((HS.out.on hB).more (rowF A9 ls) hO.alms.1)
  have N9 := Lib.hid hO.alms.2
  clear hO hB GO
  go_wp2_with (first
    | (refine wpList_store_st rfl 24 _ _ rfl HS.out _ #[.int .i64 m, .int .i64 n, .slice A9 l c9] _ rfl rfl (by rfl) rfl (bd_one m n A9 l c9) ?_; intro p9 v9 hp hS hBn; (try rw [← hp]); clear HS; have HS := Lib.hid hS; clear hS hp hBn))
  refine ((GT _ (HS.out.fact 1 rfl)).out).mono ?_
  rintro e w3 ⟨B9, d9, rfl, hO, hB⟩
  replace HS := Lib.hid ((HS.out.on hB).more (turnF B9 ts) hO.rows.1)
  have M9 := Lib.hid hO.rows.2
  clear hO hB GT
  go_wp2_with (first
    | (refine wpList_load_st rfl 24 _ rfl HS.out 2 _ _ rfl rfl _ Tryz.underlying24 rfl (by rfl) ?_))
  refine ((U1 _ A c (HS.out.fact 3 rfl) NA.out).out).mono ?_
  rintro e w4 ⟨A4, c4, rfl, hO, hB⟩
  replace HS := Lib.hid ((HS.out.on hB).more (turnF A4 T) hO.rows.1)
  clear hO hB U1
  go_wp2_with (first
    | (refine wpList_load_st rfl 24 _ rfl HS.out 0 _ _ rfl rfl _ Tryz.underlying24 rfl (by rfl) ?_))
  refine ((U2 _ A9 c9 (HS.out.fact 2 rfl) N9.out).out).mono ?_
  rintro e w5 ⟨A5, c5, rfl, hO, hB⟩
  replace HS := Lib.hid ((HS.out.on hB).more (turnF A5 T) hO.rows.1)
  clear hO hB U2
  go_wp2_with (first
    | (refine wpList_load_st rfl 24 _ rfl HS.out 2 _ _ rfl rfl _ Tryz.underlying24 rfl (by rfl) ?_))
  refine ((N1 _ A c (HS.out.fact 5 rfl) NA.out).out).mono ?_
  rintro e w6 ⟨rfl, hB⟩
  replace HS := Lib.hid (HS.out.on hB)
  clear hB N1
  go_wp2_with (first
    | (refine wpList_load_st rfl 24 _ rfl HS.out 0 _ _ rfl rfl _ Tryz.underlying24 rfl (by rfl) ?_))
  refine ((N2 _ A9 c9 (HS.out.fact 3 rfl) N9.out).out).mono ?_
  rintro e w7 ⟨rfl, hB⟩
  replace HS := Lib.hid (HS.out.on hB)
  clear hB N2
  go_wp2_with (first
    | (refine wpList_load_st rfl 24 _ rfl HS.out 2 _ _ rfl rfl _ Tryz.underlying24 rfl (by rfl) ?_)
    | (refine wpList_load_st rfl 26 _ rfl HS.out 1 _ _ rfl rfl _ Tryz.underlying26 rfl (by rfl) ?_))
  refine ((P1 _ A c (HS.out.fact 5 rfl) NA.out).out).mono ?_
  rintro e w8 ⟨rfl, hB⟩
  replace HS := Lib.hid (HS.out.on hB)
  clear hB P1
  go_wp2_with (first
    | (refine wpList_load_st rfl 24 _ rfl HS.out 0 _ _ rfl rfl _ Tryz.underlying24 rfl (by rfl) ?_)
    | (refine wpList_load_st rfl 26 _ rfl HS.out 1 _ _ rfl rfl _ Tryz.underlying26 rfl (by rfl) ?_))
  refine ((P2 _ A9 c9 (HS.out.fact 3 rfl) N9.out).out).mono ?_
  rintro e w10 ⟨rfl, hB⟩
  replace HS := Lib.hid (HS.out.on hB)
  clear hB P2
  have s2 := HS.out.cell 2 rfl 2 rfl
  go_wp2_with fail
  refine ((F1 _ A c (HS.out.fact 5 rfl) NA.out).out).mono ?_
  rintro e w11 ⟨rfl, hB⟩
  replace HS := Lib.hid (HS.out.on hB)
  clear hB F1 s2
  go_wp2_with (first
    | (refine wpList_store_st rfl 38 _ _ rfl HS.out _ #[.int .i64 x0, .int .i64 x1, .int .i64 x2, .int .i64 x3, .int .i64 x4, .int .i64 x5] _ rfl rfl (by rfl) rfl (six_one ⟨x0, x1, x2, x3, x4, x5⟩) ?_; intro p23 v23 hp hS hBn; (try rw [← hp]); clear HS; have HS := Lib.hid hS; clear hS hp hBn; have s2 := HS.out.cell 1 rfl 2 rfl))
  refine ((F2 _ A9 c9 (HS.out.fact 3 rfl) N9.out).out).mono ?_
  rintro e w12 ⟨rfl, hB⟩
  replace HS := Lib.hid (HS.out.on hB)
  clear hB F2 s2
  go_wp2_with (first
    | (refine wpList_store_st rfl 38 _ _ rfl HS.out _ #[.int .i64 x0, .int .i64 x1, .int .i64 x2, .int .i64 x3, .int .i64 x4, .int .i64 x5] _ rfl rfl (by rfl) rfl (six_one ⟨x0, x1, x2, x3, x4, x5⟩) ?_; intro p25 v25 hp hS hBn; (try rw [← hp]); clear HS; have HS := Lib.hid hS; clear hS hp hBn))
  refine ((S1 _ A4 A5 c4 c5 (HS.out.fact 1 rfl) (HS.out.fact 0 rfl)).out).mono ?_
  rintro e w13 ⟨rfl, hB⟩
  replace HS := Lib.hid (HS.out.on hB)
  clear hB S1
  have e1 : (er == er) = true := beq_self_eq_true er
  have e2 : (x5 == x5) = true := beq_self_eq_true x5
  have e3 : (fb == fb) = true := beq_self_eq_true fb
  have e4 : (ap == ap) = true := beq_self_eq_true ap
  have e5 : (hs == hs) = true := beq_self_eq_true hs
  have e6 := fun W => run_eql_same9 x0 x1 x2 x3 x4 x5 W
  go_wp2_with (first
    | (refine wpList_load_stG (by rfl) 38 _ rfl HS.out 1 _ _ rfl rfl _ Tryz.underlying38 rfl (by rfl) ?_)
    | (refine wpList_load_stG (by rfl) 38 _ rfl HS.out 0 _ _ rfl rfl _ Tryz.underlying38 rfl (by rfl) ?_))
  refine (HC.out _).mono ?_
  rintro e w14 ⟨rfl, hB⟩
  replace HS := Lib.hid (HS.out.on hB)
  clear hB e1 e2 e3 e4 e5 e6
  go_wp2_with fail
  refine ((O1 _ (HS.out.fact 4 rfl)).out).mono ?_
  rintro e w15 ⟨A6, c6, rfl, hO, hB⟩
  replace HS := Lib.hid ((HS.out.on hB).more (turnF A6 O) hO.rows.1)
  clear hO hB O1
  go_wp2_with fail
  refine ((O2 _ B9 d9 (HS.out.fact 3 rfl) M9.out).out).mono ?_
  rintro e w16 ⟨A7, c7, rfl, hO, hB⟩
  replace HS := Lib.hid ((HS.out.on hB).more (turnF A7 O) hO.rows.1)
  clear hO hB O2
  go_wp2_with fail
  refine ((S2 _ A6 A7 c6 c7 (HS.out.fact 1 rfl) (HS.out.fact 0 rfl)).out).mono ?_
  rintro e w17 ⟨rfl, hB⟩
  replace HS := Lib.hid (HS.out.on hB)
  clear hB S2
  go_wp2_with (first
    | (refine wpList_load_stG (by rfl) 24 _ rfl HS.out 4 _ _ rfl rfl _ Tryz.underlying24 rfl (by rfl) ?_)
    | (refine wpList_load_stG (by rfl) 24 _ rfl HS.out 2 _ _ rfl rfl _ Tryz.underlying24 rfl (by rfl) ?_))
  refine ((E1 _ A9 c9 (HS.out.fact 7 rfl) (HS.out.fact 5 rfl)).out).mono ?_
  rintro e w18 ⟨rfl, hB⟩
  replace HS := Lib.hid (HS.out.on hB)
  clear hB E1
  go_wp2_with fail
  refine ((S3 _ B9 d9 (HS.out.fact 6 rfl) (HS.out.fact 4 rfl)).out).mono ?_
  rintro e w19 ⟨rfl, hB⟩
  replace HS := Lib.hid (HS.out.on hB)
  clear hB S3
  go_wp2
  go_ret
  exact ⟨rfl, HS.out.below⟩
theorem dueTells_walk (HD : Hid DueK) (HR : Hid RefK9) (HT : Hid TSameK) (HE : Hid SameK) (HC : Hid ComingK) (m n : Int) (A : Option Addr) (c : Nat) (ls : List Alm) (b ch t : Int) (B : Option Addr) (d : Nat) (ts : List Trn) (w : World) (hA : AlmsAt w w.heap.size A ls) (hB0 : TrnsAt w w.heap.size B ts) (h0 : A = none → c = 0) (h1 : B = none → d = 0) :
    Calls Tryz.prog 3 #[.agg #[.int .i64 m, .int .i64 n, .slice A ls.length c], .agg #[.int .i64 b, .int .i64 ch], .int .i64 t, .slice B ts.length d] w fun e w' => e = .returned (.bool true) ∧ Below w.heap.size w w' := by
  by_cases hf : 60 < ls.length
  · exact dueTells_far m n A ls.length c ls b ch t B ts.length d ts w hA hB0 hf
  by_cases hk : 60 < ts.length
  · exact dueTells_long m n A ls.length c ls b ch t B ts.length d ts w hA hB0 (by omega) hk
  exact dueTells_ok HD HR HT HE HC m n A ls.length c ls b ch t B ts.length d ts w rfl rfl hA h0 hB0 h1 (by omega) (by omega)
end Go.Proofs.YtplpadblhjdpcaaGreat
