/-
  Layer 12 (file): the law FileDoes, over the structure (printed by tools/gen-filedoes.py).
-/
import Derived.Test.YtdhklggbmlkloaaFileFar
import Derived.Test.YtdhklggbmlkloaaFileTwice
import Derived.Test.YtdhklggbmlkloaaRefFile3
import Derived.Test.YtdhklggbmlkloaaRefFile4
import Derived.Test.YtdhklggbmlkloaaRefFile5
import Derived.Test.YtdhklggbmlkloaaRefTexts
namespace Go.Proofs.Ytdhklggbmlkloaa
set_option maxRecDepth 10000
open Go.RowKit

theorem fileDoes_big (m : Int) (k l : ByteArray) (A : Option Addr) (N cap : Nat) (n : Int) (w : World) (hb : decide (2000 < k.size ∨ 2000 < l.size) = true) : Calls Try.prog 3 #[.agg #[.int .i64 m, .string k, .string l], .slice A N cap, .int .i64 n] w fun e w' => e = .returned (.bool true) ∧ Below w.heap.size w w' := by
  have p1 := fun W => FRBig_any m k l W
  rw [hb] at p1
  clear hb
  go_enter Try.func3, Try.ntmps3
  go_wp2_with fail
  refine (p1 _).mono ?_
  rintro e w1 ⟨rfl, hB⟩
  have Hb := Lib.hid (below2 (below_new w _) hB)
  clear hB p1
  go_wp2
  go_ret
  exact ⟨rfl, Hb.out⟩
theorem fileDoes_far (m : Int) (k l : ByteArray) (A : Option Addr) (N cap : Nat) (n : Int) (ss : List ByteArray) (w : World) (hb : decide (2000 < k.size ∨ 2000 < l.size) = false) (hA : StrsAt w w.heap.size A ss)
    (pf : ∀ W, StrsAt W W.heap.size A ss → Hid (Calls Try.prog 9 #[.slice A N cap] W fun e w' => e = .returned (.bool true) ∧ Below W.heap.size W w')) : Calls Try.prog 3 #[.agg #[.int .i64 m, .string k, .string l], .slice A N cap, .int .i64 n] w fun e w' => e = .returned (.bool true) ∧ Below w.heap.size w w' := by
  have p1 := fun W => FRBig_any m k l W
  rw [hb] at p1
  have HA := Lib.hid hA
  clear hb hA
  go_enter Try.func3, Try.ntmps3
  go_wp2_with fail
  refine (p1 _).mono ?_
  rintro e w1 ⟨rfl, hB⟩
  have Hb := Lib.hid (below2 (below_new w _) hB)
  clear hB p1
  go_wp2_with fail
  refine (pf _ ((HA.out.below Hb.out (Nat.le_refl _)).more Hb.out.size)).out.mono ?_
  rintro e w2 ⟨rfl, hB⟩
  have Hb2 := Lib.hid (below2 Hb.out hB)
  clear hB pf
  go_wp2
  go_ret
  exact ⟨rfl, Hb2.out⟩

set_option maxHeartbeats 4000000 in
theorem fileDoes_go {E : World → Prop} (HS : Hid (FileK E)) (HC : Hid (FiledK E)) (m : Int) (k l : ByteArray) (A : Option Addr) (N cap : Nat) (n : Int) (ss : List ByteArray) (w : World) (hE : E w) (hb : decide (2000 < k.size ∨ 2000 < l.size) = false) (hA : StrsAt w w.heap.size A ss) (am cm xm um pm : Int) (ak al ck cl xk xl uk ul pk pl : ByteArray) (ae ce xe ue pe : Int) (bi : Bool) (r : ByteArray)
    (KA : ∀ (W : World) (_h : E W) (_hA : StrsAt W W.heap.size A ss), Hid (Calls Try.prog 11 #[.agg #[.int .i64 m, .string k, .string l], .slice A N cap] W fun e w' => e = .returned (.tuple #[.agg #[.int .i64 am, .string ak, .string al], .int .i64 ae]) ∧ Below W.heap.size W w'))
    (RA : ∀ (W : World) (A2 : Option Addr) (c2 : Nat) (_hA : StrsAt W W.heap.size A2 ss), Hid (Calls Try.prog 12 #[.agg #[.int .i64 m, .string k, .string l], .slice A2 N c2] W fun e w' => e = .returned (.tuple #[.agg #[.int .i64 am, .string ak, .string al], .int .i64 ae]) ∧ Below W.heap.size W w'))
    (KC : ∀ (W : World) (_h : E W), Hid (Calls Try.prog 13 #[.agg #[.int .i64 m, .string k, .string l]] W fun e w' => e = .returned (.tuple #[.agg #[.int .i64 cm, .string ck, .string cl], .int .i64 ce]) ∧ Below W.heap.size W w'))
    (RC : ∀ (W : World) , Hid (Calls Try.prog 14 #[.agg #[.int .i64 m, .string k, .string l]] W fun e w' => e = .returned (.tuple #[.agg #[.int .i64 cm, .string ck, .string cl], .int .i64 ce]) ∧ Below W.heap.size W w'))
    (KX : ∀ (W : World) (_h : E W), Hid (Calls Try.prog 15 #[.agg #[.int .i64 m, .string k, .string l], .int .i64 n] W fun e w' => e = .returned (.tuple #[.agg #[.int .i64 xm, .string xk, .string xl], .int .i64 xe]) ∧ Below W.heap.size W w'))
    (RX : ∀ (W : World) , Hid (Calls Try.prog 16 #[.agg #[.int .i64 m, .string k, .string l], .int .i64 n] W fun e w' => e = .returned (.tuple #[.agg #[.int .i64 xm, .string xk, .string xl], .int .i64 xe]) ∧ Below W.heap.size W w'))
    (KU : ∀ (W : World) (_h : E W), Hid (Calls Try.prog 17 #[.agg #[.int .i64 m, .string k, .string l], .int .i64 n] W fun e w' => e = .returned (.tuple #[.agg #[.int .i64 um, .string uk, .string ul], .int .i64 ue]) ∧ Below W.heap.size W w'))
    (RU : ∀ (W : World) , Hid (Calls Try.prog 18 #[.agg #[.int .i64 m, .string k, .string l], .int .i64 n] W fun e w' => e = .returned (.tuple #[.agg #[.int .i64 um, .string uk, .string ul], .int .i64 ue]) ∧ Below W.heap.size W w'))
    (KP : ∀ (W : World) (_h : E W), Hid (Calls Try.prog 19 #[.int .i64 n] W fun e w' => e = .returned (.tuple #[.agg #[.int .i64 pm, .string pk, .string pl], .int .i64 pe]) ∧ Below W.heap.size W w'))
    (RP : ∀ (W : World) , Hid (Calls Try.prog 20 #[.int .i64 n] W fun e w' => e = .returned (.tuple #[.agg #[.int .i64 pm, .string pk, .string pl], .int .i64 pe]) ∧ Below W.heap.size W w'))
    (KI : ∀ (W : World) (_h : E W), Hid (Calls Try.prog 22 #[.agg #[.int .i64 m, .string k, .string l]] W fun e w' => e = .returned (.bool bi) ∧ Below W.heap.size W w'))
    (RI : ∀ (W : World) , Hid (Calls Try.prog 23 #[.agg #[.int .i64 m, .string k, .string l]] W fun e w' => e = .returned (.bool bi) ∧ Below W.heap.size W w'))
    (KR : ∀ (W : World) (_h : E W), Hid (Calls Try.prog 24 #[.agg #[.int .i64 m, .string k, .string l]] W fun e w' => e = .returned (.string r) ∧ Below W.heap.size W w'))
    (RR : ∀ (W : World) , Hid (Calls Try.prog 25 #[.agg #[.int .i64 m, .string k, .string l]] W fun e w' => e = .returned (.string r) ∧ Below W.heap.size W w'))
    (KO : ∀ (W : World) (_hA : StrsAt W W.heap.size A ss), Hid (Calls Try.prog 10 #[.slice A N cap] W fun e w' => ∃ A2 c2, e = .returned (.slice A2 N c2) ∧ StrsAt w' w'.heap.size A2 ss ∧ Below W.heap.size W w'))
    (KT : ∀ (W : World) (A2 : Option Addr) (c2 : Nat) (_hA : StrsAt W W.heap.size A ss) (_hB : StrsAt W W.heap.size A2 ss), Hid (Calls Try.prog 26 #[.slice A N cap, .slice A2 N c2] W fun e w' => e = .returned (.bool true) ∧ Below W.heap.size W w'))
    (pf : ∀ (W : World) (_hA : StrsAt W W.heap.size A ss), Hid (Calls Try.prog 9 #[.slice A N cap] W fun e w' => e = .returned (.bool false) ∧ Below W.heap.size W w')) :
    Calls Try.prog 3 #[.agg #[.int .i64 m, .string k, .string l], .slice A N cap, .int .i64 n] w fun e w' => e = .returned (.bool true) ∧ Below w.heap.size w w' := by
  have p1 := fun W => Lib.hid (FRBig_any m k l W)
  rw [hb] at p1
  have S0 := Lib.hid ((((St.start w).more (strsF12 A w.heap.size ss) ⟨hA, Nat.le_refl _⟩).more (eFi HS) hE).new #[.int .i64 m, .string k, .string l] 23)
  clear hb hE hA
  go_enter Try.func3, Try.ntmps3
  go_wp2_with (refine wpList_load_st rfl 23 _ rfl S0.out 0 _ _ rfl rfl _ Try.underlying23 rfl (by rfl) ?_)
  refine (p1 _).out.mono ?_
  rintro e w1 ⟨rfl, hB⟩
  have S1 := Lib.hid (S0.out.on hB)
  clear hB S0
  clear p1
  obtain ⟨p0, hp0⟩ : ∃ p, p = w.heap.size := ⟨_, rfl⟩
  rw [← hp0] at S1 ⊢
  clear hp0
  go_wp2_with fail
  refine (pf w1 ((S1.out.fact 1 rfl).1.more (S1.out.fact 1 rfl).2)).out.mono ?_
  rintro e w2 ⟨rfl, hB⟩
  have S2 := Lib.hid (S1.out.on hB)
  clear hB S1
  go_wp2_with fail
  refine (KO w2 ((S2.out.fact 1 rfl).1.more (S2.out.fact 1 rfl).2)).out.mono ?_
  rintro e w3 ⟨A2, c2, rfl, hA2, hB⟩
  have S3 := Lib.hid ((S2.out.on hB).more (strsF12 A2 w3.heap.size ss) ⟨hA2, Nat.le_refl _⟩)
  clear hB hA2 S2 KO pf
  obtain ⟨B2, hB2⟩ : ∃ b, b = w3.heap.size := ⟨_, rfl⟩
  rw [← hB2] at S3
  clear hB2
  go_wp2_with (refine wpList_load_st rfl 23 _ rfl S3.out 0 _ _ rfl rfl _ Try.underlying23 rfl (by rfl) ?_)
  refine (KA w3 (S3.out.fact 1 rfl) ((S3.out.fact 2 rfl).1.more (S3.out.fact 2 rfl).2)).out.mono ?_
  rintro e w4 ⟨rfl, hB⟩
  have S4 := Lib.hid (S3.out.on hB)
  clear hB S3
  go_wp2_with (first
    | (refine wpList_store_st rfl 23 _ _ rfl S4.out _ #[.int .i64 am, .string ak, .string al] _ rfl rfl (by rfl) rfl (fil_one3 _ _ _) ?_; intro q1 w5 hp hS hBn; (try rw [← hp]); have S5 := Lib.hid hS; clear hS hp hBn)
    | (refine wpList_load_st rfl 23 _ rfl S5.out 1 _ _ rfl rfl _ Try.underlying23 rfl (by rfl) ?_))
  refine (RA w5 A2 c2 ((S5.out.fact 0 rfl).1.more (S5.out.fact 0 rfl).2)).out.mono ?_
  rintro e w6 ⟨rfl, hB⟩
  have S6 := Lib.hid (S5.out.on hB)
  clear hB S5
  go_wp2_with (first
    | (refine wpList_store_st rfl 23 _ _ rfl S6.out _ #[.int .i64 am, .string ak, .string al] _ rfl rfl (by rfl) rfl (fil_one3 _ _ _) ?_; intro q2 w7 hp hS hBn; (try rw [← hp]); have S7 := Lib.hid hS; clear hS hp hBn)
    | (refine wpList_load_st rfl 23 _ rfl S7.out 2 _ _ rfl rfl _ Try.underlying23 rfl (by rfl) ?_))
  refine (KC w7 (S7.out.fact 1 rfl)).out.mono ?_
  rintro e w8 ⟨rfl, hB⟩
  have S8 := Lib.hid (S7.out.on hB)
  clear hB S7
  go_wp2_with (first
    | (refine wpList_store_st rfl 23 _ _ rfl S8.out _ #[.int .i64 cm, .string ck, .string cl] _ rfl rfl (by rfl) rfl (fil_one3 _ _ _) ?_; intro q3 w9 hp hS hBn; (try rw [← hp]); have S9 := Lib.hid hS; clear hS hp hBn)
    | (refine wpList_load_st rfl 23 _ rfl S9.out 3 _ _ rfl rfl _ Try.underlying23 rfl (by rfl) ?_))
  refine (RC w9).out.mono ?_
  rintro e w10 ⟨rfl, hB⟩
  have S10 := Lib.hid (S9.out.on hB)
  clear hB S9
  go_wp2_with (first
    | (refine wpList_store_st rfl 23 _ _ rfl S10.out _ #[.int .i64 cm, .string ck, .string cl] _ rfl rfl (by rfl) rfl (fil_one3 _ _ _) ?_; intro q4 w11 hp hS hBn; (try rw [← hp]); have S11 := Lib.hid hS; clear hS hp hBn)
    | (refine wpList_load_st rfl 23 _ rfl S11.out 4 _ _ rfl rfl _ Try.underlying23 rfl (by rfl) ?_))
  refine (KX w11 (S11.out.fact 1 rfl)).out.mono ?_
  rintro e w12 ⟨rfl, hB⟩
  have S12 := Lib.hid (S11.out.on hB)
  clear hB S11
  go_wp2_with (first
    | (refine wpList_store_st rfl 23 _ _ rfl S12.out _ #[.int .i64 xm, .string xk, .string xl] _ rfl rfl (by rfl) rfl (fil_one3 _ _ _) ?_; intro q5 w13 hp hS hBn; (try rw [← hp]); have S13 := Lib.hid hS; clear hS hp hBn)
    | (refine wpList_load_st rfl 23 _ rfl S13.out 5 _ _ rfl rfl _ Try.underlying23 rfl (by rfl) ?_))
  refine (RX w13).out.mono ?_
  rintro e w14 ⟨rfl, hB⟩
  have S14 := Lib.hid (S13.out.on hB)
  clear hB S13
  go_wp2_with (first
    | (refine wpList_store_st rfl 23 _ _ rfl S14.out _ #[.int .i64 xm, .string xk, .string xl] _ rfl rfl (by rfl) rfl (fil_one3 _ _ _) ?_; intro q6 w15 hp hS hBn; (try rw [← hp]); have S15 := Lib.hid hS; clear hS hp hBn)
    | (refine wpList_load_st rfl 23 _ rfl S15.out 6 _ _ rfl rfl _ Try.underlying23 rfl (by rfl) ?_))
  refine (KU w15 (S15.out.fact 1 rfl)).out.mono ?_
  rintro e w16 ⟨rfl, hB⟩
  have S16 := Lib.hid (S15.out.on hB)
  clear hB S15
  go_wp2_with (first
    | (refine wpList_store_st rfl 23 _ _ rfl S16.out _ #[.int .i64 um, .string uk, .string ul] _ rfl rfl (by rfl) rfl (fil_one3 _ _ _) ?_; intro q7 w17 hp hS hBn; (try rw [← hp]); have S17 := Lib.hid hS; clear hS hp hBn)
    | (refine wpList_load_st rfl 23 _ rfl S17.out 7 _ _ rfl rfl _ Try.underlying23 rfl (by rfl) ?_))
  refine (RU w17).out.mono ?_
  rintro e w18 ⟨rfl, hB⟩
  have S18 := Lib.hid (S17.out.on hB)
  clear hB S17
  go_wp2_with (refine wpList_store_st rfl 23 _ _ rfl S18.out _ #[.int .i64 um, .string uk, .string ul] _ rfl rfl (by rfl) rfl (fil_one3 _ _ _) ?_; intro q8 w19 hp hS hBn; (try rw [← hp]); have S19 := Lib.hid hS; clear hS hp hBn)
  refine (KP w19 (S19.out.fact 1 rfl)).out.mono ?_
  rintro e w20 ⟨rfl, hB⟩
  have S20 := Lib.hid (S19.out.on hB)
  clear hB S19
  go_wp2_with (refine wpList_store_st rfl 23 _ _ rfl S20.out _ #[.int .i64 pm, .string pk, .string pl] _ rfl rfl (by rfl) rfl (fil_one3 _ _ _) ?_; intro q9 w21 hp hS hBn; (try rw [← hp]); have S21 := Lib.hid hS; clear hS hp hBn)
  refine (RP w21).out.mono ?_
  rintro e w22 ⟨rfl, hB⟩
  have S22 := Lib.hid (S21.out.on hB)
  clear hB S21
  clear KA RA KC RC KX RX KU RU KP RP
  have q1 := fun W a b c => run_eql_file W a b c
  go_upto_region 14 with (refine wpList_store_st rfl 23 _ _ rfl S22.out _ #[.int .i64 pm, .string pk, .string pl] _ rfl rfl (by rfl) rfl (fil_one3 _ _ _) ?_; intro q10 w23 hp hS hBn; (try rw [← hp]); have S23 := Lib.hid hS; clear hS hp hBn)
  clear S22
  have c00 := S23.out.cell 0 rfl 0 rfl
  have c01 := S23.out.cell 0 rfl 1 rfl
  have c02 := S23.out.cell 0 rfl 2 rfl
  have c10 := S23.out.cell 1 rfl 0 rfl
  have c11 := S23.out.cell 1 rfl 1 rfl
  have c12 := S23.out.cell 1 rfl 2 rfl
  have c20 := S23.out.cell 2 rfl 0 rfl
  have c21 := S23.out.cell 2 rfl 1 rfl
  have c22 := S23.out.cell 2 rfl 2 rfl
  have c30 := S23.out.cell 3 rfl 0 rfl
  have c31 := S23.out.cell 3 rfl 1 rfl
  have c32 := S23.out.cell 3 rfl 2 rfl
  have c40 := S23.out.cell 4 rfl 0 rfl
  have c41 := S23.out.cell 4 rfl 1 rfl
  have c42 := S23.out.cell 4 rfl 2 rfl
  have c50 := S23.out.cell 5 rfl 0 rfl
  have c51 := S23.out.cell 5 rfl 1 rfl
  have c52 := S23.out.cell 5 rfl 2 rfl
  have c60 := S23.out.cell 6 rfl 0 rfl
  have c61 := S23.out.cell 6 rfl 1 rfl
  have c62 := S23.out.cell 6 rfl 2 rfl
  have c70 := S23.out.cell 7 rfl 0 rfl
  have c71 := S23.out.cell 7 rfl 1 rfl
  have c72 := S23.out.cell 7 rfl 2 rfl
  have c80 := S23.out.cell 8 rfl 0 rfl
  have c81 := S23.out.cell 8 rfl 1 rfl
  have c82 := S23.out.cell 8 rfl 2 rfl
  have c90 := S23.out.cell 9 rfl 0 rfl
  have c91 := S23.out.cell 9 rfl 1 rfl
  have c92 := S23.out.cell 9 rfl 2 rfl
  go_wp2_with fail
  clear q1 c00 c01 c02 c10 c11 c12 c20 c21 c22 c30 c31 c32 c40 c41 c42 c50 c51 c52 c60 c61 c62 c70 c71 c72 c80 c81 c82 c90 c91 c92
  have hS : St w w23.drew [(q10, #[.int .i64 pm, .string pk, .string pl]), (q9, #[.int .i64 pm, .string pk, .string pl]), (q8, #[.int .i64 um, .string uk, .string ul]), (q7, #[.int .i64 um, .string uk, .string ul]), (q6, #[.int .i64 xm, .string xk, .string xl]), (q5, #[.int .i64 xm, .string xk, .string xl]), (q4, #[.int .i64 cm, .string ck, .string cl]), (q3, #[.int .i64 cm, .string ck, .string cl]), (q2, #[.int .i64 am, .string ak, .string al]), (q1, #[.int .i64 am, .string ak, .string al]), (p0, #[.int .i64 m, .string k, .string l])] [strsF12 A2 B2 ss, eFi HS, strsF12 A p0 ss] := S23.out.drew
  clear S23
  refine wp_region_held_drew (S := (fun W : World => St w W [(q10, #[.int .i64 pm, .string pk, .string pl]), (q9, #[.int .i64 pm, .string pk, .string pl]), (q8, #[.int .i64 um, .string uk, .string ul]), (q7, #[.int .i64 um, .string uk, .string ul]), (q6, #[.int .i64 xm, .string xk, .string xl]), (q5, #[.int .i64 xm, .string xk, .string xl]), (q4, #[.int .i64 cm, .string ck, .string cl]), (q3, #[.int .i64 cm, .string ck, .string cl]), (q2, #[.int .i64 am, .string ak, .string al]), (q1, #[.int .i64 am, .string ak, .string al]), (p0, #[.int .i64 m, .string k, .string l])] [strsF12 A2 B2 ss, eFi HS, strsF12 A p0 ss])) (by kernel_rfl) hS (fun hHeld => ?_)
  refine wpAnyH_ready (rs := [0]) (by kernel_rfl) (by simp) ?_
  refine AllReadyH.cons (o := { dst := some 141, op := Op.call { callee := Callee.value (Operand.func 21), args := #[], argTypes := #[] }, type := 4, pos := _, after := #[], guard := none }) rfl (fun K hK => ?_) AllReadyH.nil
  go_simp
  refine (HC.out _ (hS.fact 1 rfl)).mono ?_
  rintro e y1 ⟨rfl, hB'⟩
  replace hS := hS.on hB'
  clear hB'
  go_wp2_with fail
  refine hK.out _ _ hS (fun hHeld => ?_)
  clear hK K
  (try simp only [Act.put, List.setIfInBounds_toArray, List.set_cons_zero, List.set_cons_succ])
  refine wpAnyH_take (i := 1) (oi := { dst := some 142, op := Op.move (Operand.tmp 141), type := 4, pos := _, after := #[{ on := 0, ground := Ground.data }, { on := 0, ground := Ground.chain }], guard := none }) (v := ?_) rfl (by kernel_rfl) (by kernel_rfl) (by kernel_rfl) (fun _ _ _ h => h) (Or.inl ⟨by rfl, ?hy⟩) hHeld ?_
  case hy => intro w0 hSw; (try dsimp only at hSw); go_simp; (try with_reducible rfl)
  (try simp only [Act.put, List.setIfInBounds_toArray, List.set_cons_zero, List.set_cons_succ])
  refine wpAnyH_take (i := 2) (oi := { dst := some 143, op := Op.move (Operand.tmp 28), type := 4, pos := _, after := #[{ on := 1, ground := Ground.guard }], guard := some (1, true) }) (v := ?_) rfl (by kernel_rfl) (by kernel_rfl) (by kernel_rfl) (fun _ _ _ h => h) (Or.inl ⟨by rfl, ?hy⟩) hHeld ?_
  case hy => intro w0 hSw; (try dsimp only at hSw); go_simp; (try with_reducible rfl)
  (try simp only [Act.put, List.setIfInBounds_toArray, List.set_cons_zero, List.set_cons_succ])
  refine wpAnyH_take (i := 3) (oi := { dst := some 144, op := Op.pick (Operand.tmp 142) (Operand.tmp 143) (Operand.const (Value.bool false)), type := 4, pos := _, after := #[{ on := 1, ground := Ground.data }, { on := 2, ground := Ground.data }], guard := none }) (v := ?_) rfl (by kernel_rfl) (by kernel_rfl) (by kernel_rfl) (fun _ _ _ h => h) (Or.inl ⟨by rfl, ?hy⟩) hHeld ?_
  case hy => intro w0 hSw; (try dsimp only at hSw); go_simp; (try with_reducible rfl)
  (try simp only [Act.put, List.setIfInBounds_toArray, List.set_cons_zero, List.set_cons_succ])
  refine wpAnyH_take (i := 4) (oi := { dst := some 145, op := Op.move (Operand.tmp 144), type := 4, pos := _, after := #[{ on := 3, ground := Ground.data }, { on := 1, ground := Ground.chain }], guard := none }) (v := ?_) rfl (by kernel_rfl) (by kernel_rfl) (by kernel_rfl) (fun _ _ _ h => h) (Or.inl ⟨by rfl, ?hy⟩) hHeld ?_
  case hy => intro w0 hSw; (try dsimp only at hSw); go_simp; (try with_reducible rfl)
  (try simp only [Act.put, List.setIfInBounds_toArray, List.set_cons_zero, List.set_cons_succ])
  refine wpAnyH_take (i := 5) (oi := { dst := some 146, op := Op.load 23 (Operand.tmp 3), type := 23, pos := _, after := #[{ on := 4, ground := Ground.guard }], guard := some (4, true) }) (v := ?_) rfl (by kernel_rfl) (by kernel_rfl) (by kernel_rfl) (fun _ _ _ h => h) (Or.inl ⟨by rfl, ?hy⟩) hHeld ?_
  case hy => intro w0 hSw; have d0 := hSw.cell 10 rfl 0 rfl; have d1 := hSw.cell 10 rfl 1 rfl; have d2 := hSw.cell 10 rfl 2 rfl; clear hSw; go_simp; (try with_reducible rfl)
  (try simp only [Act.put, List.setIfInBounds_toArray, List.set_cons_zero, List.set_cons_succ])
  refine wpAnyH_take (i := 7) (oi := { dst := some 148, op := Op.load 23 (Operand.tmp 3), type := 23, pos := _, after := #[{ on := 4, ground := Ground.guard }], guard := some (4, true) }) (v := ?_) rfl (by kernel_rfl) (by kernel_rfl) (by kernel_rfl) (fun _ _ _ h => h) (Or.inl ⟨by rfl, ?hy⟩) hHeld ?_
  case hy => intro w0 hSw; have d0 := hSw.cell 10 rfl 0 rfl; have d1 := hSw.cell 10 rfl 1 rfl; have d2 := hSw.cell 10 rfl 2 rfl; clear hSw; go_simp; (try with_reducible rfl)
  (try simp only [Act.put, List.setIfInBounds_toArray, List.set_cons_zero, List.set_cons_succ])
  refine wpAnyH_ready (rs := [6]) (by kernel_rfl) (by simp) ?_
  refine AllReadyH.cons (o := { dst := some 147, op := Op.call { callee := Callee.value (Operand.func 22), args := #[Operand.tmp 146], argTypes := #[23] }, type := 4, pos := _, after := #[{ on := 5, ground := Ground.data }, { on := 4, ground := Ground.chain }, { on := 4, ground := Ground.guard }], guard := some (4, true) }) rfl (fun K hK => ?_) AllReadyH.nil
  go_simp
  refine (KI _ (hS.fact 1 rfl)).out.mono ?_
  rintro e y2 ⟨rfl, hB'⟩
  replace hS := hS.on hB'
  clear hB'
  go_wp2_with fail
  refine hK.out _ _ hS (fun hHeld => ?_)
  clear hK K
  (try simp only [Act.put, List.setIfInBounds_toArray, List.set_cons_zero, List.set_cons_succ])
  refine wpAnyH_ready (rs := [8]) (by kernel_rfl) (by simp) ?_
  refine AllReadyH.cons (o := { dst := some 149, op := Op.call { callee := Callee.value (Operand.func 23), args := #[Operand.tmp 148], argTypes := #[23] }, type := 4, pos := _, after := #[{ on := 7, ground := Ground.data }, { on := 6, ground := Ground.chain }, { on := 4, ground := Ground.guard }], guard := some (4, true) }) rfl (fun K hK => ?_) AllReadyH.nil
  go_simp
  refine (RI _).out.mono ?_
  rintro e y3 ⟨rfl, hB'⟩
  replace hS := hS.on hB'
  clear hB'
  go_wp2_with fail
  refine hK.out _ _ hS (fun hHeld => ?_)
  clear hK K
  (try simp only [Act.put, List.setIfInBounds_toArray, List.set_cons_zero, List.set_cons_succ])
  refine wpAnyH_take (i := 9) (oi := { dst := some 150, op := Op.binOp BinOp.eql 4 (Operand.tmp 147) (Operand.tmp 149) 4, type := 4, pos := _, after := #[{ on := 6, ground := Ground.data }, { on := 8, ground := Ground.data }, { on := 4, ground := Ground.guard }], guard := some (4, true) }) (v := ?_) rfl (by kernel_rfl) (by kernel_rfl) (by kernel_rfl) (fun _ _ _ h => h) (Or.inl ⟨by rfl, ?hy⟩) hHeld ?_
  case hy => intro w0 hSw; (try dsimp only at hSw); go_simp; (try with_reducible rfl)
  (try simp only [Act.put, List.setIfInBounds_toArray, List.set_cons_zero, List.set_cons_succ])
  refine wpAnyH_take (i := 10) (oi := { dst := some 151, op := Op.pick (Operand.tmp 145) (Operand.tmp 150) (Operand.const (Value.bool false)), type := 4, pos := _, after := #[{ on := 4, ground := Ground.data }, { on := 9, ground := Ground.data }], guard := none }) (v := ?_) rfl (by kernel_rfl) (by kernel_rfl) (by kernel_rfl) (fun _ _ _ h => h) (Or.inl ⟨by rfl, ?hy⟩) hHeld ?_
  case hy => intro w0 hSw; (try dsimp only at hSw); go_simp; (try with_reducible rfl)
  (try simp only [Act.put, List.setIfInBounds_toArray, List.set_cons_zero, List.set_cons_succ])
  refine wpAnyH_take (i := 11) (oi := { dst := some 152, op := Op.move (Operand.tmp 151), type := 4, pos := _, after := #[{ on := 10, ground := Ground.data }, { on := 8, ground := Ground.chain }], guard := none }) (v := ?_) rfl (by kernel_rfl) (by kernel_rfl) (by kernel_rfl) (fun _ _ _ h => h) (Or.inl ⟨by rfl, ?hy⟩) hHeld ?_
  case hy => intro w0 hSw; (try dsimp only at hSw); go_simp; (try with_reducible rfl)
  (try simp only [Act.put, List.setIfInBounds_toArray, List.set_cons_zero, List.set_cons_succ])
  refine wpAnyH_take (i := 12) (oi := { dst := some 153, op := Op.load 23 (Operand.tmp 3), type := 23, pos := _, after := #[{ on := 11, ground := Ground.guard }], guard := some (11, true) }) (v := ?_) rfl (by kernel_rfl) (by kernel_rfl) (by kernel_rfl) (fun _ _ _ h => h) (Or.inl ⟨by rfl, ?hy⟩) hHeld ?_
  case hy => intro w0 hSw; have d0 := hSw.cell 10 rfl 0 rfl; have d1 := hSw.cell 10 rfl 1 rfl; have d2 := hSw.cell 10 rfl 2 rfl; clear hSw; go_simp; (try with_reducible rfl)
  (try simp only [Act.put, List.setIfInBounds_toArray, List.set_cons_zero, List.set_cons_succ])
  refine wpAnyH_take (i := 14) (oi := { dst := some 155, op := Op.load 23 (Operand.tmp 3), type := 23, pos := _, after := #[{ on := 11, ground := Ground.guard }], guard := some (11, true) }) (v := ?_) rfl (by kernel_rfl) (by kernel_rfl) (by kernel_rfl) (fun _ _ _ h => h) (Or.inl ⟨by rfl, ?hy⟩) hHeld ?_
  case hy => intro w0 hSw; have d0 := hSw.cell 10 rfl 0 rfl; have d1 := hSw.cell 10 rfl 1 rfl; have d2 := hSw.cell 10 rfl 2 rfl; clear hSw; go_simp; (try with_reducible rfl)
  (try simp only [Act.put, List.setIfInBounds_toArray, List.set_cons_zero, List.set_cons_succ])
  refine wpAnyH_ready (rs := [13]) (by kernel_rfl) (by simp) ?_
  refine AllReadyH.cons (o := { dst := some 154, op := Op.call { callee := Callee.value (Operand.func 24), args := #[Operand.tmp 153], argTypes := #[23] }, type := 9, pos := _, after := #[{ on := 12, ground := Ground.data }, { on := 11, ground := Ground.chain }, { on := 11, ground := Ground.guard }], guard := some (11, true) }) rfl (fun K hK => ?_) AllReadyH.nil
  go_simp
  refine (KR _ (hS.fact 1 rfl)).out.mono ?_
  rintro e y4 ⟨rfl, hB'⟩
  replace hS := hS.on hB'
  clear hB'
  go_wp2_with fail
  refine hK.out _ _ hS (fun hHeld => ?_)
  clear hK K
  (try simp only [Act.put, List.setIfInBounds_toArray, List.set_cons_zero, List.set_cons_succ])
  refine wpAnyH_ready (rs := [15]) (by kernel_rfl) (by simp) ?_
  refine AllReadyH.cons (o := { dst := some 156, op := Op.call { callee := Callee.value (Operand.func 25), args := #[Operand.tmp 155], argTypes := #[23] }, type := 9, pos := _, after := #[{ on := 14, ground := Ground.data }, { on := 13, ground := Ground.chain }, { on := 11, ground := Ground.guard }], guard := some (11, true) }) rfl (fun K hK => ?_) AllReadyH.nil
  go_simp
  refine (RR _).out.mono ?_
  rintro e y5 ⟨rfl, hB'⟩
  replace hS := hS.on hB'
  clear hB'
  go_wp2_with fail
  refine hK.out _ _ hS (fun hHeld => ?_)
  clear hK K
  (try simp only [Act.put, List.setIfInBounds_toArray, List.set_cons_zero, List.set_cons_succ])
  refine wpAnyH_take (i := 16) (oi := { dst := some 157, op := Op.binOp BinOp.eql 9 (Operand.tmp 154) (Operand.tmp 156) 9, type := 4, pos := _, after := #[{ on := 13, ground := Ground.data }, { on := 15, ground := Ground.data }, { on := 11, ground := Ground.guard }], guard := some (11, true) }) (v := ?_) rfl (by kernel_rfl) (by kernel_rfl) (by kernel_rfl) (fun _ _ _ h => h) (Or.inl ⟨by rfl, ?hy⟩) hHeld ?_
  case hy => intro w0 hSw; (try dsimp only at hSw); go_simp; (try with_reducible rfl)
  (try simp only [Act.put, List.setIfInBounds_toArray, List.set_cons_zero, List.set_cons_succ])
  refine wpAnyH_take (i := 17) (oi := { dst := some 158, op := Op.pick (Operand.tmp 152) (Operand.tmp 157) (Operand.const (Value.bool false)), type := 4, pos := _, after := #[{ on := 11, ground := Ground.data }, { on := 16, ground := Ground.data }], guard := none }) (v := ?_) rfl (by kernel_rfl) (by kernel_rfl) (by kernel_rfl) (fun _ _ _ h => h) (Or.inl ⟨by rfl, ?hy⟩) hHeld ?_
  case hy => intro w0 hSw; (try dsimp only at hSw); go_simp; (try with_reducible rfl)
  (try simp only [Act.put, List.setIfInBounds_toArray, List.set_cons_zero, List.set_cons_succ])
  refine wpAnyH_take (i := 18) (oi := { dst := some 159, op := Op.move (Operand.tmp 158), type := 4, pos := _, after := #[{ on := 17, ground := Ground.data }, { on := 15, ground := Ground.chain }], guard := none }) (v := ?_) rfl (by kernel_rfl) (by kernel_rfl) (by kernel_rfl) (fun _ _ _ h => h) (Or.inl ⟨by rfl, ?hy⟩) hHeld ?_
  case hy => intro w0 hSw; (try dsimp only at hSw); go_simp; (try with_reducible rfl)
  (try simp only [Act.put, List.setIfInBounds_toArray, List.set_cons_zero, List.set_cons_succ])
  refine wpAnyH_take (i := 19) (oi := { dst := some 160, op := Op.move (Operand.tmp 1), type := 24, pos := _, after := #[{ on := 18, ground := Ground.guard }], guard := some (18, true) }) (v := ?_) rfl (by kernel_rfl) (by kernel_rfl) (by kernel_rfl) (fun _ _ _ h => h) (Or.inl ⟨by rfl, ?hy⟩) hHeld ?_
  case hy => intro w0 hSw; (try dsimp only at hSw); go_simp; (try with_reducible rfl)
  (try simp only [Act.put, List.setIfInBounds_toArray, List.set_cons_zero, List.set_cons_succ])
  refine wpAnyH_take (i := 20) (oi := { dst := some 161, op := Op.move (Operand.tmp 7), type := 24, pos := _, after := #[{ on := 18, ground := Ground.guard }], guard := some (18, true) }) (v := ?_) rfl (by kernel_rfl) (by kernel_rfl) (by kernel_rfl) (fun _ _ _ h => h) (Or.inl ⟨by rfl, ?hy⟩) hHeld ?_
  case hy => intro w0 hSw; (try dsimp only at hSw); go_simp; (try with_reducible rfl)
  (try simp only [Act.put, List.setIfInBounds_toArray, List.set_cons_zero, List.set_cons_succ])
  refine wpAnyH_ready (rs := [21]) (by kernel_rfl) (by simp) ?_
  refine AllReadyH.cons (o := { dst := some 162, op := Op.call { callee := Callee.value (Operand.func 26), args := #[Operand.tmp 160, Operand.tmp 161], argTypes := #[24, 24] }, type := 4, pos := _, after := #[{ on := 19, ground := Ground.data }, { on := 20, ground := Ground.data }, { on := 18, ground := Ground.chain }, { on := 18, ground := Ground.guard }], guard := some (18, true) }) rfl (fun K hK => ?_) AllReadyH.nil
  go_simp
  refine (KT _ A2 c2 ((hS.fact 2 rfl).1.more (hS.fact 2 rfl).2) ((hS.fact 0 rfl).1.more (hS.fact 0 rfl).2)).out.mono ?_
  rintro e y6 ⟨rfl, hB'⟩
  replace hS := hS.on hB'
  clear hB'
  go_wp2_with fail
  refine hK.out _ _ hS (fun hHeld => ?_)
  clear hK K
  (try simp only [Act.put, List.setIfInBounds_toArray, List.set_cons_zero, List.set_cons_succ])
  refine wpAnyH_take (i := 22) (oi := { dst := some 163, op := Op.pick (Operand.tmp 159) (Operand.tmp 162) (Operand.const (Value.bool false)), type := 4, pos := _, after := #[{ on := 18, ground := Ground.data }, { on := 21, ground := Ground.data }], guard := none }) (v := ?_) rfl (by kernel_rfl) (by kernel_rfl) (by kernel_rfl) (fun _ _ _ h => h) (Or.inl ⟨by rfl, ?hy⟩) hHeld ?_
  case hy => intro w0 hSw; (try dsimp only at hSw); go_simp; (try with_reducible rfl)
  (try simp only [Act.put, List.setIfInBounds_toArray, List.set_cons_zero, List.set_cons_succ])
  refine wpAnyH_take (i := 23) (oi := { dst := some 6, op := Op.assign (Operand.tmp 163), type := 4, pos := _, after := #[{ on := 22, ground := Ground.data }, { on := 21, ground := Ground.chain }, { on := 0, ground := Ground.phase }, { on := 1, ground := Ground.phase }, { on := 2, ground := Ground.phase }, { on := 3, ground := Ground.phase }, { on := 4, ground := Ground.phase }, { on := 5, ground := Ground.phase }, { on := 6, ground := Ground.phase }, { on := 7, ground := Ground.phase }, { on := 8, ground := Ground.phase }, { on := 9, ground := Ground.phase }, { on := 10, ground := Ground.phase }, { on := 11, ground := Ground.phase }, { on := 12, ground := Ground.phase }, { on := 13, ground := Ground.phase }, { on := 14, ground := Ground.phase }, { on := 15, ground := Ground.phase }, { on := 16, ground := Ground.phase }, { on := 17, ground := Ground.phase }, { on := 18, ground := Ground.phase }, { on := 19, ground := Ground.phase }, { on := 20, ground := Ground.phase }, { on := 21, ground := Ground.phase }, { on := 22, ground := Ground.phase }], guard := none }) (v := ?_) rfl (by kernel_rfl) (by kernel_rfl) (by kernel_rfl) (fun _ _ _ h => h) (Or.inl ⟨by rfl, ?hy⟩) hHeld ?_
  case hy => intro w0 hSw; (try dsimp only at hSw); go_simp; (try with_reducible rfl)
  (try simp only [Act.put, List.setIfInBounds_toArray, List.set_cons_zero, List.set_cons_succ])
  refine wpAnyH_done (by kernel_rfl) ?_ _
  clear hHeld
  have HSe := Lib.hid hS
  clear hS
  go_wp2
  go_ret
  exact ⟨rfl, HSe.out.below⟩

theorem fileDoes_walk {E : World → Prop} (HS : Hid (FileK E)) (HC : Hid (FiledK E)) (m : Int) (k l : ByteArray) (A : Option Addr) (N cap : Nat) (ss : List ByteArray) (n : Int) (w : World) (hE : E w) (hI : IsStrs w A N cap ss) :
    Calls Try.prog 3 #[.agg #[.int .i64 m, .string k, .string l], .slice A N cap, .int .i64 n] w fun e w' => e = .returned (.bool true) ∧ Below w.heap.size w w' := by
  by_cases hb : decide (2000 < k.size ∨ 2000 < l.size) = true
  · exact fileDoes_big m k l A N cap n w hb
  have hb' : decide (2000 < k.size ∨ 2000 < l.size) = false := by simpa using hb
  have hkl : Fi.small ⟨m, k, l⟩ := by have := of_decide_eq_false hb'; unfold Fi.small; simp only; omega
  obtain ⟨hN, hNm, hA, hsz⟩ := hI.strs
  have hnil : A = none → cap = 0 := by
    intro h; rcases hI with ⟨_, _, e, _⟩ | ⟨x, e, _⟩
    · exact e
    · rw [h] at e; cases e
  have hcap : ss.length ≤ cap := by
    rcases hI with ⟨_, e1, e2, e3⟩ | ⟨x, _, e1, _, e2, _⟩
    · rw [e3]; exact Nat.zero_le _
    · omega
  subst hN
  by_cases hsh : shortB ss = true
  · have hl60 : ss.length ≤ 60 := by unfold shortB at hsh; rw [Bool.and_eq_true] at hsh; exact of_decide_eq_true hsh.2
    have hz : ∀ s ∈ ss, s.size ≤ 9000 := fun s hs => by
      unfold shortB at hsh; rw [Bool.and_eq_true] at hsh
      have := of_decide_eq_true (List.all_eq_true.1 hsh.1 s hs); omega
    have pf := fun W (h : StrsAt W W.heap.size A ss) => Lib.hid (far12_any A cap ss W h hNm hsz)
    rw [hsh] at pf
    refine fileDoes_go HS HC m k l A ss.length cap n ss w hE hb' hA (Fi.add ⟨m, k, l⟩ ss).most (Fi.sync ⟨m, k, l⟩).most (Fi.crash ⟨m, k, l⟩ n).most (Fi.cut ⟨m, k, l⟩ n).most (Fi.new n).most
      (Fi.add ⟨m, k, l⟩ ss).kept (Fi.add ⟨m, k, l⟩ ss).loose (Fi.sync ⟨m, k, l⟩).kept (Fi.sync ⟨m, k, l⟩).loose (Fi.crash ⟨m, k, l⟩ n).kept (Fi.crash ⟨m, k, l⟩ n).loose (Fi.cut ⟨m, k, l⟩ n).kept (Fi.cut ⟨m, k, l⟩ n).loose (Fi.new n).kept (Fi.new n).loose
      (Fi.addE ⟨m, k, l⟩ ss) (Fi.badE ⟨m, k, l⟩) (Fi.badE ⟨m, k, l⟩) (Fi.cutE ⟨m, k, l⟩ n) (Fi.newE n) (Fi.is ⟨m, k, l⟩) (Fi.read ⟨m, k, l⟩)
      (fun W h hA => Lib.hid (HS.out.add ⟨m, k, l⟩ A ss.length cap ss W h hkl hA rfl (by omega) hcap hz)) (fun W A2 c2 hA => Lib.hid (FRAdd_any m k l A2 c2 ss hkl W hA (by omega) hz))
      (fun W h => Lib.hid (HS.out.sync ⟨m, k, l⟩ W h hkl)) (fun W => Lib.hid (FRSync_any m k l hkl W)) (fun W h => Lib.hid (HS.out.crash ⟨m, k, l⟩ n W h hkl)) (fun W => Lib.hid (FRCrash_any m k l n hkl W))
      (fun W h => Lib.hid (HS.out.cut ⟨m, k, l⟩ n W h hkl)) (fun W => Lib.hid (FRCut_any m k l n hkl W)) (fun W h => Lib.hid (HS.out.new n W h)) (fun W => Lib.hid (FRNew_any n W))
      (fun W h => Lib.hid (HS.out.is ⟨m, k, l⟩ W h hkl)) (fun W => Lib.hid (FRIs_any m k l hkl W)) (fun W h => Lib.hid (HS.out.read ⟨m, k, l⟩ W h hkl)) (fun W => Lib.hid (FRRead_any m k l hkl W))
      (fun W hA => Lib.hid ?_) (fun W A2 c2 hA hB => Lib.hid ?_) pf
    · refine (OwnTexts_any A cap ss W hA hnil (by omega)).mono ?_
      rintro e w' ⟨A2, c2, rfl, ho, hB⟩
      exact ⟨A2, c2, rfl, StrsAt.of_own ho, hB⟩
    · refine (Texts_any A A2 cap c2 ss ss W hA hB hNm).mono ?_
      rintro e w' ⟨rfl, q, rfl⟩
      exact ⟨by simp, below_drew (Below.refl _ _) q⟩
  · have hsf : shortB ss = false := by simpa using hsh
    have pf := fun W (h : StrsAt W W.heap.size A ss) => Lib.hid (far12_any A cap ss W h hNm hsz)
    rw [hsf] at pf
    exact fileDoes_far m k l A ss.length cap n ss w hb' hA pf
end Go.Proofs.Ytdhklggbmlkloaa
