/-
  Layer 13 (record): the document's rows, over the structures (printed by tools/gen-recrung.py).
-/
import Derived.Test.YtfapfnbehhekhaaXJd
import Derived.Test.YtfapfnbehhekhaaXRefTexts
import Derived.Deep.DeepCutAuto
import Derived.Deep.RegionHeld3
namespace Go.Proofs.Ytfapfnbehhekhaa
set_option maxRecDepth 10000
open Go.RowKit

theorem below_drew13 {B : Nat} {a w : World} (h : Below B a w) : Below B a w.drew := ⟨h.os, h.tape, h.output, h.size, h.block⟩
set_option maxHeartbeats 8000000 in
theorem recorded_walk {E : World → Prop} (HS : Hid (RecK E)) (w : World) (hE : E w) (pm qm rm tm : Int) (pk pl qk ql rk rl tk tl s1 s2 s3 : ByteArray) (Iw : Hid (IntKind.i64.wrap ((s1.size : Int) - 1) = (s1.size : Int) - 1)) (jl : ((s3.size : Int) < (s2.size : Int)) = True)
    (KN : ∀ (W : World) (_h : E W), Hid (Calls Try.prog 22 #[.int .i64 100] W fun e w' => e = .returned (.tuple #[.agg #[.int .i64 pm, .string pk, .string pl], .int .i64 0]) ∧ Below W.heap.size W w'))
    (KA : ∀ (W : World) (A : Addr) (_h : E W) (_hA : StrsAt W W.heap.size (some A) [⟨#[97]⟩, ⟨#[98]⟩]), Hid (Calls Try.prog 14 #[.agg #[.int .i64 pm, .string pk, .string pl], .int .i64 5, .slice (some A) 2 2] W fun e w' => e = .returned (.tuple #[.agg #[.int .i64 qm, .string qk, .string ql], .int .i64 0]) ∧ Below W.heap.size W w'))
    (K5 : ∀ (W : World) (_h : E W), Hid (Calls Try.prog 16 #[.agg #[.int .i64 qm, .string qk, .string ql], .int .i64 5] W fun e w' => ∃ A c, e = .returned (.tuple #[.slice A 2 c, .int .i64 0]) ∧ StrsAt w' w'.heap.size A [⟨#[97]⟩, ⟨#[98]⟩] ∧ 2 ≤ c ∧ Below W.heap.size W w'))
    (K4 : ∀ (W : World) (_h : E W), Hid (Calls Try.prog 16 #[.agg #[.int .i64 qm, .string qk, .string ql], .int .i64 4] W fun e w' => ∃ A c, e = .returned (.tuple #[.slice A 0 c, .int .i64 0]) ∧ StrsAt w' w'.heap.size A ([] : List ByteArray) ∧ 0 ≤ c ∧ Below W.heap.size W w'))
    (KF1 : ∀ (W : World) (_h : E W), Hid (Calls Try.prog 23 #[.agg #[.int .i64 qm, .string qk, .string ql]] W fun e w' => e = .returned (.string s1) ∧ Below W.heap.size W w'))
    (KC : ∀ (W : World) (_h : E W), Hid (Calls Try.prog 25 #[.agg #[.int .i64 qm, .string qk, .string ql], .int .i64 ((s1.size : Int) - 1)] W fun e w' => e = .returned (.tuple #[.agg #[.int .i64 rm, .string rk, .string rl], .int .i64 0]) ∧ Below W.heap.size W w'))
    (KB : ∀ (W : World) (_h : E W), Hid (Calls Try.prog 16 #[.agg #[.int .i64 rm, .string rk, .string rl], .int .i64 5] W fun e w' => ∃ A c, e = .returned (.tuple #[.slice A 1 c, .int .i64 0]) ∧ StrsAt w' w'.heap.size A [⟨#[97]⟩] ∧ 1 ≤ c ∧ Below W.heap.size W w'))
    (KM : ∀ (W : World) (_h : E W), Hid (Calls Try.prog 18 #[.agg #[.int .i64 rm, .string rk, .string rl], .int .i64 5] W fun e w' => e = .returned (.tuple #[.agg #[.int .i64 tm, .string tk, .string tl], .int .i64 1, .int .i64 0]) ∧ Below W.heap.size W w'))
    (KP : ∀ (W : World) (_h : E W), Hid (Calls Try.prog 10 #[.int .i64 (-1), .string ⟨#[]⟩] W fun e w' => e = .returned (.tuple #[.string ⟨#[]⟩, .int .i64 1]) ∧ Below W.heap.size W w'))
    (KT2 : ∀ (W : World) (A B : Option Addr) (c d : Nat) (_hA : StrsAt W W.heap.size A [⟨#[97]⟩, ⟨#[98]⟩]) (_hB : StrsAt W W.heap.size B [⟨#[97]⟩, ⟨#[98]⟩]), Hid (Calls Try.prog 21 #[.slice A 2 c, .slice B 2 d] W fun e w' => e = .returned (.bool true) ∧ Below W.heap.size W w'))
    (KT1 : ∀ (W : World) (A B : Option Addr) (c d : Nat) (_hA : StrsAt W W.heap.size A [⟨#[97]⟩]) (_hB : StrsAt W W.heap.size B [⟨#[97]⟩]), Hid (Calls Try.prog 21 #[.slice A 1 c, .slice B 1 d] W fun e w' => e = .returned (.bool true) ∧ Below W.heap.size W w'))
    (KF2 : ∀ (W : World) (_h : E W), Hid (Calls Try.prog 23 #[.agg #[.int .i64 rm, .string rk, .string rl]] W fun e w' => e = .returned (.string s2) ∧ Below W.heap.size W w'))
    (KF3 : ∀ (W : World) (_h : E W), Hid (Calls Try.prog 23 #[.agg #[.int .i64 tm, .string tk, .string tl]] W fun e w' => e = .returned (.string s3) ∧ Below W.heap.size W w')) :
    Calls Try.prog 20 #[] w fun e w' => e = .returned (.bool true) ∧ Below w.heap.size w w' := by
  have S0 := Lib.hid ((St.start w).more (eRc HS) hE)
  have Jl := Lib.hid jl
  clear hE jl
  go_enter Try.func20, Try.ntmps20
  go_wp2_with fail
  refine (KN w (S0.out.fact 0 rfl)).out.mono ?_
  rintro e w1 ⟨rfl, hB⟩
  have S1 := Lib.hid (S0.out.on hB)
  clear hB S0
  go_wp2_with (first
    | (refine wpList_store_st rfl 23 _ _ rfl S1.out _ #[.int .i64 pm, .string pk, .string pl] _ rfl rfl (by rfl) rfl (fil_one13 _ _ _) ?_; intro b0 w2 hp hS hBn; (try rw [← hp]); have S2 := Lib.hid hS; clear hS hp hBn)
    | (refine wpList_load_st rfl 23 _ rfl S2.out 0 _ _ rfl rfl _ Try.underlying23 rfl (by rfl) ?_))
  have hs3 := StrsAt.new w2 [⟨#[97]⟩, ⟨#[98]⟩] 9
  have S3 := Lib.hid (S2.out.on (below_new w2 (.cells #[.string ⟨#[97]⟩, .string ⟨#[98]⟩] 9)))
  clear S2
  refine (KA _ _ (S3.out.fact 0 rfl) (by simpa using hs3)).out.mono ?_
  rintro e w3 ⟨rfl, hB⟩
  have S4 := Lib.hid (S3.out.on hB)
  clear hB S3
  clear hs3 KA KN
  go_wp2_with (first
    | (refine wpList_store_st rfl 23 _ _ rfl S4.out _ #[.int .i64 qm, .string qk, .string ql] _ rfl rfl (by rfl) rfl (fil_one13 _ _ _) ?_; intro b1 w4 hp hS hBn; (try rw [← hp]); have S5 := Lib.hid hS; clear hS hp hBn)
    | (refine wpList_load_st rfl 23 _ rfl S5.out 0 _ _ rfl rfl _ Try.underlying23 rfl (by rfl) ?_))
  refine (K5 w4 (S5.out.fact 0 rfl)).out.mono ?_
  rintro e w5 ⟨A5, c5, rfl, hT, _, hB⟩
  have S6 := Lib.hid ((S5.out.on hB).more (strsF13 A5 w5.heap.size [⟨#[97]⟩, ⟨#[98]⟩]) ⟨hT, Nat.le_refl _⟩)
  clear hB hT S5
  obtain ⟨B5, hBe⟩ : ∃ b, b = w5.heap.size := ⟨_, rfl⟩
  rw [← hBe] at S6
  clear hBe
  go_wp2_with (refine wpList_load_st rfl 23 _ rfl S6.out 0 _ _ rfl rfl _ Try.underlying23 rfl (by rfl) ?_)
  refine (K4 w5 (S6.out.fact 1 rfl)).out.mono ?_
  rintro e w6 ⟨A6, c6, rfl, hT, _, hB⟩
  have S7 := Lib.hid ((S6.out.on hB).more (strsF13 A6 w6.heap.size ([] : List ByteArray)) ⟨hT, Nat.le_refl _⟩)
  clear hB hT S6
  obtain ⟨B6, hBe⟩ : ∃ b, b = w6.heap.size := ⟨_, rfl⟩
  rw [← hBe] at S7
  clear hBe
  clear K5 K4
  go_wp2_with fail
  go_cut [9, 10] (fun pv hv wx => ∃ pc, pv = .pointer (some ⟨pc, 0, none⟩) ∧ hv = .int .i64 0 ∧ Hid (St w wx ((pc, #[.int .i64 rm, .string rk, .string rl]) :: [(b1, #[.int .i64 qm, .string qk, .string ql]), (b0, #[.int .i64 pm, .string pk, .string pl])]) [strsF13 A6 B6 [], strsF13 A5 B5 [⟨#[97]⟩, ⟨#[98]⟩], eRc HS]))
  case first =>
    have hS0 : St w w6.drew [(b1, #[.int .i64 qm, .string qk, .string ql]), (b0, #[.int .i64 pm, .string pk, .string pl])] [strsF13 A6 B6 [], strsF13 A5 B5 [⟨#[97]⟩, ⟨#[98]⟩], eRc HS] := S7.out.drew
    refine wp_region_held_drew (S := (fun W : World => St w W [(b1, #[.int .i64 qm, .string qk, .string ql]), (b0, #[.int .i64 pm, .string pk, .string pl])] [strsF13 A6 B6 [], strsF13 A5 B5 [⟨#[97]⟩, ⟨#[98]⟩], eRc HS])) (by kernel_rfl) hS0 (fun hHeld => ?_)
    have HBr := Lib.hid (below_drew13 (Below.refl w6.heap.size w6))
    have hS := hS0
    clear hS0
    generalize hWd : w6.drew = Wd at hS HBr hHeld ⊢
    clear hWd
    refine wpAnyH_take (i := 0) (oi := { dst := some 39, op := Op.load 23 (Operand.tmp 3), type := 23, pos := _, after := #[], guard := none }) (v := ?_) rfl (by kernel_rfl) (by kernel_rfl) (by kernel_rfl) (fun _ _ _ h => h) (Or.inl ⟨by rfl, ?hy⟩) hHeld ?_
    case hy => intro w0 hSw; have d0 := hSw.cell 0 rfl 0 rfl; have d1 := hSw.cell 0 rfl 1 rfl; have d2 := hSw.cell 0 rfl 2 rfl; clear hSw; go_simp; (try with_reducible rfl)
    (try simp only [Act.put, List.setIfInBounds_toArray, List.set_cons_zero, List.set_cons_succ])
    refine wpAnyH_take (i := 1) (oi := { dst := some 40, op := Op.load 23 (Operand.tmp 3), type := 23, pos := _, after := #[], guard := none }) (v := ?_) rfl (by kernel_rfl) (by kernel_rfl) (by kernel_rfl) (fun _ _ _ h => h) (Or.inl ⟨by rfl, ?hy⟩) hHeld ?_
    case hy => intro w0 hSw; have d0 := hSw.cell 0 rfl 0 rfl; have d1 := hSw.cell 0 rfl 1 rfl; have d2 := hSw.cell 0 rfl 2 rfl; clear hSw; go_simp; (try with_reducible rfl)
    (try simp only [Act.put, List.setIfInBounds_toArray, List.set_cons_zero, List.set_cons_succ])
    refine wpAnyH_ready (rs := [2, 9]) (by kernel_rfl) (by simp) ?_
    refine AllReadyH.cons (o := { dst := some 41, op := Op.call { callee := Callee.value (Operand.func 23), args := #[Operand.tmp 40], argTypes := #[23] }, type := 9, pos := _, after := #[{ on := 1, ground := Ground.data }], guard := none }) rfl (fun K hK => ?_) (AllReadyH.cons (o := { dst := some 9, op := Op.alloc 23, type := 0, pos := _, after := #[], guard := none }) rfl (fun K hK => ?_) AllReadyH.nil)
    · go_simp
      refine (KF1 _ (hS.fact 2 rfl)).out.mono ?_
      rintro e y2 ⟨rfl, hB'⟩
      replace hS := hS.on hB'
      replace HBr := Lib.hid (below2 HBr.out hB')
      clear hB'
      go_wp2_with fail
      refine hK.out _ _ hS (fun hHeld => ?_)
      clear hK K
      (try simp only [Act.put, List.setIfInBounds_toArray, List.set_cons_zero, List.set_cons_succ])
      refine wpAnyH_take (i := 3) (oi := { dst := some 42, op := Op.call { callee := Callee.builtin Builtin.len, args := #[Operand.tmp 41], argTypes := #[9] }, type := 3, pos := _, after := #[{ on := 2, ground := Ground.data }], guard := none }) (v := ?_) rfl (by kernel_rfl) (by kernel_rfl) (by kernel_rfl) (fun _ _ _ h => h) (Or.inl ⟨by rfl, ?hy⟩) hHeld ?_
      case hy => intro w0 hSw; (try dsimp only at hSw); go_simp; (try with_reducible rfl)
      (try simp only [Act.put, List.setIfInBounds_toArray, List.set_cons_zero, List.set_cons_succ])
      refine wpAnyH_take (i := 4) (oi := { dst := some 43, op := Op.binOp BinOp.sub 3 (Operand.tmp 42) (Operand.const (Value.int IntKind.i64 1)) 3, type := 3, pos := _, after := #[{ on := 3, ground := Ground.data }], guard := none }) (v := ?_) rfl (by kernel_rfl) (by kernel_rfl) (by kernel_rfl) (fun _ _ _ h => h) (Or.inl ⟨by rfl, ?hy⟩) hHeld ?_
      case hy => have iw := Iw.out; intro w0 hSw; clear hSw; go_simp; (try with_reducible rfl)
      (try simp only [Act.put, List.setIfInBounds_toArray, List.set_cons_zero, List.set_cons_succ])
      refine wpAnyH_ready (rs := [5, 9]) (by kernel_rfl) (by simp) ?_
      refine AllReadyH.cons (o := { dst := some 44, op := Op.call { callee := Callee.value (Operand.func 25), args := #[Operand.tmp 39, Operand.tmp 43], argTypes := #[23, 3] }, type := 32, pos := _, after := #[{ on := 0, ground := Ground.data }, { on := 4, ground := Ground.data }, { on := 2, ground := Ground.chain }], guard := none }) rfl (fun K hK => ?_) (AllReadyH.cons (o := { dst := some 9, op := Op.alloc 23, type := 0, pos := _, after := #[], guard := none }) rfl (fun K hK => ?_) AllReadyH.nil)
      · go_simp
        refine (KC _ (hS.fact 2 rfl)).out.mono ?_
        rintro e y5 ⟨rfl, hB'⟩
        replace hS := hS.on hB'
        replace HBr := Lib.hid (below2 HBr.out hB')
        clear hB'
        go_wp2_with fail
        refine hK.out _ _ hS (fun hHeld => ?_)
        clear hK K
        (try simp only [Act.put, List.setIfInBounds_toArray, List.set_cons_zero, List.set_cons_succ])
        refine wpAnyH_take (i := 6) (oi := { dst := some 38, op := Op.move (Operand.tmp 44), type := 32, pos := _, after := #[{ on := 5, ground := Ground.data }], guard := none }) (v := ?_) rfl (by kernel_rfl) (by kernel_rfl) (by kernel_rfl) (fun _ _ _ h => h) (Or.inl ⟨by rfl, ?hy⟩) hHeld ?_
        case hy => intro w0 hSw; (try dsimp only at hSw); go_simp; (try with_reducible rfl)
        (try simp only [Act.put, List.setIfInBounds_toArray, List.set_cons_zero, List.set_cons_succ])
        refine wpAnyH_take (i := 7) (oi := { dst := some 45, op := Op.extract (Operand.tmp 38) 0, type := 23, pos := _, after := #[{ on := 6, ground := Ground.data }], guard := none }) (v := ?_) rfl (by kernel_rfl) (by kernel_rfl) (by kernel_rfl) (fun _ _ _ h => h) (Or.inl ⟨by rfl, ?hy⟩) hHeld ?_
        case hy => intro w0 hSw; (try dsimp only at hSw); go_simp; (try with_reducible rfl)
        (try simp only [Act.put, List.setIfInBounds_toArray, List.set_cons_zero, List.set_cons_succ])
        refine wpAnyH_take (i := 8) (oi := { dst := some 46, op := Op.extract (Operand.tmp 38) 1, type := 27, pos := _, after := #[{ on := 6, ground := Ground.data }, { on := 10, ground := Ground.gcOnly Departure.lateStores }], guard := none }) (v := ?_) rfl (by kernel_rfl) (by kernel_rfl) (by kernel_rfl) (fun _ _ _ h => h) (Or.inl ⟨by rfl, ?hy⟩) hHeld ?_
        case hy => intro w0 hSw; (try dsimp only at hSw); go_simp; (try with_reducible rfl)
        (try simp only [Act.put, List.setIfInBounds_toArray, List.set_cons_zero, List.set_cons_succ])
        refine wpAnyH_ready (rs := [9]) (by kernel_rfl) (by simp) ?_
        refine AllReadyH.cons (o := { dst := some 9, op := Op.alloc 23, type := 0, pos := _, after := #[], guard := none }) rfl (fun K hK => ?_) AllReadyH.nil
        go_simp
        have hN := hS.new #[.int .i64 0, .string ⟨#[]⟩, .string ⟨#[]⟩] 23
        replace hS := hS.on (below_new y5 (.cells #[.int .i64 0, .string ⟨#[]⟩, .string ⟨#[]⟩] 23))
        obtain ⟨pc, hpc⟩ : ∃ x, x = y5.heap.size := ⟨_, rfl⟩
        have Hpc : Hid (w6.heap.size ≤ pc) := Lib.hid (by rw [hpc]; exact HBr.out.size)
        replace HBr := Lib.hid (below2 HBr.out (below_new y5 (.cells #[.int .i64 0, .string ⟨#[]⟩, .string ⟨#[]⟩] 23)))
        rw [← hpc] at hN ⊢
        clear hpc
        generalize hWa : y5.alloc (.cells #[.int .i64 0, .string ⟨#[]⟩, .string ⟨#[]⟩] 23) = Va at hS HBr hN ⊢
        clear hWa
        refine hK.out _ _ hS (fun hHeld => ?_)
        clear hK K
        (try simp only [Act.put, List.setIfInBounds_toArray, List.set_cons_zero, List.set_cons_succ])
        refine wpAnyH_ready (rs := [10]) (by kernel_rfl) (by simp) ?_
        refine AllReadyH.cons (o := { dst := none, op := Op.store 23 (Operand.tmp 9) (Operand.tmp 45), type := 0, pos := _, after := #[{ on := 9, ground := Ground.data }, { on := 7, ground := Ground.data }, { on := 5, ground := Ground.chain }, { on := 0, ground := Ground.phase }, { on := 1, ground := Ground.phase }, { on := 2, ground := Ground.phase }, { on := 3, ground := Ground.phase }, { on := 4, ground := Ground.phase }, { on := 5, ground := Ground.phase }, { on := 6, ground := Ground.phase }, { on := 7, ground := Ground.phase }, { on := 8, ground := Ground.textOnly Departure.lateStores }, { on := 9, ground := Ground.phase }], guard := none }) rfl (fun K hK => ?_) AllReadyH.nil
        rw [if_pos (by rfl)]
        obtain ⟨tz, hz⟩ := hN.live (pc, #[.int .i64 0, .string ⟨#[]⟩, .string ⟨#[]⟩]) (by simp)
        refine wp_store_row 23 _ _ rfl pc #[.int .i64 rm, .string rk, .string rl] rfl rfl tz _ hz (by rfl) rfl (fil_one13 _ _ _) ?_
        have hb3 := below_setRow HBr.out Hpc.out #[.int .i64 rm, .string rk, .string rl]
        have hc3 := setRow_heap _ _ _ #[.int .i64 rm, .string rk, .string rl] _ _ hz
        clear hz hN hS
        have hS := S7.out.on hb3
        refine hK.out _ _ hS (fun hHeld => ?_)
        clear hK K
        (try simp only [Act.put])
        refine wpAnyH_take (i := 11) (oi := { dst := some 10, op := Op.assign (Operand.tmp 46), type := 27, pos := _, after := #[{ on := 8, ground := Ground.data }, { on := 10, ground := Ground.chain }, { on := 0, ground := Ground.phase }, { on := 1, ground := Ground.phase }, { on := 2, ground := Ground.phase }, { on := 3, ground := Ground.phase }, { on := 4, ground := Ground.phase }, { on := 5, ground := Ground.phase }, { on := 6, ground := Ground.phase }, { on := 7, ground := Ground.phase }, { on := 8, ground := Ground.phase }, { on := 9, ground := Ground.phase }, { on := 10, ground := Ground.phase }], guard := none }) (v := ?_) rfl (by kernel_rfl) (by kernel_rfl) (by kernel_rfl) (fun _ _ _ h => h) (Or.inl ⟨by rfl, ?hy⟩) hHeld ?_
        case hy => intro w0 hSw; (try dsimp only at hSw); go_simp; (try with_reducible rfl)
        (try simp only [Act.put, List.setIfInBounds_toArray, List.set_cons_zero, List.set_cons_succ])
        refine wpAnyH_done (by kernel_rfl) ?_ _
        clear hHeld
        go_wp2_with fail
        go_meet
        exact ⟨pc, rfl, rfl, Lib.hid (hS.add ⟨_, hc3⟩)⟩
      · go_simp
        have hN := hS.new #[.int .i64 0, .string ⟨#[]⟩, .string ⟨#[]⟩] 23
        replace hS := hS.on (below_new y2 (.cells #[.int .i64 0, .string ⟨#[]⟩, .string ⟨#[]⟩] 23))
        obtain ⟨pc, hpc⟩ : ∃ x, x = y2.heap.size := ⟨_, rfl⟩
        have Hpc : Hid (w6.heap.size ≤ pc) := Lib.hid (by rw [hpc]; exact HBr.out.size)
        replace HBr := Lib.hid (below2 HBr.out (below_new y2 (.cells #[.int .i64 0, .string ⟨#[]⟩, .string ⟨#[]⟩] 23)))
        rw [← hpc] at hN ⊢
        clear hpc
        generalize hWa : y2.alloc (.cells #[.int .i64 0, .string ⟨#[]⟩, .string ⟨#[]⟩] 23) = Va at hS HBr hN ⊢
        clear hWa
        refine hK.out _ _ hS (fun hHeld => ?_)
        clear hK K
        (try simp only [Act.put, List.setIfInBounds_toArray, List.set_cons_zero, List.set_cons_succ])
        refine wpAnyH_ready (rs := [5]) (by kernel_rfl) (by simp) ?_
        refine AllReadyH.cons (o := { dst := some 44, op := Op.call { callee := Callee.value (Operand.func 25), args := #[Operand.tmp 39, Operand.tmp 43], argTypes := #[23, 3] }, type := 32, pos := _, after := #[{ on := 0, ground := Ground.data }, { on := 4, ground := Ground.data }, { on := 2, ground := Ground.chain }], guard := none }) rfl (fun K hK => ?_) AllReadyH.nil
        go_simp
        refine (KC _ (hS.fact 2 rfl)).out.mono ?_
        rintro e y5 ⟨rfl, hB'⟩
        replace hS := hS.on hB'
        replace HBr := Lib.hid (below2 HBr.out hB')
        replace hN := hN.on hB'
        clear hB'
        go_wp2_with fail
        refine hK.out _ _ hS (fun hHeld => ?_)
        clear hK K
        (try simp only [Act.put, List.setIfInBounds_toArray, List.set_cons_zero, List.set_cons_succ])
        refine wpAnyH_take (i := 6) (oi := { dst := some 38, op := Op.move (Operand.tmp 44), type := 32, pos := _, after := #[{ on := 5, ground := Ground.data }], guard := none }) (v := ?_) rfl (by kernel_rfl) (by kernel_rfl) (by kernel_rfl) (fun _ _ _ h => h) (Or.inl ⟨by rfl, ?hy⟩) hHeld ?_
        case hy => intro w0 hSw; (try dsimp only at hSw); go_simp; (try with_reducible rfl)
        (try simp only [Act.put, List.setIfInBounds_toArray, List.set_cons_zero, List.set_cons_succ])
        refine wpAnyH_take (i := 7) (oi := { dst := some 45, op := Op.extract (Operand.tmp 38) 0, type := 23, pos := _, after := #[{ on := 6, ground := Ground.data }], guard := none }) (v := ?_) rfl (by kernel_rfl) (by kernel_rfl) (by kernel_rfl) (fun _ _ _ h => h) (Or.inl ⟨by rfl, ?hy⟩) hHeld ?_
        case hy => intro w0 hSw; (try dsimp only at hSw); go_simp; (try with_reducible rfl)
        (try simp only [Act.put, List.setIfInBounds_toArray, List.set_cons_zero, List.set_cons_succ])
        refine wpAnyH_take (i := 8) (oi := { dst := some 46, op := Op.extract (Operand.tmp 38) 1, type := 27, pos := _, after := #[{ on := 6, ground := Ground.data }, { on := 10, ground := Ground.gcOnly Departure.lateStores }], guard := none }) (v := ?_) rfl (by kernel_rfl) (by kernel_rfl) (by kernel_rfl) (fun _ _ _ h => h) (Or.inl ⟨by rfl, ?hy⟩) hHeld ?_
        case hy => intro w0 hSw; (try dsimp only at hSw); go_simp; (try with_reducible rfl)
        (try simp only [Act.put, List.setIfInBounds_toArray, List.set_cons_zero, List.set_cons_succ])
        refine wpAnyH_ready (rs := [10]) (by kernel_rfl) (by simp) ?_
        refine AllReadyH.cons (o := { dst := none, op := Op.store 23 (Operand.tmp 9) (Operand.tmp 45), type := 0, pos := _, after := #[{ on := 9, ground := Ground.data }, { on := 7, ground := Ground.data }, { on := 5, ground := Ground.chain }, { on := 0, ground := Ground.phase }, { on := 1, ground := Ground.phase }, { on := 2, ground := Ground.phase }, { on := 3, ground := Ground.phase }, { on := 4, ground := Ground.phase }, { on := 5, ground := Ground.phase }, { on := 6, ground := Ground.phase }, { on := 7, ground := Ground.phase }, { on := 8, ground := Ground.textOnly Departure.lateStores }, { on := 9, ground := Ground.phase }], guard := none }) rfl (fun K hK => ?_) AllReadyH.nil
        rw [if_pos (by rfl)]
        obtain ⟨tz, hz⟩ := hN.live (pc, #[.int .i64 0, .string ⟨#[]⟩, .string ⟨#[]⟩]) (by simp)
        refine wp_store_row 23 _ _ rfl pc #[.int .i64 rm, .string rk, .string rl] rfl rfl tz _ hz (by rfl) rfl (fil_one13 _ _ _) ?_
        have hb3 := below_setRow HBr.out Hpc.out #[.int .i64 rm, .string rk, .string rl]
        have hc3 := setRow_heap _ _ _ #[.int .i64 rm, .string rk, .string rl] _ _ hz
        clear hz hN hS
        have hS := S7.out.on hb3
        refine hK.out _ _ hS (fun hHeld => ?_)
        clear hK K
        (try simp only [Act.put])
        refine wpAnyH_take (i := 11) (oi := { dst := some 10, op := Op.assign (Operand.tmp 46), type := 27, pos := _, after := #[{ on := 8, ground := Ground.data }, { on := 10, ground := Ground.chain }, { on := 0, ground := Ground.phase }, { on := 1, ground := Ground.phase }, { on := 2, ground := Ground.phase }, { on := 3, ground := Ground.phase }, { on := 4, ground := Ground.phase }, { on := 5, ground := Ground.phase }, { on := 6, ground := Ground.phase }, { on := 7, ground := Ground.phase }, { on := 8, ground := Ground.phase }, { on := 9, ground := Ground.phase }, { on := 10, ground := Ground.phase }], guard := none }) (v := ?_) rfl (by kernel_rfl) (by kernel_rfl) (by kernel_rfl) (fun _ _ _ h => h) (Or.inl ⟨by rfl, ?hy⟩) hHeld ?_
        case hy => intro w0 hSw; (try dsimp only at hSw); go_simp; (try with_reducible rfl)
        (try simp only [Act.put, List.setIfInBounds_toArray, List.set_cons_zero, List.set_cons_succ])
        refine wpAnyH_done (by kernel_rfl) ?_ _
        clear hHeld
        go_wp2_with fail
        go_meet
        exact ⟨pc, rfl, rfl, Lib.hid (hS.add ⟨_, hc3⟩)⟩
    · go_simp
      have hN := hS.new #[.int .i64 0, .string ⟨#[]⟩, .string ⟨#[]⟩] 23
      replace hS := hS.on (below_new Wd (.cells #[.int .i64 0, .string ⟨#[]⟩, .string ⟨#[]⟩] 23))
      obtain ⟨pc, hpc⟩ : ∃ x, x = Wd.heap.size := ⟨_, rfl⟩
      have Hpc : Hid (w6.heap.size ≤ pc) := Lib.hid (by rw [hpc]; exact HBr.out.size)
      replace HBr := Lib.hid (below2 HBr.out (below_new Wd (.cells #[.int .i64 0, .string ⟨#[]⟩, .string ⟨#[]⟩] 23)))
      rw [← hpc] at hN ⊢
      clear hpc
      generalize hWa : Wd.alloc (.cells #[.int .i64 0, .string ⟨#[]⟩, .string ⟨#[]⟩] 23) = Va at hS HBr hN ⊢
      clear hWa
      refine hK.out _ _ hS (fun hHeld => ?_)
      clear hK K
      (try simp only [Act.put, List.setIfInBounds_toArray, List.set_cons_zero, List.set_cons_succ])
      refine wpAnyH_ready (rs := [2]) (by kernel_rfl) (by simp) ?_
      refine AllReadyH.cons (o := { dst := some 41, op := Op.call { callee := Callee.value (Operand.func 23), args := #[Operand.tmp 40], argTypes := #[23] }, type := 9, pos := _, after := #[{ on := 1, ground := Ground.data }], guard := none }) rfl (fun K hK => ?_) AllReadyH.nil
      go_simp
      refine (KF1 _ (hS.fact 2 rfl)).out.mono ?_
      rintro e y2 ⟨rfl, hB'⟩
      replace hS := hS.on hB'
      replace HBr := Lib.hid (below2 HBr.out hB')
      replace hN := hN.on hB'
      clear hB'
      go_wp2_with fail
      refine hK.out _ _ hS (fun hHeld => ?_)
      clear hK K
      (try simp only [Act.put, List.setIfInBounds_toArray, List.set_cons_zero, List.set_cons_succ])
      refine wpAnyH_take (i := 3) (oi := { dst := some 42, op := Op.call { callee := Callee.builtin Builtin.len, args := #[Operand.tmp 41], argTypes := #[9] }, type := 3, pos := _, after := #[{ on := 2, ground := Ground.data }], guard := none }) (v := ?_) rfl (by kernel_rfl) (by kernel_rfl) (by kernel_rfl) (fun _ _ _ h => h) (Or.inl ⟨by rfl, ?hy⟩) hHeld ?_
      case hy => intro w0 hSw; (try dsimp only at hSw); go_simp; (try with_reducible rfl)
      (try simp only [Act.put, List.setIfInBounds_toArray, List.set_cons_zero, List.set_cons_succ])
      refine wpAnyH_take (i := 4) (oi := { dst := some 43, op := Op.binOp BinOp.sub 3 (Operand.tmp 42) (Operand.const (Value.int IntKind.i64 1)) 3, type := 3, pos := _, after := #[{ on := 3, ground := Ground.data }], guard := none }) (v := ?_) rfl (by kernel_rfl) (by kernel_rfl) (by kernel_rfl) (fun _ _ _ h => h) (Or.inl ⟨by rfl, ?hy⟩) hHeld ?_
      case hy => have iw := Iw.out; intro w0 hSw; clear hSw; go_simp; (try with_reducible rfl)
      (try simp only [Act.put, List.setIfInBounds_toArray, List.set_cons_zero, List.set_cons_succ])
      refine wpAnyH_ready (rs := [5]) (by kernel_rfl) (by simp) ?_
      refine AllReadyH.cons (o := { dst := some 44, op := Op.call { callee := Callee.value (Operand.func 25), args := #[Operand.tmp 39, Operand.tmp 43], argTypes := #[23, 3] }, type := 32, pos := _, after := #[{ on := 0, ground := Ground.data }, { on := 4, ground := Ground.data }, { on := 2, ground := Ground.chain }], guard := none }) rfl (fun K hK => ?_) AllReadyH.nil
      go_simp
      refine (KC _ (hS.fact 2 rfl)).out.mono ?_
      rintro e y5 ⟨rfl, hB'⟩
      replace hS := hS.on hB'
      replace HBr := Lib.hid (below2 HBr.out hB')
      replace hN := hN.on hB'
      clear hB'
      go_wp2_with fail
      refine hK.out _ _ hS (fun hHeld => ?_)
      clear hK K
      (try simp only [Act.put, List.setIfInBounds_toArray, List.set_cons_zero, List.set_cons_succ])
      refine wpAnyH_take (i := 6) (oi := { dst := some 38, op := Op.move (Operand.tmp 44), type := 32, pos := _, after := #[{ on := 5, ground := Ground.data }], guard := none }) (v := ?_) rfl (by kernel_rfl) (by kernel_rfl) (by kernel_rfl) (fun _ _ _ h => h) (Or.inl ⟨by rfl, ?hy⟩) hHeld ?_
      case hy => intro w0 hSw; (try dsimp only at hSw); go_simp; (try with_reducible rfl)
      (try simp only [Act.put, List.setIfInBounds_toArray, List.set_cons_zero, List.set_cons_succ])
      refine wpAnyH_take (i := 7) (oi := { dst := some 45, op := Op.extract (Operand.tmp 38) 0, type := 23, pos := _, after := #[{ on := 6, ground := Ground.data }], guard := none }) (v := ?_) rfl (by kernel_rfl) (by kernel_rfl) (by kernel_rfl) (fun _ _ _ h => h) (Or.inl ⟨by rfl, ?hy⟩) hHeld ?_
      case hy => intro w0 hSw; (try dsimp only at hSw); go_simp; (try with_reducible rfl)
      (try simp only [Act.put, List.setIfInBounds_toArray, List.set_cons_zero, List.set_cons_succ])
      refine wpAnyH_take (i := 8) (oi := { dst := some 46, op := Op.extract (Operand.tmp 38) 1, type := 27, pos := _, after := #[{ on := 6, ground := Ground.data }, { on := 10, ground := Ground.gcOnly Departure.lateStores }], guard := none }) (v := ?_) rfl (by kernel_rfl) (by kernel_rfl) (by kernel_rfl) (fun _ _ _ h => h) (Or.inl ⟨by rfl, ?hy⟩) hHeld ?_
      case hy => intro w0 hSw; (try dsimp only at hSw); go_simp; (try with_reducible rfl)
      (try simp only [Act.put, List.setIfInBounds_toArray, List.set_cons_zero, List.set_cons_succ])
      refine wpAnyH_ready (rs := [10]) (by kernel_rfl) (by simp) ?_
      refine AllReadyH.cons (o := { dst := none, op := Op.store 23 (Operand.tmp 9) (Operand.tmp 45), type := 0, pos := _, after := #[{ on := 9, ground := Ground.data }, { on := 7, ground := Ground.data }, { on := 5, ground := Ground.chain }, { on := 0, ground := Ground.phase }, { on := 1, ground := Ground.phase }, { on := 2, ground := Ground.phase }, { on := 3, ground := Ground.phase }, { on := 4, ground := Ground.phase }, { on := 5, ground := Ground.phase }, { on := 6, ground := Ground.phase }, { on := 7, ground := Ground.phase }, { on := 8, ground := Ground.textOnly Departure.lateStores }, { on := 9, ground := Ground.phase }], guard := none }) rfl (fun K hK => ?_) AllReadyH.nil
      rw [if_pos (by rfl)]
      obtain ⟨tz, hz⟩ := hN.live (pc, #[.int .i64 0, .string ⟨#[]⟩, .string ⟨#[]⟩]) (by simp)
      refine wp_store_row 23 _ _ rfl pc #[.int .i64 rm, .string rk, .string rl] rfl rfl tz _ hz (by rfl) rfl (fil_one13 _ _ _) ?_
      have hb3 := below_setRow HBr.out Hpc.out #[.int .i64 rm, .string rk, .string rl]
      have hc3 := setRow_heap _ _ _ #[.int .i64 rm, .string rk, .string rl] _ _ hz
      clear hz hN hS
      have hS := S7.out.on hb3
      refine hK.out _ _ hS (fun hHeld => ?_)
      clear hK K
      (try simp only [Act.put])
      refine wpAnyH_take (i := 11) (oi := { dst := some 10, op := Op.assign (Operand.tmp 46), type := 27, pos := _, after := #[{ on := 8, ground := Ground.data }, { on := 10, ground := Ground.chain }, { on := 0, ground := Ground.phase }, { on := 1, ground := Ground.phase }, { on := 2, ground := Ground.phase }, { on := 3, ground := Ground.phase }, { on := 4, ground := Ground.phase }, { on := 5, ground := Ground.phase }, { on := 6, ground := Ground.phase }, { on := 7, ground := Ground.phase }, { on := 8, ground := Ground.phase }, { on := 9, ground := Ground.phase }, { on := 10, ground := Ground.phase }], guard := none }) (v := ?_) rfl (by kernel_rfl) (by kernel_rfl) (by kernel_rfl) (fun _ _ _ h => h) (Or.inl ⟨by rfl, ?hy⟩) hHeld ?_
      case hy => intro w0 hSw; (try dsimp only at hSw); go_simp; (try with_reducible rfl)
      (try simp only [Act.put, List.setIfInBounds_toArray, List.set_cons_zero, List.set_cons_succ])
      refine wpAnyH_done (by kernel_rfl) ?_ _
      clear hHeld
      go_wp2_with fail
      go_meet
      exact ⟨pc, rfl, rfl, Lib.hid (hS.add ⟨_, hc3⟩)⟩
  case rest =>
    obtain ⟨b2, rfl, rfl, S8⟩ := hcut
    clear S7 KF1 KC Iw
    go_wp2_with (refine wpList_load_st rfl 23 _ rfl S8.out 0 _ _ rfl rfl _ Try.underlying23 rfl (by rfl) ?_)
    refine (KB wc (S8.out.fact 2 rfl)).out.mono ?_
    rintro e w9 ⟨A7, c7, rfl, hT, _, hB⟩
    have S9 := Lib.hid ((S8.out.on hB).more (strsF13 A7 w9.heap.size [⟨#[97]⟩]) ⟨hT, Nat.le_refl _⟩)
    clear hB hT S8
    obtain ⟨B7, hBe⟩ : ∃ b, b = w9.heap.size := ⟨_, rfl⟩
    rw [← hBe] at S9
    clear hBe
    go_wp2_with (refine wpList_load_st rfl 23 _ rfl S9.out 0 _ _ rfl rfl _ Try.underlying23 rfl (by rfl) ?_)
    refine (KM w9 (S9.out.fact 3 rfl)).out.mono ?_
    rintro e w10 ⟨rfl, hB⟩
    have S10 := Lib.hid (S9.out.on hB)
    clear hB S9
    go_wp2_with (refine wpList_store_st rfl 23 _ _ rfl S10.out _ #[.int .i64 tm, .string tk, .string tl] _ rfl rfl (by rfl) rfl (fil_one13 _ _ _) ?_; intro b3 w11 hp hS hBn; (try rw [← hp]); have S11 := Lib.hid hS; clear hS hp hBn)
    refine (KP w11 (S11.out.fact 3 rfl)).out.mono ?_
    rintro e w12 ⟨rfl, hB⟩
    have S12 := Lib.hid (S11.out.on hB)
    clear hB S11
    go_wp2_with fail
    have hS : St w w12.drew [(b3, #[.int .i64 tm, .string tk, .string tl]), (b2, #[.int .i64 rm, .string rk, .string rl]), (b1, #[.int .i64 qm, .string qk, .string ql]), (b0, #[.int .i64 pm, .string pk, .string pl])] [strsF13 A7 B7 [⟨#[97]⟩], strsF13 A6 B6 [], strsF13 A5 B5 [⟨#[97]⟩, ⟨#[98]⟩], eRc HS] := S12.out.drew
    clear S12
    refine wp_region_held_drew (S := (fun W : World => St w W [(b3, #[.int .i64 tm, .string tk, .string tl]), (b2, #[.int .i64 rm, .string rk, .string rl]), (b1, #[.int .i64 qm, .string qk, .string ql]), (b0, #[.int .i64 pm, .string pk, .string pl])] [strsF13 A7 B7 [⟨#[97]⟩], strsF13 A6 B6 [], strsF13 A5 B5 [⟨#[97]⟩, ⟨#[98]⟩], eRc HS])) (by kernel_rfl) hS (fun hHeld => ?_)
    refine wpAnyH_take (i := 0) (oi := { dst := some 62, op := Op.move (Operand.tmp 2), type := 27, pos := _, after := #[], guard := none }) (v := ?_) rfl (by kernel_rfl) (by kernel_rfl) (by kernel_rfl) (fun _ _ _ h => h) (Or.inl ⟨by rfl, ?hy⟩) hHeld ?_
    case hy => intro w0 hSw; (try dsimp only at hSw); go_simp; (try with_reducible rfl)
    (try simp only [Act.put, List.setIfInBounds_toArray, List.set_cons_zero, List.set_cons_succ])
    refine wpAnyH_take (i := 1) (oi := { dst := some 63, op := Op.binOp BinOp.eql 27 (Operand.tmp 62) (Operand.const (Value.int IntKind.i64 0)) 27, type := 4, pos := _, after := #[{ on := 0, ground := Ground.data }], guard := none }) (v := ?_) rfl (by kernel_rfl) (by kernel_rfl) (by kernel_rfl) (fun _ _ _ h => h) (Or.inl ⟨by rfl, ?hy⟩) hHeld ?_
    case hy => intro w0 hSw; (try dsimp only at hSw); go_simp; (try with_reducible rfl)
    (try simp only [Act.put, List.setIfInBounds_toArray, List.set_cons_zero, List.set_cons_succ])
    refine wpAnyH_take (i := 2) (oi := { dst := some 64, op := Op.move (Operand.tmp 63), type := 4, pos := _, after := #[{ on := 1, ground := Ground.data }], guard := none }) (v := ?_) rfl (by kernel_rfl) (by kernel_rfl) (by kernel_rfl) (fun _ _ _ h => h) (Or.inl ⟨by rfl, ?hy⟩) hHeld ?_
    case hy => intro w0 hSw; (try dsimp only at hSw); go_simp; (try with_reducible rfl)
    (try simp only [Act.put, List.setIfInBounds_toArray, List.set_cons_zero, List.set_cons_succ])
    refine wpAnyH_take (i := 3) (oi := { dst := some 65, op := Op.move (Operand.tmp 4), type := 27, pos := _, after := #[{ on := 2, ground := Ground.guard }], guard := some (2, true) }) (v := ?_) rfl (by kernel_rfl) (by kernel_rfl) (by kernel_rfl) (fun _ _ _ h => h) (Or.inl ⟨by rfl, ?hy⟩) hHeld ?_
    case hy => intro w0 hSw; (try dsimp only at hSw); go_simp; (try with_reducible rfl)
    (try simp only [Act.put, List.setIfInBounds_toArray, List.set_cons_zero, List.set_cons_succ])
    refine wpAnyH_take (i := 4) (oi := { dst := some 66, op := Op.move (Operand.tmp 2), type := 27, pos := _, after := #[{ on := 2, ground := Ground.guard }], guard := some (2, true) }) (v := ?_) rfl (by kernel_rfl) (by kernel_rfl) (by kernel_rfl) (fun _ _ _ h => h) (Or.inl ⟨by rfl, ?hy⟩) hHeld ?_
    case hy => intro w0 hSw; (try dsimp only at hSw); go_simp; (try with_reducible rfl)
    (try simp only [Act.put, List.setIfInBounds_toArray, List.set_cons_zero, List.set_cons_succ])
    refine wpAnyH_take (i := 5) (oi := { dst := some 67, op := Op.binOp BinOp.eql 27 (Operand.tmp 65) (Operand.tmp 66) 27, type := 4, pos := _, after := #[{ on := 3, ground := Ground.data }, { on := 4, ground := Ground.data }, { on := 2, ground := Ground.guard }], guard := some (2, true) }) (v := ?_) rfl (by kernel_rfl) (by kernel_rfl) (by kernel_rfl) (fun _ _ _ h => h) (Or.inl ⟨by rfl, ?hy⟩) hHeld ?_
    case hy => intro w0 hSw; (try dsimp only at hSw); go_simp; (try with_reducible rfl)
    (try simp only [Act.put, List.setIfInBounds_toArray, List.set_cons_zero, List.set_cons_succ])
    refine wpAnyH_take (i := 6) (oi := { dst := some 68, op := Op.pick (Operand.tmp 64) (Operand.tmp 67) (Operand.const (Value.bool false)), type := 4, pos := _, after := #[{ on := 2, ground := Ground.data }, { on := 5, ground := Ground.data }], guard := none }) (v := ?_) rfl (by kernel_rfl) (by kernel_rfl) (by kernel_rfl) (fun _ _ _ h => h) (Or.inl ⟨by rfl, ?hy⟩) hHeld ?_
    case hy => intro w0 hSw; (try dsimp only at hSw); go_simp; (try with_reducible rfl)
    (try simp only [Act.put, List.setIfInBounds_toArray, List.set_cons_zero, List.set_cons_succ])
    refine wpAnyH_take (i := 7) (oi := { dst := some 69, op := Op.move (Operand.tmp 68), type := 4, pos := _, after := #[{ on := 6, ground := Ground.data }, { on := 2, ground := Ground.chain }], guard := none }) (v := ?_) rfl (by kernel_rfl) (by kernel_rfl) (by kernel_rfl) (fun _ _ _ h => h) (Or.inl ⟨by rfl, ?hy⟩) hHeld ?_
    case hy => intro w0 hSw; (try dsimp only at hSw); go_simp; (try with_reducible rfl)
    (try simp only [Act.put, List.setIfInBounds_toArray, List.set_cons_zero, List.set_cons_succ])
    refine wpAnyH_take (i := 8) (oi := { dst := some 70, op := Op.move (Operand.tmp 6), type := 27, pos := _, after := #[{ on := 7, ground := Ground.guard }], guard := some (7, true) }) (v := ?_) rfl (by kernel_rfl) (by kernel_rfl) (by kernel_rfl) (fun _ _ _ h => h) (Or.inl ⟨by rfl, ?hy⟩) hHeld ?_
    case hy => intro w0 hSw; (try dsimp only at hSw); go_simp; (try with_reducible rfl)
    (try simp only [Act.put, List.setIfInBounds_toArray, List.set_cons_zero, List.set_cons_succ])
    refine wpAnyH_take (i := 9) (oi := { dst := some 71, op := Op.move (Operand.tmp 2), type := 27, pos := _, after := #[{ on := 7, ground := Ground.guard }], guard := some (7, true) }) (v := ?_) rfl (by kernel_rfl) (by kernel_rfl) (by kernel_rfl) (fun _ _ _ h => h) (Or.inl ⟨by rfl, ?hy⟩) hHeld ?_
    case hy => intro w0 hSw; (try dsimp only at hSw); go_simp; (try with_reducible rfl)
    (try simp only [Act.put, List.setIfInBounds_toArray, List.set_cons_zero, List.set_cons_succ])
    refine wpAnyH_take (i := 10) (oi := { dst := some 72, op := Op.binOp BinOp.eql 27 (Operand.tmp 70) (Operand.tmp 71) 27, type := 4, pos := _, after := #[{ on := 8, ground := Ground.data }, { on := 9, ground := Ground.data }, { on := 7, ground := Ground.guard }], guard := some (7, true) }) (v := ?_) rfl (by kernel_rfl) (by kernel_rfl) (by kernel_rfl) (fun _ _ _ h => h) (Or.inl ⟨by rfl, ?hy⟩) hHeld ?_
    case hy => intro w0 hSw; (try dsimp only at hSw); go_simp; (try with_reducible rfl)
    (try simp only [Act.put, List.setIfInBounds_toArray, List.set_cons_zero, List.set_cons_succ])
    refine wpAnyH_take (i := 11) (oi := { dst := some 73, op := Op.pick (Operand.tmp 69) (Operand.tmp 72) (Operand.const (Value.bool false)), type := 4, pos := _, after := #[{ on := 7, ground := Ground.data }, { on := 10, ground := Ground.data }], guard := none }) (v := ?_) rfl (by kernel_rfl) (by kernel_rfl) (by kernel_rfl) (fun _ _ _ h => h) (Or.inl ⟨by rfl, ?hy⟩) hHeld ?_
    case hy => intro w0 hSw; (try dsimp only at hSw); go_simp; (try with_reducible rfl)
    (try simp only [Act.put, List.setIfInBounds_toArray, List.set_cons_zero, List.set_cons_succ])
    refine wpAnyH_take (i := 12) (oi := { dst := some 74, op := Op.move (Operand.tmp 73), type := 4, pos := _, after := #[{ on := 11, ground := Ground.data }, { on := 7, ground := Ground.chain }], guard := none }) (v := ?_) rfl (by kernel_rfl) (by kernel_rfl) (by kernel_rfl) (fun _ _ _ h => h) (Or.inl ⟨by rfl, ?hy⟩) hHeld ?_
    case hy => intro w0 hSw; (try dsimp only at hSw); go_simp; (try with_reducible rfl)
    (try simp only [Act.put, List.setIfInBounds_toArray, List.set_cons_zero, List.set_cons_succ])
    refine wpAnyH_take (i := 13) (oi := { dst := some 75, op := Op.move (Operand.tmp 5), type := 24, pos := _, after := #[{ on := 12, ground := Ground.guard }], guard := some (12, true) }) (v := ?_) rfl (by kernel_rfl) (by kernel_rfl) (by kernel_rfl) (fun _ _ _ h => h) (Or.inl ⟨by rfl, ?hy⟩) hHeld ?_
    case hy => intro w0 hSw; (try dsimp only at hSw); go_simp; (try with_reducible rfl)
    (try simp only [Act.put, List.setIfInBounds_toArray, List.set_cons_zero, List.set_cons_succ])
    refine wpAnyH_ready (rs := [14]) (by kernel_rfl) (by simp) ?_
    refine AllReadyH.cons (o := { dst := some 76, op := Op.buildSlice 24 2 #[(0, Operand.const (Value.string { data := #[97] })), (1, Operand.const (Value.string { data := #[98] }))], type := 24, pos := _, after := #[{ on := 12, ground := Ground.guard }], guard := some (12, true) }) rfl (fun K hK => ?_) AllReadyH.nil
    go_simp
    have hs1 : StrsAt (w12.drew.alloc (.cells #[.string ⟨#[97]⟩, .string ⟨#[98]⟩] 9)) (w12.drew.alloc (.cells #[.string ⟨#[97]⟩, .string ⟨#[98]⟩] 9)).heap.size (some ⟨w12.drew.heap.size, 0, none⟩) [⟨#[97]⟩, ⟨#[98]⟩] := by simpa using StrsAt.new w12.drew [⟨#[97]⟩, ⟨#[98]⟩] 9
    replace hS := hS.on (below_new w12.drew (.cells #[.string ⟨#[97]⟩, .string ⟨#[98]⟩] 9))
    refine hK.out _ _ hS (fun hHeld => ?_)
    clear hK K
    (try simp only [Act.put, List.setIfInBounds_toArray, List.set_cons_zero, List.set_cons_succ])
    refine wpAnyH_ready (rs := [15]) (by kernel_rfl) (by simp) ?_
    refine AllReadyH.cons (o := { dst := some 77, op := Op.call { callee := Callee.value (Operand.func 21), args := #[Operand.tmp 75, Operand.tmp 76], argTypes := #[24, 24] }, type := 4, pos := _, after := #[{ on := 13, ground := Ground.data }, { on := 14, ground := Ground.data }, { on := 12, ground := Ground.chain }, { on := 12, ground := Ground.guard }], guard := some (12, true) }) rfl (fun K hK => ?_) AllReadyH.nil
    go_simp
    refine (KT2 _ A5 _ c5 _ ((hS.fact 2 rfl).1.more (hS.fact 2 rfl).2) hs1).out.mono ?_
    rintro e y1 ⟨rfl, hB'⟩
    replace hS := hS.on hB'
    clear hB' hs1
    go_wp2_with fail
    refine hK.out _ _ hS (fun hHeld => ?_)
    clear hK K
    (try simp only [Act.put, List.setIfInBounds_toArray, List.set_cons_zero, List.set_cons_succ])
    refine wpAnyH_take (i := 16) (oi := { dst := some 78, op := Op.pick (Operand.tmp 74) (Operand.tmp 77) (Operand.const (Value.bool false)), type := 4, pos := _, after := #[{ on := 12, ground := Ground.data }, { on := 15, ground := Ground.data }], guard := none }) (v := ?_) rfl (by kernel_rfl) (by kernel_rfl) (by kernel_rfl) (fun _ _ _ h => h) (Or.inl ⟨by rfl, ?hy⟩) hHeld ?_
    case hy => intro w0 hSw; (try dsimp only at hSw); go_simp; (try with_reducible rfl)
    (try simp only [Act.put, List.setIfInBounds_toArray, List.set_cons_zero, List.set_cons_succ])
    refine wpAnyH_take (i := 17) (oi := { dst := some 79, op := Op.move (Operand.tmp 78), type := 4, pos := _, after := #[{ on := 16, ground := Ground.data }, { on := 15, ground := Ground.chain }], guard := none }) (v := ?_) rfl (by kernel_rfl) (by kernel_rfl) (by kernel_rfl) (fun _ _ _ h => h) (Or.inl ⟨by rfl, ?hy⟩) hHeld ?_
    case hy => intro w0 hSw; (try dsimp only at hSw); go_simp; (try with_reducible rfl)
    (try simp only [Act.put, List.setIfInBounds_toArray, List.set_cons_zero, List.set_cons_succ])
    refine wpAnyH_take (i := 18) (oi := { dst := some 80, op := Op.move (Operand.tmp 8), type := 27, pos := _, after := #[{ on := 17, ground := Ground.guard }], guard := some (17, true) }) (v := ?_) rfl (by kernel_rfl) (by kernel_rfl) (by kernel_rfl) (fun _ _ _ h => h) (Or.inl ⟨by rfl, ?hy⟩) hHeld ?_
    case hy => intro w0 hSw; (try dsimp only at hSw); go_simp; (try with_reducible rfl)
    (try simp only [Act.put, List.setIfInBounds_toArray, List.set_cons_zero, List.set_cons_succ])
    refine wpAnyH_take (i := 19) (oi := { dst := some 81, op := Op.move (Operand.tmp 2), type := 27, pos := _, after := #[{ on := 17, ground := Ground.guard }], guard := some (17, true) }) (v := ?_) rfl (by kernel_rfl) (by kernel_rfl) (by kernel_rfl) (fun _ _ _ h => h) (Or.inl ⟨by rfl, ?hy⟩) hHeld ?_
    case hy => intro w0 hSw; (try dsimp only at hSw); go_simp; (try with_reducible rfl)
    (try simp only [Act.put, List.setIfInBounds_toArray, List.set_cons_zero, List.set_cons_succ])
    refine wpAnyH_take (i := 20) (oi := { dst := some 82, op := Op.binOp BinOp.eql 27 (Operand.tmp 80) (Operand.tmp 81) 27, type := 4, pos := _, after := #[{ on := 18, ground := Ground.data }, { on := 19, ground := Ground.data }, { on := 17, ground := Ground.guard }], guard := some (17, true) }) (v := ?_) rfl (by kernel_rfl) (by kernel_rfl) (by kernel_rfl) (fun _ _ _ h => h) (Or.inl ⟨by rfl, ?hy⟩) hHeld ?_
    case hy => intro w0 hSw; (try dsimp only at hSw); go_simp; (try with_reducible rfl)
    (try simp only [Act.put, List.setIfInBounds_toArray, List.set_cons_zero, List.set_cons_succ])
    refine wpAnyH_take (i := 21) (oi := { dst := some 83, op := Op.pick (Operand.tmp 79) (Operand.tmp 82) (Operand.const (Value.bool false)), type := 4, pos := _, after := #[{ on := 17, ground := Ground.data }, { on := 20, ground := Ground.data }], guard := none }) (v := ?_) rfl (by kernel_rfl) (by kernel_rfl) (by kernel_rfl) (fun _ _ _ h => h) (Or.inl ⟨by rfl, ?hy⟩) hHeld ?_
    case hy => intro w0 hSw; (try dsimp only at hSw); go_simp; (try with_reducible rfl)
    (try simp only [Act.put, List.setIfInBounds_toArray, List.set_cons_zero, List.set_cons_succ])
    refine wpAnyH_take (i := 22) (oi := { dst := some 84, op := Op.move (Operand.tmp 83), type := 4, pos := _, after := #[{ on := 21, ground := Ground.data }, { on := 17, ground := Ground.chain }], guard := none }) (v := ?_) rfl (by kernel_rfl) (by kernel_rfl) (by kernel_rfl) (fun _ _ _ h => h) (Or.inl ⟨by rfl, ?hy⟩) hHeld ?_
    case hy => intro w0 hSw; (try dsimp only at hSw); go_simp; (try with_reducible rfl)
    (try simp only [Act.put, List.setIfInBounds_toArray, List.set_cons_zero, List.set_cons_succ])
    refine wpAnyH_take (i := 23) (oi := { dst := some 85, op := Op.move (Operand.tmp 7), type := 24, pos := _, after := #[{ on := 22, ground := Ground.guard }], guard := some (22, true) }) (v := ?_) rfl (by kernel_rfl) (by kernel_rfl) (by kernel_rfl) (fun _ _ _ h => h) (Or.inl ⟨by rfl, ?hy⟩) hHeld ?_
    case hy => intro w0 hSw; (try dsimp only at hSw); go_simp; (try with_reducible rfl)
    (try simp only [Act.put, List.setIfInBounds_toArray, List.set_cons_zero, List.set_cons_succ])
    refine wpAnyH_take (i := 24) (oi := { dst := some 86, op := Op.call { callee := Callee.builtin Builtin.len, args := #[Operand.tmp 85], argTypes := #[24] }, type := 3, pos := _, after := #[{ on := 23, ground := Ground.data }, { on := 22, ground := Ground.guard }], guard := some (22, true) }) (v := ?_) rfl (by kernel_rfl) (by kernel_rfl) (by kernel_rfl) (fun _ _ _ h => h) (Or.inl ⟨by rfl, ?hy⟩) hHeld ?_
    case hy => intro w0 hSw; (try dsimp only at hSw); go_simp; (try with_reducible rfl)
    (try simp only [Act.put, List.setIfInBounds_toArray, List.set_cons_zero, List.set_cons_succ])
    refine wpAnyH_take (i := 25) (oi := { dst := some 87, op := Op.binOp BinOp.eql 3 (Operand.tmp 86) (Operand.const (Value.int IntKind.i64 0)) 3, type := 4, pos := _, after := #[{ on := 24, ground := Ground.data }, { on := 22, ground := Ground.guard }], guard := some (22, true) }) (v := ?_) rfl (by kernel_rfl) (by kernel_rfl) (by kernel_rfl) (fun _ _ _ h => h) (Or.inl ⟨by rfl, ?hy⟩) hHeld ?_
    case hy => intro w0 hSw; (try dsimp only at hSw); go_simp; (try with_reducible rfl)
    (try simp only [Act.put, List.setIfInBounds_toArray, List.set_cons_zero, List.set_cons_succ])
    refine wpAnyH_take (i := 26) (oi := { dst := some 88, op := Op.pick (Operand.tmp 84) (Operand.tmp 87) (Operand.const (Value.bool false)), type := 4, pos := _, after := #[{ on := 22, ground := Ground.data }, { on := 25, ground := Ground.data }], guard := none }) (v := ?_) rfl (by kernel_rfl) (by kernel_rfl) (by kernel_rfl) (fun _ _ _ h => h) (Or.inl ⟨by rfl, ?hy⟩) hHeld ?_
    case hy => intro w0 hSw; (try dsimp only at hSw); go_simp; (try with_reducible rfl)
    (try simp only [Act.put, List.setIfInBounds_toArray, List.set_cons_zero, List.set_cons_succ])
    refine wpAnyH_take (i := 27) (oi := { dst := some 89, op := Op.move (Operand.tmp 88), type := 4, pos := _, after := #[{ on := 26, ground := Ground.data }, { on := 22, ground := Ground.chain }], guard := none }) (v := ?_) rfl (by kernel_rfl) (by kernel_rfl) (by kernel_rfl) (fun _ _ _ h => h) (Or.inl ⟨by rfl, ?hy⟩) hHeld ?_
    case hy => intro w0 hSw; (try dsimp only at hSw); go_simp; (try with_reducible rfl)
    (try simp only [Act.put, List.setIfInBounds_toArray, List.set_cons_zero, List.set_cons_succ])
    refine wpAnyH_take (i := 28) (oi := { dst := some 90, op := Op.move (Operand.tmp 10), type := 27, pos := _, after := #[{ on := 27, ground := Ground.guard }], guard := some (27, true) }) (v := ?_) rfl (by kernel_rfl) (by kernel_rfl) (by kernel_rfl) (fun _ _ _ h => h) (Or.inl ⟨by rfl, ?hy⟩) hHeld ?_
    case hy => intro w0 hSw; (try dsimp only at hSw); go_simp; (try with_reducible rfl)
    (try simp only [Act.put, List.setIfInBounds_toArray, List.set_cons_zero, List.set_cons_succ])
    refine wpAnyH_take (i := 29) (oi := { dst := some 91, op := Op.move (Operand.tmp 2), type := 27, pos := _, after := #[{ on := 27, ground := Ground.guard }], guard := some (27, true) }) (v := ?_) rfl (by kernel_rfl) (by kernel_rfl) (by kernel_rfl) (fun _ _ _ h => h) (Or.inl ⟨by rfl, ?hy⟩) hHeld ?_
    case hy => intro w0 hSw; (try dsimp only at hSw); go_simp; (try with_reducible rfl)
    (try simp only [Act.put, List.setIfInBounds_toArray, List.set_cons_zero, List.set_cons_succ])
    refine wpAnyH_take (i := 30) (oi := { dst := some 92, op := Op.binOp BinOp.eql 27 (Operand.tmp 90) (Operand.tmp 91) 27, type := 4, pos := _, after := #[{ on := 28, ground := Ground.data }, { on := 29, ground := Ground.data }, { on := 27, ground := Ground.guard }], guard := some (27, true) }) (v := ?_) rfl (by kernel_rfl) (by kernel_rfl) (by kernel_rfl) (fun _ _ _ h => h) (Or.inl ⟨by rfl, ?hy⟩) hHeld ?_
    case hy => intro w0 hSw; (try dsimp only at hSw); go_simp; (try with_reducible rfl)
    (try simp only [Act.put, List.setIfInBounds_toArray, List.set_cons_zero, List.set_cons_succ])
    refine wpAnyH_take (i := 31) (oi := { dst := some 93, op := Op.pick (Operand.tmp 89) (Operand.tmp 92) (Operand.const (Value.bool false)), type := 4, pos := _, after := #[{ on := 27, ground := Ground.data }, { on := 30, ground := Ground.data }], guard := none }) (v := ?_) rfl (by kernel_rfl) (by kernel_rfl) (by kernel_rfl) (fun _ _ _ h => h) (Or.inl ⟨by rfl, ?hy⟩) hHeld ?_
    case hy => intro w0 hSw; (try dsimp only at hSw); go_simp; (try with_reducible rfl)
    (try simp only [Act.put, List.setIfInBounds_toArray, List.set_cons_zero, List.set_cons_succ])
    refine wpAnyH_take (i := 32) (oi := { dst := some 94, op := Op.move (Operand.tmp 93), type := 4, pos := _, after := #[{ on := 31, ground := Ground.data }, { on := 27, ground := Ground.chain }], guard := none }) (v := ?_) rfl (by kernel_rfl) (by kernel_rfl) (by kernel_rfl) (fun _ _ _ h => h) (Or.inl ⟨by rfl, ?hy⟩) hHeld ?_
    case hy => intro w0 hSw; (try dsimp only at hSw); go_simp; (try with_reducible rfl)
    (try simp only [Act.put, List.setIfInBounds_toArray, List.set_cons_zero, List.set_cons_succ])
    refine wpAnyH_take (i := 33) (oi := { dst := some 95, op := Op.move (Operand.tmp 12), type := 27, pos := _, after := #[{ on := 32, ground := Ground.guard }], guard := some (32, true) }) (v := ?_) rfl (by kernel_rfl) (by kernel_rfl) (by kernel_rfl) (fun _ _ _ h => h) (Or.inl ⟨by rfl, ?hy⟩) hHeld ?_
    case hy => intro w0 hSw; (try dsimp only at hSw); go_simp; (try with_reducible rfl)
    (try simp only [Act.put, List.setIfInBounds_toArray, List.set_cons_zero, List.set_cons_succ])
    refine wpAnyH_take (i := 34) (oi := { dst := some 96, op := Op.move (Operand.tmp 2), type := 27, pos := _, after := #[{ on := 32, ground := Ground.guard }], guard := some (32, true) }) (v := ?_) rfl (by kernel_rfl) (by kernel_rfl) (by kernel_rfl) (fun _ _ _ h => h) (Or.inl ⟨by rfl, ?hy⟩) hHeld ?_
    case hy => intro w0 hSw; (try dsimp only at hSw); go_simp; (try with_reducible rfl)
    (try simp only [Act.put, List.setIfInBounds_toArray, List.set_cons_zero, List.set_cons_succ])
    refine wpAnyH_take (i := 35) (oi := { dst := some 97, op := Op.binOp BinOp.eql 27 (Operand.tmp 95) (Operand.tmp 96) 27, type := 4, pos := _, after := #[{ on := 33, ground := Ground.data }, { on := 34, ground := Ground.data }, { on := 32, ground := Ground.guard }], guard := some (32, true) }) (v := ?_) rfl (by kernel_rfl) (by kernel_rfl) (by kernel_rfl) (fun _ _ _ h => h) (Or.inl ⟨by rfl, ?hy⟩) hHeld ?_
    case hy => intro w0 hSw; (try dsimp only at hSw); go_simp; (try with_reducible rfl)
    (try simp only [Act.put, List.setIfInBounds_toArray, List.set_cons_zero, List.set_cons_succ])
    refine wpAnyH_take (i := 36) (oi := { dst := some 98, op := Op.pick (Operand.tmp 94) (Operand.tmp 97) (Operand.const (Value.bool false)), type := 4, pos := _, after := #[{ on := 32, ground := Ground.data }, { on := 35, ground := Ground.data }], guard := none }) (v := ?_) rfl (by kernel_rfl) (by kernel_rfl) (by kernel_rfl) (fun _ _ _ h => h) (Or.inl ⟨by rfl, ?hy⟩) hHeld ?_
    case hy => intro w0 hSw; (try dsimp only at hSw); go_simp; (try with_reducible rfl)
    (try simp only [Act.put, List.setIfInBounds_toArray, List.set_cons_zero, List.set_cons_succ])
    refine wpAnyH_take (i := 37) (oi := { dst := some 99, op := Op.move (Operand.tmp 98), type := 4, pos := _, after := #[{ on := 36, ground := Ground.data }, { on := 32, ground := Ground.chain }], guard := none }) (v := ?_) rfl (by kernel_rfl) (by kernel_rfl) (by kernel_rfl) (fun _ _ _ h => h) (Or.inl ⟨by rfl, ?hy⟩) hHeld ?_
    case hy => intro w0 hSw; (try dsimp only at hSw); go_simp; (try with_reducible rfl)
    (try simp only [Act.put, List.setIfInBounds_toArray, List.set_cons_zero, List.set_cons_succ])
    refine wpAnyH_take (i := 38) (oi := { dst := some 100, op := Op.move (Operand.tmp 11), type := 24, pos := _, after := #[{ on := 37, ground := Ground.guard }], guard := some (37, true) }) (v := ?_) rfl (by kernel_rfl) (by kernel_rfl) (by kernel_rfl) (fun _ _ _ h => h) (Or.inl ⟨by rfl, ?hy⟩) hHeld ?_
    case hy => intro w0 hSw; (try dsimp only at hSw); go_simp; (try with_reducible rfl)
    (try simp only [Act.put, List.setIfInBounds_toArray, List.set_cons_zero, List.set_cons_succ])
    refine wpAnyH_ready (rs := [39]) (by kernel_rfl) (by simp) ?_
    refine AllReadyH.cons (o := { dst := some 101, op := Op.buildSlice 24 1 #[(0, Operand.const (Value.string { data := #[97] }))], type := 24, pos := _, after := #[{ on := 37, ground := Ground.guard }], guard := some (37, true) }) rfl (fun K hK => ?_) AllReadyH.nil
    go_simp
    have hs2 : StrsAt (y1.alloc (.cells #[.string ⟨#[97]⟩] 9)) (y1.alloc (.cells #[.string ⟨#[97]⟩] 9)).heap.size (some ⟨y1.heap.size, 0, none⟩) [⟨#[97]⟩] := by simpa using StrsAt.new y1 [⟨#[97]⟩] 9
    replace hS := hS.on (below_new y1 (.cells #[.string ⟨#[97]⟩] 9))
    refine hK.out _ _ hS (fun hHeld => ?_)
    clear hK K
    (try simp only [Act.put, List.setIfInBounds_toArray, List.set_cons_zero, List.set_cons_succ])
    refine wpAnyH_ready (rs := [40]) (by kernel_rfl) (by simp) ?_
    refine AllReadyH.cons (o := { dst := some 102, op := Op.call { callee := Callee.value (Operand.func 21), args := #[Operand.tmp 100, Operand.tmp 101], argTypes := #[24, 24] }, type := 4, pos := _, after := #[{ on := 38, ground := Ground.data }, { on := 39, ground := Ground.data }, { on := 37, ground := Ground.chain }, { on := 37, ground := Ground.guard }], guard := some (37, true) }) rfl (fun K hK => ?_) AllReadyH.nil
    go_simp
    refine (KT1 _ A7 _ c7 _ ((hS.fact 0 rfl).1.more (hS.fact 0 rfl).2) hs2).out.mono ?_
    rintro e y2 ⟨rfl, hB'⟩
    replace hS := hS.on hB'
    clear hB' hs2
    go_wp2_with fail
    refine hK.out _ _ hS (fun hHeld => ?_)
    clear hK K
    (try simp only [Act.put, List.setIfInBounds_toArray, List.set_cons_zero, List.set_cons_succ])
    refine wpAnyH_take (i := 41) (oi := { dst := some 103, op := Op.pick (Operand.tmp 99) (Operand.tmp 102) (Operand.const (Value.bool false)), type := 4, pos := _, after := #[{ on := 37, ground := Ground.data }, { on := 40, ground := Ground.data }], guard := none }) (v := ?_) rfl (by kernel_rfl) (by kernel_rfl) (by kernel_rfl) (fun _ _ _ h => h) (Or.inl ⟨by rfl, ?hy⟩) hHeld ?_
    case hy => intro w0 hSw; (try dsimp only at hSw); go_simp; (try with_reducible rfl)
    (try simp only [Act.put, List.setIfInBounds_toArray, List.set_cons_zero, List.set_cons_succ])
    refine wpAnyH_take (i := 42) (oi := { dst := some 104, op := Op.move (Operand.tmp 103), type := 4, pos := _, after := #[{ on := 41, ground := Ground.data }, { on := 40, ground := Ground.chain }], guard := none }) (v := ?_) rfl (by kernel_rfl) (by kernel_rfl) (by kernel_rfl) (fun _ _ _ h => h) (Or.inl ⟨by rfl, ?hy⟩) hHeld ?_
    case hy => intro w0 hSw; (try dsimp only at hSw); go_simp; (try with_reducible rfl)
    (try simp only [Act.put, List.setIfInBounds_toArray, List.set_cons_zero, List.set_cons_succ])
    refine wpAnyH_take (i := 43) (oi := { dst := some 105, op := Op.move (Operand.tmp 15), type := 27, pos := _, after := #[{ on := 42, ground := Ground.guard }], guard := some (42, true) }) (v := ?_) rfl (by kernel_rfl) (by kernel_rfl) (by kernel_rfl) (fun _ _ _ h => h) (Or.inl ⟨by rfl, ?hy⟩) hHeld ?_
    case hy => intro w0 hSw; (try dsimp only at hSw); go_simp; (try with_reducible rfl)
    (try simp only [Act.put, List.setIfInBounds_toArray, List.set_cons_zero, List.set_cons_succ])
    refine wpAnyH_take (i := 44) (oi := { dst := some 106, op := Op.move (Operand.tmp 2), type := 27, pos := _, after := #[{ on := 42, ground := Ground.guard }], guard := some (42, true) }) (v := ?_) rfl (by kernel_rfl) (by kernel_rfl) (by kernel_rfl) (fun _ _ _ h => h) (Or.inl ⟨by rfl, ?hy⟩) hHeld ?_
    case hy => intro w0 hSw; (try dsimp only at hSw); go_simp; (try with_reducible rfl)
    (try simp only [Act.put, List.setIfInBounds_toArray, List.set_cons_zero, List.set_cons_succ])
    refine wpAnyH_take (i := 45) (oi := { dst := some 107, op := Op.binOp BinOp.eql 27 (Operand.tmp 105) (Operand.tmp 106) 27, type := 4, pos := _, after := #[{ on := 43, ground := Ground.data }, { on := 44, ground := Ground.data }, { on := 42, ground := Ground.guard }], guard := some (42, true) }) (v := ?_) rfl (by kernel_rfl) (by kernel_rfl) (by kernel_rfl) (fun _ _ _ h => h) (Or.inl ⟨by rfl, ?hy⟩) hHeld ?_
    case hy => intro w0 hSw; (try dsimp only at hSw); go_simp; (try with_reducible rfl)
    (try simp only [Act.put, List.setIfInBounds_toArray, List.set_cons_zero, List.set_cons_succ])
    refine wpAnyH_take (i := 46) (oi := { dst := some 108, op := Op.pick (Operand.tmp 104) (Operand.tmp 107) (Operand.const (Value.bool false)), type := 4, pos := _, after := #[{ on := 42, ground := Ground.data }, { on := 45, ground := Ground.data }], guard := none }) (v := ?_) rfl (by kernel_rfl) (by kernel_rfl) (by kernel_rfl) (fun _ _ _ h => h) (Or.inl ⟨by rfl, ?hy⟩) hHeld ?_
    case hy => intro w0 hSw; (try dsimp only at hSw); go_simp; (try with_reducible rfl)
    (try simp only [Act.put, List.setIfInBounds_toArray, List.set_cons_zero, List.set_cons_succ])
    refine wpAnyH_take (i := 47) (oi := { dst := some 109, op := Op.move (Operand.tmp 108), type := 4, pos := _, after := #[{ on := 46, ground := Ground.data }, { on := 42, ground := Ground.chain }], guard := none }) (v := ?_) rfl (by kernel_rfl) (by kernel_rfl) (by kernel_rfl) (fun _ _ _ h => h) (Or.inl ⟨by rfl, ?hy⟩) hHeld ?_
    case hy => intro w0 hSw; (try dsimp only at hSw); go_simp; (try with_reducible rfl)
    (try simp only [Act.put, List.setIfInBounds_toArray, List.set_cons_zero, List.set_cons_succ])
    refine wpAnyH_take (i := 48) (oi := { dst := some 110, op := Op.move (Operand.tmp 14), type := 3, pos := _, after := #[{ on := 47, ground := Ground.guard }], guard := some (47, true) }) (v := ?_) rfl (by kernel_rfl) (by kernel_rfl) (by kernel_rfl) (fun _ _ _ h => h) (Or.inl ⟨by rfl, ?hy⟩) hHeld ?_
    case hy => intro w0 hSw; (try dsimp only at hSw); go_simp; (try with_reducible rfl)
    (try simp only [Act.put, List.setIfInBounds_toArray, List.set_cons_zero, List.set_cons_succ])
    refine wpAnyH_take (i := 49) (oi := { dst := some 111, op := Op.binOp BinOp.eql 3 (Operand.tmp 110) (Operand.const (Value.int IntKind.i64 1)) 3, type := 4, pos := _, after := #[{ on := 48, ground := Ground.data }, { on := 47, ground := Ground.guard }], guard := some (47, true) }) (v := ?_) rfl (by kernel_rfl) (by kernel_rfl) (by kernel_rfl) (fun _ _ _ h => h) (Or.inl ⟨by rfl, ?hy⟩) hHeld ?_
    case hy => intro w0 hSw; (try dsimp only at hSw); go_simp; (try with_reducible rfl)
    (try simp only [Act.put, List.setIfInBounds_toArray, List.set_cons_zero, List.set_cons_succ])
    refine wpAnyH_take (i := 50) (oi := { dst := some 112, op := Op.pick (Operand.tmp 109) (Operand.tmp 111) (Operand.const (Value.bool false)), type := 4, pos := _, after := #[{ on := 47, ground := Ground.data }, { on := 49, ground := Ground.data }], guard := none }) (v := ?_) rfl (by kernel_rfl) (by kernel_rfl) (by kernel_rfl) (fun _ _ _ h => h) (Or.inl ⟨by rfl, ?hy⟩) hHeld ?_
    case hy => intro w0 hSw; (try dsimp only at hSw); go_simp; (try with_reducible rfl)
    (try simp only [Act.put, List.setIfInBounds_toArray, List.set_cons_zero, List.set_cons_succ])
    refine wpAnyH_take (i := 51) (oi := { dst := some 113, op := Op.move (Operand.tmp 112), type := 4, pos := _, after := #[{ on := 50, ground := Ground.data }, { on := 47, ground := Ground.chain }], guard := none }) (v := ?_) rfl (by kernel_rfl) (by kernel_rfl) (by kernel_rfl) (fun _ _ _ h => h) (Or.inl ⟨by rfl, ?hy⟩) hHeld ?_
    case hy => intro w0 hSw; (try dsimp only at hSw); go_simp; (try with_reducible rfl)
    (try simp only [Act.put, List.setIfInBounds_toArray, List.set_cons_zero, List.set_cons_succ])
    refine wpAnyH_take (i := 52) (oi := { dst := some 114, op := Op.load 23 (Operand.tmp 13), type := 23, pos := _, after := #[{ on := 51, ground := Ground.guard }], guard := some (51, true) }) (v := ?_) rfl (by kernel_rfl) (by kernel_rfl) (by kernel_rfl) (fun _ _ _ h => h) (Or.inl ⟨by rfl, ?hy⟩) hHeld ?_
    case hy => intro w0 hSw; have d0 := hSw.cell 0 rfl 0 rfl; have d1 := hSw.cell 0 rfl 1 rfl; have d2 := hSw.cell 0 rfl 2 rfl; clear hSw; go_simp; (try with_reducible rfl)
    (try simp only [Act.put, List.setIfInBounds_toArray, List.set_cons_zero, List.set_cons_succ])
    refine wpAnyH_take (i := 55) (oi := { dst := some 117, op := Op.load 23 (Operand.tmp 9), type := 23, pos := _, after := #[{ on := 51, ground := Ground.guard }], guard := some (51, true) }) (v := ?_) rfl (by kernel_rfl) (by kernel_rfl) (by kernel_rfl) (fun _ _ _ h => h) (Or.inl ⟨by rfl, ?hy⟩) hHeld ?_
    case hy => intro w0 hSw; have d0 := hSw.cell 1 rfl 0 rfl; have d1 := hSw.cell 1 rfl 1 rfl; have d2 := hSw.cell 1 rfl 2 rfl; clear hSw; go_simp; (try with_reducible rfl)
    (try simp only [Act.put, List.setIfInBounds_toArray, List.set_cons_zero, List.set_cons_succ])
    refine wpAnyH_ready (rs := [53]) (by kernel_rfl) (by simp) ?_
    refine AllReadyH.cons (o := { dst := some 115, op := Op.call { callee := Callee.value (Operand.func 23), args := #[Operand.tmp 114], argTypes := #[23] }, type := 9, pos := _, after := #[{ on := 52, ground := Ground.data }, { on := 51, ground := Ground.chain }, { on := 51, ground := Ground.guard }], guard := some (51, true) }) rfl (fun K hK => ?_) AllReadyH.nil
    go_simp
    refine (KF3 _ (hS.fact 3 rfl)).out.mono ?_
    rintro e y3 ⟨rfl, hB'⟩
    replace hS := hS.on hB'
    clear hB'
    go_wp2_with fail
    refine hK.out _ _ hS (fun hHeld => ?_)
    clear hK K
    (try simp only [Act.put, List.setIfInBounds_toArray, List.set_cons_zero, List.set_cons_succ])
    refine wpAnyH_take (i := 54) (oi := { dst := some 116, op := Op.call { callee := Callee.builtin Builtin.len, args := #[Operand.tmp 115], argTypes := #[9] }, type := 3, pos := _, after := #[{ on := 53, ground := Ground.data }, { on := 51, ground := Ground.guard }], guard := some (51, true) }) (v := ?_) rfl (by kernel_rfl) (by kernel_rfl) (by kernel_rfl) (fun _ _ _ h => h) (Or.inl ⟨by rfl, ?hy⟩) hHeld ?_
    case hy => intro w0 hSw; (try dsimp only at hSw); go_simp; (try with_reducible rfl)
    (try simp only [Act.put, List.setIfInBounds_toArray, List.set_cons_zero, List.set_cons_succ])
    refine wpAnyH_ready (rs := [56]) (by kernel_rfl) (by simp) ?_
    refine AllReadyH.cons (o := { dst := some 118, op := Op.call { callee := Callee.value (Operand.func 23), args := #[Operand.tmp 117], argTypes := #[23] }, type := 9, pos := _, after := #[{ on := 55, ground := Ground.data }, { on := 53, ground := Ground.chain }, { on := 51, ground := Ground.guard }], guard := some (51, true) }) rfl (fun K hK => ?_) AllReadyH.nil
    go_simp
    refine (KF2 _ (hS.fact 3 rfl)).out.mono ?_
    rintro e y4 ⟨rfl, hB'⟩
    replace hS := hS.on hB'
    clear hB'
    go_wp2_with fail
    refine hK.out _ _ hS (fun hHeld => ?_)
    clear hK K
    (try simp only [Act.put, List.setIfInBounds_toArray, List.set_cons_zero, List.set_cons_succ])
    refine wpAnyH_take (i := 57) (oi := { dst := some 119, op := Op.call { callee := Callee.builtin Builtin.len, args := #[Operand.tmp 118], argTypes := #[9] }, type := 3, pos := _, after := #[{ on := 56, ground := Ground.data }, { on := 51, ground := Ground.guard }], guard := some (51, true) }) (v := ?_) rfl (by kernel_rfl) (by kernel_rfl) (by kernel_rfl) (fun _ _ _ h => h) (Or.inl ⟨by rfl, ?hy⟩) hHeld ?_
    case hy => intro w0 hSw; (try dsimp only at hSw); go_simp; (try with_reducible rfl)
    (try simp only [Act.put, List.setIfInBounds_toArray, List.set_cons_zero, List.set_cons_succ])
    refine wpAnyH_take (i := 58) (oi := { dst := some 120, op := Op.binOp BinOp.lss 3 (Operand.tmp 116) (Operand.tmp 119) 3, type := 4, pos := _, after := #[{ on := 54, ground := Ground.data }, { on := 57, ground := Ground.data }, { on := 51, ground := Ground.guard }], guard := some (51, true) }) (v := ?_) rfl (by kernel_rfl) (by kernel_rfl) (by kernel_rfl) (fun _ _ _ h => h) (Or.inl ⟨by rfl, ?hy⟩) hHeld ?_
    case hy => have jl := Jl.out; intro w0 hSw; clear hSw; go_simp; (try with_reducible rfl)
    (try simp only [Act.put, List.setIfInBounds_toArray, List.set_cons_zero, List.set_cons_succ])
    refine wpAnyH_take (i := 59) (oi := { dst := some 121, op := Op.pick (Operand.tmp 113) (Operand.tmp 120) (Operand.const (Value.bool false)), type := 4, pos := _, after := #[{ on := 51, ground := Ground.data }, { on := 58, ground := Ground.data }], guard := none }) (v := ?_) rfl (by kernel_rfl) (by kernel_rfl) (by kernel_rfl) (fun _ _ _ h => h) (Or.inl ⟨by rfl, ?hy⟩) hHeld ?_
    case hy => intro w0 hSw; (try dsimp only at hSw); go_simp; (try with_reducible rfl)
    (try simp only [Act.put, List.setIfInBounds_toArray, List.set_cons_zero, List.set_cons_succ])
    refine wpAnyH_take (i := 60) (oi := { dst := some 122, op := Op.move (Operand.tmp 121), type := 4, pos := _, after := #[{ on := 59, ground := Ground.data }, { on := 56, ground := Ground.chain }], guard := none }) (v := ?_) rfl (by kernel_rfl) (by kernel_rfl) (by kernel_rfl) (fun _ _ _ h => h) (Or.inl ⟨by rfl, ?hy⟩) hHeld ?_
    case hy => intro w0 hSw; (try dsimp only at hSw); go_simp; (try with_reducible rfl)
    (try simp only [Act.put, List.setIfInBounds_toArray, List.set_cons_zero, List.set_cons_succ])
    refine wpAnyH_take (i := 61) (oi := { dst := some 123, op := Op.move (Operand.tmp 17), type := 27, pos := _, after := #[{ on := 60, ground := Ground.guard }], guard := some (60, true) }) (v := ?_) rfl (by kernel_rfl) (by kernel_rfl) (by kernel_rfl) (fun _ _ _ h => h) (Or.inl ⟨by rfl, ?hy⟩) hHeld ?_
    case hy => intro w0 hSw; (try dsimp only at hSw); go_simp; (try with_reducible rfl)
    (try simp only [Act.put, List.setIfInBounds_toArray, List.set_cons_zero, List.set_cons_succ])
    refine wpAnyH_take (i := 62) (oi := { dst := some 124, op := Op.binOp BinOp.eql 27 (Operand.tmp 123) (Operand.const (Value.int IntKind.i64 1)) 27, type := 4, pos := _, after := #[{ on := 61, ground := Ground.data }, { on := 60, ground := Ground.guard }], guard := some (60, true) }) (v := ?_) rfl (by kernel_rfl) (by kernel_rfl) (by kernel_rfl) (fun _ _ _ h => h) (Or.inl ⟨by rfl, ?hy⟩) hHeld ?_
    case hy => intro w0 hSw; (try dsimp only at hSw); go_simp; (try with_reducible rfl)
    (try simp only [Act.put, List.setIfInBounds_toArray, List.set_cons_zero, List.set_cons_succ])
    refine wpAnyH_take (i := 63) (oi := { dst := some 125, op := Op.pick (Operand.tmp 122) (Operand.tmp 124) (Operand.const (Value.bool false)), type := 4, pos := _, after := #[{ on := 60, ground := Ground.data }, { on := 62, ground := Ground.data }], guard := none }) (v := ?_) rfl (by kernel_rfl) (by kernel_rfl) (by kernel_rfl) (fun _ _ _ h => h) (Or.inl ⟨by rfl, ?hy⟩) hHeld ?_
    case hy => intro w0 hSw; (try dsimp only at hSw); go_simp; (try with_reducible rfl)
    (try simp only [Act.put, List.setIfInBounds_toArray, List.set_cons_zero, List.set_cons_succ])
    refine wpAnyH_take (i := 64) (oi := { dst := some 0, op := Op.assign (Operand.tmp 125), type := 4, pos := _, after := _, guard := none }) (v := ?_) rfl (by kernel_rfl) (by kernel_rfl) (by kernel_rfl) (fun _ _ _ h => h) (Or.inl ⟨by rfl, ?hy⟩) hHeld ?_
    case hy => intro w0 hSw; (try dsimp only at hSw); go_simp; (try with_reducible rfl)
    (try simp only [Act.put, List.setIfInBounds_toArray, List.set_cons_zero])
    refine wpAnyH_done (by kernel_rfl) ?_ _
    clear hHeld
    have HSe := Lib.hid hS
    clear hS
    go_wp2
    go_ret
    exact ⟨rfl, HSe.out.below⟩

theorem recordedK {E : World → Prop} (HS : Hid (RecK E)) (HF : Hid (FilR E)) : RecordedK E := fun w hE => by
  have h1 : Fi.small Rc.r1 := Rc.is_small9 Rc.r1_is
  have h2 : Fi.small Rc.r2 := Rc.is_small9 Rc.r2_is
  have h3 : Fi.small Rc.r3 := Rc.mend_small _ _
  have e1 : Fi.badE Rc.r1 = 0 := by unfold Fi.badE; rw [Rc.r1_is]; rfl
  have e2 : Fi.badE Rc.r2 = 0 := by unfold Fi.badE; rw [Rc.r2_is]; rfl
  have K5 := fun W (h : E W) => Lib.hid (HS.out.read Rc.r1 5 W h h1)
  have K4 := fun W (h : E W) => Lib.hid (HS.out.read Rc.r1 4 W h h1)
  have KB := fun W (h : E W) => Lib.hid (HS.out.read Rc.r2 5 W h h2)
  have KM := fun W (h : E W) => Lib.hid (HS.out.mend Rc.r2 5 W h h2)
  have KC := fun W (h : E W) => Lib.hid (HF.out.crash Rc.r1 (((Fi.read Rc.r1).size : Int) - 1) W h h1)
  have KA := fun W (A : Addr) (h : E W) hA => Lib.hid (HS.out.add Rc.r0 5 (some A) 2 2 Rc.ab W h ⟨Nat.zero_le _, Nat.zero_le _⟩ hA rfl (by decide) (by decide) (by decide))
  rw [Rc.r1_texts5, e1] at K5
  rw [Rc.r1_texts4, e1] at K4
  rw [Rc.r2_texts, e2] at KB KM
  rw [e1] at KC
  rw [Rc.r1_ok] at KA
  have KT : ∀ (ts : List ByteArray), ts.length ≤ maxLen → ∀ (W : World) (A B : Option Addr) (c d : Nat) (_hA : StrsAt W W.heap.size A ts) (_hB : StrsAt W W.heap.size B ts), Hid (Calls Try.prog 21 #[.slice A ts.length c, .slice B ts.length d] W fun e w' => e = .returned (.bool true) ∧ Below W.heap.size W w') := fun ts hl W A B c d hA hB =>
    Lib.hid ((Texts_any A B c d _ _ W hA hB hl).mono fun e w' ⟨h1, q, h2⟩ => ⟨by rw [h1]; simp, h2 ▸ below_drew (Below.refl _ _) q⟩)
  have hs1 : (Fi.read Rc.r1).size ≤ 18000 := by rw [Fi.read_size]; unfold Fi.small at h1; omega
  exact recorded_walk HS w hE _ _ _ _ _ _ _ _ _ _ _ _ (Fi.read Rc.r1) (Fi.read Rc.r2) (Fi.read Rc.r3) (Lib.hid (by rw [IntKind.wrap_i64]; omega)) (eq_true (by have := Rc.r3_less; omega))
    (fun W h => Lib.hid (HF.out.new 100 W h)) KA K5 K4 (fun W h => Lib.hid (HF.out.read Rc.r1 W h h1)) KC KB KM (fun W h => Lib.hid (HS.out.put (-1) ⟨#[]⟩ W h (Nat.zero_le _))) (KT Rc.ab (by decide)) (KT [⟨#[97]⟩] (by decide))
    (fun W h => Lib.hid (HF.out.read Rc.r2 W h h2)) (fun W h => Lib.hid (HF.out.read Rc.r3 W h h3))
end Go.Proofs.Ytfapfnbehhekhaa
