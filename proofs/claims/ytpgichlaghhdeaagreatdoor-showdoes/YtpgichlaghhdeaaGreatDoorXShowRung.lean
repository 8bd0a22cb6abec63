/-
  Layer 11 (show): the document's rows (printed by tools/gen-showrung.py).
-/
import Derived.Test.YtpgichlaghhdeaaGreatDoorXShowK
import Derived.Great.BuildSlice
namespace Go.Proofs.YtpgichlaghhdeaaGreatDoor
set_option maxRecDepth 10000
open Go.RowKit

/-- A whole block is read under a guard that is met. -/
theorem wpList_loadg_st {P : Program} {ops : Array Oper} {rest : List Oper} {o : Oper} {a : Act} {w : World} {Q : Exit → Act → World → Prop} (hw : Region.wanted o (yielded ops a.tmps) = true) (ty : TypeId) (x : Operand) (ho : o.op = .load ty x)
    {w0 : World} {L : List (Nat × Array Value)} {M : List Fact} (hS : St w0 w L M) (i k : Nat) (cs : Array Value) (hi : L[i]? = some (k, cs)) (hx : a.eval x = .pointer (some ⟨k, 0, none⟩)) (d : TypeDesc)
    (hu : P.underlying ty = some d) (hd : (match d with | .struct _ | .array _ _ => true | _ => false) = true) (hz : (P.info? ty).map (·.size) = some cs.size)
    (h : wpList P ops Q rest (a.put o.dst (.agg cs)) w) : wpList P ops Q (o :: rest) a w := by
  obtain ⟨t, ht⟩ := hS.live (k, cs) (List.mem_of_getElem? hi)
  exact wpList_step fun K hK => by rw [if_pos hw]; exact wp_load_row ty x ho k hx t cs (0, 0) d ht hu hd hz (hK _ _ h)
theorem StrsAt.onX {w w' : World} {A : Option Addr} {xs : List ByteArray} (h : StrsAt w w.heap.size A xs) (hb : Below w.heap.size w w') : StrsAt w' w'.heap.size A xs := fun i hi => by
  obtain ⟨b, off, e, h1, h2⟩ := h.below hb (Nat.le_refl _) i hi
  exact ⟨b, off, e, Nat.lt_of_lt_of_le h1 hb.size, h2⟩
def texF (A : Option Addr) (xs : List ByteArray) : Fact := ⟨fun w => StrsAt w w.heap.size A xs, fun _ _ h hb => StrsAt.onX h hb⟩
theorem AlmsAt.one11s (w : World) (a : Alm) (t : TypeId) : AlmsAt (w.alloc (.cells (sixV a) t)) (w.alloc (.cells (sixV a) t)).heap.size (some ⟨w.heap.size, 0, none⟩) [a] := AlmsAt.oneH w a.b a.c a.ph a.pr a.si a.un t
theorem run_eql_shA (w : World) : (binOp .eql 25 (.agg (sixV shA)) (.agg (sixV shA))).run Tryz.prog w = .ok (.bool true) w := by
  unfold sixV
  go_simp
theorem run_equalIn_ints5 {P : Program} (w : World) (d : Nat) (t e : TypeId) (x0 x1 x2 x3 x4 : Int) (ht : P.underlying t = some (.array 5 e)) (he : P.underlying e = some (.int .i64)) (hs : ∀ w, (sizeOf e).run P w = .ok 1 w) (ha : ∀ w, (isAgg e).run P w = .ok false w) :
    (Op.equalIn (d + 2) t (.agg #[.int .i64 x0, .int .i64 x1, .int .i64 x2, .int .i64 x3, .int .i64 x4]) (.agg #[.int .i64 x0, .int .i64 x1, .int .i64 x2, .int .i64 x3, .int .i64 x4])).run P w = .ok true w := by
  have q : ∀ (x : Int) (w : World), (Op.equalIn (d + 1) e (.int .i64 x) (.int .i64 x)).run P w = .ok true w := by
    intro x w
    rw [run_equalIn_int w d e .i64 .i64 x x he]
    simp
  generalize hD : d + 1 = D at q
  rw [show d + 2 = D + 1 by omega]
  simp [Op.equalIn, run_underlying ht, hs, ha, List.range'_succ, part, q]
theorem run_eql_five (w : World) : (binOp .eql 41 (.agg #[.int .i64 0, .int .i64 0, .int .i64 1, .int .i64 0, .int .i64 0]) (.agg #[.int .i64 0, .int .i64 0, .int .i64 1, .int .i64 0, .int .i64 0])).run Tryz.prog w = .ok (.bool true) w := by
  rw [run_eql_struct, run_equalIn_ints5 w 9998 41 3 0 0 1 0 0 rfl rfl (by intro w; go_simp) (by intro w; go_simp)]
  rfl
section
variable {E : World → Prop} (HS : Hid (ShowK E))
include HS
theorem sh_kL (W : World) (h : E W) : Calls Tryz.prog 9 #[.agg (sixV shA)] W fun e w' => e = .returned (.tuple #[.string (⟨#[49, 50, 47, 51, 32, 101, 115, 99, 97, 108, 97, 116, 101, 100, 32, 49, 32, 53, 32, 49, 53]⟩ : ByteArray), .int .i64 0]) ∧ Below W.heap.size W w' := by
  have k := HS.out.line 12 3 2 1 5 15 W h
  rw [show strOf (Sh.line ⟨12, 3, 2, 1, 5, 15⟩) = shS from sh_line.1, show Sh.lineE ⟨12, 3, 2, 1, 5, 15⟩ = 0 from sh_line.2] at k
  exact k
theorem sh_kP (W : World) (h : E W) : Calls Tryz.prog 11 #[.string (⟨#[49, 50, 47, 51, 32, 101, 115, 99, 97, 108, 97, 116, 101, 100, 32, 49, 32, 53, 32, 49, 53]⟩ : ByteArray)] W fun e w' => e = .returned (.tuple #[.agg (sixV shA), .int .i64 0]) ∧ Below W.heap.size W w' := by
  have k := HS.out.parse shS (by decide) W h
  rw [sh_parse.1, sh_parse.2] at k
  exact k
theorem sh_kB (W : World) (h : E W) : Calls Tryz.prog 11 #[.string (⟨#[49, 50, 47, 51, 32, 101, 115, 99, 97, 108, 97, 116, 101, 100, 32, 49, 32, 48, 53, 32, 49, 53]⟩ : ByteArray)] W fun e w' => e = .returned (.tuple #[.agg (sixV (Sh.parA (bl shT))), .int .i64 20]) ∧ Below W.heap.size W w' := by
  have k := HS.out.parse shT (by decide) W h
  rw [sh_bad] at k
  exact k
theorem sh_kN (pr : Nat) (W : World) (h : E W) (hA : AlmsAt W W.heap.size (some ⟨pr, 0, none⟩) [shA]) : Calls Tryz.prog 15 #[.agg #[.int .i64 2, .int .i64 20, .slice (some ⟨pr, 0, none⟩) 1 1], .slice none 0 0, .int .i64 1] W (GivesX W [(⟨#[49, 50, 47, 51, 32, 101, 115, 99, 97, 108, 97, 116, 101, 100, 32, 49, 32, 53, 32, 49, 53]⟩ : ByteArray)] 0) := by
  have k := HS.out.lines 2 20 (some ⟨pr, 0, none⟩) 1 1 [shA] none 0 0 [] 1 W h ⟨rfl, hA, (fun e => nomatch e), by omega⟩ ⟨rfl, WinsAt.nil _ _ _, ⟨fun _ => rfl, Nat.le_refl _⟩, by omega⟩
  rw [sh_lines, sh_linesE] at k
  exact k
theorem sh_kH (pr : Nat) (B : Addr) (W : World) (h : E W) (hA : AlmsAt W W.heap.size (some ⟨pr, 0, none⟩) [shA]) (hB : WinsAt W W.heap.size (some B) [⟨12, 20, 21⟩]) : Calls Tryz.prog 13 #[.agg #[.int .i64 2, .int .i64 20, .slice (some ⟨pr, 0, none⟩) 1 1], .slice (some B) 1 1] W (GivesH W [] 0) := by
  have k := HS.out.heard 2 20 (some ⟨pr, 0, none⟩) 1 1 [shA] (some B) 1 1 [⟨12, 20, 21⟩] W h ⟨rfl, hA, (fun e => nomatch e), by omega⟩ ⟨rfl, hB, ⟨(fun e => nomatch e), Nat.le_refl _⟩, by omega⟩
  rw [sh_heard.2, sh_heardE.2] at k
  exact k
theorem sh_kC (pr : Nat) (W : World) (h : E W) (hA : AlmsAt W W.heap.size (some ⟨pr, 0, none⟩) [shA]) : Calls Tryz.prog 17 #[.agg #[.int .i64 2, .int .i64 20, .slice (some ⟨pr, 0, none⟩) 1 1]] W fun e w' => e = .returned (.agg #[.int .i64 0, .int .i64 0, .int .i64 1, .int .i64 0, .int .i64 0]) ∧ Below W.heap.size W w' := by
  have k := HS.out.count 2 20 (some ⟨pr, 0, none⟩) 1 1 [shA] W h ⟨rfl, hA, (fun e => nomatch e), by omega⟩
  rw [sh_cnt.1, sh_cnt.2.1, sh_cnt.2.2.1, sh_cnt.2.2.2.1, sh_cnt.2.2.2.2] at k
  exact k
end

set_option maxHeartbeats 4000000 in
theorem shown_any {E : World → Prop} (HS : Hid (ShowK E)) (HX : Hid XSameK) : ShownK E := by
  intro w hE
  have HE0 := Lib.hid hE
  have S0 := Lib.hid (St.start w)
  obtain ⟨X, hX⟩ : ∃ X, X = Sh.parA (bl shT) := ⟨_, rfl⟩
  have kB := fun W h => sh_kB HS W h
  rw [← hX] at kB
  have q1 := fun W => run_eql_shA W
  have q2 := fun W => run_eql_five W
  clear hE hX
  go_enter Tryz.func20, Tryz.ntmps20
  go_wp2_with (first
    | (refine wpList_store_st rfl 25 _ _ rfl S0.out _ (sixV shA) _ rfl rfl (by rfl) rfl (six_one shA) ?_; intro p1 w1 hp hS hBn; (try rw [← hp]); have S1 := Lib.hid hS; have HE1 := Lib.hid (HS.out.mono _ _ HE0.out hBn); clear hS hp hBn)
    | (refine wpList_load_st rfl 25 _ rfl S1.out 0 _ _ rfl rfl _ Tryz.underlying25 rfl (by rfl) ?_))
  refine (sh_kL HS w1 HE1.out).mono ?_
  rintro e w2 ⟨rfl, hB⟩
  have S2 := Lib.hid (S1.out.on hB)
  have HE2 := Lib.hid (HS.out.mono _ _ HE1.out hB)
  clear hB S1 HE1
  go_wp2_with fail
  refine (sh_kP HS w2 HE2.out).mono ?_
  rintro e w3 ⟨rfl, hB⟩
  have S3 := Lib.hid (S2.out.on hB)
  have HE3 := Lib.hid (HS.out.mono _ _ HE2.out hB)
  clear hB S2 HE2
  go_wp2_with (refine wpList_store_st rfl 25 _ _ rfl S3.out _ (sixV shA) _ rfl rfl (by rfl) rfl (six_one shA) ?_; intro p4 w4 hp hS hBn; (try rw [← hp]); have S4 := Lib.hid hS; have HE4 := Lib.hid (HS.out.mono _ _ HE3.out hBn); clear hS hp hBn)
  refine (kB w4 HE4.out).mono ?_
  rintro e w5 ⟨rfl, hB⟩
  have S5 := Lib.hid (S4.out.on hB)
  have HE5 := Lib.hid (HS.out.mono _ _ HE4.out hB)
  clear hB S4 HE4
  go_wp2_with (first
    | (refine wpList_store_st rfl 25 _ _ rfl S5.out _ (sixV X) _ rfl rfl (by rfl) rfl (six_one X) ?_; intro p6 w6 hp hS hBn; (try rw [← hp]); have S6 := Lib.hid hS; have HE6 := Lib.hid (HS.out.mono _ _ HE5.out hBn); clear hS hp hBn)
    | (refine wpList_load_st rfl 25 _ rfl S6.out 2 _ _ rfl rfl _ Tryz.underlying25 rfl (by rfl) ?_))
  generalize hcs : Array.foldl _ _ _ _ _ = cs
  have hcs2 : cs = sixV shA := by rw [← hcs]; rfl
  subst hcs2
  clear hcs
  have F7 := Lib.hid (AlmsAt.one11s w6 shA 25)
  have S7 := Lib.hid ((S6.out.new (sixV shA) 25).more (rowF (some ⟨w6.heap.size, 0, none⟩) [shA]) F7.out)
  have HE7 := Lib.hid (HS.out.mono _ _ HE6.out (below_new w6 (.cells (sixV shA) 25)))
  obtain ⟨w7, hw7⟩ : ∃ W, W = w6.alloc (.cells (sixV shA) 25) := ⟨_, rfl⟩
  rw [← hw7] at S7 HE7 ⊢
  obtain ⟨pr, hpr⟩ : ∃ p, p = w6.heap.size := ⟨_, rfl⟩
  have h71 : w6.heap.size + 1 = w7.heap.size := by rw [hw7]; simp
  rw [h71]
  rw [← hpr] at S7 ⊢
  clear hw7 h71 hpr F7
  have S8 := Lib.hid (S7.out.new #[.int .i64 2, .int .i64 20, .slice (some ⟨pr, 0, none⟩) 1 1] 28)
  have HE8 := Lib.hid (HS.out.mono _ _ HE7.out (below_new w7 (.cells #[.int .i64 2, .int .i64 20, .slice (some ⟨pr, 0, none⟩) 1 1] 28)))
  obtain ⟨w8, hw8⟩ : ∃ W, W = w7.alloc (.cells #[.int .i64 2, .int .i64 20, .slice (some ⟨pr, 0, none⟩) 1 1] 28) := ⟨_, rfl⟩
  rw [← hw8] at S8 HE8 ⊢
  obtain ⟨p8, hp8⟩ : ∃ p, p = w7.heap.size := ⟨_, rfl⟩
  rw [← hp8] at S8 ⊢
  clear hw8 hp8 S6 S7 HE6 HE7
  have k := sh_kN HS pr w8 HE8.out (S8.out.fact 0 rfl)
  refine k.mono ?_
  rintro e w9 ⟨A, q, c, hq, rfl, hO, h0, hc, hB⟩
  have S9 := Lib.hid (S8.out.on hB)
  have HE9 := Lib.hid (HS.out.mono _ _ HE8.out hB)
  have S9x := Lib.hid (S9.out.more (texF A [(⟨#[49, 50, 47, 51, 32, 101, 115, 99, 97, 108, 97, 116, 101, 100, 32, 49, 32, 53, 32, 49, 53]⟩ : ByteArray)]) hO)
  clear hB S8 HE8
  clear hO k S9
  obtain rfl : q = 1 := hq

  go_wp2_with (refine wpList_load_st rfl 28 _ rfl S9x.out 0 _ _ rfl rfl _ Tryz.underlying28 rfl (by rfl) ?_)
  have T10 := WinsAt.one w9 12 20 21 56
  have S10 := Lib.hid (S9x.out.on (below_new w9 (.cells #[.int .i64 12, .int .i64 20, .int .i64 21] 56)))
  have HE10 := Lib.hid (HS.out.mono _ _ HE9.out (below_new w9 (.cells #[.int .i64 12, .int .i64 20, .int .i64 21] 56)))
  have k := sh_kH HS pr ⟨w9.heap.size, 0, none⟩ _ HE10.out (S10.out.fact 1 rfl) T10
  refine k.mono ?_
  rintro e w11 ⟨A2, q, c2, hq, rfl, -, hB⟩
  have S11 := Lib.hid (S10.out.on hB)
  have HE11 := Lib.hid (HS.out.mono _ _ HE10.out hB)
  clear hB S10 HE10
  obtain rfl : q = 0 := hq
  clear S9x HE9 T10 k
  go_wp2_with (first
    | (refine wpList_loadg_st (by rfl) 25 _ rfl S11.out 3 _ _ rfl rfl _ Tryz.underlying25 rfl (by rfl) ?_)
    | (refine wpList_loadg_st (by rfl) 25 _ rfl S11.out 4 _ _ rfl rfl _ Tryz.underlying25 rfl (by rfl) ?_))
  have T12 := StrsAt.oneX w11 (⟨#[49, 50, 47, 51, 32, 101, 115, 99, 97, 108, 97, 116, 101, 100, 32, 49, 32, 53, 32, 49, 53]⟩ : ByteArray) 9
  have S12 := Lib.hid (S11.out.on (below_new w11 (.cells #[.string (⟨#[49, 50, 47, 51, 32, 101, 115, 99, 97, 108, 97, 116, 101, 100, 32, 49, 32, 53, 32, 49, 53]⟩ : ByteArray)] 9)))
  have HE12 := Lib.hid (HS.out.mono _ _ HE11.out (below_new w11 (.cells #[.string (⟨#[49, 50, 47, 51, 32, 101, 115, 99, 97, 108, 97, 116, 101, 100, 32, 49, 32, 53, 32, 49, 53]⟩ : ByteArray)] 9)))
  have k := HX.out A (some ⟨w11.heap.size, 0, none⟩) 1 c 1 [(⟨#[49, 50, 47, 51, 32, 101, 115, 99, 97, 108, 97, 116, 101, 100, 32, 49, 32, 53, 32, 49, 53]⟩ : ByteArray)] _ rfl (S12.out.fact 0 rfl) T12 (by omega)
  refine k.mono ?_
  rintro e w13 ⟨rfl, hB⟩
  have S13 := Lib.hid (S12.out.on hB)
  have HE13 := Lib.hid (HS.out.mono _ _ HE12.out hB)
  clear hB S12 HE12
  clear S11 HE11 T12 k
  go_wp2_with (refine wpList_loadg_st (by rfl) 28 _ rfl S13.out 0 _ _ rfl rfl _ Tryz.underlying28 rfl (by rfl) ?_)
  have k := sh_kC HS pr w13 HE13.out (S13.out.fact 1 rfl)
  refine k.mono ?_
  rintro e w14 ⟨rfl, hB⟩
  have S14 := Lib.hid (S13.out.on hB)
  have HE14 := Lib.hid (HS.out.mono _ _ HE13.out hB)
  clear hB S13 HE13
  go_wp2
  go_ret
  exact ⟨rfl, S14.out.below⟩
end Go.Proofs.YtpgichlaghhdeaaGreatDoor
