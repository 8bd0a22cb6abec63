/-
  Layer 12 (file): the document's rows, over the structure (printed by tools/gen-filerung.py).
-/
import Derived.Test.YtdhklggbmlkloaaFileK
import Derived.Test.YtdhklggbmlkloaaAidStrs
import Derived.BigQuiet
import Derived.Deep.QuietTactic
namespace Go.Proofs.Ytdhklggbmlkloaa
set_option maxRecDepth 10000
open Go.RowKit

theorem wpList_loadg_st {P : Program} {ops : Array Oper} {rest : List Oper} {o : Oper} {a : Act} {w : World} {Q : Exit → Act → World → Prop} (hw : Region.wanted o (yielded ops a.tmps) = true) (ty : TypeId) (x : Operand) (ho : o.op = .load ty x)
    {w0 : World} {L : List (Nat × Array Value)} {M : List Fact} (hS : St w0 w L M) (i k : Nat) (cs : Array Value) (hi : L[i]? = some (k, cs)) (hx : a.eval x = .pointer (some ⟨k, 0, none⟩)) (d : TypeDesc)
    (hu : P.underlying ty = some d) (hd : (match d with | .struct _ | .array _ _ => true | _ => false) = true) (hz : (P.info? ty).map (·.size) = some cs.size)
    (h : wpList P ops Q rest (a.put o.dst (.agg cs)) w) : wpList P ops Q (o :: rest) a w := by
  obtain ⟨t, ht⟩ := hS.live (k, cs) (List.mem_of_getElem? hi)
  exact wpList_step fun K hK => by rw [if_pos hw]; exact wp_load_row ty x ho k hx t cs (0, 0) d ht hu hd hz (hK _ _ h)

set_option maxHeartbeats 4000000 in
theorem filed_walk {E : World → Prop} (HS : Hid (FileK E)) (w : World) (hE : E w)
    (KN : ∀ (W : World) (_h : E W), Hid (Calls Try.prog 19 #[.int .i64 5] W fun e w' => e = .returned (.tuple #[.agg (filV fi0), .int .i64 0]) ∧ Below W.heap.size W w'))
    (KA1 : ∀ (W : World) (A : Addr) (_h : E W) (_hA : StrsAt W W.heap.size (some A) [⟨#[97]⟩, ⟨#[98]⟩]), Hid (Calls Try.prog 11 #[.agg (filV fi0), .slice (some A) 2 2] W fun e w' => e = .returned (.tuple #[.agg (filV fi1), .int .i64 0]) ∧ Below W.heap.size W w'))
    (KS : ∀ (W : World) (_h : E W), Hid (Calls Try.prog 13 #[.agg (filV fi1)] W fun e w' => e = .returned (.tuple #[.agg (filV fi2), .int .i64 0]) ∧ Below W.heap.size W w'))
    (KA2 : ∀ (W : World) (A : Addr) (_h : E W) (_hA : StrsAt W W.heap.size (some A) [⟨#[99, 100]⟩]), Hid (Calls Try.prog 11 #[.agg (filV fi2), .slice (some A) 1 1] W fun e w' => e = .returned (.tuple #[.agg (filV fi3), .int .i64 0]) ∧ Below W.heap.size W w'))
    (KC1 : ∀ (W : World) (_h : E W), Hid (Calls Try.prog 15 #[.agg (filV fi3), .int .i64 1] W fun e w' => e = .returned (.tuple #[.agg (filV fi4), .int .i64 0]) ∧ Below W.heap.size W w'))
    (KC0 : ∀ (W : World) (_h : E W), Hid (Calls Try.prog 15 #[.agg (filV fi3), .int .i64 0] W fun e w' => e = .returned (.tuple #[.agg (filV fi2), .int .i64 0]) ∧ Below W.heap.size W w'))
    (KA3 : ∀ (W : World) (A : Addr) (_h : E W) (_hA : StrsAt W W.heap.size (some A) [⟨#[120, 121]⟩]), Hid (Calls Try.prog 11 #[.agg (filV fi3), .slice (some A) 1 1] W fun e w' => e = .returned (.tuple #[.agg (filV Fi.no), .int .i64 81]) ∧ Below W.heap.size W w'))
    (KU : ∀ (W : World) (_h : E W), Hid (Calls Try.prog 17 #[.agg (filV fi3), .int .i64 3] W fun e w' => e = .returned (.tuple #[.agg (filV fi4), .int .i64 0]) ∧ Below W.heap.size W w'))
    (KR1 : ∀ (W : World) (_h : E W), Hid (Calls Try.prog 24 #[.agg (filV fi4)] W fun e w' => e = .returned (.string ⟨#[97, 98, 99]⟩) ∧ Below W.heap.size W w'))
    (KR2 : ∀ (W : World) (_h : E W), Hid (Calls Try.prog 24 #[.agg (filV fi2)] W fun e w' => e = .returned (.string ⟨#[97, 98]⟩) ∧ Below W.heap.size W w'))
    (KI : ∀ (W : World) (_h : E W), Hid (Calls Try.prog 22 #[.agg (filV fi3)] W fun e w' => e = .returned (.bool true) ∧ Below W.heap.size W w')) :
    Calls Try.prog 21 #[] w fun e w' => e = .returned (.bool true) ∧ Below w.heap.size w w' := by
  have S0 := Lib.hid (St.start w)
  have HE0 := Lib.hid hE
  have q1 := fun W => run_eql_fil4 W
  clear hE
  go_enter Try.func21, Try.ntmps21
  go_wp2_with fail
  refine (KN w HE0.out).out.mono ?_
  rintro e w1 ⟨rfl, hB⟩
  have S1 := Lib.hid (S0.out.on hB)
  have HE1 := Lib.hid (HS.out.mono _ _ HE0.out hB)
  clear hB S0 HE0
  go_wp2_with (first
    | (refine wpList_store_st rfl 23 _ _ rfl S1.out _ (filV fi0) _ rfl rfl (by rfl) rfl (fil_one fi0) ?_; intro p1 v1 hp hS hBn; (try rw [← hp]); have T1 := Lib.hid hS; have HT1 := Lib.hid (HS.out.mono _ _ HE1.out hBn); clear hS hp hBn)
    | (refine wpList_load_st rfl 23 _ rfl T1.out 0 _ _ rfl rfl _ Try.underlying23 rfl (by rfl) ?_))
  have HQ1 := Lib.hid (HS.out.mono _ _ HT1.out (below_new v1 (.cells #[.string ⟨#[97]⟩, .string ⟨#[98]⟩] 9)))
  have hs1 := StrsAt.new v1 [⟨#[97]⟩, ⟨#[98]⟩] 9
  have SQ1 := Lib.hid (T1.out.on (below_new v1 (.cells #[.string ⟨#[97]⟩, .string ⟨#[98]⟩] 9)))
  clear T1 HT1
  refine (KA1 _ _ HQ1.out (by simpa using hs1)).out.mono ?_
  rintro e w2 ⟨rfl, hB⟩
  have S2 := Lib.hid (SQ1.out.on hB)
  have HE2 := Lib.hid (HS.out.mono _ _ HQ1.out hB)
  clear hs1 hB SQ1 HQ1
  go_wp2_with (first
    | (refine wpList_store_st rfl 23 _ _ rfl S2.out _ (filV fi1) _ rfl rfl (by rfl) rfl (fil_one fi1) ?_; intro p2 v2 hp hS hBn; (try rw [← hp]); have T2 := Lib.hid hS; have HT2 := Lib.hid (HS.out.mono _ _ HE2.out hBn); clear hS hp hBn)
    | (refine wpList_load_st rfl 23 _ rfl T2.out 0 _ _ rfl rfl _ Try.underlying23 rfl (by rfl) ?_))
  refine (KS v2 HT2.out).out.mono ?_
  rintro e w3 ⟨rfl, hB⟩
  have S3 := Lib.hid (T2.out.on hB)
  have HE3 := Lib.hid (HS.out.mono _ _ HT2.out hB)
  clear hB T2 HT2
  go_wp2_with (first
    | (refine wpList_store_st rfl 23 _ _ rfl S3.out _ (filV fi2) _ rfl rfl (by rfl) rfl (fil_one fi2) ?_; intro p3 v3 hp hS hBn; (try rw [← hp]); have T3 := Lib.hid hS; have HT3 := Lib.hid (HS.out.mono _ _ HE3.out hBn); clear hS hp hBn)
    | (refine wpList_load_st rfl 23 _ rfl T3.out 0 _ _ rfl rfl _ Try.underlying23 rfl (by rfl) ?_))
  have HQ3 := Lib.hid (HS.out.mono _ _ HT3.out (below_new v3 (.cells #[.string ⟨#[99, 100]⟩] 9)))
  have hs3 := StrsAt.new v3 [⟨#[99, 100]⟩] 9
  have SQ3 := Lib.hid (T3.out.on (below_new v3 (.cells #[.string ⟨#[99, 100]⟩] 9)))
  clear T3 HT3
  refine (KA2 _ _ HQ3.out (by simpa using hs3)).out.mono ?_
  rintro e w4 ⟨rfl, hB⟩
  have S4 := Lib.hid (SQ3.out.on hB)
  have HE4 := Lib.hid (HS.out.mono _ _ HQ3.out hB)
  clear hs3 hB SQ3 HQ3
  go_wp2_with (first
    | (refine wpList_store_st rfl 23 _ _ rfl S4.out _ (filV fi3) _ rfl rfl (by rfl) rfl (fil_one fi3) ?_; intro p4 v4 hp hS hBn; (try rw [← hp]); have T4 := Lib.hid hS; have HT4 := Lib.hid (HS.out.mono _ _ HE4.out hBn); clear hS hp hBn)
    | (refine wpList_load_st rfl 23 _ rfl T4.out 0 _ _ rfl rfl _ Try.underlying23 rfl (by rfl) ?_))
  refine (KC1 v4 HT4.out).out.mono ?_
  rintro e w5 ⟨rfl, hB⟩
  have S5 := Lib.hid (T4.out.on hB)
  have HE5 := Lib.hid (HS.out.mono _ _ HT4.out hB)
  clear hB T4 HT4
  go_wp2_with (first
    | (refine wpList_store_st rfl 23 _ _ rfl S5.out _ (filV fi4) _ rfl rfl (by rfl) rfl (fil_one fi4) ?_; intro p5 v5 hp hS hBn; (try rw [← hp]); have T5 := Lib.hid hS; have HT5 := Lib.hid (HS.out.mono _ _ HE5.out hBn); clear hS hp hBn)
    | (refine wpList_load_st rfl 23 _ rfl T5.out 1 _ _ rfl rfl _ Try.underlying23 rfl (by rfl) ?_))
  refine (KC0 v5 HT5.out).out.mono ?_
  rintro e w6 ⟨rfl, hB⟩
  have S6 := Lib.hid (T5.out.on hB)
  have HE6 := Lib.hid (HS.out.mono _ _ HT5.out hB)
  clear hB T5 HT5
  go_wp2_with (first
    | (refine wpList_store_st rfl 23 _ _ rfl S6.out _ (filV fi2) _ rfl rfl (by rfl) rfl (fil_one fi2) ?_; intro p6 v6 hp hS hBn; (try rw [← hp]); have T6 := Lib.hid hS; have HT6 := Lib.hid (HS.out.mono _ _ HE6.out hBn); clear hS hp hBn)
    | (refine wpList_load_st rfl 23 _ rfl T6.out 2 _ _ rfl rfl _ Try.underlying23 rfl (by rfl) ?_))
  have HQ6 := Lib.hid (HS.out.mono _ _ HT6.out (below_new v6 (.cells #[.string ⟨#[120, 121]⟩] 9)))
  have hs6 := StrsAt.new v6 [⟨#[120, 121]⟩] 9
  have SQ6 := Lib.hid (T6.out.on (below_new v6 (.cells #[.string ⟨#[120, 121]⟩] 9)))
  clear T6 HT6
  refine (KA3 _ _ HQ6.out (by simpa using hs6)).out.mono ?_
  rintro e w7 ⟨rfl, hB⟩
  have S7 := Lib.hid (SQ6.out.on hB)
  have HE7 := Lib.hid (HS.out.mono _ _ HQ6.out hB)
  clear hs6 hB SQ6 HQ6
  go_wp2_with (first
    | (refine wpList_store_st rfl 23 _ _ rfl S7.out _ (filV Fi.no) _ rfl rfl (by rfl) rfl (fil_one Fi.no) ?_; intro p7 v7 hp hS hBn; (try rw [← hp]); have T7 := Lib.hid hS; have HT7 := Lib.hid (HS.out.mono _ _ HE7.out hBn); clear hS hp hBn)
    | (refine wpList_load_st rfl 23 _ rfl T7.out 3 _ _ rfl rfl _ Try.underlying23 rfl (by rfl) ?_))
  refine (KU v7 HT7.out).out.mono ?_
  rintro e w8 ⟨rfl, hB⟩
  have S8 := Lib.hid (T7.out.on hB)
  have HE8 := Lib.hid (HS.out.mono _ _ HT7.out hB)
  clear hB T7 HT7
  go_wp2_with (first
    | (refine wpList_store_st rfl 23 _ _ rfl S8.out _ (filV fi4) _ rfl rfl (by rfl) rfl (fil_one fi4) ?_; intro p8 v8 hp hS hBn; (try rw [← hp]); have T8 := Lib.hid hS; have HT8 := Lib.hid (HS.out.mono _ _ HE8.out hBn); clear hS hp hBn)
    | (refine wpList_loadg_st (by rfl) 23 _ rfl T8.out 3 _ _ rfl rfl _ Try.underlying23 rfl (by rfl) ?_))
  refine (KR1 v8 HT8.out).out.mono ?_
  rintro e w9 ⟨rfl, hB⟩
  have S9 := Lib.hid (T8.out.on hB)
  have HE9 := Lib.hid (HS.out.mono _ _ HT8.out hB)
  clear hB T8 HT8
  go_wp2_with (refine wpList_loadg_st (by rfl) 23 _ rfl S9.out 2 _ _ rfl rfl _ Try.underlying23 rfl (by rfl) ?_)
  refine (KR2 w9 HE9.out).out.mono ?_
  rintro e w10 ⟨rfl, hB⟩
  have S10 := Lib.hid (S9.out.on hB)
  have HE10 := Lib.hid (HS.out.mono _ _ HE9.out hB)
  clear hB S9 HE9
  go_wp2_with (first
    | (refine wpList_loadg_st (by rfl) 23 _ rfl S10.out 0 _ _ rfl rfl _ Try.underlying23 rfl (by rfl) ?_)
    | (refine wpList_loadg_st (by rfl) 23 _ rfl S10.out 4 _ _ rfl rfl _ Try.underlying23 rfl (by rfl) ?_))
  refine (KI w10 HE10.out).out.mono ?_
  rintro e w11 ⟨rfl, hB⟩
  have S11 := Lib.hid (S10.out.on hB)
  have HE11 := Lib.hid (HS.out.mono _ _ HE10.out hB)
  clear hB S10 HE10
  go_wp2
  go_ret
  exact ⟨rfl, S11.out.below⟩

theorem filedK {E : World → Prop} (HS : Hid (FileK E)) : FiledK E := fun w hE => by
  have s := fi_smalls
  refine filed_walk HS w hE (fun W h => Lib.hid (HS.out.new 5 W h)) (fun W A h hA => Lib.hid ?_) (fun W h => Lib.hid (HS.out.sync fi1 W h s.2.1)) (fun W A h hA => Lib.hid ?_) (fun W h => Lib.hid (HS.out.crash fi3 1 W h s.2.2.2.1)) (fun W h => Lib.hid (HS.out.crash fi3 0 W h s.2.2.2.1)) (fun W A h hA => Lib.hid ?_) (fun W h => Lib.hid (HS.out.cut fi3 3 W h s.2.2.2.1)) (fun W h => Lib.hid (HS.out.read fi4 W h s.2.2.2.2)) (fun W h => Lib.hid (HS.out.read fi2 W h s.2.2.1)) (fun W h => Lib.hid (HS.out.is fi3 W h s.2.2.2.1))
  · exact HS.out.add fi0 _ 2 2 _ W h s.1 hA rfl (by decide) (by decide) (by decide)
  · exact HS.out.add fi2 _ 1 1 _ W h s.2.2.1 hA rfl (by decide) (by decide) (by decide)
  · exact HS.out.add fi3 _ 1 1 _ W h s.2.2.2.1 hA rfl (by decide) (by decide) (by decide)
end Go.Proofs.Ytdhklggbmlkloaa
