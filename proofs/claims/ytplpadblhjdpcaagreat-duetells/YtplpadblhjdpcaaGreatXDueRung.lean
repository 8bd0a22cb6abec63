/-
  Layer 9 (due): the document's rows (printed by tools/gen-duerung.py).
-/
import Derived.Test.YtplpadblhjdpcaaGreatXJa
import Derived.Test.YtplpadblhjdpcaaGreatXJc
import Derived.Deep.Cut
import Derived.Deep.RegionHeld3
namespace Go.Proofs.YtplpadblhjdpcaaGreat
set_option maxRecDepth 10000
open Go.RowKit

/-- A block of one's own is written whole: other blocks stay, and rows behind it. -/
theorem wpList_rewr {P : Program} {ops : Array Oper} {rest : List Oper} {o : Oper} {a : Act} {w : World} {Q : Exit → Act → World → Prop} (hgd : o.guard = none) (ty : TypeId) (x y : Operand) (ho : o.op = .store ty x y)
    {w0 : World} {L : List (Nat × Array Value)} {M : List Fact} (hS : St w0 w L M) (i k : Nat) (old cs : Array Value) (hi : L[i]? = some (k, old)) (L' : List (Nat × Array Value)) (hL : ∀ x ∈ L', x ∈ L) (hne : ∀ x ∈ L', x.1 ≠ k) (hk : w0.heap.size ≤ k) (base : Nat) (v : Value) (ls : List Alm) (hO : OwnA w base v ls) (hkb : k < base)
    (hx : a.eval x = .pointer (some ⟨k, 0, none⟩)) (hy : a.eval y = .agg cs) (hz : (P.info? ty).map (·.size) = some cs.size) (hsz : old.size = cs.size) (h1 : cs.all (·.oneCell') = true)
    (h : ∀ w', St w0 w' ((k, cs) :: L') [] → OwnA w' base v ls → wpList P ops Q rest (a.put o.dst undef) w') : wpList P ops Q (o :: rest) a w := by
  obtain ⟨t, ht⟩ := hS.live (k, old) (List.mem_of_getElem? hi)
  refine wpList_store_row hgd ty x y ho k cs hx hy t old ht hz hsz h1 ?_
  exact h _ ((hS.after8 cs L' hL hne hk).add ⟨t, setRow_heap _ _ _ _ _ _ ht⟩) (hO.after cs hkb)
theorem TrnsAt.three (w : World) (a0 a1 a2 a3 b0 b1 b2 b3 c0 c1 c2 c3 : Int) (t : TypeId) : TrnsAt (w.alloc (.cells #[.int .i64 a0, .int .i64 a1, .int .i64 a2, .int .i64 a3, .int .i64 b0, .int .i64 b1, .int .i64 b2, .int .i64 b3, .int .i64 c0, .int .i64 c1, .int .i64 c2, .int .i64 c3] t)) (w.alloc (.cells #[.int .i64 a0, .int .i64 a1, .int .i64 a2, .int .i64 a3, .int .i64 b0, .int .i64 b1, .int .i64 b2, .int .i64 b3, .int .i64 c0, .int .i64 c1, .int .i64 c2, .int .i64 c3] t)).heap.size (some ⟨w.heap.size, 0, none⟩) [⟨a0, a1, a2, a3⟩, ⟨b0, b1, b2, b3⟩, ⟨c0, c1, c2, c3⟩] := fun i hi => by
  have h : ∀ j v, (#[.int .i64 a0, .int .i64 a1, .int .i64 a2, .int .i64 a3, .int .i64 b0, .int .i64 b1, .int .i64 b2, .int .i64 b3, .int .i64 c0, .int .i64 c1, .int .i64 c2, .int .i64 c3] : Array Value)[j]? = some v → (w.alloc (.cells #[.int .i64 a0, .int .i64 a1, .int .i64 a2, .int .i64 a3, .int .i64 b0, .int .i64 b1, .int .i64 b2, .int .i64 b3, .int .i64 c0, .int .i64 c1, .int .i64 c2, .int .i64 c3] t)).cell? ⟨w.heap.size, j, none⟩ = some v := fun j v hj => by
    rw [cell_of_row _ w.heap.size j _ t (0, 0) (heap_alloc_new w _)]; exact hj
  refine ⟨w.heap.size, 0, rfl, by simp, ?_⟩
  match i, hi with
  | 0, _ => exact ⟨h 0 _ rfl, h 1 _ rfl, h 2 _ rfl, h 3 _ rfl⟩
  | 1, _ => exact ⟨h 4 _ rfl, h 5 _ rfl, h 6 _ rfl, h 7 _ rfl⟩
  | 2, _ => exact ⟨h 8 _ rfl, h 9 _ rfl, h 10 _ rfl, h 11 _ rfl⟩

theorem cNew (HB9 : Hid BoardK9) (W : World) : Calls Tryz.prog 34 #[.int .i64 5] W (GivesB W ⟨5, 0, []⟩ 0 0) := HB9.out.new 5 0 W rfl
theorem cOpen1 (HB9 : Hid BoardK9) (W : World) : Calls Tryz.prog 35 #[.agg #[.int .i64 1, .int .i64 0], .int .i64 2, .int .i64 0] W fun e w' => e = .returned (.tuple #[.agg #[.int .i64 1, .int .i64 0, .int .i64 1, .int .i64 2, .int .i64 0, .int .i64 30], .int .i64 0]) ∧ Below W.heap.size W w' := HB9.out.opn 1 0 2 0 W
theorem cOpen2 (HB9 : Hid BoardK9) (W : World) : Calls Tryz.prog 35 #[.agg #[.int .i64 2, .int .i64 0], .int .i64 1, .int .i64 0] W fun e w' => e = .returned (.tuple #[.agg #[.int .i64 2, .int .i64 0, .int .i64 1, .int .i64 1, .int .i64 0, .int .i64 10], .int .i64 0]) ∧ Below W.heap.size W w' := HB9.out.opn 2 0 1 0 W
theorem cDo (HB9 : Hid BoardK9) (W : World) : Calls Tryz.prog 36 #[.agg #[.int .i64 2, .int .i64 0, .int .i64 1, .int .i64 1, .int .i64 0, .int .i64 10], .int .i64 4, .int .i64 0, .int .i64 5] W fun e w' => e = .returned (.tuple #[.agg #[.int .i64 2, .int .i64 0, .int .i64 4, .int .i64 1, .int .i64 0, .int .i64 5], .int .i64 0]) ∧ Below W.heap.size W w' := HB9.out.deed 2 0 1 1 0 10 4 0 5 W
theorem cPut1 (HB9 : Hid BoardK9) (A : Option Addr) (c : Nat) (W : World) (h0 : A = none → c = 0) : Calls Tryz.prog 37 #[.agg #[.int .i64 5, .int .i64 0, .slice A 0 c], .agg #[.int .i64 1, .int .i64 0, .int .i64 1, .int .i64 2, .int .i64 0, .int .i64 30]] W (GivesB W ⟨5, 0, [⟨1, 0, 1, 2, 0, 30⟩]⟩ 1 0) := HB9.out.put 5 0 A 0 c [] ⟨1, 0, 1, 2, 0, 30⟩ 1 W ⟨rfl, AlmsAt.nil _ _ _, h0, by omega⟩ rfl
theorem cPut2 (HB9 : Hid BoardK9) (A : Option Addr) (c : Nat) (W : World) (hA : AlmsAt W W.heap.size A [⟨1, 0, 1, 2, 0, 30⟩]) (h0 : A = none → c = 0) : Calls Tryz.prog 37 #[.agg #[.int .i64 5, .int .i64 0, .slice A 1 c], .agg #[.int .i64 2, .int .i64 0, .int .i64 4, .int .i64 1, .int .i64 0, .int .i64 5]] W (GivesB W ⟨5, 0, [⟨1, 0, 1, 2, 0, 30⟩, ⟨2, 0, 4, 1, 0, 5⟩]⟩ 2 0) := HB9.out.put 5 0 A 1 c [⟨1, 0, 1, 2, 0, 30⟩] ⟨2, 0, 4, 1, 0, 5⟩ 2 W ⟨rfl, hA, h0, by omega⟩ rfl
theorem cNext (HD : Hid DueK) (A : Option Addr) (c : Nat) (W : World) (hA : AlmsAt W W.heap.size A [⟨1, 0, 1, 2, 0, 30⟩, ⟨2, 0, 4, 1, 0, 5⟩]) (h0 : A = none → c = 0) : Calls Tryz.prog 9 #[.agg #[.int .i64 5, .int .i64 0, .slice A 2 c]] W fun e w' => e = .returned (.tuple #[.int .i64 5, .bool true]) ∧ Below W.heap.size W w' := HD.out.next 5 0 A 2 c [⟨1, 0, 1, 2, 0, 30⟩, ⟨2, 0, 4, 1, 0, 5⟩] W ⟨rfl, hA, h0, by omega⟩
theorem cTurns (HD : Hid DueK) (A : Option Addr) (c : Nat) (W : World) (hA : AlmsAt W W.heap.size A [⟨1, 0, 1, 2, 0, 30⟩, ⟨2, 0, 4, 1, 0, 5⟩]) (h0 : A = none → c = 0) : Calls Tryz.prog 7 #[.agg #[.int .i64 5, .int .i64 0, .slice A 2 c], .int .i64 30] W (GivesT W 3 [⟨5, 2, 0, 1⟩, ⟨15, 2, 0, 2⟩, ⟨30, 1, 0, 2⟩] 0) := by
  have e1 : Du.turns 5 0 [⟨1, 0, 1, 2, 0, 30⟩, ⟨2, 0, 4, 1, 0, 5⟩] 30 = [⟨5, 2, 0, 1⟩, ⟨15, 2, 0, 2⟩, ⟨30, 1, 0, 2⟩] := by decide +kernel
  have e2 : Du.turnsE 5 0 [⟨1, 0, 1, 2, 0, 30⟩, ⟨2, 0, 4, 1, 0, 5⟩] 30 = 0 := by decide +kernel
  have k := HD.out.turns 5 0 A 2 c [⟨1, 0, 1, 2, 0, 30⟩, ⟨2, 0, 4, 1, 0, 5⟩] 30 3 W ⟨rfl, hA, h0, by omega⟩ (by rw [e1]; rfl)
  rw [e1, e2] at k
  exact k
theorem cAt (HD : Hid DueK) (A : Option Addr) (c : Nat) (W : World) (hA : AlmsAt W W.heap.size A [⟨1, 0, 1, 2, 0, 30⟩, ⟨2, 0, 4, 1, 0, 5⟩]) (h0 : A = none → c = 0) : Calls Tryz.prog 11 #[.agg #[.int .i64 5, .int .i64 0, .slice A 2 c], .agg #[.int .i64 2, .int .i64 0], .int .i64 14] W fun e w' => e = .returned (.tuple #[.int .i64 1, .bool true]) ∧ Below W.heap.size W w' := by
  have e1 : Du.atP 2 0 14 [⟨1, 0, 1, 2, 0, 30⟩, ⟨2, 0, 4, 1, 0, 5⟩] = 1 := by decide +kernel
  have e2 : Bd.has 2 0 [⟨1, 0, 1, 2, 0, 30⟩, ⟨2, 0, 4, 1, 0, 5⟩] = true := by decide +kernel
  have k := HD.out.at' 5 0 A 2 c [⟨1, 0, 1, 2, 0, 30⟩, ⟨2, 0, 4, 1, 0, 5⟩] 2 0 14 W ⟨rfl, hA, h0, by omega⟩
  rw [e1, e2] at k
  exact k
theorem cOrder (HD : Hid DueK) (A : Option Addr) (c : Nat) (W : World) (hA : TrnsAt W W.heap.size A [⟨30, 1, 0, 2⟩, ⟨5, 2, 0, 1⟩, ⟨15, 2, 0, 2⟩]) (h0 : A = none → c = 0) : Calls Tryz.prog 17 #[.slice A 3 c] W (OwnedT W 3 [⟨5, 2, 0, 1⟩, ⟨15, 2, 0, 2⟩, ⟨30, 1, 0, 2⟩]) := by
  have e1 : Du.order [⟨30, 1, 0, 2⟩, ⟨5, 2, 0, 1⟩, ⟨15, 2, 0, 2⟩] = [⟨5, 2, 0, 1⟩, ⟨15, 2, 0, 2⟩, ⟨30, 1, 0, 2⟩] := by decide +kernel
  have k := HD.out.order A 3 c [⟨30, 1, 0, 2⟩, ⟨5, 2, 0, 1⟩, ⟨15, 2, 0, 2⟩] W rfl hA h0 (by omega)
  rw [e1] at k
  exact k
theorem cSame (HT : Hid TSameK) (A B : Option Addr) (c c2 : Nat) (W : World) (hA : TrnsAt W W.heap.size A [⟨5, 2, 0, 1⟩, ⟨15, 2, 0, 2⟩, ⟨30, 1, 0, 2⟩]) (hB : TrnsAt W W.heap.size B [⟨5, 2, 0, 1⟩, ⟨15, 2, 0, 2⟩, ⟨30, 1, 0, 2⟩]) : Calls Tryz.prog 15 #[.slice A 3 c, .slice B 3 c2] W fun e w' => e = .returned (.bool true) ∧ Below W.heap.size W w' := HT.out A B 3 c c2 [⟨5, 2, 0, 1⟩, ⟨15, 2, 0, 2⟩, ⟨30, 1, 0, 2⟩] W rfl hA hB (by omega)



set_option maxRecDepth 10000 in
set_option maxHeartbeats 8000000 in
theorem coming_any (HD : Hid DueK) (HB9 : Hid BoardK9) (HT : Hid TSameK) : ComingK := by
  intro w
  have HS := Lib.hid (St.start w)
  go_enter Tryz.func16, Tryz.ntmps16
  go_wp2_with fail
  refine (cNew HB9 _).mono ?_
  rintro e w1 ⟨A1, c1, rfl, hO, hB⟩
  have N1 := Lib.hid hO.alms.2
  replace HS := Lib.hid (HS.out.on hB)
  clear hO hB
  go_wp2_with (first
    | (refine wpList_store_st rfl 24 _ _ rfl HS.out _ #[.int .i64 5, .int .i64 0, .slice A1 0 c1] _ rfl rfl (by rfl) rfl (bd_one 5 0 A1 0 c1) ?_; intro p1 v1 hp hS hBn; have G1 : Hid (w.heap.size ≤ p1) := Lib.hid (by rw [hp]; exact HS.out.below.size); (try rw [← hp]); clear HS; have HS := Lib.hid hS; clear hS hp hBn))
  refine (cOpen1 HB9 _).mono ?_
  rintro e w2 ⟨rfl, hB⟩
  replace HS := Lib.hid (HS.out.on hB)
  clear hB
  go_wp2_with (first
    | (refine wpList_store_st rfl 38 _ _ rfl HS.out _ #[.int .i64 1, .int .i64 0, .int .i64 1, .int .i64 2, .int .i64 0, .int .i64 30] _ rfl rfl (by rfl) rfl (six_one ⟨1, 0, 1, 2, 0, 30⟩) ?_; intro p2 v2 hp hS hBn; have L12 : Hid (p1 < p2) := Lib.hid (by rw [hp]; exact HS.out.lt 0 rfl); (try rw [← hp]); clear HS; have HS := Lib.hid hS; clear hS hp hBn))
  refine (cOpen2 HB9 _).mono ?_
  rintro e w3 ⟨rfl, hB⟩
  replace HS := Lib.hid (HS.out.on hB)
  clear hB
  go_wp2_with (first
    | (refine wpList_store_st rfl 38 _ _ rfl HS.out _ #[.int .i64 2, .int .i64 0, .int .i64 1, .int .i64 1, .int .i64 0, .int .i64 10] _ rfl rfl (by rfl) rfl (six_one ⟨2, 0, 1, 1, 0, 10⟩) ?_; intro p3 v3 hp hS hBn; have L13 : Hid (p1 < p3) := Lib.hid (by rw [hp]; exact HS.out.lt 1 rfl); have L23 : Hid (p2 < p3) := Lib.hid (by rw [hp]; exact HS.out.lt 0 rfl); (try rw [← hp]); clear HS; have HS := Lib.hid hS; clear hS hp hBn)
    | (refine wpList_load_st rfl 38 _ rfl HS.out 0 _ _ rfl rfl _ Tryz.underlying38 rfl (by rfl) ?_))
  refine (cDo HB9 _).mono ?_
  rintro e w4 ⟨rfl, hB⟩
  replace HS := Lib.hid (HS.out.on hB)
  clear hB
  go_wp2_with (first
    | (refine wpList_rewr rfl 38 _ _ rfl HS.out 0 p3 _ #[.int .i64 2, .int .i64 0, .int .i64 4, .int .i64 1, .int .i64 0, .int .i64 5] rfl [(p2, #[.int .i64 1, .int .i64 0, .int .i64 1, .int .i64 2, .int .i64 0, .int .i64 30]), (p1, #[.int .i64 5, .int .i64 0, .slice A1 0 c1])] (by simp) (by have := L12.out; have := L13.out; have := L23.out; simp; omega) (by have := G1.out; have := L12.out; have := L13.out; omega) w4.heap.size _ [] (OwnA.nil w4 w4.heap.size) (HS.out.lt 0 rfl) rfl rfl (by rfl) rfl (six_one ⟨2, 0, 4, 1, 0, 5⟩) ?_; intro u4 hS hO; clear HS; have HS := Lib.hid hS; have Ou4 := Lib.hid hO; clear hS hO)
    | (refine wpList_load_st rfl 24 _ rfl HS.out 2 _ _ rfl rfl _ Tryz.underlying24 rfl (by rfl) ?_)
    | (refine wpList_load_st rfl 38 _ rfl HS.out 1 _ _ rfl rfl _ Tryz.underlying38 rfl (by rfl) ?_))
  refine (cPut1 HB9 A1 c1 _ N1.out).mono ?_
  rintro e w5 ⟨A2, c2, rfl, hO, hB⟩
  have K5 : Hid (p1 < u4.heap.size) := Lib.hid (HS.out.lt 2 rfl)
  replace HS := Lib.hid (HS.out.on hB)
  have OO := Lib.hid hO
  clear hO hB Ou4
  go_wp2_with (first
    | (refine wpList_rewr rfl 24 _ _ rfl HS.out 2 p1 _ #[.int .i64 5, .int .i64 0, .slice A2 1 c2] rfl [(p3, #[.int .i64 2, .int .i64 0, .int .i64 4, .int .i64 1, .int .i64 0, .int .i64 5]), (p2, #[.int .i64 1, .int .i64 0, .int .i64 1, .int .i64 2, .int .i64 0, .int .i64 30])] (by simp) (by have := L12.out; have := L13.out; have := L23.out; simp; omega) (by have := G1.out; have := L12.out; have := L13.out; omega) u4.heap.size _ [⟨1, 0, 1, 2, 0, 30⟩] OO.out K5.out rfl rfl (by rfl) rfl (bd_one 5 0 A2 1 c2) ?_; intro u5 hS hO; clear HS; have HS := Lib.hid hS; have Ou5 := Lib.hid hO; clear hS hO)
    | (refine wpList_load_st rfl 24 _ rfl HS.out 0 _ _ rfl rfl _ Tryz.underlying24 rfl (by rfl) ?_)
    | (refine wpList_load_st rfl 38 _ rfl HS.out 1 _ _ rfl rfl _ Tryz.underlying38 rfl (by rfl) ?_))
  refine (cPut2 HB9 A2 c2 _ Ou5.out.alms.1 Ou5.out.alms.2).mono ?_
  rintro e w6 ⟨A3, c3, rfl, hO, hB⟩
  have K6 : Hid (p1 < u5.heap.size) := Lib.hid (HS.out.lt 0 rfl)
  replace HS := Lib.hid (HS.out.on hB)
  replace OO := Lib.hid hO
  clear hO hB Ou5
  go_wp2_with (first
    | (refine wpList_rewr rfl 24 _ _ rfl HS.out 0 p1 _ #[.int .i64 5, .int .i64 0, .slice A3 2 c3] rfl [(p3, #[.int .i64 2, .int .i64 0, .int .i64 4, .int .i64 1, .int .i64 0, .int .i64 5]), (p2, #[.int .i64 1, .int .i64 0, .int .i64 1, .int .i64 2, .int .i64 0, .int .i64 30])] (by simp) (by have := L12.out; have := L13.out; have := L23.out; simp; omega) (by have := G1.out; have := L12.out; have := L13.out; omega) u5.heap.size _ [⟨1, 0, 1, 2, 0, 30⟩, ⟨2, 0, 4, 1, 0, 5⟩] OO.out K6.out rfl rfl (by rfl) rfl (bd_one 5 0 A3 2 c3) ?_; intro u6 hS hO; clear HS; have HS := Lib.hid hS; have Ou6 := Lib.hid hO; clear hS hO)
    | (refine wpList_load_st rfl 24 _ rfl HS.out 0 _ _ rfl rfl _ Tryz.underlying24 rfl (by rfl) ?_))
  have N3 := Lib.hid Ou6.out.alms.2
  replace HS := Lib.hid (HS.out.more (rowF A3 [⟨1, 0, 1, 2, 0, 30⟩, ⟨2, 0, 4, 1, 0, 5⟩]) Ou6.out.alms.1)
  clear OO Ou6
  refine (cNext HD A3 c3 _ (HS.out.fact 0 rfl) N3.out).mono ?_
  rintro e w7 ⟨rfl, hB⟩
  replace HS := Lib.hid (HS.out.on hB)
  clear hB
  go_wp2_with (first
    | (refine wpList_load_st rfl 24 _ rfl HS.out 0 _ _ rfl rfl _ Tryz.underlying24 rfl (by rfl) ?_))
  refine (cTurns HD A3 c3 _ (HS.out.fact 0 rfl) N3.out).mono ?_
  rintro e w8 ⟨A4, c4, rfl, hO, hB⟩
  replace HS := Lib.hid ((HS.out.on hB).more (turnF A4 [⟨5, 2, 0, 1⟩, ⟨15, 2, 0, 2⟩, ⟨30, 1, 0, 2⟩]) hO.rows.1)
  clear hO hB
  have y0 := HS.out.cell 1 rfl 0 rfl
  have y1 := HS.out.cell 1 rfl 1 rfl
  go_wp2_with (first
    | (refine wpList_load_st rfl 24 _ rfl HS.out 0 _ _ rfl rfl _ Tryz.underlying24 rfl (by rfl) ?_))
  refine (cAt HD A3 c3 _ (HS.out.fact 1 rfl) N3.out).mono ?_
  rintro e w9 ⟨rfl, hB⟩
  replace HS := Lib.hid (HS.out.on hB)
  clear hB y0 y1
  have y0 := HS.out.cell 1 rfl 0 rfl
  have y1 := HS.out.cell 1 rfl 1 rfl
  have x0 := HS.out.cell 2 rfl 0 rfl
  have x1 := HS.out.cell 2 rfl 1 rfl
  have HW := Lib.hid ((HS.out.new #[.int .i64 5, .int .i64 2, .int .i64 0, .int .i64 1, .int .i64 15, .int .i64 2, .int .i64 0, .int .i64 2, .int .i64 30, .int .i64 1, .int .i64 0, .int .i64 2] 55).more (turnF (some ⟨w9.heap.size, 0, none⟩) [⟨5, 2, 0, 1⟩, ⟨15, 2, 0, 2⟩, ⟨30, 1, 0, 2⟩]) (TrnsAt.three w9 5 2 0 1 15 2 0 2 30 1 0 2 55))
  go_wp2_with fail
  obtain ⟨pw, hpw⟩ : ∃ p, p = w9.heap.size := ⟨_, rfl⟩
  have hS := HW.out
  rw [← hpw] at hS ⊢
  clear hpw HW HS y0 y1 x0 x1
  refine wp_region_held_drew (S := (fun W : World => St w W [(pw, #[.int .i64 5, .int .i64 2, .int .i64 0, .int .i64 1, .int .i64 15, .int .i64 2, .int .i64 0, .int .i64 2, .int .i64 30, .int .i64 1, .int .i64 0, .int .i64 2])] [])) (by kernel_rfl) (by first | exact hS.pick8 _ (by simp) | exact hS.drew.pick8 _ (by simp)) (fun hHeld => ?_)
  refine wpAnyH_take (i := 0) (oi := { dst := some 75, op := Op.move (Operand.tmp 2), type := 31, pos := _, after := #[], guard := none }) (v := ?_) rfl (by kernel_rfl) (by kernel_rfl) (by kernel_rfl) (fun _ _ _ h => h) (Or.inl ⟨by rfl, ?hy⟩) hHeld ?_
  case hy => intro w0 hSw; clear hSw; go_simp; (try with_reducible rfl)
  (try simp only [Act.put, List.setIfInBounds_toArray, List.set_cons_zero, List.set_cons_succ])
  refine wpAnyH_take (i := 1) (oi := { dst := some 76, op := Op.binOp BinOp.eql 31 (Operand.tmp 75) (Operand.const (Value.int IntKind.i64 0)) 31, type := 4, pos := _, after := #[{ on := 0, ground := Ground.data }], guard := none }) (v := ?_) rfl (by kernel_rfl) (by kernel_rfl) (by kernel_rfl) (fun _ _ _ h => h) (Or.inl ⟨by rfl, ?hy⟩) hHeld ?_
  case hy => intro w0 hSw; clear hSw; go_simp; (try with_reducible rfl)
  (try simp only [Act.put, List.setIfInBounds_toArray, List.set_cons_zero, List.set_cons_succ])
  refine wpAnyH_take (i := 2) (oi := { dst := some 77, op := Op.move (Operand.tmp 76), type := 4, pos := _, after := #[{ on := 1, ground := Ground.data }], guard := none }) (v := ?_) rfl (by kernel_rfl) (by kernel_rfl) (by kernel_rfl) (fun _ _ _ h => h) (Or.inl ⟨by rfl, ?hy⟩) hHeld ?_
  case hy => intro w0 hSw; clear hSw; go_simp; (try with_reducible rfl)
  (try simp only [Act.put, List.setIfInBounds_toArray, List.set_cons_zero, List.set_cons_succ])
  refine wpAnyH_take (i := 3) (oi := { dst := some 78, op := Op.move (Operand.tmp 4), type := 31, pos := _, after := #[{ on := 2, ground := Ground.guard }], guard := some (2, true) }) (v := ?_) rfl (by kernel_rfl) (by kernel_rfl) (by kernel_rfl) (fun _ _ _ h => h) (Or.inl ⟨by rfl, ?hy⟩) hHeld ?_
  case hy => intro w0 hSw; clear hSw; go_simp; (try with_reducible rfl)
  (try simp only [Act.put, List.setIfInBounds_toArray, List.set_cons_zero, List.set_cons_succ])
  refine wpAnyH_take (i := 4) (oi := { dst := some 79, op := Op.move (Operand.tmp 2), type := 31, pos := _, after := #[{ on := 2, ground := Ground.guard }], guard := some (2, true) }) (v := ?_) rfl (by kernel_rfl) (by kernel_rfl) (by kernel_rfl) (fun _ _ _ h => h) (Or.inl ⟨by rfl, ?hy⟩) hHeld ?_
  case hy => intro w0 hSw; clear hSw; go_simp; (try with_reducible rfl)
  (try simp only [Act.put, List.setIfInBounds_toArray, List.set_cons_zero, List.set_cons_succ])
  refine wpAnyH_take (i := 5) (oi := { dst := some 80, op := Op.binOp BinOp.eql 31 (Operand.tmp 78) (Operand.tmp 79) 31, type := 4, pos := _, after := #[{ on := 3, ground := Ground.data }, { on := 4, ground := Ground.data }, { on := 2, ground := Ground.guard }], guard := some (2, true) }) (v := ?_) rfl (by kernel_rfl) (by kernel_rfl) (by kernel_rfl) (fun _ _ _ h => h) (Or.inl ⟨by rfl, ?hy⟩) hHeld ?_
  case hy => intro w0 hSw; clear hSw; go_simp; (try with_reducible rfl)
  (try simp only [Act.put, List.setIfInBounds_toArray, List.set_cons_zero, List.set_cons_succ])
  refine wpAnyH_take (i := 6) (oi := { dst := some 81, op := Op.pick (Operand.tmp 77) (Operand.tmp 80) (Operand.const (Value.bool false)), type := 4, pos := _, after := #[{ on := 2, ground := Ground.data }, { on := 5, ground := Ground.data }], guard := none }) (v := ?_) rfl (by kernel_rfl) (by kernel_rfl) (by kernel_rfl) (fun _ _ _ h => h) (Or.inl ⟨by rfl, ?hy⟩) hHeld ?_
  case hy => intro w0 hSw; clear hSw; go_simp; (try with_reducible rfl)
  (try simp only [Act.put, List.setIfInBounds_toArray, List.set_cons_zero, List.set_cons_succ])
  refine wpAnyH_take (i := 7) (oi := { dst := some 82, op := Op.move (Operand.tmp 81), type := 4, pos := _, after := #[{ on := 6, ground := Ground.data }, { on := 2, ground := Ground.chain }], guard := none }) (v := ?_) rfl (by kernel_rfl) (by kernel_rfl) (by kernel_rfl) (fun _ _ _ h => h) (Or.inl ⟨by rfl, ?hy⟩) hHeld ?_
  case hy => intro w0 hSw; clear hSw; go_simp; (try with_reducible rfl)
  (try simp only [Act.put, List.setIfInBounds_toArray, List.set_cons_zero, List.set_cons_succ])
  refine wpAnyH_take (i := 8) (oi := { dst := some 83, op := Op.move (Operand.tmp 6), type := 31, pos := _, after := #[{ on := 7, ground := Ground.guard }], guard := some (7, true) }) (v := ?_) rfl (by kernel_rfl) (by kernel_rfl) (by kernel_rfl) (fun _ _ _ h => h) (Or.inl ⟨by rfl, ?hy⟩) hHeld ?_
  case hy => intro w0 hSw; clear hSw; go_simp; (try with_reducible rfl)
  (try simp only [Act.put, List.setIfInBounds_toArray, List.set_cons_zero, List.set_cons_succ])
  refine wpAnyH_take (i := 9) (oi := { dst := some 84, op := Op.move (Operand.tmp 2), type := 31, pos := _, after := #[{ on := 7, ground := Ground.guard }], guard := some (7, true) }) (v := ?_) rfl (by kernel_rfl) (by kernel_rfl) (by kernel_rfl) (fun _ _ _ h => h) (Or.inl ⟨by rfl, ?hy⟩) hHeld ?_
  case hy => intro w0 hSw; clear hSw; go_simp; (try with_reducible rfl)
  (try simp only [Act.put, List.setIfInBounds_toArray, List.set_cons_zero, List.set_cons_succ])
  refine wpAnyH_take (i := 10) (oi := { dst := some 85, op := Op.binOp BinOp.eql 31 (Operand.tmp 83) (Operand.tmp 84) 31, type := 4, pos := _, after := #[{ on := 8, ground := Ground.data }, { on := 9, ground := Ground.data }, { on := 7, ground := Ground.guard }], guard := some (7, true) }) (v := ?_) rfl (by kernel_rfl) (by kernel_rfl) (by kernel_rfl) (fun _ _ _ h => h) (Or.inl ⟨by rfl, ?hy⟩) hHeld ?_
  case hy => intro w0 hSw; clear hSw; go_simp; (try with_reducible rfl)
  (try simp only [Act.put, List.setIfInBounds_toArray, List.set_cons_zero, List.set_cons_succ])
  refine wpAnyH_take (i := 11) (oi := { dst := some 86, op := Op.pick (Operand.tmp 82) (Operand.tmp 85) (Operand.const (Value.bool false)), type := 4, pos := _, after := #[{ on := 7, ground := Ground.data }, { on := 10, ground := Ground.data }], guard := none }) (v := ?_) rfl (by kernel_rfl) (by kernel_rfl) (by kernel_rfl) (fun _ _ _ h => h) (Or.inl ⟨by rfl, ?hy⟩) hHeld ?_
  case hy => intro w0 hSw; clear hSw; go_simp; (try with_reducible rfl)
  (try simp only [Act.put, List.setIfInBounds_toArray, List.set_cons_zero, List.set_cons_succ])
  refine wpAnyH_take (i := 12) (oi := { dst := some 87, op := Op.move (Operand.tmp 86), type := 4, pos := _, after := #[{ on := 11, ground := Ground.data }, { on := 7, ground := Ground.chain }], guard := none }) (v := ?_) rfl (by kernel_rfl) (by kernel_rfl) (by kernel_rfl) (fun _ _ _ h => h) (Or.inl ⟨by rfl, ?hy⟩) hHeld ?_
  case hy => intro w0 hSw; clear hSw; go_simp; (try with_reducible rfl)
  (try simp only [Act.put, List.setIfInBounds_toArray, List.set_cons_zero, List.set_cons_succ])
  refine wpAnyH_take (i := 13) (oi := { dst := some 88, op := Op.move (Operand.tmp 7), type := 31, pos := _, after := #[{ on := 12, ground := Ground.guard }], guard := some (12, true) }) (v := ?_) rfl (by kernel_rfl) (by kernel_rfl) (by kernel_rfl) (fun _ _ _ h => h) (Or.inl ⟨by rfl, ?hy⟩) hHeld ?_
  case hy => intro w0 hSw; clear hSw; go_simp; (try with_reducible rfl)
  (try simp only [Act.put, List.setIfInBounds_toArray, List.set_cons_zero, List.set_cons_succ])
  refine wpAnyH_take (i := 14) (oi := { dst := some 89, op := Op.move (Operand.tmp 2), type := 31, pos := _, after := #[{ on := 12, ground := Ground.guard }], guard := some (12, true) }) (v := ?_) rfl (by kernel_rfl) (by kernel_rfl) (by kernel_rfl) (fun _ _ _ h => h) (Or.inl ⟨by rfl, ?hy⟩) hHeld ?_
  case hy => intro w0 hSw; clear hSw; go_simp; (try with_reducible rfl)
  (try simp only [Act.put, List.setIfInBounds_toArray, List.set_cons_zero, List.set_cons_succ])
  refine wpAnyH_take (i := 15) (oi := { dst := some 90, op := Op.binOp BinOp.eql 31 (Operand.tmp 88) (Operand.tmp 89) 31, type := 4, pos := _, after := #[{ on := 13, ground := Ground.data }, { on := 14, ground := Ground.data }, { on := 12, ground := Ground.guard }], guard := some (12, true) }) (v := ?_) rfl (by kernel_rfl) (by kernel_rfl) (by kernel_rfl) (fun _ _ _ h => h) (Or.inl ⟨by rfl, ?hy⟩) hHeld ?_
  case hy => intro w0 hSw; clear hSw; go_simp; (try with_reducible rfl)
  (try simp only [Act.put, List.setIfInBounds_toArray, List.set_cons_zero, List.set_cons_succ])
  refine wpAnyH_take (i := 16) (oi := { dst := some 91, op := Op.pick (Operand.tmp 87) (Operand.tmp 90) (Operand.const (Value.bool false)), type := 4, pos := _, after := #[{ on := 12, ground := Ground.data }, { on := 15, ground := Ground.data }], guard := none }) (v := ?_) rfl (by kernel_rfl) (by kernel_rfl) (by kernel_rfl) (fun _ _ _ h => h) (Or.inl ⟨by rfl, ?hy⟩) hHeld ?_
  case hy => intro w0 hSw; clear hSw; go_simp; (try with_reducible rfl)
  (try simp only [Act.put, List.setIfInBounds_toArray, List.set_cons_zero, List.set_cons_succ])
  refine wpAnyH_take (i := 17) (oi := { dst := some 92, op := Op.move (Operand.tmp 91), type := 4, pos := _, after := #[{ on := 16, ground := Ground.data }, { on := 12, ground := Ground.chain }], guard := none }) (v := ?_) rfl (by kernel_rfl) (by kernel_rfl) (by kernel_rfl) (fun _ _ _ h => h) (Or.inl ⟨by rfl, ?hy⟩) hHeld ?_
  case hy => intro w0 hSw; clear hSw; go_simp; (try with_reducible rfl)
  (try simp only [Act.put, List.setIfInBounds_toArray, List.set_cons_zero, List.set_cons_succ])
  refine wpAnyH_take (i := 18) (oi := { dst := some 93, op := Op.move (Operand.tmp 8), type := 31, pos := _, after := #[{ on := 17, ground := Ground.guard }], guard := some (17, true) }) (v := ?_) rfl (by kernel_rfl) (by kernel_rfl) (by kernel_rfl) (fun _ _ _ h => h) (Or.inl ⟨by rfl, ?hy⟩) hHeld ?_
  case hy => intro w0 hSw; clear hSw; go_simp; (try with_reducible rfl)
  (try simp only [Act.put, List.setIfInBounds_toArray, List.set_cons_zero, List.set_cons_succ])
  refine wpAnyH_take (i := 19) (oi := { dst := some 94, op := Op.move (Operand.tmp 2), type := 31, pos := _, after := #[{ on := 17, ground := Ground.guard }], guard := some (17, true) }) (v := ?_) rfl (by kernel_rfl) (by kernel_rfl) (by kernel_rfl) (fun _ _ _ h => h) (Or.inl ⟨by rfl, ?hy⟩) hHeld ?_
  case hy => intro w0 hSw; clear hSw; go_simp; (try with_reducible rfl)
  (try simp only [Act.put, List.setIfInBounds_toArray, List.set_cons_zero, List.set_cons_succ])
  refine wpAnyH_take (i := 20) (oi := { dst := some 95, op := Op.binOp BinOp.eql 31 (Operand.tmp 93) (Operand.tmp 94) 31, type := 4, pos := _, after := #[{ on := 18, ground := Ground.data }, { on := 19, ground := Ground.data }, { on := 17, ground := Ground.guard }], guard := some (17, true) }) (v := ?_) rfl (by kernel_rfl) (by kernel_rfl) (by kernel_rfl) (fun _ _ _ h => h) (Or.inl ⟨by rfl, ?hy⟩) hHeld ?_
  case hy => intro w0 hSw; clear hSw; go_simp; (try with_reducible rfl)
  (try simp only [Act.put, List.setIfInBounds_toArray, List.set_cons_zero, List.set_cons_succ])
  refine wpAnyH_take (i := 21) (oi := { dst := some 96, op := Op.pick (Operand.tmp 92) (Operand.tmp 95) (Operand.const (Value.bool false)), type := 4, pos := _, after := #[{ on := 17, ground := Ground.data }, { on := 20, ground := Ground.data }], guard := none }) (v := ?_) rfl (by kernel_rfl) (by kernel_rfl) (by kernel_rfl) (fun _ _ _ h => h) (Or.inl ⟨by rfl, ?hy⟩) hHeld ?_
  case hy => intro w0 hSw; clear hSw; go_simp; (try with_reducible rfl)
  (try simp only [Act.put, List.setIfInBounds_toArray, List.set_cons_zero, List.set_cons_succ])
  refine wpAnyH_take (i := 22) (oi := { dst := some 97, op := Op.move (Operand.tmp 96), type := 4, pos := _, after := #[{ on := 21, ground := Ground.data }, { on := 17, ground := Ground.chain }], guard := none }) (v := ?_) rfl (by kernel_rfl) (by kernel_rfl) (by kernel_rfl) (fun _ _ _ h => h) (Or.inl ⟨by rfl, ?hy⟩) hHeld ?_
  case hy => intro w0 hSw; clear hSw; go_simp; (try with_reducible rfl)
  (try simp only [Act.put, List.setIfInBounds_toArray, List.set_cons_zero, List.set_cons_succ])
  refine wpAnyH_take (i := 23) (oi := { dst := some 98, op := Op.move (Operand.tmp 9), type := 31, pos := _, after := #[{ on := 22, ground := Ground.guard }], guard := some (22, true) }) (v := ?_) rfl (by kernel_rfl) (by kernel_rfl) (by kernel_rfl) (fun _ _ _ h => h) (Or.inl ⟨by rfl, ?hy⟩) hHeld ?_
  case hy => intro w0 hSw; clear hSw; go_simp; (try with_reducible rfl)
  (try simp only [Act.put, List.setIfInBounds_toArray, List.set_cons_zero, List.set_cons_succ])
  refine wpAnyH_take (i := 24) (oi := { dst := some 99, op := Op.move (Operand.tmp 2), type := 31, pos := _, after := #[{ on := 22, ground := Ground.guard }], guard := some (22, true) }) (v := ?_) rfl (by kernel_rfl) (by kernel_rfl) (by kernel_rfl) (fun _ _ _ h => h) (Or.inl ⟨by rfl, ?hy⟩) hHeld ?_
  case hy => intro w0 hSw; clear hSw; go_simp; (try with_reducible rfl)
  (try simp only [Act.put, List.setIfInBounds_toArray, List.set_cons_zero, List.set_cons_succ])
  refine wpAnyH_take (i := 25) (oi := { dst := some 100, op := Op.binOp BinOp.eql 31 (Operand.tmp 98) (Operand.tmp 99) 31, type := 4, pos := _, after := #[{ on := 23, ground := Ground.data }, { on := 24, ground := Ground.data }, { on := 22, ground := Ground.guard }], guard := some (22, true) }) (v := ?_) rfl (by kernel_rfl) (by kernel_rfl) (by kernel_rfl) (fun _ _ _ h => h) (Or.inl ⟨by rfl, ?hy⟩) hHeld ?_
  case hy => intro w0 hSw; clear hSw; go_simp; (try with_reducible rfl)
  (try simp only [Act.put, List.setIfInBounds_toArray, List.set_cons_zero, List.set_cons_succ])
  refine wpAnyH_take (i := 26) (oi := { dst := some 101, op := Op.pick (Operand.tmp 97) (Operand.tmp 100) (Operand.const (Value.bool false)), type := 4, pos := _, after := #[{ on := 22, ground := Ground.data }, { on := 25, ground := Ground.data }], guard := none }) (v := ?_) rfl (by kernel_rfl) (by kernel_rfl) (by kernel_rfl) (fun _ _ _ h => h) (Or.inl ⟨by rfl, ?hy⟩) hHeld ?_
  case hy => intro w0 hSw; clear hSw; go_simp; (try with_reducible rfl)
  (try simp only [Act.put, List.setIfInBounds_toArray, List.set_cons_zero, List.set_cons_succ])
  refine wpAnyH_take (i := 27) (oi := { dst := some 102, op := Op.move (Operand.tmp 101), type := 4, pos := _, after := #[{ on := 26, ground := Ground.data }, { on := 22, ground := Ground.chain }], guard := none }) (v := ?_) rfl (by kernel_rfl) (by kernel_rfl) (by kernel_rfl) (fun _ _ _ h => h) (Or.inl ⟨by rfl, ?hy⟩) hHeld ?_
  case hy => intro w0 hSw; clear hSw; go_simp; (try with_reducible rfl)
  (try simp only [Act.put, List.setIfInBounds_toArray, List.set_cons_zero, List.set_cons_succ])
  refine wpAnyH_take (i := 28) (oi := { dst := some 103, op := Op.move (Operand.tmp 11), type := 4, pos := _, after := #[{ on := 27, ground := Ground.guard }], guard := some (27, true) }) (v := ?_) rfl (by kernel_rfl) (by kernel_rfl) (by kernel_rfl) (fun _ _ _ h => h) (Or.inl ⟨by rfl, ?hy⟩) hHeld ?_
  case hy => intro w0 hSw; clear hSw; go_simp; (try with_reducible rfl)
  (try simp only [Act.put, List.setIfInBounds_toArray, List.set_cons_zero, List.set_cons_succ])
  refine wpAnyH_take (i := 29) (oi := { dst := some 104, op := Op.pick (Operand.tmp 102) (Operand.tmp 103) (Operand.const (Value.bool false)), type := 4, pos := _, after := #[{ on := 27, ground := Ground.data }, { on := 28, ground := Ground.data }], guard := none }) (v := ?_) rfl (by kernel_rfl) (by kernel_rfl) (by kernel_rfl) (fun _ _ _ h => h) (Or.inl ⟨by rfl, ?hy⟩) hHeld ?_
  case hy => intro w0 hSw; clear hSw; go_simp; (try with_reducible rfl)
  (try simp only [Act.put, List.setIfInBounds_toArray, List.set_cons_zero, List.set_cons_succ])
  refine wpAnyH_take (i := 30) (oi := { dst := some 105, op := Op.move (Operand.tmp 104), type := 4, pos := _, after := #[{ on := 29, ground := Ground.data }, { on := 27, ground := Ground.chain }], guard := none }) (v := ?_) rfl (by kernel_rfl) (by kernel_rfl) (by kernel_rfl) (fun _ _ _ h => h) (Or.inl ⟨by rfl, ?hy⟩) hHeld ?_
  case hy => intro w0 hSw; clear hSw; go_simp; (try with_reducible rfl)
  (try simp only [Act.put, List.setIfInBounds_toArray, List.set_cons_zero, List.set_cons_succ])
  refine wpAnyH_take (i := 31) (oi := { dst := some 106, op := Op.move (Operand.tmp 10), type := 3, pos := _, after := #[{ on := 30, ground := Ground.guard }], guard := some (30, true) }) (v := ?_) rfl (by kernel_rfl) (by kernel_rfl) (by kernel_rfl) (fun _ _ _ h => h) (Or.inl ⟨by rfl, ?hy⟩) hHeld ?_
  case hy => intro w0 hSw; clear hSw; go_simp; (try with_reducible rfl)
  (try simp only [Act.put, List.setIfInBounds_toArray, List.set_cons_zero, List.set_cons_succ])
  refine wpAnyH_take (i := 32) (oi := { dst := some 107, op := Op.binOp BinOp.eql 3 (Operand.tmp 106) (Operand.const (Value.int IntKind.i64 5)) 3, type := 4, pos := _, after := #[{ on := 31, ground := Ground.data }, { on := 30, ground := Ground.guard }], guard := some (30, true) }) (v := ?_) rfl (by kernel_rfl) (by kernel_rfl) (by kernel_rfl) (fun _ _ _ h => h) (Or.inl ⟨by rfl, ?hy⟩) hHeld ?_
  case hy => intro w0 hSw; clear hSw; go_simp; (try with_reducible rfl)
  (try simp only [Act.put, List.setIfInBounds_toArray, List.set_cons_zero, List.set_cons_succ])
  refine wpAnyH_take (i := 33) (oi := { dst := some 108, op := Op.pick (Operand.tmp 105) (Operand.tmp 107) (Operand.const (Value.bool false)), type := 4, pos := _, after := #[{ on := 30, ground := Ground.data }, { on := 32, ground := Ground.data }], guard := none }) (v := ?_) rfl (by kernel_rfl) (by kernel_rfl) (by kernel_rfl) (fun _ _ _ h => h) (Or.inl ⟨by rfl, ?hy⟩) hHeld ?_
  case hy => intro w0 hSw; clear hSw; go_simp; (try with_reducible rfl)
  (try simp only [Act.put, List.setIfInBounds_toArray, List.set_cons_zero, List.set_cons_succ])
  refine wpAnyH_take (i := 34) (oi := { dst := some 109, op := Op.move (Operand.tmp 108), type := 4, pos := _, after := #[{ on := 33, ground := Ground.data }, { on := 30, ground := Ground.chain }], guard := none }) (v := ?_) rfl (by kernel_rfl) (by kernel_rfl) (by kernel_rfl) (fun _ _ _ h => h) (Or.inl ⟨by rfl, ?hy⟩) hHeld ?_
  case hy => intro w0 hSw; clear hSw; go_simp; (try with_reducible rfl)
  (try simp only [Act.put, List.setIfInBounds_toArray, List.set_cons_zero, List.set_cons_succ])
  refine wpAnyH_take (i := 35) (oi := { dst := some 110, op := Op.move (Operand.tmp 13), type := 31, pos := _, after := #[{ on := 34, ground := Ground.guard }], guard := some (34, true) }) (v := ?_) rfl (by kernel_rfl) (by kernel_rfl) (by kernel_rfl) (fun _ _ _ h => h) (Or.inl ⟨by rfl, ?hy⟩) hHeld ?_
  case hy => intro w0 hSw; clear hSw; go_simp; (try with_reducible rfl)
  (try simp only [Act.put, List.setIfInBounds_toArray, List.set_cons_zero, List.set_cons_succ])
  refine wpAnyH_take (i := 36) (oi := { dst := some 111, op := Op.move (Operand.tmp 2), type := 31, pos := _, after := #[{ on := 34, ground := Ground.guard }], guard := some (34, true) }) (v := ?_) rfl (by kernel_rfl) (by kernel_rfl) (by kernel_rfl) (fun _ _ _ h => h) (Or.inl ⟨by rfl, ?hy⟩) hHeld ?_
  case hy => intro w0 hSw; clear hSw; go_simp; (try with_reducible rfl)
  (try simp only [Act.put, List.setIfInBounds_toArray, List.set_cons_zero, List.set_cons_succ])
  refine wpAnyH_take (i := 37) (oi := { dst := some 112, op := Op.binOp BinOp.eql 31 (Operand.tmp 110) (Operand.tmp 111) 31, type := 4, pos := _, after := #[{ on := 35, ground := Ground.data }, { on := 36, ground := Ground.data }, { on := 34, ground := Ground.guard }], guard := some (34, true) }) (v := ?_) rfl (by kernel_rfl) (by kernel_rfl) (by kernel_rfl) (fun _ _ _ h => h) (Or.inl ⟨by rfl, ?hy⟩) hHeld ?_
  case hy => intro w0 hSw; clear hSw; go_simp; (try with_reducible rfl)
  (try simp only [Act.put, List.setIfInBounds_toArray, List.set_cons_zero, List.set_cons_succ])
  refine wpAnyH_take (i := 38) (oi := { dst := some 113, op := Op.pick (Operand.tmp 109) (Operand.tmp 112) (Operand.const (Value.bool false)), type := 4, pos := _, after := #[{ on := 34, ground := Ground.data }, { on := 37, ground := Ground.data }], guard := none }) (v := ?_) rfl (by kernel_rfl) (by kernel_rfl) (by kernel_rfl) (fun _ _ _ h => h) (Or.inl ⟨by rfl, ?hy⟩) hHeld ?_
  case hy => intro w0 hSw; clear hSw; go_simp; (try with_reducible rfl)
  (try simp only [Act.put, List.setIfInBounds_toArray, List.set_cons_zero, List.set_cons_succ])
  refine wpAnyH_take (i := 39) (oi := { dst := some 114, op := Op.move (Operand.tmp 113), type := 4, pos := _, after := #[{ on := 38, ground := Ground.data }, { on := 34, ground := Ground.chain }], guard := none }) (v := ?_) rfl (by kernel_rfl) (by kernel_rfl) (by kernel_rfl) (fun _ _ _ h => h) (Or.inl ⟨by rfl, ?hy⟩) hHeld ?_
  case hy => intro w0 hSw; clear hSw; go_simp; (try with_reducible rfl)
  (try simp only [Act.put, List.setIfInBounds_toArray, List.set_cons_zero, List.set_cons_succ])
  refine wpAnyH_take (i := 40) (oi := { dst := some 115, op := Op.move (Operand.tmp 12), type := 27, pos := _, after := #[{ on := 39, ground := Ground.guard }], guard := some (39, true) }) (v := ?_) rfl (by kernel_rfl) (by kernel_rfl) (by kernel_rfl) (fun _ _ _ h => h) (Or.inl ⟨by rfl, ?hy⟩) hHeld ?_
  case hy => intro w0 hSw; clear hSw; go_simp; (try with_reducible rfl)
  (try simp only [Act.put, List.setIfInBounds_toArray, List.set_cons_zero, List.set_cons_succ])
  refine wpAnyH_take (i := 41) (oi := { dst := some 116, op := Op.move (Operand.tmp 16), type := 27, pos := _, after := #[{ on := 39, ground := Ground.guard }], guard := some (39, true) }) (v := ?_) rfl (by kernel_rfl) (by kernel_rfl) (by kernel_rfl) (fun _ _ _ h => h) (Or.inl ⟨by rfl, ?hy⟩) hHeld ?_
  case hy => intro w0 hSw; clear hSw; go_simp; (try with_reducible rfl)
  (try simp only [Act.put, List.setIfInBounds_toArray, List.set_cons_zero, List.set_cons_succ])
  refine wpAnyH_ready (rs := [42]) (by kernel_rfl) (by simp) ?_
  refine AllReadyH.cons (o := { dst := some 117, op := Op.call { callee := Callee.value (Operand.func 15), args := #[Operand.tmp 115, Operand.tmp 116], argTypes := #[27, 27] }, type := 4, pos := _, after := #[{ on := 40, ground := Ground.data }, { on := 41, ground := Ground.data }, { on := 39, ground := Ground.chain }, { on := 39, ground := Ground.guard }], guard := some (39, true) }) rfl (fun K hK => ?_) AllReadyH.nil
  go_simp
  refine (cSame HT A4 (some ⟨pw, 0, none⟩) c4 _ _ (by first | exact hS.fact 1 rfl | exact hS.drew.fact 1 rfl) (by first | exact hS.fact 0 rfl | exact hS.drew.fact 0 rfl)).mono ?_
  rintro e w10 ⟨rfl, hB'⟩
  have hS1 := hS
  clear hS
  have hS := (by first | exact hS1.on hB' | exact hS1.drew.on hB' : St w w10 _ _)
  clear hS1 hB'
  go_wp2_with fail
  refine hK.out _ _ (by first | exact hS.pick8 _ (by simp) | exact hS.drew.pick8 _ (by simp)) (fun hHeld => ?_)
  clear hK K
  (try simp only [Act.put, List.setIfInBounds_toArray, List.set_cons_zero, List.set_cons_succ])
  refine wpAnyH_take (i := 43) (oi := { dst := some 118, op := Op.pick (Operand.tmp 114) (Operand.tmp 117) (Operand.const (Value.bool false)), type := 4, pos := _, after := #[{ on := 39, ground := Ground.data }, { on := 42, ground := Ground.data }], guard := none }) (v := ?_) rfl (by kernel_rfl) (by kernel_rfl) (by kernel_rfl) (fun _ _ _ h => h) (Or.inl ⟨by rfl, ?hy⟩) hHeld ?_
  case hy => intro w0 hSw; clear hSw; go_simp; (try with_reducible rfl)
  (try simp only [Act.put, List.setIfInBounds_toArray, List.set_cons_zero, List.set_cons_succ])
  refine wpAnyH_take (i := 44) (oi := { dst := some 119, op := Op.move (Operand.tmp 118), type := 4, pos := _, after := #[{ on := 43, ground := Ground.data }, { on := 42, ground := Ground.chain }], guard := none }) (v := ?_) rfl (by kernel_rfl) (by kernel_rfl) (by kernel_rfl) (fun _ _ _ h => h) (Or.inl ⟨by rfl, ?hy⟩) hHeld ?_
  case hy => intro w0 hSw; clear hSw; go_simp; (try with_reducible rfl)
  (try simp only [Act.put, List.setIfInBounds_toArray, List.set_cons_zero, List.set_cons_succ])
  refine wpAnyH_take (i := 45) (oi := { dst := some 120, op := Op.move (Operand.tmp 15), type := 4, pos := _, after := #[{ on := 44, ground := Ground.guard }], guard := some (44, true) }) (v := ?_) rfl (by kernel_rfl) (by kernel_rfl) (by kernel_rfl) (fun _ _ _ h => h) (Or.inl ⟨by rfl, ?hy⟩) hHeld ?_
  case hy => intro w0 hSw; clear hSw; go_simp; (try with_reducible rfl)
  (try simp only [Act.put, List.setIfInBounds_toArray, List.set_cons_zero, List.set_cons_succ])
  refine wpAnyH_take (i := 46) (oi := { dst := some 121, op := Op.pick (Operand.tmp 119) (Operand.tmp 120) (Operand.const (Value.bool false)), type := 4, pos := _, after := #[{ on := 44, ground := Ground.data }, { on := 45, ground := Ground.data }], guard := none }) (v := ?_) rfl (by kernel_rfl) (by kernel_rfl) (by kernel_rfl) (fun _ _ _ h => h) (Or.inl ⟨by rfl, ?hy⟩) hHeld ?_
  case hy => intro w0 hSw; clear hSw; go_simp; (try with_reducible rfl)
  (try simp only [Act.put, List.setIfInBounds_toArray, List.set_cons_zero, List.set_cons_succ])
  refine wpAnyH_take (i := 47) (oi := { dst := some 122, op := Op.move (Operand.tmp 121), type := 4, pos := _, after := #[{ on := 46, ground := Ground.data }, { on := 44, ground := Ground.chain }], guard := none }) (v := ?_) rfl (by kernel_rfl) (by kernel_rfl) (by kernel_rfl) (fun _ _ _ h => h) (Or.inl ⟨by rfl, ?hy⟩) hHeld ?_
  case hy => intro w0 hSw; clear hSw; go_simp; (try with_reducible rfl)
  (try simp only [Act.put, List.setIfInBounds_toArray, List.set_cons_zero, List.set_cons_succ])
  refine wpAnyH_take (i := 48) (oi := { dst := some 123, op := Op.move (Operand.tmp 14), type := 3, pos := _, after := #[{ on := 47, ground := Ground.guard }], guard := some (47, true) }) (v := ?_) rfl (by kernel_rfl) (by kernel_rfl) (by kernel_rfl) (fun _ _ _ h => h) (Or.inl ⟨by rfl, ?hy⟩) hHeld ?_
  case hy => intro w0 hSw; clear hSw; go_simp; (try with_reducible rfl)
  (try simp only [Act.put, List.setIfInBounds_toArray, List.set_cons_zero, List.set_cons_succ])
  refine wpAnyH_take (i := 49) (oi := { dst := some 124, op := Op.binOp BinOp.eql 3 (Operand.tmp 123) (Operand.const (Value.int IntKind.i64 1)) 3, type := 4, pos := _, after := #[{ on := 48, ground := Ground.data }, { on := 47, ground := Ground.guard }], guard := some (47, true) }) (v := ?_) rfl (by kernel_rfl) (by kernel_rfl) (by kernel_rfl) (fun _ _ _ h => h) (Or.inl ⟨by rfl, ?hy⟩) hHeld ?_
  case hy => intro w0 hSw; clear hSw; go_simp; (try with_reducible rfl)
  (try simp only [Act.put, List.setIfInBounds_toArray, List.set_cons_zero, List.set_cons_succ])
  refine wpAnyH_take (i := 50) (oi := { dst := some 125, op := Op.pick (Operand.tmp 122) (Operand.tmp 124) (Operand.const (Value.bool false)), type := 4, pos := _, after := #[{ on := 47, ground := Ground.data }, { on := 49, ground := Ground.data }], guard := none }) (v := ?_) rfl (by kernel_rfl) (by kernel_rfl) (by kernel_rfl) (fun _ _ _ h => h) (Or.inl ⟨by rfl, ?hy⟩) hHeld ?_
  case hy => intro w0 hSw; clear hSw; go_simp; (try with_reducible rfl)
  (try simp only [Act.put, List.setIfInBounds_toArray, List.set_cons_zero, List.set_cons_succ])
  refine wpAnyH_take (i := 51) (oi := { dst := some 126, op := Op.move (Operand.tmp 125), type := 4, pos := _, after := #[{ on := 50, ground := Ground.data }, { on := 47, ground := Ground.chain }], guard := none }) (v := ?_) rfl (by kernel_rfl) (by kernel_rfl) (by kernel_rfl) (fun _ _ _ h => h) (Or.inl ⟨by rfl, ?hy⟩) hHeld ?_
  case hy => intro w0 hSw; clear hSw; go_simp; (try with_reducible rfl)
  (try simp only [Act.put, List.setIfInBounds_toArray, List.set_cons_zero, List.set_cons_succ])
  refine wpAnyH_take (i := 52) (oi := { dst := some 127, op := Op.move (Operand.tmp 16), type := 27, pos := _, after := #[{ on := 51, ground := Ground.guard }], guard := some (51, true) }) (v := ?_) rfl (by kernel_rfl) (by kernel_rfl) (by kernel_rfl) (fun _ _ _ h => h) (Or.inl ⟨by rfl, ?hy⟩) hHeld ?_
  case hy => intro w0 hSw; clear hSw; go_simp; (try with_reducible rfl)
  (try simp only [Act.put, List.setIfInBounds_toArray, List.set_cons_zero, List.set_cons_succ])
  refine wpAnyH_take (i := 53) (oi := { dst := some 128, op := Op.indexAddr 27 (Operand.tmp 127) (Operand.const (Value.int IntKind.i64 2)), type := 0, pos := _, after := #[{ on := 52, ground := Ground.data }, { on := 51, ground := Ground.guard }], guard := some (51, true) }) (v := ?_) rfl (by kernel_rfl) (by kernel_rfl) (by kernel_rfl) (fun _ _ _ h => h) (Or.inl ⟨by rfl, ?hy⟩) hHeld ?_
  case hy => intro w0 hSw; clear hSw; go_simp; (try with_reducible rfl)
  (try simp only [Act.put, List.setIfInBounds_toArray, List.set_cons_zero, List.set_cons_succ])
  refine wpAnyH_take (i := 54) (oi := { dst := some 129, op := Op.load 55 (Operand.tmp 128), type := 55, pos := _, after := #[{ on := 53, ground := Ground.data }, { on := 51, ground := Ground.guard }], guard := some (51, true) }) (v := ?_) rfl (by kernel_rfl) (by kernel_rfl) (by kernel_rfl) (fun _ _ _ h => h) (Or.inl ⟨by rfl, ?hy⟩) hHeld ?_
  case hy => intro w0 hSw; have q0 := hSw.cell 0 rfl 8 rfl; have q1 := hSw.cell 0 rfl 9 rfl; have q2 := hSw.cell 0 rfl 10 rfl; have q3 := hSw.cell 0 rfl 11 rfl; clear hSw; go_simp; (try with_reducible rfl)
  (try simp only [Act.put, List.setIfInBounds_toArray, List.set_cons_zero, List.set_cons_succ])
  refine wpAnyH_take (i := 55) (oi := { dst := some 130, op := Op.move (Operand.tmp 16), type := 27, pos := _, after := #[{ on := 51, ground := Ground.guard }], guard := some (51, true) }) (v := ?_) rfl (by kernel_rfl) (by kernel_rfl) (by kernel_rfl) (fun _ _ _ h => h) (Or.inl ⟨by rfl, ?hy⟩) hHeld ?_
  case hy => intro w0 hSw; clear hSw; go_simp; (try with_reducible rfl)
  (try simp only [Act.put, List.setIfInBounds_toArray, List.set_cons_zero, List.set_cons_succ])
  refine wpAnyH_take (i := 56) (oi := { dst := some 131, op := Op.indexAddr 27 (Operand.tmp 130) (Operand.const (Value.int IntKind.i64 0)), type := 0, pos := _, after := #[{ on := 55, ground := Ground.data }, { on := 51, ground := Ground.guard }], guard := some (51, true) }) (v := ?_) rfl (by kernel_rfl) (by kernel_rfl) (by kernel_rfl) (fun _ _ _ h => h) (Or.inl ⟨by rfl, ?hy⟩) hHeld ?_
  case hy => intro w0 hSw; clear hSw; go_simp; (try with_reducible rfl)
  (try simp only [Act.put, List.setIfInBounds_toArray, List.set_cons_zero, List.set_cons_succ])
  refine wpAnyH_take (i := 57) (oi := { dst := some 132, op := Op.load 55 (Operand.tmp 131), type := 55, pos := _, after := #[{ on := 56, ground := Ground.data }, { on := 51, ground := Ground.guard }], guard := some (51, true) }) (v := ?_) rfl (by kernel_rfl) (by kernel_rfl) (by kernel_rfl) (fun _ _ _ h => h) (Or.inl ⟨by rfl, ?hy⟩) hHeld ?_
  case hy => intro w0 hSw; have q0 := hSw.cell 0 rfl 0 rfl; have q1 := hSw.cell 0 rfl 1 rfl; have q2 := hSw.cell 0 rfl 2 rfl; have q3 := hSw.cell 0 rfl 3 rfl; clear hSw; go_simp; (try with_reducible rfl)
  (try simp only [Act.put, List.setIfInBounds_toArray, List.set_cons_zero, List.set_cons_succ])
  refine wpAnyH_take (i := 58) (oi := { dst := some 133, op := Op.move (Operand.tmp 16), type := 27, pos := _, after := #[{ on := 51, ground := Ground.guard }], guard := some (51, true) }) (v := ?_) rfl (by kernel_rfl) (by kernel_rfl) (by kernel_rfl) (fun _ _ _ h => h) (Or.inl ⟨by rfl, ?hy⟩) hHeld ?_
  case hy => intro w0 hSw; clear hSw; go_simp; (try with_reducible rfl)
  (try simp only [Act.put, List.setIfInBounds_toArray, List.set_cons_zero, List.set_cons_succ])
  refine wpAnyH_take (i := 59) (oi := { dst := some 134, op := Op.indexAddr 27 (Operand.tmp 133) (Operand.const (Value.int IntKind.i64 1)), type := 0, pos := _, after := #[{ on := 58, ground := Ground.data }, { on := 51, ground := Ground.guard }], guard := some (51, true) }) (v := ?_) rfl (by kernel_rfl) (by kernel_rfl) (by kernel_rfl) (fun _ _ _ h => h) (Or.inl ⟨by rfl, ?hy⟩) hHeld ?_
  case hy => intro w0 hSw; clear hSw; go_simp; (try with_reducible rfl)
  (try simp only [Act.put, List.setIfInBounds_toArray, List.set_cons_zero, List.set_cons_succ])
  refine wpAnyH_take (i := 60) (oi := { dst := some 135, op := Op.load 55 (Operand.tmp 134), type := 55, pos := _, after := #[{ on := 59, ground := Ground.data }, { on := 51, ground := Ground.guard }], guard := some (51, true) }) (v := ?_) rfl (by kernel_rfl) (by kernel_rfl) (by kernel_rfl) (fun _ _ _ h => h) (Or.inl ⟨by rfl, ?hy⟩) hHeld ?_
  case hy => intro w0 hSw; have q0 := hSw.cell 0 rfl 4 rfl; have q1 := hSw.cell 0 rfl 5 rfl; have q2 := hSw.cell 0 rfl 6 rfl; have q3 := hSw.cell 0 rfl 7 rfl; clear hSw; go_simp; (try with_reducible rfl)
  (try simp only [Act.put, List.setIfInBounds_toArray, List.set_cons_zero, List.set_cons_succ])
  refine wpAnyH_take (i := 63) (oi := { dst := some 138, op := Op.move (Operand.tmp 16), type := 27, pos := _, after := #[{ on := 51, ground := Ground.guard }], guard := some (51, true) }) (v := ?_) rfl (by kernel_rfl) (by kernel_rfl) (by kernel_rfl) (fun _ _ _ h => h) (Or.inl ⟨by rfl, ?hy⟩) hHeld ?_
  case hy => intro w0 hSw; clear hSw; go_simp; (try with_reducible rfl)
  (try simp only [Act.put, List.setIfInBounds_toArray, List.set_cons_zero, List.set_cons_succ])
  refine wpAnyH_ready (rs := [61]) (by kernel_rfl) (by simp) ?_
  refine AllReadyH.cons (o := { dst := some 136, op := Op.buildSlice 27 3 #[(0, Operand.tmp 129), (1, Operand.tmp 132), (2, Operand.tmp 135)], type := 27, pos := _, after := #[{ on := 54, ground := Ground.data }, { on := 57, ground := Ground.data }, { on := 60, ground := Ground.data }, { on := 51, ground := Ground.guard }], guard := some (51, true) }) rfl (fun K hK => ?_) AllReadyH.nil
  go_simp
  replace hS := (hS.new #[.int .i64 30, .int .i64 1, .int .i64 0, .int .i64 2, .int .i64 5, .int .i64 2, .int .i64 0, .int .i64 1, .int .i64 15, .int .i64 2, .int .i64 0, .int .i64 2] 55).more (turnF (some ⟨w10.heap.size, 0, none⟩) [⟨30, 1, 0, 2⟩, ⟨5, 2, 0, 1⟩, ⟨15, 2, 0, 2⟩]) (TrnsAt.three w10 30 1 0 2 5 2 0 1 15 2 0 2 55)
  refine hK.out _ _ (by first | exact hS.pick8 _ (by simp) | exact hS.drew.pick8 _ (by simp)) (fun hHeld => ?_)
  clear hK K
  (try simp only [Act.put, List.setIfInBounds_toArray, List.set_cons_zero, List.set_cons_succ])
  refine wpAnyH_ready (rs := [62]) (by kernel_rfl) (by simp) ?_
  refine AllReadyH.cons (o := { dst := some 137, op := Op.call { callee := Callee.value (Operand.func 17), args := #[Operand.tmp 136], argTypes := #[27] }, type := 27, pos := _, after := #[{ on := 61, ground := Ground.data }, { on := 51, ground := Ground.chain }, { on := 51, ground := Ground.guard }], guard := some (51, true) }) rfl (fun K hK => ?_) AllReadyH.nil
  go_simp
  refine (cOrder HD (some ⟨w10.heap.size, 0, none⟩) _ _ (hS.fact 0 rfl) (fun e => nomatch e)).mono ?_
  rintro e w11 ⟨A5, c5, rfl, hO, hB'⟩
  replace hS := (hS.on hB').more (turnF A5 [⟨5, 2, 0, 1⟩, ⟨15, 2, 0, 2⟩, ⟨30, 1, 0, 2⟩]) hO.rows.1
  clear hO hB'
  go_wp2_with fail
  refine hK.out _ _ (by first | exact hS.pick8 _ (by simp) | exact hS.drew.pick8 _ (by simp)) (fun hHeld => ?_)
  clear hK K
  (try simp only [Act.put, List.setIfInBounds_toArray, List.set_cons_zero, List.set_cons_succ])
  refine wpAnyH_ready (rs := [64]) (by kernel_rfl) (by simp) ?_
  refine AllReadyH.cons (o := { dst := some 139, op := Op.call { callee := Callee.value (Operand.func 15), args := #[Operand.tmp 137, Operand.tmp 138], argTypes := #[27, 27] }, type := 4, pos := _, after := #[{ on := 62, ground := Ground.data }, { on := 63, ground := Ground.data }, { on := 62, ground := Ground.chain }, { on := 51, ground := Ground.guard }], guard := some (51, true) }) rfl (fun K hK => ?_) AllReadyH.nil
  go_simp
  refine (cSame HT A5 (some ⟨pw, 0, none⟩) c5 _ _ (hS.fact 0 rfl) (hS.fact 2 rfl)).mono ?_
  rintro e w12 ⟨rfl, hB'⟩
  replace hS := hS.on hB'
  clear hB'
  go_wp2_with fail
  refine hK.out _ _ (by first | exact hS.pick8 _ (by simp) | exact hS.drew.pick8 _ (by simp)) (fun hHeld => ?_)
  clear hK K
  (try simp only [Act.put, List.setIfInBounds_toArray, List.set_cons_zero, List.set_cons_succ])
  refine wpAnyH_take (i := 65) (oi := { dst := some 140, op := Op.pick (Operand.tmp 126) (Operand.tmp 139) (Operand.const (Value.bool false)), type := 4, pos := _, after := #[{ on := 51, ground := Ground.data }, { on := 64, ground := Ground.data }], guard := none }) (v := ?_) rfl (by kernel_rfl) (by kernel_rfl) (by kernel_rfl) (fun _ _ _ h => h) (Or.inl ⟨by rfl, ?hy⟩) hHeld ?_
  case hy => intro w0 hSw; clear hSw; go_simp; (try with_reducible rfl)
  (try simp only [Act.put, List.setIfInBounds_toArray, List.set_cons_zero, List.set_cons_succ])
  refine wpAnyH_take (i := 66) (oi := { dst := some 0, op := Op.assign (Operand.tmp 140), type := 4, pos := _, after := _, guard := none }) (v := ?_) rfl (by kernel_rfl) (by kernel_rfl) (by kernel_rfl) (fun _ _ _ h => h) (Or.inl ⟨by rfl, ?hy⟩) hHeld ?_
  case hy => intro w0 hSw; clear hSw; go_simp; (try with_reducible rfl)
  (try simp only [Act.put, List.setIfInBounds_toArray, List.set_cons_zero])
  refine wpAnyH_done (by kernel_rfl) ?_ _
  clear hHeld
  have HS := Lib.hid hS
  clear hS
  go_wp2
  go_ret
  exact ⟨rfl, HS.out.below⟩
end Go.Proofs.YtplpadblhjdpcaaGreat
