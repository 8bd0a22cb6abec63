/-
  Layer 6 (alarm): the walks of an embedded alarm's turn and inTime.
-/
import Derived.Test.YtepcjlnjhbaioaaAlarmIs
import Derived.Test.YtepcjlnjhbaioaaLifeNext
import Derived.Test.YtepcjlnjhbaioaaRefAlarm2
namespace Go.Proofs.Ytepcjlnjhbaioaa
open Go.RowKit

/-- What a deed makes of an alarm, whatever Until it is told. -/
def Am.tnE (a : Alm) (deed : Int) : Int := if Lf.ok a.ph deed = true then 0 else 60
def Am.tnA (a : Alm) (deed u : Int) : Alm := if Lf.ok a.ph deed = true then ⟨a.b, a.c, Lf.nx a.ph deed, a.pr, a.si, u⟩ else Am.zero
def Am.inE (a : Alm) (deed t : Int) : Int := if Lf.ok a.ph deed = true then (if t < a.un then 61 else 0) else 60
def Am.inA (a : Alm) (deed t u : Int) : Alm := if Lf.ok a.ph deed = true then (if t < a.un then Am.zero else ⟨a.b, a.c, Lf.nx a.ph deed, a.pr, a.si, u⟩) else Am.zero

/-- A whole alarm is laid into a block: the world behind it by what it is. -/
theorem wpList_store_six {P : Program} {ops : Array Oper} {rest : List Oper} {o : Oper} {a : Act} {w : World} {Q : Exit → Act → World → Prop} (hgd : o.guard = none) (ty : TypeId) (x y : Operand) (ho : o.op = .store ty x y)
    (g : Nat) (al al' : Alm) (hx : a.eval x = .pointer (some ⟨g, 0, none⟩)) (hy : a.eval y = .agg (sixV al')) (h6 : Six w g al) (hi : (P.info? ty).map (·.size) = some 6)
    (h : ∀ w', w' = w.setRow g (sixV al') → wpList P ops Q rest (a.put o.dst undef) w') : wpList P ops Q (o :: rest) a w := by
  obtain ⟨t, hb⟩ := h6.blk
  exact wpList_store_row hgd ty x y ho g (sixV al') hx hy t _ hb hi rfl (six_one _) (h _ rfl)
theorem wpList_load_six {P : Program} {ops : Array Oper} {rest : List Oper} {o : Oper} {a : Act} {w : World} {Q : Exit → Act → World → Prop} (hgd : o.guard = none) (ty : TypeId) (x : Operand) (ho : o.op = .load ty x)
    (g : Nat) (al : Alm) (hx : a.eval x = .pointer (some ⟨g, 0, none⟩)) (h6 : Six w g al) (d : TypeDesc)
    (hu : P.underlying ty = some d) (hd : (match d with | .struct _ | .array _ _ => true | _ => false) = true) (hi : (P.info? ty).map (·.size) = some 6)
    (h : wpList P ops Q rest (a.put o.dst (.agg (sixV al))) w) : wpList P ops Q (o :: rest) a w := by
  obtain ⟨t, hb⟩ := h6.blk
  exact wpList_load_row hgd ty x ho g hx t (sixV al) (0, 0) d hb hu hd hi h
theorem Six.put6 {w w' : World} {k : Nat} {a a' : Alm} (h : Six w k a) (hw : w' = w.setRow k (sixV a')) : Six w' k a' := by
  obtain ⟨t, hb⟩ := h.blk
  rw [hw]
  exact ⟨t, setRow_heap _ _ _ _ _ _ hb⟩
theorem Six.put6O {w w' : World} {k g : Nat} {a : Alm} {cs : Array Value} (h : Six w k a) (hne : k ≠ g) (hw : w' = w.setRow g cs) : Six w' k a := by
  obtain ⟨t, hb⟩ := h.blk
  rw [hw]
  exact ⟨t, (setRow_other w g k cs hne).trans hb⟩
theorem below_put6 {B g : Nat} {w0 w w' : World} {cs : Array Value} (h : Below B w0 w) (hg : B ≤ g) (hw : w' = w.setRow g cs) : Below B w0 w' := by
  rw [hw]; exact below_setRow h hg _

set_option maxRecDepth 10000 in
set_option maxHeartbeats 4000000 in
theorem tturn_f (b c ph pr si un deed u : Int) (w : World) (ho : Lf.ok ph deed = false) :
    Calls Try.prog 37 #[.agg #[.int .i64 b, .int .i64 c, .int .i64 ph, .int .i64 pr, .int .i64 si, .int .i64 un], .int .i64 deed, .int .i64 u] w fun e w' => e = .returned (.tuple #[.agg (sixV Am.zero), .int .i64 60]) ∧ Below w.heap.size w w' := by
  have g1 := fun W => Next_any ph deed W
  rw [ho] at g1
  obtain ⟨y, hy⟩ : ∃ y, y = Lf.nx ph deed := ⟨_, rfl⟩
  rw [← hy] at g1
  clear ho hy
  go_enter Try.func37, Try.ntmps37
  go_wp2_with fail
  refine (g1 _).mono ?_
  rintro e w1 ⟨rfl, hB⟩
  have kz := (Six.new1 w (.cells #[.int .i64 b, .int .i64 c, .int .i64 ph, .int .i64 pr, .int .i64 si, .int .i64 un] 47) 0 0 0 0 0 0 25).below hB
  have HB := Lib.hid (below2 (below_new2 w _ _) hB)
  have Kz := Lib.hid kz
  clear g1 hB kz
  go_wp2_with (refine wpList_store_six rfl 25 _ _ rfl (w.heap.size + 1) _ Am.zero rfl rfl Kz.out (by rfl) ?_; intro w2 hw2; have K2 := Lib.hid (Kz.out.put6 hw2); have HB2 := Lib.hid (below_put6 HB.out (by omega) hw2); clear hw2)
  (try simp only [Exit.inBlock, Exit.then]); refine bodyPost_ret (ret_alarm (a := Am.zero) rfl rfl K2.out) rfl ?_
  exact ⟨rfl, HB2.out⟩

set_option maxRecDepth 10000 in
set_option maxHeartbeats 4000000 in
theorem tturn_t (b c ph pr si un deed u y : Int) (w : World) (ho : Lf.ok ph deed = true) (hy : Lf.nx ph deed = y) :
    Calls Try.prog 37 #[.agg #[.int .i64 b, .int .i64 c, .int .i64 ph, .int .i64 pr, .int .i64 si, .int .i64 un], .int .i64 deed, .int .i64 u] w fun e w' => e = .returned (.tuple #[.agg (sixV ⟨b, c, y, pr, si, u⟩), .int .i64 0]) ∧ Below w.heap.size w w' := by
  have g1 := fun W => Next_any ph deed W
  rw [ho, hy] at g1
  clear ho hy
  go_enter Try.func37, Try.ntmps37
  go_wp2_with fail
  refine (g1 _).mono ?_
  rintro e w1 ⟨rfl, hB⟩
  have ka := ((Six.new w b c ph pr si un 47).alloc (.cells #[.int .i64 0, .int .i64 0, .int .i64 0, .int .i64 0, .int .i64 0, .int .i64 0] 25)).below hB
  have kz := (Six.new1 w (.cells #[.int .i64 b, .int .i64 c, .int .i64 ph, .int .i64 pr, .int .i64 si, .int .i64 un] 47) 0 0 0 0 0 0 25).below hB
  have HB := Lib.hid (below2 (below_new2 w _ _) hB)
  have Ka := Lib.hid ka
  have Kz := Lib.hid kz
  have Hle : Hid (w.heap.size + 1 < w1.heap.size) := Lib.hid kz.lt
  clear g1 hB ka kz
  go_wp2_with (first
    | (refine wpList_load_six rfl 25 _ rfl w.heap.size _ rfl Ka.out _ Try.underlying25 rfl (by rfl) ?_)
    | (refine wpList_load_six rfl 25 _ rfl w1.heap.size _ rfl HL.out _ Try.underlying25 rfl (by rfl) ?_)
    | (refine wpList_store_six rfl 25 _ _ rfl (w.heap.size + 1) _ ⟨b, c, y, pr, si, u⟩ rfl rfl HS.out (by rfl) ?_; intro w3 hw3; have K3 := Lib.hid (HS.out.put6 hw3); have HB3 := Lib.hid (below_put6 HBf.out (by omega) hw3); clear hw3)
    | (refine wpList_store_six rfl 25 _ _ rfl w1.heap.size _ ⟨b, c, ph, pr, si, un⟩ rfl rfl (Six.new w1 0 0 0 0 0 0 _) (by rfl) ?_
       intro w2 hw2
       have K2 := (Six.new w1 0 0 0 0 0 0 25).put6 hw2
       have Z2 := (Kz.out.alloc (.cells #[.int .i64 0, .int .i64 0, .int .i64 0, .int .i64 0, .int .i64 0, .int .i64 0] 25)).put6O (by have := Hle.out; omega) hw2
       have HB2 := below_put6 (HB.out.alloc (by have := Hle.out; omega) _) (by have := Hle.out; omega) hw2
       have c2 := K2.c2
       have c5 := K2.c5
       have f2 := K2.f 2
       have f5 := K2.f 5
       have HL := Lib.hid ((K2.sph y).sun u)
       have HS := Lib.hid ((Z2.other (g := w1.heap.size) (j := 2) (v := .int .i64 y) (by have := Hle.out; omega)).other (g := w1.heap.size) (j := 5) (v := .int .i64 u) (by have := Hle.out; omega))
       have HBf := Lib.hid ((HB2.setCell (p := ⟨w1.heap.size, 2, none⟩) (by have := Hle.out; show w.heap.size ≤ w1.heap.size; omega) (.int .i64 y)).setCell (p := ⟨w1.heap.size, 5, none⟩) (by have := Hle.out; show w.heap.size ≤ w1.heap.size; omega) (.int .i64 u))
       clear hw2 K2 Z2 HB2))
  (try simp only [Exit.inBlock, Exit.then]); refine bodyPost_ret (ret_alarm (a := ⟨b, c, y, pr, si, u⟩) rfl rfl K3.out) rfl ?_
  exact ⟨rfl, HB3.out⟩
end Go.Proofs.Ytepcjlnjhbaioaa
