/-
  Layer 6 (alarm): the walks of an embedded alarm's turn and inTime.
-/
import Derived.Test.YthlojadkgpmnmaaAlarmIs
import Derived.Test.YthlojadkgpmnmaaAlarmPut
import Derived.Test.YthlojadkgpmnmaaLifeNext
import Derived.Test.YthlojadkgpmnmaaAlarmRet
namespace Go.Proofs.Ythlojadkgpmnmaa
open Go.RowKit

/-- What a deed makes of an alarm, whatever Until it is told. -/
def Am.tnE (a : Alm) (deed : Int) : Int := if Lf.ok a.ph deed = true then 0 else 60
def Am.tnA (a : Alm) (deed u : Int) : Alm := if Lf.ok a.ph deed = true then ⟨a.b, a.c, Lf.nx a.ph deed, a.pr, a.si, u⟩ else Am.zero
def Am.inE (a : Alm) (deed t : Int) : Int := if Lf.ok a.ph deed = true then (if t < a.un then 61 else 0) else 60
def Am.inA (a : Alm) (deed t u : Int) : Alm := if Lf.ok a.ph deed = true then (if t < a.un then Am.zero else ⟨a.b, a.c, Lf.nx a.ph deed, a.pr, a.si, u⟩) else Am.zero

set_option maxRecDepth 10000 in
set_option maxHeartbeats 4000000 in
theorem tturn_f (b c ph pr si un deed u : Int) (w : World) (ho : Lf.ok ph deed = false) :
    Calls Try.prog 68 #[.agg #[.int .i64 b, .int .i64 c, .int .i64 ph, .int .i64 pr, .int .i64 si, .int .i64 un], .int .i64 deed, .int .i64 u] w fun e w' => e = .returned (.tuple #[.agg (sixV Am.zero), .int .i64 60]) ∧ Below w.heap.size w w' := by
  have g1 := fun W => Next_any ph deed W
  rw [ho] at g1
  obtain ⟨y, hy⟩ : ∃ y, y = Lf.nx ph deed := ⟨_, rfl⟩
  rw [← hy] at g1
  clear ho hy
  go_enter Try.func68, Try.ntmps68
  go_wp2_with fail
  refine (g1 _).mono ?_
  rintro e w1 ⟨rfl, hB⟩
  have kz := (Six.new1 w (.cells #[.int .i64 b, .int .i64 c, .int .i64 ph, .int .i64 pr, .int .i64 si, .int .i64 un] 70) 0 0 0 0 0 0 28).below hB
  have HB := Lib.hid (below2 (below_new2 w _ _) hB)
  have Kz := Lib.hid kz
  clear g1 hB kz
  go_wp2_with (refine wpList_store_six rfl 28 _ _ rfl (w.heap.size + 1) _ Am.zero rfl rfl Kz.out (by rfl) ?_; intro w2 hw2; have K2 := Lib.hid (Kz.out.put6 hw2); have HB2 := Lib.hid (below_put6 HB.out (by omega) hw2); clear hw2)
  (try simp only [Exit.inBlock, Exit.then]); refine bodyPost_ret (ret_alarm (a := Am.zero) rfl rfl K2.out) rfl ?_
  exact ⟨rfl, HB2.out⟩

set_option maxRecDepth 10000 in
set_option maxHeartbeats 4000000 in
theorem tturn_t (b c ph pr si un deed u y : Int) (w : World) (ho : Lf.ok ph deed = true) (hy : Lf.nx ph deed = y) :
    Calls Try.prog 68 #[.agg #[.int .i64 b, .int .i64 c, .int .i64 ph, .int .i64 pr, .int .i64 si, .int .i64 un], .int .i64 deed, .int .i64 u] w fun e w' => e = .returned (.tuple #[.agg (sixV ⟨b, c, y, pr, si, u⟩), .int .i64 0]) ∧ Below w.heap.size w w' := by
  have g1 := fun W => Next_any ph deed W
  rw [ho, hy] at g1
  clear ho hy
  go_enter Try.func68, Try.ntmps68
  go_wp2_with fail
  refine (g1 _).mono ?_
  rintro e w1 ⟨rfl, hB⟩
  have ka := ((Six.new w b c ph pr si un 70).alloc (.cells #[.int .i64 0, .int .i64 0, .int .i64 0, .int .i64 0, .int .i64 0, .int .i64 0] 28)).below hB
  have kz := (Six.new1 w (.cells #[.int .i64 b, .int .i64 c, .int .i64 ph, .int .i64 pr, .int .i64 si, .int .i64 un] 70) 0 0 0 0 0 0 28).below hB
  have HB := Lib.hid (below2 (below_new2 w _ _) hB)
  have Ka := Lib.hid ka
  have Kz := Lib.hid kz
  have Hle : Hid (w.heap.size + 1 < w1.heap.size) := Lib.hid kz.lt
  clear g1 hB ka kz
  go_wp2_with (first
    | (refine wpList_load_six rfl 28 _ rfl w.heap.size _ rfl Ka.out _ Try.underlying28 rfl (by rfl) ?_)
    | (refine wpList_load_six rfl 28 _ rfl w1.heap.size _ rfl HL.out _ Try.underlying28 rfl (by rfl) ?_)
    | (refine wpList_store_six rfl 28 _ _ rfl (w.heap.size + 1) _ ⟨b, c, y, pr, si, u⟩ rfl rfl HS.out (by rfl) ?_; intro w3 hw3; have K3 := Lib.hid (HS.out.put6 hw3); have HB3 := Lib.hid (below_put6 HBf.out (by omega) hw3); clear hw3)
    | (refine wpList_store_six rfl 28 _ _ rfl w1.heap.size _ ⟨b, c, ph, pr, si, un⟩ rfl rfl (Six.new w1 0 0 0 0 0 0 _) (by rfl) ?_
       intro w2 hw2
       have K2 := (Six.new w1 0 0 0 0 0 0 28).put6 hw2
       have Z2 := (Kz.out.alloc (.cells #[.int .i64 0, .int .i64 0, .int .i64 0, .int .i64 0, .int .i64 0, .int .i64 0] 28)).put6O (by have := Hle.out; omega) hw2
       have HB2 := below_put6 (HB.out.alloc (by have := Hle.out; omega) _) (by have := Hle.out; omega) hw2
       have c2 := K2.c2
       have c5 := K2.c5
       have f2 := K2.f 2
       have f5 := K2.f 5
       have HL := Lib.hid ((K2.sph y).sun u)
       have HS := Lib.hid ((Z2.other (g := w1.heap.size) (j := 2) (v := .int .i64 y) (by have := Hle.out; omega)).other (g := w1.heap.size) (j := 5) (v := .int .i64 u) (by have := Hle.out; omega))
       have HBf := Lib.hid ((HB2.setCell (p := ⟨w1.heap.size, 2, none⟩) (by have := Hle.out; show w.heap.size ≤ w1.heap.size; omega) (.int .i64 y)).setCell (p := ⟨w1.heap.size, 5, none⟩) (by have := Hle.out; show w.heap.size ≤ w1.heap.size; omega) (.int .i64 u))
       clear hw2 K2 Z2 HB2))
  (try simp only [Exit.inBlock, Exit.then]); refine bodyPost_ret (ret_alarm (a := ⟨b, c, y, pr, si, u⟩) rfl rfl K3.out) rfl ?_
  exact ⟨rfl, HB3.out⟩
end Go.Proofs.Ythlojadkgpmnmaa
