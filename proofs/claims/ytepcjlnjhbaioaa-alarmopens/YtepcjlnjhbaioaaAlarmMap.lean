/-
  Layer 6 (alarm): the map of method expressions (deeds): what lies in it, and what is found there.
-/
import Derived.Test.YtepcjlnjhbaioaaAlarmWake
import Derived.WideMake
namespace Go.Proofs.Ytepcjlnjhbaioaa
open Go.RowKit

/-- The deeds that can be asked, as function values. -/
def escV : Value := .func (.methodOf 49 "watchman/alarm.escalate") #[] #[]
def ackV : Value := .func (.func 34) #[] #[]
def silV : Value := .func (.func 35) #[] #[]
def wakV : Value := .func (.methodOf 49 "watchman/alarm.wake") #[] #[]
def deedsE : Array MapEntry := #[{ key := .int .i64 2, val := escV, born := 0 }, { key := .int .i64 3, val := ackV, born := 1 }, { key := .int .i64 4, val := silV, born := 2 }, { key := .int .i64 6, val := wakV, born := 3 }]

/-- A key that is not there yet is laid into a map. -/
theorem run_insert_int {P : Program} {w : World} (t kt et : TypeId) (r clock : Nat) (es : Array MapEntry) (k : Int) (val : Value) (ht : P.underlying t = some (.map kt et)) (hk : P.underlying kt = some (.int .i64)) (hb : w.heap[r]? = some (.map es clock))
    (hf : Instr.findNow (.int .i64) (.int .i64 k) es.toList 0 = some none) :
    (Instr.mapUpdate t (.map (some r)) (.int .i64 k) val).run P w = .ok () { w with heap := w.heap.setIfInBounds r (.map (es.push { key := .int .i64 k, val := val, born := clock }) (clock + 1)) } := by
  have hc : (Instr.checkKey false 10000 kt (.int .i64 k)).run P w = .ok () w := MapKept.run_checkKey (k := .int .i64 k) hk (by simp [MapKept.IsKey]) false 9999
  simp [Instr.mapUpdate, run_underlying ht, MapKept.run_getObj_map hb, hc, MapKept.run_findKey hk hf, MapKept.run_setObj_map _ hb, Result.andThen]

theorem wpList_insert_int {P : Program} {ops : Array Oper} {rest : List Oper} {o : Oper} {a : Act} {w : World} {Q : Exit → Act → World → Prop} (hg : o.guard = none) (m x v : Operand) (t : TypeId) (hop : o.op = Op.insert t m x v)
    (kt et : TypeId) (r clock : Nat) (es : Array MapEntry) (k : Int) (val : Value) (ht : P.underlying t = some (.map kt et)) (hk : P.underlying kt = some (.int .i64)) (hb : w.heap[r]? = some (.map es clock))
    (hf : Instr.findNow (.int .i64) (.int .i64 k) es.toList 0 = some none) (hm : a.eval m = .map (some r)) (hx : a.eval x = .int .i64 k) (hv : a.eval v = val)
    (hK : ∀ w', w'.heap[r]? = some (.map (es.push { key := .int .i64 k, val := val, born := clock }) (clock + 1)) → (∀ B w0, Below B w0 w → B ≤ r → Below B w0 w') → wpList P ops Q rest (a.put o.dst undef) w') :
    wpList P ops Q (o :: rest) a w := by
  refine wpList_plain hg fun K' hK' => ?_
  have hrun := run_insert_int (P := P) (w := w) t kt et r clock es k val ht hk hb hf
  unfold Oper.wp
  simp [execOp, hop, hm, hx, hv, hrun, Result.andThen]
  refine hK' _ _ (hK _ ?_ ?_)
  · exact (MapKept.heap_set hb).1
  · intro B w0 hB hr
    exact hB.trans ⟨rfl, rfl, rfl, by simp, fun j hj => (MapKept.heap_set hb).2 j (by omega)⟩

/-- What is found in the map. -/
def deedV (d : Int) (z : Value) : Value := if d = 2 then escV else if d = 3 then ackV else if d = 4 then silV else if d = 6 then wakV else z
def deedOk (d : Int) : Bool := d == 2 || d == 3 || d == 4 || d == 6
theorem find_deed (d : Int) : Instr.findNow (.int .i64) (.int .i64 d) deedsE.toList 0 = some (if d = 2 then some (0, escV) else if d = 3 then some (1, ackV) else if d = 4 then some (2, silV) else if d = 6 then some (3, wakV) else none) := by
  unfold deedsE
  by_cases h2 : d = 2
  · subst h2; rfl
  · by_cases h3 : d = 3
    · subst h3; rfl
    · by_cases h4 : d = 4
      · subst h4; rfl
      · by_cases h6 : d = 6
        · subst h6; rfl
        · have e2 : (d == 2) = false := by rw [beq_eq_false_iff_ne]; exact h2
          have e3 : (d == 3) = false := by rw [beq_eq_false_iff_ne]; exact h3
          have e4 : (d == 4) = false := by rw [beq_eq_false_iff_ne]; exact h4
          have e6 : (d == 6) = false := by rw [beq_eq_false_iff_ne]; exact h6
          simp [Instr.findNow, Instr.sameNow, h2, h3, h4, h6]
          rw [e2, e3, e4, e6]
theorem run_lookup_deed {P : Program} {w : World} (t kt et : TypeId) (r clock : Nat) (d : Int) (z : Value) (ht : P.underlying t = some (.map kt et)) (hk : P.underlying kt = some (.int .i64)) (hz : (zeroValue et).run P w = .ok z w) (hb : w.heap[r]? = some (.map deedsE clock)) :
    (Instr.lookup t (.map (some r)) (.int .i64 d) true).run P w = .ok (.tuple #[deedV d z, .bool (deedOk d)]) w := by
  have hc : (Instr.checkKey deedsE.isEmpty 10000 kt (.int .i64 d)).run P w = .ok () w := MapKept.run_checkKey (k := .int .i64 d) hk (by simp [MapKept.IsKey]) _ 9999
  have hf := MapKept.run_findKey (P := P) (w := w) hk (find_deed d)
  unfold deedV deedOk
  by_cases h2 : d = 2
  · subst h2; simp [Instr.lookup, run_underlying ht, MapKept.run_getObj_map hb, hc, hf, Result.andThen]
  · by_cases h3 : d = 3
    · subst h3; simp [Instr.lookup, run_underlying ht, MapKept.run_getObj_map hb, hc, hf, Result.andThen]
    · by_cases h4 : d = 4
      · subst h4; simp [Instr.lookup, run_underlying ht, MapKept.run_getObj_map hb, hc, hf, Result.andThen]
      · by_cases h6 : d = 6
        · subst h6; simp [Instr.lookup, run_underlying ht, MapKept.run_getObj_map hb, hc, hf, Result.andThen]
        · simp [Instr.lookup, run_underlying ht, MapKept.run_getObj_map hb, hc, hf, hz, h2, h3, h4, h6, Result.andThen]

set_option maxHeartbeats 1000000 in
theorem deeds_any (w : World) :
    Calls Try.prog 27 #[] w fun e w' => e = .returned (.map (some w.heap.size)) ∧ w'.heap[w.heap.size]? = some (.map deedsE 4) ∧ Below w.heap.size w w' := by
  have hmm := @run_makeMap Try.prog
  have h0 : Hid ((w.alloc (.map #[] 0)).heap[w.heap.size]? = some (.map #[] 0)) := Lib.hid (heap_alloc_new _ _)
  have B0 : Hid (Below w.heap.size w (w.alloc (.map #[] 0))) := Lib.hid ((Below.refl _ _).alloc (Nat.le_refl _) _)
  go_enter Try.func27, Try.ntmps27
  go_wp2_with (refine wpList_insert_int rfl _ _ _ 44 rfl 3 _ w.heap.size _ _ _ _ Try.underlying44 Try.underlying3 h0.out (by rfl) rfl rfl rfl ?_
               intro w1 h1 hb1
               replace h0 := Lib.hid h1
               replace B0 := Lib.hid (hb1 _ _ B0.out (Nat.le_refl _))
               clear h1 hb1)
  go_ret
  exact ⟨rfl, h0.out, B0.out⟩
end Go.Proofs.Ytepcjlnjhbaioaa
