/-
  Layer 6 (alarm): the walks of ack, silence.
  Layer 6 (alarm): isLong.
  Layer 6 (alarm): the map of method expressions (deeds): what lies in it, and what is found there.
  Layer 6 (alarm): the walk of Do, a theorem a case (printed by tools/gen-alarmdo.py).
  Layer 6 (alarm): the walk of Open.
  Layer 9 (due): board's and alarm's contracts over the landed code; the document's rows from due's.
-/
import Derived.Test.YtplpadblhjdpcaaGreatXJb
import Derived.WideMake
import Derived.Test.YtplpadblhjdpcaaGreatXJa
import Derived.Test.YtplpadblhjdpcaaGreatXJc
import Derived.Test.YtplpadblhjdpcaaGreatXJd
namespace Go.Proofs.YtplpadblhjdpcaaGreat
set_option maxRecDepth 10000
set_option maxRecDepth 10000
open Go.RowKit

set_option maxRecDepth 10000 in
set_option maxHeartbeats 4000000 in
theorem ack_any (b c ph pr si un t l : Int) (w : World) :
    Calls Tryz.prog 76 #[.agg #[.int .i64 b, .int .i64 c, .int .i64 ph, .int .i64 pr, .int .i64 si, .int .i64 un], .int .i64 t, .int .i64 l] w fun e w' => e = .returned (.tuple #[.agg (sixV (Am.tnA ⟨b, c, ph, pr, si, un⟩ 3 t)), .int .i64 (Am.tnE ⟨b, c, ph, pr, si, un⟩ 3)]) ∧ Below w.heap.size w w' := by
  have g1 := fun W => tturn_any b c ph pr si un 3 t W
  obtain ⟨X, hX⟩ : ∃ X, X = Am.tnA ⟨b, c, ph, pr, si, un⟩ 3 t := ⟨_, rfl⟩
  obtain ⟨Y, hY⟩ : ∃ Y, Y = Am.tnE ⟨b, c, ph, pr, si, un⟩ 3 := ⟨_, rfl⟩
  rw [← hX, ← hY] at g1 ⊢
  clear hX hY
  go_enter Tryz.func76, Tryz.ntmps76
  have H0 := Lib.hid ((Six.new w b c ph pr si un 84).alloc (.cells #[.int .i64 0, .int .i64 0, .int .i64 0, .int .i64 0, .int .i64 0, .int .i64 0] 38))
  go_wp2_with (refine wpList_load_six rfl 82 _ rfl w.heap.size _ rfl H0.out _ Tryz.underlying82 rfl (by rfl) ?_)
  refine (g1 _).mono ?_
  rintro e w1 ⟨rfl, hB⟩
  have kz := (Six.new1 w (.cells #[.int .i64 b, .int .i64 c, .int .i64 ph, .int .i64 pr, .int .i64 si, .int .i64 un] 84) 0 0 0 0 0 0 38).below hB
  have HB := Lib.hid (below2 (below_new2 w _ _) hB)
  have Kz := Lib.hid kz
  clear g1 hB kz H0
  go_wp2_with (refine wpList_store_six rfl 38 _ _ rfl (w.heap.size + 1) _ X rfl rfl Kz.out (by rfl) ?_; intro w3 hw3; have K3 := Lib.hid (Kz.out.put6 hw3); have HB3 := Lib.hid (below_put6 HB.out (by omega) hw3); clear hw3)
  (try simp only [Exit.inBlock, Exit.then]); refine bodyPost_ret (ret_alarm (a := X) rfl rfl K3.out) rfl ?_
  exact ⟨rfl, HB3.out⟩

set_option maxRecDepth 10000 in
set_option maxHeartbeats 4000000 in
theorem silence_any (b c ph pr si un t l : Int) (w : World) (iw : wrap64 (t + l) = t + l) :
    Calls Tryz.prog 77 #[.agg #[.int .i64 b, .int .i64 c, .int .i64 ph, .int .i64 pr, .int .i64 si, .int .i64 un], .int .i64 t, .int .i64 l] w fun e w' => e = .returned (.tuple #[.agg (sixV (Am.tnA ⟨b, c, ph, pr, si, un⟩ 4 (t + l))), .int .i64 (Am.tnE ⟨b, c, ph, pr, si, un⟩ 4)]) ∧ Below w.heap.size w w' := by
  have g1 := fun W => tturn_any b c ph pr si un 4 (t + l) W
  obtain ⟨X, hX⟩ : ∃ X, X = Am.tnA ⟨b, c, ph, pr, si, un⟩ 4 (t + l) := ⟨_, rfl⟩
  obtain ⟨Y, hY⟩ : ∃ Y, Y = Am.tnE ⟨b, c, ph, pr, si, un⟩ 4 := ⟨_, rfl⟩
  rw [← hX, ← hY] at g1 ⊢
  clear hX hY
  go_enter Tryz.func77, Tryz.ntmps77
  have H0 := Lib.hid ((Six.new w b c ph pr si un 84).alloc (.cells #[.int .i64 0, .int .i64 0, .int .i64 0, .int .i64 0, .int .i64 0, .int .i64 0] 38))
  go_wp2_with (refine wpList_load_six rfl 82 _ rfl w.heap.size _ rfl H0.out _ Tryz.underlying82 rfl (by rfl) ?_)
  refine (g1 _).mono ?_
  rintro e w1 ⟨rfl, hB⟩
  have kz := (Six.new1 w (.cells #[.int .i64 b, .int .i64 c, .int .i64 ph, .int .i64 pr, .int .i64 si, .int .i64 un] 84) 0 0 0 0 0 0 38).below hB
  have HB := Lib.hid (below2 (below_new2 w _ _) hB)
  have Kz := Lib.hid kz
  clear g1 hB kz H0
  go_wp2_with (refine wpList_store_six rfl 38 _ _ rfl (w.heap.size + 1) _ X rfl rfl Kz.out (by rfl) ?_; intro w3 hw3; have K3 := Lib.hid (Kz.out.put6 hw3); have HB3 := Lib.hid (below_put6 HB.out (by omega) hw3); clear hw3)
  (try simp only [Exit.inBlock, Exit.then]); refine bodyPost_ret (ret_alarm (a := X) rfl rfl K3.out) rfl ?_
  exact ⟨rfl, HB3.out⟩

end Go.Proofs.YtplpadblhjdpcaaGreat

namespace Go.Proofs.YtplpadblhjdpcaaGreat
set_option maxRecDepth 10000
open Go.RowKit

theorem isLong_any (n : Int) (w : World) :
    Calls Tryz.prog 59 #[.int .i64 n] w fun e w' => e = .returned (.bool (Am.isL n)) ∧ w' = w := by
  go_enter Tryz.func59, Tryz.ntmps59
  go_wp2
  all_goals go_ret
  all_goals (refine ⟨?_, rfl⟩; congr 2; unfold Am.isL; simp [*] <;> omega)

end Go.Proofs.YtplpadblhjdpcaaGreat

namespace Go.Proofs.YtplpadblhjdpcaaGreat
set_option maxRecDepth 10000
open Go.RowKit

/-- The deeds that can be asked, as function values. -/
def escV : Value := .func (.methodOf 84 "watchman/alarm.escalate") #[] #[]
def ackV : Value := .func (.func 76) #[] #[]
def silV : Value := .func (.func 77) #[] #[]
def wakV : Value := .func (.methodOf 84 "watchman/alarm.wake") #[] #[]
def deedsE : Array MapEntry := #[{ key := .int .i64 2, val := escV, born := 0 }, { key := .int .i64 3, val := ackV, born := 1 }, { key := .int .i64 4, val := silV, born := 2 }, { key := .int .i64 6, val := wakV, born := 3 }]

/-- A key that is not there yet is laid into a map. -/
theorem run_insert_int {P : Program} {w : World} (t kt et : TypeId) (r clock : Nat) (es : Array MapEntry) (k : Int) (val : Value) (ht : P.underlying t = some (.map kt et)) (hk : P.underlying kt = some (.int .i64)) (hb : w.heap[r]? = some (.map es clock))
    (hf : Instr.findNow (.int .i64) (.int .i64 k) es.toList 0 = some none) :
    (Instr.mapUpdate t (.map (some r)) (.int .i64 k) val).run P w = .ok () { w with heap := w.heap.setIfInBounds r (.map (es.push { key := .int .i64 k, val := val, born := clock }) (clock + 1)) } := by
  have hc : (Instr.checkKey false 10000 kt (.int .i64 k)).run P w = .ok () w := MapKept.run_checkKey (k := .int .i64 k) hk (by simp [MapKept.IsKey]) false 9999
  simp [Instr.mapUpdate, run_underlying ht, MapKept.run_getObj_map hb, hc, MapKept.run_findKey hk hf, MapKept.run_setObj_map _ hb, Result.andThen]

theorem wpList_insert_int {P : Program} {ops : Array Oper} {rest : List Oper} {o : Oper} {a : Act} {w : World} {Q : Exit → Act → World → Prop} (hg : o.guard = none) (m x v : Operand) (t : TypeId) (hop : o.op = Op.insert t m x v)
    (kt et : TypeId) (r clock : Nat) (es : Array MapEntry) (k : Int) (val : Value) (ht : P.underlying t = some (.map kt et)) (hk : P.underlying kt = some (.int .i64)) (hb : w.heap[r]? = some (.map es clock))
    (hf : Instr.findNow (.int .i64) (.int .i64 k) es.toList 0 = some none) (hm : a.eval m = .map (some r)) (hx : a.eval x = .int .i64 k) (hv : a.eval v = val)
    (hK : ∀ w', w'.heap[r]? = some (.map (es.push { key := .int .i64 k, val := val, born := clock }) (clock + 1)) → (∀ B w0, Below B w0 w → B ≤ r → Below B w0 w') → wpList P ops Q rest (a.put o.dst undef) w') :
    wpList P ops Q (o :: rest) a w := by
  refine wpList_plain hg fun K' hK' => ?_
  have hrun := run_insert_int (P := P) (w := w) t kt et r clock es k val ht hk hb hf
  unfold Oper.wp
  simp [execOp, hop, hm, hx, hv, hrun, Result.andThen]
  refine hK' _ _ (hK _ ?_ ?_)
  · exact (MapKept.heap_set hb).1
  · intro B w0 hB hr
    exact hB.trans ⟨rfl, rfl, rfl, by simp, fun j hj => (MapKept.heap_set hb).2 j (by omega)⟩

/-- What is found in the map. -/
def deedV (d : Int) (z : Value) : Value := if d = 2 then escV else if d = 3 then ackV else if d = 4 then silV else if d = 6 then wakV else z
def deedOk (d : Int) : Bool := d == 2 || d == 3 || d == 4 || d == 6
theorem find_deed (d : Int) : Instr.findNow (.int .i64) (.int .i64 d) deedsE.toList 0 = some (if d = 2 then some (0, escV) else if d = 3 then some (1, ackV) else if d = 4 then some (2, silV) else if d = 6 then some (3, wakV) else none) := by
  unfold deedsE
  by_cases h2 : d = 2
  · subst h2; rfl
  · by_cases h3 : d = 3
    · subst h3; rfl
    · by_cases h4 : d = 4
      · subst h4; rfl
      · by_cases h6 : d = 6
        · subst h6; rfl
        · have e2 : (d == 2) = false := by rw [beq_eq_false_iff_ne]; exact h2
          have e3 : (d == 3) = false := by rw [beq_eq_false_iff_ne]; exact h3
          have e4 : (d == 4) = false := by rw [beq_eq_false_iff_ne]; exact h4
          have e6 : (d == 6) = false := by rw [beq_eq_false_iff_ne]; exact h6
          simp [Instr.findNow, Instr.sameNow, h2, h3, h4, h6]
          rw [e2, e3, e4, e6]
theorem run_lookup_deed {P : Program} {w : World} (t kt et : TypeId) (r clock : Nat) (d : Int) (z : Value) (ht : P.underlying t = some (.map kt et)) (hk : P.underlying kt = some (.int .i64)) (hz : (zeroValue et).run P w = .ok z w) (hb : w.heap[r]? = some (.map deedsE clock)) :
    (Instr.lookup t (.map (some r)) (.int .i64 d) true).run P w = .ok (.tuple #[deedV d z, .bool (deedOk d)]) w := by
  have hc : (Instr.checkKey deedsE.isEmpty 10000 kt (.int .i64 d)).run P w = .ok () w := MapKept.run_checkKey (k := .int .i64 d) hk (by simp [MapKept.IsKey]) _ 9999
  have hf := MapKept.run_findKey (P := P) (w := w) hk (find_deed d)
  unfold deedV deedOk
  by_cases h2 : d = 2
  · subst h2; simp [Instr.lookup, run_underlying ht, MapKept.run_getObj_map hb, hc, hf, Result.andThen]
  · by_cases h3 : d = 3
    · subst h3; simp [Instr.lookup, run_underlying ht, MapKept.run_getObj_map hb, hc, hf, Result.andThen]
    · by_cases h4 : d = 4
      · subst h4; simp [Instr.lookup, run_underlying ht, MapKept.run_getObj_map hb, hc, hf, Result.andThen]
      · by_cases h6 : d = 6
        · subst h6; simp [Instr.lookup, run_underlying ht, MapKept.run_getObj_map hb, hc, hf, Result.andThen]
        · simp [Instr.lookup, run_underlying ht, MapKept.run_getObj_map hb, hc, hf, hz, h2, h3, h4, h6, Result.andThen]

set_option maxHeartbeats 1000000 in
theorem deeds_any (w : World) :
    Calls Tryz.prog 58 #[] w fun e w' => e = .returned (.map (some w.heap.size)) ∧ w'.heap[w.heap.size]? = some (.map deedsE 4) ∧ Below w.heap.size w w' := by
  have hmm := @run_makeMap Tryz.prog
  have h0 : Hid ((w.alloc (.map #[] 0)).heap[w.heap.size]? = some (.map #[] 0)) := Lib.hid (heap_alloc_new _ _)
  have B0 : Hid (Below w.heap.size w (w.alloc (.map #[] 0))) := Lib.hid ((Below.refl _ _).alloc (Nat.le_refl _) _)
  go_enter Tryz.func58, Tryz.ntmps58
  go_wp2_with (refine wpList_insert_int rfl _ _ _ 91 rfl 3 _ w.heap.size _ _ _ _ Tryz.underlying91 Tryz.underlying3 h0.out (by rfl) rfl rfl rfl ?_
               intro w1 h1 hb1
               replace h0 := Lib.hid h1
               replace B0 := Lib.hid (hb1 _ _ B0.out (Nat.le_refl _))
               clear h1 hb1)
  go_ret
  exact ⟨rfl, h0.out, B0.out⟩
end Go.Proofs.YtplpadblhjdpcaaGreat

namespace Go.Proofs.YtplpadblhjdpcaaGreat
set_option maxRecDepth 10000
open Go.RowKit

theorem zeroF (w : World) : (zeroValue 89).run Tryz.prog w = .ok .nilFunc w := by kernel_rfl
theorem deeds_at (w : World) :
    Calls Tryz.prog 58 #[] w fun e w' => ∃ r, e = .returned (.map (some r)) ∧ w'.heap[r]? = some (.map deedsE 4) ∧ Below w.heap.size w w' :=
  (deeds_any w).mono fun _ _ h => ⟨_, h⟩

set_option maxRecDepth 10000 in
set_option maxHeartbeats 4000000 in
theorem do_n (b c ph pr si un d t l : Int) (w : World) (hv : deedV d Value.nilFunc = Value.nilFunc) (hd : deedOk d = false) :
    Calls Tryz.prog 36 #[.agg #[.int .i64 b, .int .i64 c, .int .i64 ph, .int .i64 pr, .int .i64 si, .int .i64 un], .int .i64 d, .int .i64 t, .int .i64 l] w fun e w' => e = .returned (.tuple #[.agg (sixV (Am.zero)), .int .i64 (1)]) ∧ Below w.heap.size w w' := by
  go_enter Tryz.func36, Tryz.ntmps36
  go_wp2_with fail
  refine (deeds_at _).mono ?_
  rintro e w1 ⟨r, rfl, hm, hB⟩
  have ka := ((Six.new w b c ph pr si un 38).alloc (.cells #[.int .i64 0, .int .i64 0, .int .i64 0, .int .i64 0, .int .i64 0, .int .i64 0] 38)).below hB
  have kz := (Six.new1 w (.cells #[.int .i64 b, .int .i64 c, .int .i64 ph, .int .i64 pr, .int .i64 si, .int .i64 un] 38) 0 0 0 0 0 0 38).below hB
  have HB := Lib.hid (below2 (below_new2 w _ _) hB)
  have hl := run_lookup_deed (P := Tryz.prog) (w := w1) 91 3 _ _ _ d _ Tryz.underlying91 Tryz.underlying3 (zeroF w1) hm
  rw [hv, hd] at hl
  clear hv hd
  have Ka := Lib.hid ka
  have Kz := Lib.hid kz
  clear hm hB ka kz Ka
  go_wp2_with (refine wpList_store_six rfl 38 _ _ rfl (w.heap.size + 1) _ Am.zero rfl rfl Kz.out (by rfl) ?_; intro w6 hw6; have K6 := Lib.hid (Kz.out.put6 hw6); have HB6 := Lib.hid (below_put6 HB.out (by omega) hw6); clear hw6)
  (try simp only [Exit.inBlock, Exit.then]); refine bodyPost_ret (ret_alarm (a := Am.zero) rfl rfl K6.out) rfl ?_
  exact ⟨rfl, HB6.out⟩

set_option maxRecDepth 10000 in
set_option maxHeartbeats 4000000 in
theorem do_r2 (b c ph pr si un t l : Int) (w : World) (hr : Am.right ⟨b, c, ph, pr, si, un⟩ = false) :
    Calls Tryz.prog 36 #[.agg #[.int .i64 b, .int .i64 c, .int .i64 ph, .int .i64 pr, .int .i64 si, .int .i64 un], .int .i64 2, .int .i64 t, .int .i64 l] w fun e w' => e = .returned (.tuple #[.agg (sixV (Am.zero)), .int .i64 (1)]) ∧ Below w.heap.size w w' := by
  have g1 := fun W => AIs_any b c ph pr si un W
  rw [hr] at g1
  clear hr
  go_enter Tryz.func36, Tryz.ntmps36
  go_wp2_with fail
  refine (deeds_at _).mono ?_
  rintro e w1 ⟨r, rfl, hm, hB⟩
  have ka := ((Six.new w b c ph pr si un 38).alloc (.cells #[.int .i64 0, .int .i64 0, .int .i64 0, .int .i64 0, .int .i64 0, .int .i64 0] 38)).below hB
  have kz := (Six.new1 w (.cells #[.int .i64 b, .int .i64 c, .int .i64 ph, .int .i64 pr, .int .i64 si, .int .i64 un] 38) 0 0 0 0 0 0 38).below hB
  have HB := Lib.hid (below2 (below_new2 w _ _) hB)
  have hl := run_lookup_deed (P := Tryz.prog) (w := w1) 91 3 _ _ _ 2 _ Tryz.underlying91 Tryz.underlying3 (zeroF w1) hm
  rw [show deedV 2 Value.nilFunc = .func (.methodOf 84 "watchman/alarm.escalate") #[] #[] from rfl, show deedOk 2 = true from rfl] at hl
  have Ka := Lib.hid ka
  have Kz := Lib.hid kz
  have c0 := ka.c0
  have c1 := ka.c1
  have c2 := ka.c2
  have c3 := ka.c3
  have c4 := ka.c4
  have c5 := ka.c5
  clear hm hB ka kz
  go_wp2_with fail
  refine (g1 _).mono ?_
  rintro e w2 ⟨rfl, hB⟩
  clear c0 c1 c2 c3 c4 c5 hl g1
  replace Ka := Lib.hid (Ka.out.below hB)
  replace Kz := Lib.hid (Kz.out.below hB)
  replace HB := Lib.hid (below2 HB.out hB)
  clear hB
  go_wp2_with (refine wpList_store_six rfl 38 _ _ rfl (w.heap.size + 1) _ Am.zero rfl rfl Kz.out (by rfl) ?_; intro w6 hw6; have K6 := Lib.hid (Kz.out.put6 hw6); have HB6 := Lib.hid (below_put6 HB.out (by omega) hw6); clear hw6)
  (try simp only [Exit.inBlock, Exit.then]); refine bodyPost_ret (ret_alarm (a := Am.zero) rfl rfl K6.out) rfl ?_
  exact ⟨rfl, HB6.out⟩

set_option maxRecDepth 10000 in
set_option maxHeartbeats 4000000 in
theorem do_t2 (b c ph pr si un t l : Int) (w : World) (hr : Am.right ⟨b, c, ph, pr, si, un⟩ = true) (ht : Am.isT t = false) :
    Calls Tryz.prog 36 #[.agg #[.int .i64 b, .int .i64 c, .int .i64 ph, .int .i64 pr, .int .i64 si, .int .i64 un], .int .i64 2, .int .i64 t, .int .i64 l] w fun e w' => e = .returned (.tuple #[.agg (sixV (Am.zero)), .int .i64 (1)]) ∧ Below w.heap.size w w' := by
  have g1 := fun W => AIs_any b c ph pr si un W
  rw [hr] at g1
  clear hr
  have g2 := fun W => isTime_any t W
  rw [ht] at g2
  clear ht
  go_enter Tryz.func36, Tryz.ntmps36
  go_wp2_with fail
  refine (deeds_at _).mono ?_
  rintro e w1 ⟨r, rfl, hm, hB⟩
  have ka := ((Six.new w b c ph pr si un 38).alloc (.cells #[.int .i64 0, .int .i64 0, .int .i64 0, .int .i64 0, .int .i64 0, .int .i64 0] 38)).below hB
  have kz := (Six.new1 w (.cells #[.int .i64 b, .int .i64 c, .int .i64 ph, .int .i64 pr, .int .i64 si, .int .i64 un] 38) 0 0 0 0 0 0 38).below hB
  have HB := Lib.hid (below2 (below_new2 w _ _) hB)
  have hl := run_lookup_deed (P := Tryz.prog) (w := w1) 91 3 _ _ _ 2 _ Tryz.underlying91 Tryz.underlying3 (zeroF w1) hm
  rw [show deedV 2 Value.nilFunc = .func (.methodOf 84 "watchman/alarm.escalate") #[] #[] from rfl, show deedOk 2 = true from rfl] at hl
  have Ka := Lib.hid ka
  have Kz := Lib.hid kz
  have c0 := ka.c0
  have c1 := ka.c1
  have c2 := ka.c2
  have c3 := ka.c3
  have c4 := ka.c4
  have c5 := ka.c5
  clear hm hB ka kz
  go_wp2_with fail
  refine (g1 _).mono ?_
  rintro e w2 ⟨rfl, hB⟩
  clear c0 c1 c2 c3 c4 c5 hl g1
  replace Ka := Lib.hid (Ka.out.below hB)
  replace Kz := Lib.hid (Kz.out.below hB)
  replace HB := Lib.hid (below2 HB.out hB)
  clear hB
  go_wp2_with fail
  refine (g2 _).mono ?_
  rintro e w3 ⟨rfl, rfl⟩
  clear g2
  go_wp2_with (refine wpList_store_six rfl 38 _ _ rfl (w.heap.size + 1) _ Am.zero rfl rfl Kz.out (by rfl) ?_; intro w6 hw6; have K6 := Lib.hid (Kz.out.put6 hw6); have HB6 := Lib.hid (below_put6 HB.out (by omega) hw6); clear hw6)
  (try simp only [Exit.inBlock, Exit.then]); refine bodyPost_ret (ret_alarm (a := Am.zero) rfl rfl K6.out) rfl ?_
  exact ⟨rfl, HB6.out⟩

set_option maxRecDepth 10000 in
set_option maxHeartbeats 4000000 in
theorem do_p2 (b c ph pr si un t l : Int) (w : World) (hr : Am.right ⟨b, c, ph, pr, si, un⟩ = true) (ht : Am.isT t = true) (s0 : decide (t < si) = true) :
    Calls Tryz.prog 36 #[.agg #[.int .i64 b, .int .i64 c, .int .i64 ph, .int .i64 pr, .int .i64 si, .int .i64 un], .int .i64 2, .int .i64 t, .int .i64 l] w fun e w' => e = .returned (.tuple #[.agg (sixV (Am.zero)), .int .i64 (62)]) ∧ Below w.heap.size w w' := by
  have g1 := fun W => AIs_any b c ph pr si un W
  rw [hr] at g1
  clear hr
  have g2 := fun W => isTime_any t W
  rw [ht] at g2
  clear ht
  go_enter Tryz.func36, Tryz.ntmps36
  go_wp2_with fail
  refine (deeds_at _).mono ?_
  rintro e w1 ⟨r, rfl, hm, hB⟩
  have ka := ((Six.new w b c ph pr si un 38).alloc (.cells #[.int .i64 0, .int .i64 0, .int .i64 0, .int .i64 0, .int .i64 0, .int .i64 0] 38)).below hB
  have kz := (Six.new1 w (.cells #[.int .i64 b, .int .i64 c, .int .i64 ph, .int .i64 pr, .int .i64 si, .int .i64 un] 38) 0 0 0 0 0 0 38).below hB
  have HB := Lib.hid (below2 (below_new2 w _ _) hB)
  have hl := run_lookup_deed (P := Tryz.prog) (w := w1) 91 3 _ _ _ 2 _ Tryz.underlying91 Tryz.underlying3 (zeroF w1) hm
  rw [show deedV 2 Value.nilFunc = .func (.methodOf 84 "watchman/alarm.escalate") #[] #[] from rfl, show deedOk 2 = true from rfl] at hl
  have Ka := Lib.hid ka
  have Kz := Lib.hid kz
  have c0 := ka.c0
  have c1 := ka.c1
  have c2 := ka.c2
  have c3 := ka.c3
  have c4 := ka.c4
  have c5 := ka.c5
  clear hm hB ka kz
  go_wp2_with fail
  refine (g1 _).mono ?_
  rintro e w2 ⟨rfl, hB⟩
  clear c0 c1 c2 c3 c4 c5 hl g1
  replace Ka := Lib.hid (Ka.out.below hB)
  replace Kz := Lib.hid (Kz.out.below hB)
  replace HB := Lib.hid (below2 HB.out hB)
  clear hB
  go_wp2_with fail
  refine (g2 _).mono ?_
  rintro e w3 ⟨rfl, rfl⟩
  clear g2
  have c4 := Ka.out.c4
  go_wp2_with (refine wpList_store_six rfl 38 _ _ rfl (w.heap.size + 1) _ Am.zero rfl rfl Kz.out (by rfl) ?_; intro w6 hw6; have K6 := Lib.hid (Kz.out.put6 hw6); have HB6 := Lib.hid (below_put6 HB.out (by omega) hw6); clear hw6)
  (try simp only [Exit.inBlock, Exit.then]); refine bodyPost_ret (ret_alarm (a := Am.zero) rfl rfl K6.out) rfl ?_
  exact ⟨rfl, HB6.out⟩

set_option maxRecDepth 10000 in
set_option maxHeartbeats 4000000 in
theorem do_k2 (b c ph pr si un t l : Int) (w : World) (hr : Am.right ⟨b, c, ph, pr, si, un⟩ = true) (ht : Am.isT t = true) (s0 : decide (t < si) = false) :
    Calls Tryz.prog 36 #[.agg #[.int .i64 b, .int .i64 c, .int .i64 ph, .int .i64 pr, .int .i64 si, .int .i64 un], .int .i64 2, .int .i64 t, .int .i64 l] w fun e w' => e = .returned (.tuple #[.agg (sixV (Am.inA ⟨b, c, ph, pr, si, un⟩ 2 t t)), .int .i64 (Am.inE ⟨b, c, ph, pr, si, un⟩ 2 t)]) ∧ Below w.heap.size w w' := by
  have g1 := fun W => AIs_any b c ph pr si un W
  rw [hr] at g1
  clear hr
  have g2 := fun W => isTime_any t W
  rw [ht] at g2
  clear ht
  have g3 := fun W => escalate_any b c ph pr si un t l W
  have hmd : ∀ w : World, (method 178 84 (.agg #[.int .i64 b, .int .i64 c, .int .i64 ph, .int .i64 pr, .int .i64 si, .int .i64 un]) "watchman/alarm.escalate").run Tryz.prog w = .ok (49, .agg #[.int .i64 b, .int .i64 c, .int .i64 ph, .int .i64 pr, .int .i64 si, .int .i64 un]) w := fun _ => by kernel_rfl
  obtain ⟨X, hX⟩ : ∃ X, X = Am.inA ⟨b, c, ph, pr, si, un⟩ 2 t t := ⟨_, rfl⟩
  obtain ⟨Y, hY⟩ : ∃ Y, Y = Am.inE ⟨b, c, ph, pr, si, un⟩ 2 t := ⟨_, rfl⟩
  rw [← hX, ← hY] at g3 ⊢
  clear hX hY
  go_enter Tryz.func36, Tryz.ntmps36
  go_wp2_with fail
  refine (deeds_at _).mono ?_
  rintro e w1 ⟨r, rfl, hm, hB⟩
  have ka := ((Six.new w b c ph pr si un 38).alloc (.cells #[.int .i64 0, .int .i64 0, .int .i64 0, .int .i64 0, .int .i64 0, .int .i64 0] 38)).below hB
  have kz := (Six.new1 w (.cells #[.int .i64 b, .int .i64 c, .int .i64 ph, .int .i64 pr, .int .i64 si, .int .i64 un] 38) 0 0 0 0 0 0 38).below hB
  have HB := Lib.hid (below2 (below_new2 w _ _) hB)
  have hl := run_lookup_deed (P := Tryz.prog) (w := w1) 91 3 _ _ _ 2 _ Tryz.underlying91 Tryz.underlying3 (zeroF w1) hm
  rw [show deedV 2 Value.nilFunc = .func (.methodOf 84 "watchman/alarm.escalate") #[] #[] from rfl, show deedOk 2 = true from rfl] at hl
  have Ka := Lib.hid ka
  have Kz := Lib.hid kz
  have c0 := ka.c0
  have c1 := ka.c1
  have c2 := ka.c2
  have c3 := ka.c3
  have c4 := ka.c4
  have c5 := ka.c5
  clear hm hB ka kz
  go_wp2_with fail
  refine (g1 _).mono ?_
  rintro e w2 ⟨rfl, hB⟩
  clear c0 c1 c2 c3 c4 c5 hl g1
  replace Ka := Lib.hid (Ka.out.below hB)
  replace Kz := Lib.hid (Kz.out.below hB)
  replace HB := Lib.hid (below2 HB.out hB)
  clear hB
  go_wp2_with fail
  refine (g2 _).mono ?_
  rintro e w3 ⟨rfl, rfl⟩
  clear g2
  have c4 := Ka.out.c4
  have c0 := Ka.out.c0
  have c1 := Ka.out.c1
  have c2 := Ka.out.c2
  have c3 := Ka.out.c3
  have c5 := Ka.out.c5
  go_wp2_with fail
  refine (g3 _).mono ?_
  rintro e w5 ⟨rfl, hB⟩
  clear c0 c1 c2 c3 c4 c5 g3 Ka s0
  replace Kz := Lib.hid (Kz.out.below hB)
  replace HB := Lib.hid (below2 HB.out hB)
  clear hB
  go_wp2_with (refine wpList_store_six rfl 38 _ _ rfl (w.heap.size + 1) _ X rfl rfl Kz.out (by rfl) ?_; intro w6 hw6; have K6 := Lib.hid (Kz.out.put6 hw6); have HB6 := Lib.hid (below_put6 HB.out (by omega) hw6); clear hw6)
  (try simp only [Exit.inBlock, Exit.then]); refine bodyPost_ret (ret_alarm (a := X) rfl rfl K6.out) rfl ?_
  exact ⟨rfl, HB6.out⟩

set_option maxRecDepth 10000 in
set_option maxHeartbeats 4000000 in
theorem do_r3 (b c ph pr si un t l : Int) (w : World) (hr : Am.right ⟨b, c, ph, pr, si, un⟩ = false) :
    Calls Tryz.prog 36 #[.agg #[.int .i64 b, .int .i64 c, .int .i64 ph, .int .i64 pr, .int .i64 si, .int .i64 un], .int .i64 3, .int .i64 t, .int .i64 l] w fun e w' => e = .returned (.tuple #[.agg (sixV (Am.zero)), .int .i64 (1)]) ∧ Below w.heap.size w w' := by
  have g1 := fun W => AIs_any b c ph pr si un W
  rw [hr] at g1
  clear hr
  go_enter Tryz.func36, Tryz.ntmps36
  go_wp2_with fail
  refine (deeds_at _).mono ?_
  rintro e w1 ⟨r, rfl, hm, hB⟩
  have ka := ((Six.new w b c ph pr si un 38).alloc (.cells #[.int .i64 0, .int .i64 0, .int .i64 0, .int .i64 0, .int .i64 0, .int .i64 0] 38)).below hB
  have kz := (Six.new1 w (.cells #[.int .i64 b, .int .i64 c, .int .i64 ph, .int .i64 pr, .int .i64 si, .int .i64 un] 38) 0 0 0 0 0 0 38).below hB
  have HB := Lib.hid (below2 (below_new2 w _ _) hB)
  have hl := run_lookup_deed (P := Tryz.prog) (w := w1) 91 3 _ _ _ 3 _ Tryz.underlying91 Tryz.underlying3 (zeroF w1) hm
  rw [show deedV 3 Value.nilFunc = .func (.func 76) #[] #[] from rfl, show deedOk 3 = true from rfl] at hl
  have Ka := Lib.hid ka
  have Kz := Lib.hid kz
  have c0 := ka.c0
  have c1 := ka.c1
  have c2 := ka.c2
  have c3 := ka.c3
  have c4 := ka.c4
  have c5 := ka.c5
  clear hm hB ka kz
  go_wp2_with fail
  refine (g1 _).mono ?_
  rintro e w2 ⟨rfl, hB⟩
  clear c0 c1 c2 c3 c4 c5 hl g1
  replace Ka := Lib.hid (Ka.out.below hB)
  replace Kz := Lib.hid (Kz.out.below hB)
  replace HB := Lib.hid (below2 HB.out hB)
  clear hB
  go_wp2_with (refine wpList_store_six rfl 38 _ _ rfl (w.heap.size + 1) _ Am.zero rfl rfl Kz.out (by rfl) ?_; intro w6 hw6; have K6 := Lib.hid (Kz.out.put6 hw6); have HB6 := Lib.hid (below_put6 HB.out (by omega) hw6); clear hw6)
  (try simp only [Exit.inBlock, Exit.then]); refine bodyPost_ret (ret_alarm (a := Am.zero) rfl rfl K6.out) rfl ?_
  exact ⟨rfl, HB6.out⟩

set_option maxRecDepth 10000 in
set_option maxHeartbeats 4000000 in
theorem do_t3 (b c ph pr si un t l : Int) (w : World) (hr : Am.right ⟨b, c, ph, pr, si, un⟩ = true) (ht : Am.isT t = false) :
    Calls Tryz.prog 36 #[.agg #[.int .i64 b, .int .i64 c, .int .i64 ph, .int .i64 pr, .int .i64 si, .int .i64 un], .int .i64 3, .int .i64 t, .int .i64 l] w fun e w' => e = .returned (.tuple #[.agg (sixV (Am.zero)), .int .i64 (1)]) ∧ Below w.heap.size w w' := by
  have g1 := fun W => AIs_any b c ph pr si un W
  rw [hr] at g1
  clear hr
  have g2 := fun W => isTime_any t W
  rw [ht] at g2
  clear ht
  go_enter Tryz.func36, Tryz.ntmps36
  go_wp2_with fail
  refine (deeds_at _).mono ?_
  rintro e w1 ⟨r, rfl, hm, hB⟩
  have ka := ((Six.new w b c ph pr si un 38).alloc (.cells #[.int .i64 0, .int .i64 0, .int .i64 0, .int .i64 0, .int .i64 0, .int .i64 0] 38)).below hB
  have kz := (Six.new1 w (.cells #[.int .i64 b, .int .i64 c, .int .i64 ph, .int .i64 pr, .int .i64 si, .int .i64 un] 38) 0 0 0 0 0 0 38).below hB
  have HB := Lib.hid (below2 (below_new2 w _ _) hB)
  have hl := run_lookup_deed (P := Tryz.prog) (w := w1) 91 3 _ _ _ 3 _ Tryz.underlying91 Tryz.underlying3 (zeroF w1) hm
  rw [show deedV 3 Value.nilFunc = .func (.func 76) #[] #[] from rfl, show deedOk 3 = true from rfl] at hl
  have Ka := Lib.hid ka
  have Kz := Lib.hid kz
  have c0 := ka.c0
  have c1 := ka.c1
  have c2 := ka.c2
  have c3 := ka.c3
  have c4 := ka.c4
  have c5 := ka.c5
  clear hm hB ka kz
  go_wp2_with fail
  refine (g1 _).mono ?_
  rintro e w2 ⟨rfl, hB⟩
  clear c0 c1 c2 c3 c4 c5 hl g1
  replace Ka := Lib.hid (Ka.out.below hB)
  replace Kz := Lib.hid (Kz.out.below hB)
  replace HB := Lib.hid (below2 HB.out hB)
  clear hB
  go_wp2_with fail
  refine (g2 _).mono ?_
  rintro e w3 ⟨rfl, rfl⟩
  clear g2
  go_wp2_with (refine wpList_store_six rfl 38 _ _ rfl (w.heap.size + 1) _ Am.zero rfl rfl Kz.out (by rfl) ?_; intro w6 hw6; have K6 := Lib.hid (Kz.out.put6 hw6); have HB6 := Lib.hid (below_put6 HB.out (by omega) hw6); clear hw6)
  (try simp only [Exit.inBlock, Exit.then]); refine bodyPost_ret (ret_alarm (a := Am.zero) rfl rfl K6.out) rfl ?_
  exact ⟨rfl, HB6.out⟩

set_option maxRecDepth 10000 in
set_option maxHeartbeats 4000000 in
theorem do_p3 (b c ph pr si un t l : Int) (w : World) (hr : Am.right ⟨b, c, ph, pr, si, un⟩ = true) (ht : Am.isT t = true) (s0 : decide (t < si) = true) :
    Calls Tryz.prog 36 #[.agg #[.int .i64 b, .int .i64 c, .int .i64 ph, .int .i64 pr, .int .i64 si, .int .i64 un], .int .i64 3, .int .i64 t, .int .i64 l] w fun e w' => e = .returned (.tuple #[.agg (sixV (Am.zero)), .int .i64 (62)]) ∧ Below w.heap.size w w' := by
  have g1 := fun W => AIs_any b c ph pr si un W
  rw [hr] at g1
  clear hr
  have g2 := fun W => isTime_any t W
  rw [ht] at g2
  clear ht
  go_enter Tryz.func36, Tryz.ntmps36
  go_wp2_with fail
  refine (deeds_at _).mono ?_
  rintro e w1 ⟨r, rfl, hm, hB⟩
  have ka := ((Six.new w b c ph pr si un 38).alloc (.cells #[.int .i64 0, .int .i64 0, .int .i64 0, .int .i64 0, .int .i64 0, .int .i64 0] 38)).below hB
  have kz := (Six.new1 w (.cells #[.int .i64 b, .int .i64 c, .int .i64 ph, .int .i64 pr, .int .i64 si, .int .i64 un] 38) 0 0 0 0 0 0 38).below hB
  have HB := Lib.hid (below2 (below_new2 w _ _) hB)
  have hl := run_lookup_deed (P := Tryz.prog) (w := w1) 91 3 _ _ _ 3 _ Tryz.underlying91 Tryz.underlying3 (zeroF w1) hm
  rw [show deedV 3 Value.nilFunc = .func (.func 76) #[] #[] from rfl, show deedOk 3 = true from rfl] at hl
  have Ka := Lib.hid ka
  have Kz := Lib.hid kz
  have c0 := ka.c0
  have c1 := ka.c1
  have c2 := ka.c2
  have c3 := ka.c3
  have c4 := ka.c4
  have c5 := ka.c5
  clear hm hB ka kz
  go_wp2_with fail
  refine (g1 _).mono ?_
  rintro e w2 ⟨rfl, hB⟩
  clear c0 c1 c2 c3 c4 c5 hl g1
  replace Ka := Lib.hid (Ka.out.below hB)
  replace Kz := Lib.hid (Kz.out.below hB)
  replace HB := Lib.hid (below2 HB.out hB)
  clear hB
  go_wp2_with fail
  refine (g2 _).mono ?_
  rintro e w3 ⟨rfl, rfl⟩
  clear g2
  have c4 := Ka.out.c4
  go_wp2_with (refine wpList_store_six rfl 38 _ _ rfl (w.heap.size + 1) _ Am.zero rfl rfl Kz.out (by rfl) ?_; intro w6 hw6; have K6 := Lib.hid (Kz.out.put6 hw6); have HB6 := Lib.hid (below_put6 HB.out (by omega) hw6); clear hw6)
  (try simp only [Exit.inBlock, Exit.then]); refine bodyPost_ret (ret_alarm (a := Am.zero) rfl rfl K6.out) rfl ?_
  exact ⟨rfl, HB6.out⟩

set_option maxRecDepth 10000 in
set_option maxHeartbeats 4000000 in
theorem do_k3 (b c ph pr si un t l : Int) (w : World) (hr : Am.right ⟨b, c, ph, pr, si, un⟩ = true) (ht : Am.isT t = true) (s0 : decide (t < si) = false) :
    Calls Tryz.prog 36 #[.agg #[.int .i64 b, .int .i64 c, .int .i64 ph, .int .i64 pr, .int .i64 si, .int .i64 un], .int .i64 3, .int .i64 t, .int .i64 l] w fun e w' => e = .returned (.tuple #[.agg (sixV (Am.tnA ⟨b, c, ph, pr, si, un⟩ 3 t)), .int .i64 (Am.tnE ⟨b, c, ph, pr, si, un⟩ 3)]) ∧ Below w.heap.size w w' := by
  have g1 := fun W => AIs_any b c ph pr si un W
  rw [hr] at g1
  clear hr
  have g2 := fun W => isTime_any t W
  rw [ht] at g2
  clear ht
  have g3 := fun W => ack_any b c ph pr si un t l W
  obtain ⟨X, hX⟩ : ∃ X, X = Am.tnA ⟨b, c, ph, pr, si, un⟩ 3 t := ⟨_, rfl⟩
  obtain ⟨Y, hY⟩ : ∃ Y, Y = Am.tnE ⟨b, c, ph, pr, si, un⟩ 3 := ⟨_, rfl⟩
  rw [← hX, ← hY] at g3 ⊢
  clear hX hY
  go_enter Tryz.func36, Tryz.ntmps36
  go_wp2_with fail
  refine (deeds_at _).mono ?_
  rintro e w1 ⟨r, rfl, hm, hB⟩
  have ka := ((Six.new w b c ph pr si un 38).alloc (.cells #[.int .i64 0, .int .i64 0, .int .i64 0, .int .i64 0, .int .i64 0, .int .i64 0] 38)).below hB
  have kz := (Six.new1 w (.cells #[.int .i64 b, .int .i64 c, .int .i64 ph, .int .i64 pr, .int .i64 si, .int .i64 un] 38) 0 0 0 0 0 0 38).below hB
  have HB := Lib.hid (below2 (below_new2 w _ _) hB)
  have hl := run_lookup_deed (P := Tryz.prog) (w := w1) 91 3 _ _ _ 3 _ Tryz.underlying91 Tryz.underlying3 (zeroF w1) hm
  rw [show deedV 3 Value.nilFunc = .func (.func 76) #[] #[] from rfl, show deedOk 3 = true from rfl] at hl
  have Ka := Lib.hid ka
  have Kz := Lib.hid kz
  have c0 := ka.c0
  have c1 := ka.c1
  have c2 := ka.c2
  have c3 := ka.c3
  have c4 := ka.c4
  have c5 := ka.c5
  clear hm hB ka kz
  go_wp2_with fail
  refine (g1 _).mono ?_
  rintro e w2 ⟨rfl, hB⟩
  clear c0 c1 c2 c3 c4 c5 hl g1
  replace Ka := Lib.hid (Ka.out.below hB)
  replace Kz := Lib.hid (Kz.out.below hB)
  replace HB := Lib.hid (below2 HB.out hB)
  clear hB
  go_wp2_with fail
  refine (g2 _).mono ?_
  rintro e w3 ⟨rfl, rfl⟩
  clear g2
  have c4 := Ka.out.c4
  have c0 := Ka.out.c0
  have c1 := Ka.out.c1
  have c2 := Ka.out.c2
  have c3 := Ka.out.c3
  have c5 := Ka.out.c5
  go_wp2_with fail
  refine (g3 _).mono ?_
  rintro e w5 ⟨rfl, hB⟩
  clear c0 c1 c2 c3 c4 c5 g3 Ka s0
  replace Kz := Lib.hid (Kz.out.below hB)
  replace HB := Lib.hid (below2 HB.out hB)
  clear hB
  go_wp2_with (refine wpList_store_six rfl 38 _ _ rfl (w.heap.size + 1) _ X rfl rfl Kz.out (by rfl) ?_; intro w6 hw6; have K6 := Lib.hid (Kz.out.put6 hw6); have HB6 := Lib.hid (below_put6 HB.out (by omega) hw6); clear hw6)
  (try simp only [Exit.inBlock, Exit.then]); refine bodyPost_ret (ret_alarm (a := X) rfl rfl K6.out) rfl ?_
  exact ⟨rfl, HB6.out⟩

set_option maxRecDepth 10000 in
set_option maxHeartbeats 4000000 in
theorem do_r4 (b c ph pr si un t l : Int) (w : World) (hr : Am.right ⟨b, c, ph, pr, si, un⟩ = false) :
    Calls Tryz.prog 36 #[.agg #[.int .i64 b, .int .i64 c, .int .i64 ph, .int .i64 pr, .int .i64 si, .int .i64 un], .int .i64 4, .int .i64 t, .int .i64 l] w fun e w' => e = .returned (.tuple #[.agg (sixV (Am.zero)), .int .i64 (1)]) ∧ Below w.heap.size w w' := by
  have g1 := fun W => AIs_any b c ph pr si un W
  rw [hr] at g1
  clear hr
  go_enter Tryz.func36, Tryz.ntmps36
  go_wp2_with fail
  refine (deeds_at _).mono ?_
  rintro e w1 ⟨r, rfl, hm, hB⟩
  have ka := ((Six.new w b c ph pr si un 38).alloc (.cells #[.int .i64 0, .int .i64 0, .int .i64 0, .int .i64 0, .int .i64 0, .int .i64 0] 38)).below hB
  have kz := (Six.new1 w (.cells #[.int .i64 b, .int .i64 c, .int .i64 ph, .int .i64 pr, .int .i64 si, .int .i64 un] 38) 0 0 0 0 0 0 38).below hB
  have HB := Lib.hid (below2 (below_new2 w _ _) hB)
  have hl := run_lookup_deed (P := Tryz.prog) (w := w1) 91 3 _ _ _ 4 _ Tryz.underlying91 Tryz.underlying3 (zeroF w1) hm
  rw [show deedV 4 Value.nilFunc = .func (.func 77) #[] #[] from rfl, show deedOk 4 = true from rfl] at hl
  have Ka := Lib.hid ka
  have Kz := Lib.hid kz
  have c0 := ka.c0
  have c1 := ka.c1
  have c2 := ka.c2
  have c3 := ka.c3
  have c4 := ka.c4
  have c5 := ka.c5
  clear hm hB ka kz
  go_wp2_with fail
  refine (g1 _).mono ?_
  rintro e w2 ⟨rfl, hB⟩
  clear c0 c1 c2 c3 c4 c5 hl g1
  replace Ka := Lib.hid (Ka.out.below hB)
  replace Kz := Lib.hid (Kz.out.below hB)
  replace HB := Lib.hid (below2 HB.out hB)
  clear hB
  go_wp2_with (refine wpList_store_six rfl 38 _ _ rfl (w.heap.size + 1) _ Am.zero rfl rfl Kz.out (by rfl) ?_; intro w6 hw6; have K6 := Lib.hid (Kz.out.put6 hw6); have HB6 := Lib.hid (below_put6 HB.out (by omega) hw6); clear hw6)
  (try simp only [Exit.inBlock, Exit.then]); refine bodyPost_ret (ret_alarm (a := Am.zero) rfl rfl K6.out) rfl ?_
  exact ⟨rfl, HB6.out⟩

set_option maxRecDepth 10000 in
set_option maxHeartbeats 4000000 in
theorem do_t4 (b c ph pr si un t l : Int) (w : World) (hr : Am.right ⟨b, c, ph, pr, si, un⟩ = true) (ht : Am.isT t = false) :
    Calls Tryz.prog 36 #[.agg #[.int .i64 b, .int .i64 c, .int .i64 ph, .int .i64 pr, .int .i64 si, .int .i64 un], .int .i64 4, .int .i64 t, .int .i64 l] w fun e w' => e = .returned (.tuple #[.agg (sixV (Am.zero)), .int .i64 (1)]) ∧ Below w.heap.size w w' := by
  have g1 := fun W => AIs_any b c ph pr si un W
  rw [hr] at g1
  clear hr
  have g2 := fun W => isTime_any t W
  rw [ht] at g2
  clear ht
  go_enter Tryz.func36, Tryz.ntmps36
  go_wp2_with fail
  refine (deeds_at _).mono ?_
  rintro e w1 ⟨r, rfl, hm, hB⟩
  have ka := ((Six.new w b c ph pr si un 38).alloc (.cells #[.int .i64 0, .int .i64 0, .int .i64 0, .int .i64 0, .int .i64 0, .int .i64 0] 38)).below hB
  have kz := (Six.new1 w (.cells #[.int .i64 b, .int .i64 c, .int .i64 ph, .int .i64 pr, .int .i64 si, .int .i64 un] 38) 0 0 0 0 0 0 38).below hB
  have HB := Lib.hid (below2 (below_new2 w _ _) hB)
  have hl := run_lookup_deed (P := Tryz.prog) (w := w1) 91 3 _ _ _ 4 _ Tryz.underlying91 Tryz.underlying3 (zeroF w1) hm
  rw [show deedV 4 Value.nilFunc = .func (.func 77) #[] #[] from rfl, show deedOk 4 = true from rfl] at hl
  have Ka := Lib.hid ka
  have Kz := Lib.hid kz
  have c0 := ka.c0
  have c1 := ka.c1
  have c2 := ka.c2
  have c3 := ka.c3
  have c4 := ka.c4
  have c5 := ka.c5
  clear hm hB ka kz
  go_wp2_with fail
  refine (g1 _).mono ?_
  rintro e w2 ⟨rfl, hB⟩
  clear c0 c1 c2 c3 c4 c5 hl g1
  replace Ka := Lib.hid (Ka.out.below hB)
  replace Kz := Lib.hid (Kz.out.below hB)
  replace HB := Lib.hid (below2 HB.out hB)
  clear hB
  go_wp2_with fail
  refine (g2 _).mono ?_
  rintro e w3 ⟨rfl, rfl⟩
  clear g2
  go_wp2_with (refine wpList_store_six rfl 38 _ _ rfl (w.heap.size + 1) _ Am.zero rfl rfl Kz.out (by rfl) ?_; intro w6 hw6; have K6 := Lib.hid (Kz.out.put6 hw6); have HB6 := Lib.hid (below_put6 HB.out (by omega) hw6); clear hw6)
  (try simp only [Exit.inBlock, Exit.then]); refine bodyPost_ret (ret_alarm (a := Am.zero) rfl rfl K6.out) rfl ?_
  exact ⟨rfl, HB6.out⟩

set_option maxRecDepth 10000 in
set_option maxHeartbeats 4000000 in
theorem do_l4 (b c ph pr si un t l : Int) (w : World) (hr : Am.right ⟨b, c, ph, pr, si, un⟩ = true) (ht : Am.isT t = true) (hl4 : Am.isL l = false) :
    Calls Tryz.prog 36 #[.agg #[.int .i64 b, .int .i64 c, .int .i64 ph, .int .i64 pr, .int .i64 si, .int .i64 un], .int .i64 4, .int .i64 t, .int .i64 l] w fun e w' => e = .returned (.tuple #[.agg (sixV (Am.zero)), .int .i64 (1)]) ∧ Below w.heap.size w w' := by
  have g1 := fun W => AIs_any b c ph pr si un W
  rw [hr] at g1
  clear hr
  have g2 := fun W => isTime_any t W
  rw [ht] at g2
  clear ht
  have g4 := fun W => isLong_any l W
  rw [hl4] at g4
  clear hl4
  go_enter Tryz.func36, Tryz.ntmps36
  go_wp2_with fail
  refine (deeds_at _).mono ?_
  rintro e w1 ⟨r, rfl, hm, hB⟩
  have ka := ((Six.new w b c ph pr si un 38).alloc (.cells #[.int .i64 0, .int .i64 0, .int .i64 0, .int .i64 0, .int .i64 0, .int .i64 0] 38)).below hB
  have kz := (Six.new1 w (.cells #[.int .i64 b, .int .i64 c, .int .i64 ph, .int .i64 pr, .int .i64 si, .int .i64 un] 38) 0 0 0 0 0 0 38).below hB
  have HB := Lib.hid (below2 (below_new2 w _ _) hB)
  have hl := run_lookup_deed (P := Tryz.prog) (w := w1) 91 3 _ _ _ 4 _ Tryz.underlying91 Tryz.underlying3 (zeroF w1) hm
  rw [show deedV 4 Value.nilFunc = .func (.func 77) #[] #[] from rfl, show deedOk 4 = true from rfl] at hl
  have Ka := Lib.hid ka
  have Kz := Lib.hid kz
  have c0 := ka.c0
  have c1 := ka.c1
  have c2 := ka.c2
  have c3 := ka.c3
  have c4 := ka.c4
  have c5 := ka.c5
  clear hm hB ka kz
  go_wp2_with fail
  refine (g1 _).mono ?_
  rintro e w2 ⟨rfl, hB⟩
  clear c0 c1 c2 c3 c4 c5 hl g1
  replace Ka := Lib.hid (Ka.out.below hB)
  replace Kz := Lib.hid (Kz.out.below hB)
  replace HB := Lib.hid (below2 HB.out hB)
  clear hB
  go_wp2_with fail
  refine (g2 _).mono ?_
  rintro e w3 ⟨rfl, rfl⟩
  clear g2
  go_wp2_with fail
  refine (g4 _).mono ?_
  rintro e w4 ⟨rfl, rfl⟩
  clear g4
  go_wp2_with (refine wpList_store_six rfl 38 _ _ rfl (w.heap.size + 1) _ Am.zero rfl rfl Kz.out (by rfl) ?_; intro w6 hw6; have K6 := Lib.hid (Kz.out.put6 hw6); have HB6 := Lib.hid (below_put6 HB.out (by omega) hw6); clear hw6)
  (try simp only [Exit.inBlock, Exit.then]); refine bodyPost_ret (ret_alarm (a := Am.zero) rfl rfl K6.out) rfl ?_
  exact ⟨rfl, HB6.out⟩

set_option maxRecDepth 10000 in
set_option maxHeartbeats 4000000 in
theorem do_p4 (b c ph pr si un t l : Int) (w : World) (hr : Am.right ⟨b, c, ph, pr, si, un⟩ = true) (ht : Am.isT t = true) (hl4 : Am.isL l = true) (s0 : decide (t < si) = true) :
    Calls Tryz.prog 36 #[.agg #[.int .i64 b, .int .i64 c, .int .i64 ph, .int .i64 pr, .int .i64 si, .int .i64 un], .int .i64 4, .int .i64 t, .int .i64 l] w fun e w' => e = .returned (.tuple #[.agg (sixV (Am.zero)), .int .i64 (62)]) ∧ Below w.heap.size w w' := by
  have g1 := fun W => AIs_any b c ph pr si un W
  rw [hr] at g1
  clear hr
  have g2 := fun W => isTime_any t W
  rw [ht] at g2
  clear ht
  have g4 := fun W => isLong_any l W
  rw [hl4] at g4
  clear hl4
  go_enter Tryz.func36, Tryz.ntmps36
  go_wp2_with fail
  refine (deeds_at _).mono ?_
  rintro e w1 ⟨r, rfl, hm, hB⟩
  have ka := ((Six.new w b c ph pr si un 38).alloc (.cells #[.int .i64 0, .int .i64 0, .int .i64 0, .int .i64 0, .int .i64 0, .int .i64 0] 38)).below hB
  have kz := (Six.new1 w (.cells #[.int .i64 b, .int .i64 c, .int .i64 ph, .int .i64 pr, .int .i64 si, .int .i64 un] 38) 0 0 0 0 0 0 38).below hB
  have HB := Lib.hid (below2 (below_new2 w _ _) hB)
  have hl := run_lookup_deed (P := Tryz.prog) (w := w1) 91 3 _ _ _ 4 _ Tryz.underlying91 Tryz.underlying3 (zeroF w1) hm
  rw [show deedV 4 Value.nilFunc = .func (.func 77) #[] #[] from rfl, show deedOk 4 = true from rfl] at hl
  have Ka := Lib.hid ka
  have Kz := Lib.hid kz
  have c0 := ka.c0
  have c1 := ka.c1
  have c2 := ka.c2
  have c3 := ka.c3
  have c4 := ka.c4
  have c5 := ka.c5
  clear hm hB ka kz
  go_wp2_with fail
  refine (g1 _).mono ?_
  rintro e w2 ⟨rfl, hB⟩
  clear c0 c1 c2 c3 c4 c5 hl g1
  replace Ka := Lib.hid (Ka.out.below hB)
  replace Kz := Lib.hid (Kz.out.below hB)
  replace HB := Lib.hid (below2 HB.out hB)
  clear hB
  go_wp2_with fail
  refine (g2 _).mono ?_
  rintro e w3 ⟨rfl, rfl⟩
  clear g2
  go_wp2_with fail
  refine (g4 _).mono ?_
  rintro e w4 ⟨rfl, rfl⟩
  clear g4
  have c4 := Ka.out.c4
  go_wp2_with (refine wpList_store_six rfl 38 _ _ rfl (w.heap.size + 1) _ Am.zero rfl rfl Kz.out (by rfl) ?_; intro w6 hw6; have K6 := Lib.hid (Kz.out.put6 hw6); have HB6 := Lib.hid (below_put6 HB.out (by omega) hw6); clear hw6)
  (try simp only [Exit.inBlock, Exit.then]); refine bodyPost_ret (ret_alarm (a := Am.zero) rfl rfl K6.out) rfl ?_
  exact ⟨rfl, HB6.out⟩

set_option maxRecDepth 10000 in
set_option maxHeartbeats 4000000 in
theorem do_k4 (b c ph pr si un t l : Int) (w : World) (hr : Am.right ⟨b, c, ph, pr, si, un⟩ = true) (ht : Am.isT t = true) (hl4 : Am.isL l = true) (s0 : decide (t < si) = false) (iw : wrap64 (t + l) = t + l) :
    Calls Tryz.prog 36 #[.agg #[.int .i64 b, .int .i64 c, .int .i64 ph, .int .i64 pr, .int .i64 si, .int .i64 un], .int .i64 4, .int .i64 t, .int .i64 l] w fun e w' => e = .returned (.tuple #[.agg (sixV (Am.tnA ⟨b, c, ph, pr, si, un⟩ 4 (t + l))), .int .i64 (Am.tnE ⟨b, c, ph, pr, si, un⟩ 4)]) ∧ Below w.heap.size w w' := by
  have g1 := fun W => AIs_any b c ph pr si un W
  rw [hr] at g1
  clear hr
  have g2 := fun W => isTime_any t W
  rw [ht] at g2
  clear ht
  have g4 := fun W => isLong_any l W
  rw [hl4] at g4
  clear hl4
  have g3 := fun W => silence_any b c ph pr si un t l W iw
  obtain ⟨X, hX⟩ : ∃ X, X = Am.tnA ⟨b, c, ph, pr, si, un⟩ 4 (t + l) := ⟨_, rfl⟩
  obtain ⟨Y, hY⟩ : ∃ Y, Y = Am.tnE ⟨b, c, ph, pr, si, un⟩ 4 := ⟨_, rfl⟩
  rw [← hX, ← hY] at g3 ⊢
  clear hX hY
  clear iw
  go_enter Tryz.func36, Tryz.ntmps36
  go_wp2_with fail
  refine (deeds_at _).mono ?_
  rintro e w1 ⟨r, rfl, hm, hB⟩
  have ka := ((Six.new w b c ph pr si un 38).alloc (.cells #[.int .i64 0, .int .i64 0, .int .i64 0, .int .i64 0, .int .i64 0, .int .i64 0] 38)).below hB
  have kz := (Six.new1 w (.cells #[.int .i64 b, .int .i64 c, .int .i64 ph, .int .i64 pr, .int .i64 si, .int .i64 un] 38) 0 0 0 0 0 0 38).below hB
  have HB := Lib.hid (below2 (below_new2 w _ _) hB)
  have hl := run_lookup_deed (P := Tryz.prog) (w := w1) 91 3 _ _ _ 4 _ Tryz.underlying91 Tryz.underlying3 (zeroF w1) hm
  rw [show deedV 4 Value.nilFunc = .func (.func 77) #[] #[] from rfl, show deedOk 4 = true from rfl] at hl
  have Ka := Lib.hid ka
  have Kz := Lib.hid kz
  have c0 := ka.c0
  have c1 := ka.c1
  have c2 := ka.c2
  have c3 := ka.c3
  have c4 := ka.c4
  have c5 := ka.c5
  clear hm hB ka kz
  go_wp2_with fail
  refine (g1 _).mono ?_
  rintro e w2 ⟨rfl, hB⟩
  clear c0 c1 c2 c3 c4 c5 hl g1
  replace Ka := Lib.hid (Ka.out.below hB)
  replace Kz := Lib.hid (Kz.out.below hB)
  replace HB := Lib.hid (below2 HB.out hB)
  clear hB
  go_wp2_with fail
  refine (g2 _).mono ?_
  rintro e w3 ⟨rfl, rfl⟩
  clear g2
  go_wp2_with fail
  refine (g4 _).mono ?_
  rintro e w4 ⟨rfl, rfl⟩
  clear g4
  have c4 := Ka.out.c4
  have c0 := Ka.out.c0
  have c1 := Ka.out.c1
  have c2 := Ka.out.c2
  have c3 := Ka.out.c3
  have c5 := Ka.out.c5
  go_wp2_with fail
  refine (g3 _).mono ?_
  rintro e w5 ⟨rfl, hB⟩
  clear c0 c1 c2 c3 c4 c5 g3 Ka s0
  replace Kz := Lib.hid (Kz.out.below hB)
  replace HB := Lib.hid (below2 HB.out hB)
  clear hB
  go_wp2_with (refine wpList_store_six rfl 38 _ _ rfl (w.heap.size + 1) _ X rfl rfl Kz.out (by rfl) ?_; intro w6 hw6; have K6 := Lib.hid (Kz.out.put6 hw6); have HB6 := Lib.hid (below_put6 HB.out (by omega) hw6); clear hw6)
  (try simp only [Exit.inBlock, Exit.then]); refine bodyPost_ret (ret_alarm (a := X) rfl rfl K6.out) rfl ?_
  exact ⟨rfl, HB6.out⟩

set_option maxRecDepth 10000 in
set_option maxHeartbeats 4000000 in
theorem do_r6 (b c ph pr si un t l : Int) (w : World) (hr : Am.right ⟨b, c, ph, pr, si, un⟩ = false) :
    Calls Tryz.prog 36 #[.agg #[.int .i64 b, .int .i64 c, .int .i64 ph, .int .i64 pr, .int .i64 si, .int .i64 un], .int .i64 6, .int .i64 t, .int .i64 l] w fun e w' => e = .returned (.tuple #[.agg (sixV (Am.zero)), .int .i64 (1)]) ∧ Below w.heap.size w w' := by
  have g1 := fun W => AIs_any b c ph pr si un W
  rw [hr] at g1
  clear hr
  go_enter Tryz.func36, Tryz.ntmps36
  go_wp2_with fail
  refine (deeds_at _).mono ?_
  rintro e w1 ⟨r, rfl, hm, hB⟩
  have ka := ((Six.new w b c ph pr si un 38).alloc (.cells #[.int .i64 0, .int .i64 0, .int .i64 0, .int .i64 0, .int .i64 0, .int .i64 0] 38)).below hB
  have kz := (Six.new1 w (.cells #[.int .i64 b, .int .i64 c, .int .i64 ph, .int .i64 pr, .int .i64 si, .int .i64 un] 38) 0 0 0 0 0 0 38).below hB
  have HB := Lib.hid (below2 (below_new2 w _ _) hB)
  have hl := run_lookup_deed (P := Tryz.prog) (w := w1) 91 3 _ _ _ 6 _ Tryz.underlying91 Tryz.underlying3 (zeroF w1) hm
  rw [show deedV 6 Value.nilFunc = .func (.methodOf 84 "watchman/alarm.wake") #[] #[] from rfl, show deedOk 6 = true from rfl] at hl
  have Ka := Lib.hid ka
  have Kz := Lib.hid kz
  have c0 := ka.c0
  have c1 := ka.c1
  have c2 := ka.c2
  have c3 := ka.c3
  have c4 := ka.c4
  have c5 := ka.c5
  clear hm hB ka kz
  go_wp2_with fail
  refine (g1 _).mono ?_
  rintro e w2 ⟨rfl, hB⟩
  clear c0 c1 c2 c3 c4 c5 hl g1
  replace Ka := Lib.hid (Ka.out.below hB)
  replace Kz := Lib.hid (Kz.out.below hB)
  replace HB := Lib.hid (below2 HB.out hB)
  clear hB
  go_wp2_with (refine wpList_store_six rfl 38 _ _ rfl (w.heap.size + 1) _ Am.zero rfl rfl Kz.out (by rfl) ?_; intro w6 hw6; have K6 := Lib.hid (Kz.out.put6 hw6); have HB6 := Lib.hid (below_put6 HB.out (by omega) hw6); clear hw6)
  (try simp only [Exit.inBlock, Exit.then]); refine bodyPost_ret (ret_alarm (a := Am.zero) rfl rfl K6.out) rfl ?_
  exact ⟨rfl, HB6.out⟩

set_option maxRecDepth 10000 in
set_option maxHeartbeats 4000000 in
theorem do_t6 (b c ph pr si un t l : Int) (w : World) (hr : Am.right ⟨b, c, ph, pr, si, un⟩ = true) (ht : Am.isT t = false) :
    Calls Tryz.prog 36 #[.agg #[.int .i64 b, .int .i64 c, .int .i64 ph, .int .i64 pr, .int .i64 si, .int .i64 un], .int .i64 6, .int .i64 t, .int .i64 l] w fun e w' => e = .returned (.tuple #[.agg (sixV (Am.zero)), .int .i64 (1)]) ∧ Below w.heap.size w w' := by
  have g1 := fun W => AIs_any b c ph pr si un W
  rw [hr] at g1
  clear hr
  have g2 := fun W => isTime_any t W
  rw [ht] at g2
  clear ht
  go_enter Tryz.func36, Tryz.ntmps36
  go_wp2_with fail
  refine (deeds_at _).mono ?_
  rintro e w1 ⟨r, rfl, hm, hB⟩
  have ka := ((Six.new w b c ph pr si un 38).alloc (.cells #[.int .i64 0, .int .i64 0, .int .i64 0, .int .i64 0, .int .i64 0, .int .i64 0] 38)).below hB
  have kz := (Six.new1 w (.cells #[.int .i64 b, .int .i64 c, .int .i64 ph, .int .i64 pr, .int .i64 si, .int .i64 un] 38) 0 0 0 0 0 0 38).below hB
  have HB := Lib.hid (below2 (below_new2 w _ _) hB)
  have hl := run_lookup_deed (P := Tryz.prog) (w := w1) 91 3 _ _ _ 6 _ Tryz.underlying91 Tryz.underlying3 (zeroF w1) hm
  rw [show deedV 6 Value.nilFunc = .func (.methodOf 84 "watchman/alarm.wake") #[] #[] from rfl, show deedOk 6 = true from rfl] at hl
  have Ka := Lib.hid ka
  have Kz := Lib.hid kz
  have c0 := ka.c0
  have c1 := ka.c1
  have c2 := ka.c2
  have c3 := ka.c3
  have c4 := ka.c4
  have c5 := ka.c5
  clear hm hB ka kz
  go_wp2_with fail
  refine (g1 _).mono ?_
  rintro e w2 ⟨rfl, hB⟩
  clear c0 c1 c2 c3 c4 c5 hl g1
  replace Ka := Lib.hid (Ka.out.below hB)
  replace Kz := Lib.hid (Kz.out.below hB)
  replace HB := Lib.hid (below2 HB.out hB)
  clear hB
  go_wp2_with fail
  refine (g2 _).mono ?_
  rintro e w3 ⟨rfl, rfl⟩
  clear g2
  go_wp2_with (refine wpList_store_six rfl 38 _ _ rfl (w.heap.size + 1) _ Am.zero rfl rfl Kz.out (by rfl) ?_; intro w6 hw6; have K6 := Lib.hid (Kz.out.put6 hw6); have HB6 := Lib.hid (below_put6 HB.out (by omega) hw6); clear hw6)
  (try simp only [Exit.inBlock, Exit.then]); refine bodyPost_ret (ret_alarm (a := Am.zero) rfl rfl K6.out) rfl ?_
  exact ⟨rfl, HB6.out⟩

set_option maxRecDepth 10000 in
set_option maxHeartbeats 4000000 in
theorem do_p6 (b c ph pr si un t l : Int) (w : World) (hr : Am.right ⟨b, c, ph, pr, si, un⟩ = true) (ht : Am.isT t = true) (s0 : decide (t < si) = true) :
    Calls Tryz.prog 36 #[.agg #[.int .i64 b, .int .i64 c, .int .i64 ph, .int .i64 pr, .int .i64 si, .int .i64 un], .int .i64 6, .int .i64 t, .int .i64 l] w fun e w' => e = .returned (.tuple #[.agg (sixV (Am.zero)), .int .i64 (62)]) ∧ Below w.heap.size w w' := by
  have g1 := fun W => AIs_any b c ph pr si un W
  rw [hr] at g1
  clear hr
  have g2 := fun W => isTime_any t W
  rw [ht] at g2
  clear ht
  go_enter Tryz.func36, Tryz.ntmps36
  go_wp2_with fail
  refine (deeds_at _).mono ?_
  rintro e w1 ⟨r, rfl, hm, hB⟩
  have ka := ((Six.new w b c ph pr si un 38).alloc (.cells #[.int .i64 0, .int .i64 0, .int .i64 0, .int .i64 0, .int .i64 0, .int .i64 0] 38)).below hB
  have kz := (Six.new1 w (.cells #[.int .i64 b, .int .i64 c, .int .i64 ph, .int .i64 pr, .int .i64 si, .int .i64 un] 38) 0 0 0 0 0 0 38).below hB
  have HB := Lib.hid (below2 (below_new2 w _ _) hB)
  have hl := run_lookup_deed (P := Tryz.prog) (w := w1) 91 3 _ _ _ 6 _ Tryz.underlying91 Tryz.underlying3 (zeroF w1) hm
  rw [show deedV 6 Value.nilFunc = .func (.methodOf 84 "watchman/alarm.wake") #[] #[] from rfl, show deedOk 6 = true from rfl] at hl
  have Ka := Lib.hid ka
  have Kz := Lib.hid kz
  have c0 := ka.c0
  have c1 := ka.c1
  have c2 := ka.c2
  have c3 := ka.c3
  have c4 := ka.c4
  have c5 := ka.c5
  clear hm hB ka kz
  go_wp2_with fail
  refine (g1 _).mono ?_
  rintro e w2 ⟨rfl, hB⟩
  clear c0 c1 c2 c3 c4 c5 hl g1
  replace Ka := Lib.hid (Ka.out.below hB)
  replace Kz := Lib.hid (Kz.out.below hB)
  replace HB := Lib.hid (below2 HB.out hB)
  clear hB
  go_wp2_with fail
  refine (g2 _).mono ?_
  rintro e w3 ⟨rfl, rfl⟩
  clear g2
  have c4 := Ka.out.c4
  go_wp2_with (refine wpList_store_six rfl 38 _ _ rfl (w.heap.size + 1) _ Am.zero rfl rfl Kz.out (by rfl) ?_; intro w6 hw6; have K6 := Lib.hid (Kz.out.put6 hw6); have HB6 := Lib.hid (below_put6 HB.out (by omega) hw6); clear hw6)
  (try simp only [Exit.inBlock, Exit.then]); refine bodyPost_ret (ret_alarm (a := Am.zero) rfl rfl K6.out) rfl ?_
  exact ⟨rfl, HB6.out⟩

set_option maxRecDepth 10000 in
set_option maxHeartbeats 4000000 in
theorem do_k6 (b c ph pr si un t l : Int) (w : World) (hr : Am.right ⟨b, c, ph, pr, si, un⟩ = true) (ht : Am.isT t = true) (s0 : decide (t < si) = false) (Iw : Hid (IntKind.i64.wrap (t + Am.wait pr) = t + Am.wait pr)) :
    Calls Tryz.prog 36 #[.agg #[.int .i64 b, .int .i64 c, .int .i64 ph, .int .i64 pr, .int .i64 si, .int .i64 un], .int .i64 6, .int .i64 t, .int .i64 l] w fun e w' => e = .returned (.tuple #[.agg (sixV (Am.inA ⟨b, c, ph, pr, si, un⟩ 6 t (t + Am.wait pr))), .int .i64 (Am.inE ⟨b, c, ph, pr, si, un⟩ 6 t)]) ∧ Below w.heap.size w w' := by
  have g1 := fun W => AIs_any b c ph pr si un W
  rw [hr] at g1
  clear hr
  have g2 := fun W => isTime_any t W
  rw [ht] at g2
  clear ht
  have g3 := fun W => wake_any b c ph pr si un t l W Iw
  have hmd : ∀ w : World, (method 178 84 (.agg #[.int .i64 b, .int .i64 c, .int .i64 ph, .int .i64 pr, .int .i64 si, .int .i64 un]) "watchman/alarm.wake").run Tryz.prog w = .ok (50, .agg #[.int .i64 b, .int .i64 c, .int .i64 ph, .int .i64 pr, .int .i64 si, .int .i64 un]) w := fun _ => by kernel_rfl
  obtain ⟨X, hX⟩ : ∃ X, X = Am.inA ⟨b, c, ph, pr, si, un⟩ 6 t (t + Am.wait pr) := ⟨_, rfl⟩
  obtain ⟨Y, hY⟩ : ∃ Y, Y = Am.inE ⟨b, c, ph, pr, si, un⟩ 6 t := ⟨_, rfl⟩
  rw [← hX, ← hY] at g3 ⊢
  clear hX hY
  clear Iw
  go_enter Tryz.func36, Tryz.ntmps36
  go_wp2_with fail
  refine (deeds_at _).mono ?_
  rintro e w1 ⟨r, rfl, hm, hB⟩
  have ka := ((Six.new w b c ph pr si un 38).alloc (.cells #[.int .i64 0, .int .i64 0, .int .i64 0, .int .i64 0, .int .i64 0, .int .i64 0] 38)).below hB
  have kz := (Six.new1 w (.cells #[.int .i64 b, .int .i64 c, .int .i64 ph, .int .i64 pr, .int .i64 si, .int .i64 un] 38) 0 0 0 0 0 0 38).below hB
  have HB := Lib.hid (below2 (below_new2 w _ _) hB)
  have hl := run_lookup_deed (P := Tryz.prog) (w := w1) 91 3 _ _ _ 6 _ Tryz.underlying91 Tryz.underlying3 (zeroF w1) hm
  rw [show deedV 6 Value.nilFunc = .func (.methodOf 84 "watchman/alarm.wake") #[] #[] from rfl, show deedOk 6 = true from rfl] at hl
  have Ka := Lib.hid ka
  have Kz := Lib.hid kz
  have c0 := ka.c0
  have c1 := ka.c1
  have c2 := ka.c2
  have c3 := ka.c3
  have c4 := ka.c4
  have c5 := ka.c5
  clear hm hB ka kz
  go_wp2_with fail
  refine (g1 _).mono ?_
  rintro e w2 ⟨rfl, hB⟩
  clear c0 c1 c2 c3 c4 c5 hl g1
  replace Ka := Lib.hid (Ka.out.below hB)
  replace Kz := Lib.hid (Kz.out.below hB)
  replace HB := Lib.hid (below2 HB.out hB)
  clear hB
  go_wp2_with fail
  refine (g2 _).mono ?_
  rintro e w3 ⟨rfl, rfl⟩
  clear g2
  have c4 := Ka.out.c4
  have c0 := Ka.out.c0
  have c1 := Ka.out.c1
  have c2 := Ka.out.c2
  have c3 := Ka.out.c3
  have c5 := Ka.out.c5
  go_wp2_with fail
  refine (g3 _).mono ?_
  rintro e w5 ⟨rfl, hB⟩
  clear c0 c1 c2 c3 c4 c5 g3 Ka s0
  replace Kz := Lib.hid (Kz.out.below hB)
  replace HB := Lib.hid (below2 HB.out hB)
  clear hB
  go_wp2_with (refine wpList_store_six rfl 38 _ _ rfl (w.heap.size + 1) _ X rfl rfl Kz.out (by rfl) ?_; intro w6 hw6; have K6 := Lib.hid (Kz.out.put6 hw6); have HB6 := Lib.hid (below_put6 HB.out (by omega) hw6); clear hw6)
  (try simp only [Exit.inBlock, Exit.then]); refine bodyPost_ret (ret_alarm (a := X) rfl rfl K6.out) rfl ?_
  exact ⟨rfl, HB6.out⟩

theorem ADo_any (b c ph pr si un deed t long : Int) (w : World) :
    Calls Tryz.prog 36 #[.agg #[.int .i64 b, .int .i64 c, .int .i64 ph, .int .i64 pr, .int .i64 si, .int .i64 un], .int .i64 deed, .int .i64 t, .int .i64 long] w fun e w' => e = .returned (.tuple #[.agg (sixV (Am.doA ⟨b, c, ph, pr, si, un⟩ deed t long)), .int .i64 (Am.doE ⟨b, c, ph, pr, si, un⟩ deed t long)]) ∧ Below w.heap.size w w' := by
  by_cases hd : deed = 2 ∨ deed = 3 ∨ deed = 4 ∨ deed = 6
  · unfold Am.doA Am.doE
    simp only
    cases hr : Am.right ⟨b, c, ph, pr, si, un⟩
    · simp only [Bool.not_false, Bool.true_or, if_true]
      rw [if_neg (by decide)]
      rcases hd with rfl | rfl | rfl | rfl
      · exact do_r2 b c ph pr si un t long w hr
      · exact do_r3 b c ph pr si un t long w hr
      · exact do_r4 b c ph pr si un t long w hr
      · exact do_r6 b c ph pr si un t long w hr
    · cases ht : Am.isT t
      · simp only [Bool.not_true, Bool.not_false, Bool.false_or, Bool.true_or, if_true]
        rw [if_neg (by decide)]
        rcases hd with rfl | rfl | rfl | rfl
        · exact do_t2 b c ph pr si un t long w hr ht
        · exact do_t3 b c ph pr si un t long w hr ht
        · exact do_t4 b c ph pr si un t long w hr ht
        · exact do_t6 b c ph pr si un t long w hr ht
      · cases hc : Am.canDo deed long
        · simp only [Bool.not_true, Bool.not_false, Bool.false_or, if_true]
          rw [if_neg (by decide)]
          have hn : ¬ ((deed = 2 ∨ deed = 3 ∨ deed = 4 ∨ deed = 6) ∧ (deed = 4 → 1 ≤ long ∧ long ≤ 1000)) := fun h => by rw [Am.canDo_iff.2 h] at hc; cases hc
          have h4 : deed = 4 := by omega
          subst h4
          refine do_l4 b c ph pr si un t long w hr ht ?_
          unfold Am.isL
          rw [Bool.and_eq_false_iff, decide_eq_false_iff_not, decide_eq_false_iff_not]
          omega
        · obtain ⟨_, hl⟩ := Am.canDo_iff.1 hc
          have hr' := Am.right_iff.1 hr
          simp only at hr'
          have hT := Am.isT_iff.1 ht
          have hw := Am.wait_bounds pr
          simp only [Bool.not_true, Bool.or_false, Bool.false_eq_true, if_false]
          by_cases hs : t < si
          · rw [if_pos hs, if_neg (by decide)]
            have s0 := decide_eq_true hs
            rcases hd with rfl | rfl | rfl | rfl
            · exact do_p2 b c ph pr si un t long w hr ht s0
            · exact do_p3 b c ph pr si un t long w hr ht s0
            · exact do_p4 b c ph pr si un t long w hr ht (by unfold Am.isL; have := hl rfl; simp only [Bool.and_eq_true, decide_eq_true_eq]; omega) s0
            · exact do_p6 b c ph pr si un t long w hr ht s0
          · rw [if_neg hs]
            have s0 : decide (t < si) = false := decide_eq_false hs
            rcases hd with rfl | rfl | rfl | rfl
            · have h := do_k2 b c ph pr si un t long w hr ht s0
              unfold Am.inA Am.inE at h
              simp only at h
              cases ho : Lf.ok ph 2
              · rw [ho] at h; simpa using h
              · rw [ho] at h
                by_cases hu : t < un
                · simpa [hu] using h
                · simpa [hu, Am.turn, Am.turnU] using h
            · have h := do_k3 b c ph pr si un t long w hr ht s0
              unfold Am.tnA Am.tnE at h
              simp only at h
              cases ho : Lf.ok ph 3
              · rw [ho] at h; simpa using h
              · rw [ho] at h; simpa [Am.turn, Am.turnU] using h
            · have h := do_k4 b c ph pr si un t long w hr ht (by unfold Am.isL; have := hl rfl; simp only [Bool.and_eq_true, decide_eq_true_eq]; omega) s0 (by have := hl rfl; unfold wrap64; omega)
              unfold Am.tnA Am.tnE at h
              simp only at h
              cases ho : Lf.ok ph 4
              · rw [ho] at h; simpa using h
              · rw [ho] at h; simpa [Am.turn, Am.turnU] using h
            · have h := do_k6 b c ph pr si un t long w hr ht s0 (Lib.hid (by rw [IntKind.wrap_i64]; omega))
              unfold Am.inA Am.inE at h
              simp only at h
              cases ho : Lf.ok ph 6
              · rw [ho] at h; simpa using h
              · rw [ho] at h
                by_cases hu : t < un
                · simpa [hu] using h
                · simpa [hu, Am.turn, Am.turnU] using h
  · have hc : Am.canDo deed long = false := by
      cases hc : Am.canDo deed long
      · rfl
      · exact absurd (Am.canDo_iff.1 hc).1 hd
    unfold Am.doA Am.doE
    simp only [hc, Bool.not_false, Bool.or_true, if_true]
    rw [if_neg (by decide)]
    refine do_n b c ph pr si un deed t long w ?_ ?_
    · unfold deedV; rw [if_neg (by omega), if_neg (by omega), if_neg (by omega), if_neg (by omega)]
    · unfold deedOk; simp only [Bool.or_eq_false_iff, beq_eq_false_iff_ne]; omega
end Go.Proofs.YtplpadblhjdpcaaGreat

namespace Go.Proofs.YtplpadblhjdpcaaGreat
set_option maxRecDepth 10000
open Go.RowKit

set_option maxRecDepth 10000 in
set_option maxHeartbeats 2000000 in
theorem AOpen_any (b c prio t : Int) (w : World) :
    Calls Tryz.prog 35 #[.agg #[.int .i64 b, .int .i64 c], .int .i64 prio, .int .i64 t] w fun e w' => e = .returned (.tuple #[.agg (sixV (Am.opn b c prio t)), .int .i64 (Am.openE b c prio t)]) ∧ Below w.heap.size w w' := by
  have h1 := fun W => Is_any b c W
  have h2 := fun W => AWait_any0 prio W
  have hp := fun W => isPrio_any prio W
  have hpe : Am.isP prio = decide (0 < Am.wait prio) := rfl
  rw [hpe] at hp
  clear hpe
  have h3 := fun W => isTime_any t W
  have e0 : Am.openE b c prio t = if !Sp.may b c || decide (Am.wait prio = 0) || !Am.isT t then 1 else 0 := rfl
  have e1 : Am.opn b c prio t = if Am.openE b c prio t = 0 then ⟨b, c, 1, prio, t, t + Am.wait prio⟩ else Am.zero := rfl
  have hT := Am.isT_iff (n := t)
  have hw0 := Am.wait_bounds prio
  rw [e1, e0]
  clear e0 e1
  obtain ⟨m, hm⟩ : ∃ m, m = Sp.may b c := ⟨_, rfl⟩
  obtain ⟨x, hx⟩ : ∃ x, x = Am.wait prio := ⟨_, rfl⟩
  obtain ⟨q, hq⟩ : ∃ q, q = Am.isT t := ⟨_, rfl⟩
  rw [← hm] at h1 ⊢
  rw [← hx] at h2 hp hw0 ⊢
  rw [← hq] at h3 hT ⊢
  clear hm hx hq
  have z6 := fun (W : World) => Six.new1 W (.cells #[.int .i64 b, .int .i64 c] 26) 0 0 0 0 0 0 38
  have hB2 := fun (W : World) => below_new2 W (.cells #[.int .i64 b, .int .i64 c] 26) (.cells #[.int .i64 0, .int .i64 0, .int .i64 0, .int .i64 0, .int .i64 0, .int .i64 0] 38)
  cases m
  · simp only [Bool.not_false, Bool.true_or, if_true]
    rw [if_neg (by decide)]
    clear hT hw0
    go_enter Tryz.func35, Tryz.ntmps35
    go_wp2_with fail
    refine (h1 _).mono ?_
    rintro e w1 ⟨rfl, hB⟩
    have kz := (z6 w).below hB
    have ks0 := ((Two.new w b c 26).alloc (.cells #[.int .i64 0, .int .i64 0, .int .i64 0, .int .i64 0, .int .i64 0, .int .i64 0] 38)).below hB
    have k0 := ks0.c0
    have k1 := ks0.c1
    obtain ⟨tz, hz⟩ := kz.blk
    have Hz := Lib.hid hz
    have HB := Lib.hid (below2 (hB2 w) hB)
    clear kz ks0 hz h1 hB z6 hB2
    go_wp2_with (refine wpList_store_row rfl 38 _ _ rfl (w.heap.size + 1) (sixV Am.zero) rfl rfl tz _ Hz.out (by kernel_rfl) rfl (six_one _) ?_)
    (try simp only [Exit.inBlock, Exit.then]); refine bodyPost_ret (ret_alarm (a := Am.zero) rfl rfl ⟨tz, setRow_heap _ _ _ _ _ _ Hz.out⟩) rfl ?_
    exact ⟨rfl, below_setRow HB.out (by omega) _⟩
  · by_cases hx0 : x = 0
    · subst hx0
      rw [show decide ((0 : Int) < 0) = false from rfl] at hp
      simp only [Bool.not_true, decide_true, Bool.false_or, Bool.true_or, if_true]
      rw [if_neg (by decide)]
      clear hT hw0
      go_enter Tryz.func35, Tryz.ntmps35
      go_wp2_with fail
      refine (h1 _).mono ?_
      rintro e w1 ⟨rfl, hB⟩
      have kz := (z6 w).below hB
      have ks0 := ((Two.new w b c 26).alloc (.cells #[.int .i64 0, .int .i64 0, .int .i64 0, .int .i64 0, .int .i64 0, .int .i64 0] 38)).below hB
      have k0 := ks0.c0
      have k1 := ks0.c1
      obtain ⟨tz, hz⟩ := kz.blk
      have Hz := Lib.hid hz
      have HB := Lib.hid (below2 (hB2 w) hB)
      clear kz ks0 hz h1 hB z6 hB2
      go_wp2_with fail
      refine (hp _).mono ?_
      rintro e w2 ⟨rfl, rfl⟩
      go_wp2_with (refine wpList_store_row rfl 38 _ _ rfl (w.heap.size + 1) (sixV Am.zero) rfl rfl tz _ Hz.out (by kernel_rfl) rfl (six_one _) ?_)
      (try simp only [Exit.inBlock, Exit.then]); refine bodyPost_ret (ret_alarm (a := Am.zero) rfl rfl ⟨tz, setRow_heap _ _ _ _ _ _ Hz.out⟩) rfl ?_
      exact ⟨rfl, below_setRow HB.out (by omega) _⟩
    · have hxb : (x == 0) = false := by rw [beq_eq_false_iff_ne]; exact hx0
      rw [decide_eq_false hx0]
      rw [decide_eq_true (by omega : 0 < x)] at hp
      cases q
      · simp only [Bool.not_true, Bool.not_false, Bool.false_or, if_true]
        rw [if_neg (by decide)]
        clear hT hw0 hx0
        go_enter Tryz.func35, Tryz.ntmps35
        go_wp2_with fail
        refine (h1 _).mono ?_
        rintro e w1 ⟨rfl, hB⟩
        have kz := (z6 w).below hB
        have ks0 := ((Two.new w b c 26).alloc (.cells #[.int .i64 0, .int .i64 0, .int .i64 0, .int .i64 0, .int .i64 0, .int .i64 0] 38)).below hB
        have k0 := ks0.c0
        have k1 := ks0.c1
        obtain ⟨tz, hz⟩ := kz.blk
        have Hz := Lib.hid hz
        have HB := Lib.hid (below2 (hB2 w) hB)
        clear kz ks0 hz h1 hB z6 hB2
        go_wp2_with fail
        refine (hp _).mono ?_
        rintro e w2 ⟨rfl, rfl⟩
        go_wp2_with fail
        refine (h3 _).mono ?_
        rintro e w3 ⟨rfl, rfl⟩
        go_wp2_with (refine wpList_store_row rfl 38 _ _ rfl (w.heap.size + 1) (sixV Am.zero) rfl rfl tz _ Hz.out (by kernel_rfl) rfl (six_one _) ?_)
        (try simp only [Exit.inBlock, Exit.then]); refine bodyPost_ret (ret_alarm (a := Am.zero) rfl rfl ⟨tz, setRow_heap _ _ _ _ _ _ Hz.out⟩) rfl ?_
        exact ⟨rfl, below_setRow HB.out (by omega) _⟩
      · have htb := hT.1 rfl
        have iw : wrap64 (t + x) = t + x := by unfold wrap64; omega
        have Iw2 : Hid (IntKind.i64.wrap (t + x) = t + x) := Lib.hid (by rw [IntKind.wrap_i64]; omega)
        simp only [Bool.not_true, Bool.or_false, Bool.false_eq_true, if_false, if_true]
        clear hT hw0 hx0 htb
        go_enter Tryz.func35, Tryz.ntmps35
        go_wp2_with fail
        refine (h1 _).mono ?_
        rintro e w1 ⟨rfl, hB⟩
        have kz := (z6 w).below hB
        have ks0 := ((Two.new w b c 26).alloc (.cells #[.int .i64 0, .int .i64 0, .int .i64 0, .int .i64 0, .int .i64 0, .int .i64 0] 38)).below hB
        have k0 := ks0.c0
        have k1 := ks0.c1
        obtain ⟨tz, hz⟩ := kz.blk
        have Hz := Lib.hid hz
        have HB := Lib.hid (below2 (hB2 w) hB)
        clear kz ks0 hz h1 hB z6 hB2
        go_wp2_with fail
        refine (hp _).mono ?_
        rintro e w2 ⟨rfl, rfl⟩
        go_wp2_with fail
        refine (h3 _).mono ?_
        rintro e w3 ⟨rfl, rfl⟩
        clear h3
        obtain ⟨w4, hw4⟩ : ∃ W, W = w3.drew := ⟨_, rfl⟩
        have q0 : w4.cell? ⟨w.heap.size, 0, none⟩ = some (.int .i64 b) := by rw [hw4]; exact k0
        have q1 : w4.cell? ⟨w.heap.size, 1, none⟩ = some (.int .i64 c) := by rw [hw4]; exact k1
        have Hz4 : Hid (w4.heap[w.heap.size + 1]? = some (.cells (sixV ⟨0, 0, 0, 0, 0, 0⟩) tz (0, 0))) := Lib.hid (by rw [hw4]; exact Hz.out)
        have HB4 : Hid (Below w.heap.size w w4) := Lib.hid (by rw [hw4]; have h := HB.out; exact ⟨h.os, h.tape, h.output, h.size, h.block⟩)
        go_wp2_with fail
        refine wp_region_still_tail 8 (by kernel_rfl) (by kernel_rfl) ?_
        change wpStill _ _ w3.drew (fun a' => wpList _ _ _ _ a' w3.drew) _ _
        rw [← hw4]
        clear hw4 k0 k1 Hz HB
        simp only [List.take_succ_cons, List.take_zero, List.drop_succ_cons, List.drop_zero]
        still_step
        still_step
        still_step
        still_step
        still_step
        still_call (h2 _)
        still_step
        still_step
        refine wpStill_nil ?_
        rw [Iw2.out]
        go_wp2_with (refine wpList_store_row rfl 38 _ _ rfl (w.heap.size + 1) (sixV ⟨b, c, 1, prio, t, t + x⟩) rfl rfl tz _ Hz4.out (by rfl) rfl (six_one _) ?_)
        (try simp only [Exit.inBlock, Exit.then]); refine bodyPost_ret (ret_alarm (a := ⟨b, c, 1, prio, t, t + x⟩) rfl rfl ⟨tz, setRow_heap _ _ _ _ _ _ Hz4.out⟩) rfl ?_
        exact ⟨rfl, below_setRow HB4.out (by omega) _⟩
end Go.Proofs.YtplpadblhjdpcaaGreat

namespace Go.Proofs.YtplpadblhjdpcaaGreat
set_option maxRecDepth 10000
open Go.RowKit

theorem boardK9 : BoardK9 where
  new := kk_new
  get := kk_get
  put := kk_put
  opn := AOpen_any
  deed := ADo_any
end Go.Proofs.YtplpadblhjdpcaaGreat
