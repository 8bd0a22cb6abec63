/-
  Layer 8 (board): the walk of Get.
-/
import Derived.Test.YthlojadkgpmnmaaBoardC0
import Derived.Deep.RegionHeld3
namespace Go.Proofs.Ythlojadkgpmnmaa
open Go.RowKit

theorem exec_load_st {o : Oper} {a : Act} {w : World} (ty : TypeId) (x : Operand) (ho : o.op = .load ty x) {w0 : World} {L : List (Nat × Array Value)} {M : List Fact} (hS : St w0 w L M) (i k : Nat) (cs : Array Value) (hi : L[i]? = some (k, cs)) (hx : a.eval x = .pointer (some ⟨k, 0, none⟩)) (d : TypeDesc)
    (hu : Try.prog.underlying ty = some d) (hd : (match d with | .struct _ | .array _ _ => true | _ => false) = true) (hz : (Try.prog.info? ty).map (·.size) = some cs.size) :
    (execOp a.eval o).run Try.prog w = .ok (.value (.agg cs)) w := by
  obtain ⟨t, ht⟩ := hS.live (k, cs) (List.mem_of_getElem? hi)
  have hl := run_loadVar_row (P := Try.prog) w k t ty cs (0, 0) d ht hu (by cases d <;> first | rfl | exact hd) hz
  unfold execOp
  simp only [ho, hx, Instr.loadAt, Instr.sureAddr, Sem.run_bind, Sem.run_pure, Result.andThen_ok, hl]

theorem St.pick {w0 w : World} {L : List (Nat × Array Value)} {M : List Fact} (h : St w0 w L M) (L' : List (Nat × Array Value)) (hL : ∀ x ∈ L', x ∈ L) : St w0 w L' [] := ⟨fun x hx => h.live x (hL x hx), (fun _ h => nomatch h), h.below⟩
theorem St.pickSet {w0 w : World} {L : List (Nat × Array Value)} {M : List Fact} (h : St w0 w L M) (cs : Array Value) {k i : Nat} {old : Array Value} (hi : L[i]? = some (k, old)) (hk : w0.heap.size ≤ k) : St w0 (w.setRow k cs) [(k, cs)] [] := by
  obtain ⟨t, ht⟩ := h.live (k, old) (List.mem_of_getElem? hi)
  refine ⟨fun y hy => ?_, (fun _ h => nomatch h), below_setRow h.below hk cs⟩
  obtain rfl : y = (k, cs) := by simpa using hy
  exact ⟨t, setRow_heap _ _ _ _ _ _ ht⟩
theorem St.afterRow {w0 w : World} {L : List (Nat × Array Value)} {M : List Fact} (h : St w0 w L M) (cs : Array Value) (L' : List (Nat × Array Value)) (hL : ∀ x ∈ L', x ∈ L) {k : Nat} (hne : ∀ x ∈ L', x.1 ≠ k) (hk : w0.heap.size ≤ k) : St w0 (w.setRow k cs) L' [] :=
  ⟨fun x hx => by
    obtain ⟨t, ht⟩ := h.live x (hL x hx)
    exact ⟨t, (setRow_other w k x.1 cs (hne x hx)).trans ht⟩, (fun _ h => nomatch h), below_setRow h.below hk cs⟩

set_option maxRecDepth 10000 in
set_option maxHeartbeats 2000000 in
theorem kk_get (m n : Int) (A : Option Addr) (l c : Nat) (ls : List Alm) (b ch : Int) (w : World) (h : Told w A l c ls) :
    Calls Try.prog 16 #[.agg #[.int .i64 m, .int .i64 n, .slice A l c], .agg #[.int .i64 b, .int .i64 ch]] w fun e w' => e = .returned (.tuple #[.agg (sixV (Bd.getA b ch ls).1), .bool (Bd.getA b ch ls).2]) ∧ Below w.heap.size w w' := by
  have HS := Lib.hid (((St.start w).more (rowF A ls) h.2.1).box3 #[.int .i64 m, .int .i64 n, .slice A l c] #[.int .i64 b, .int .i64 ch] #[.int .i64 0, .int .i64 0, .int .i64 0, .int .i64 0, .int .i64 0, .int .i64 0] 24 26 28)
  have g := fun W (hA : AlmsAt W W.heap.size A ls) => Lib.hid (find_any A l c ls b ch W ⟨h.1, hA, h.2.2⟩)
  obtain ⟨⟨X, ok⟩, hr⟩ : ∃ r, r = Bd.getA b ch ls := ⟨_, rfl⟩
  simp only [← hr] at g ⊢
  clear hr h
  go_enter Try.func16, Try.ntmps16
  go_wp2_with fail
  have hS := HS.out
  clear HS
  refine wp_region_held_drew (S := (fun W : World => St w W [(w.heap.size + 1, #[.int .i64 b, .int .i64 ch]), (w.heap.size, #[.int .i64 m, .int .i64 n, .slice A l c])] [])) (by kernel_rfl) (by first | exact hS.pick _ (by simp) | exact hS.drew.pick _ (by simp)) (fun hHeld => ?_)
  refine wpAnyH_take (i := 0) (oi := { dst := some 6, op := Op.load 24 (Operand.tmp 2), type := 24, pos := _, after := #[], guard := none }) (v := ?_) rfl (by kernel_rfl) (by kernel_rfl) (by kernel_rfl) (fun _ _ _ h => h) (Or.inl ⟨by rfl, ?hy⟩) hHeld ?_
  case hy => intro w0 hSw; refine exec_load_st 24 (Operand.tmp 2) ?_ hSw 1 _ _ rfl ?_ _ Try.underlying24 rfl (by rfl) <;> rfl
  (try simp only [Act.put, List.setIfInBounds_toArray, List.set_cons_zero, List.set_cons_succ])
  refine wpAnyH_take (i := 3) (oi := { dst := some 9, op := Op.load 26 (Operand.tmp 3), type := 26, pos := _, after := #[], guard := none }) (v := ?_) rfl (by kernel_rfl) (by kernel_rfl) (by kernel_rfl) (fun _ _ _ h => h) (Or.inl ⟨by rfl, ?hy⟩) hHeld ?_
  case hy => intro w0 hSw; refine exec_load_st 26 (Operand.tmp 3) ?_ hSw 0 _ _ rfl ?_ _ Try.underlying26 rfl (by rfl) <;> rfl
  (try simp only [Act.put, List.setIfInBounds_toArray, List.set_cons_zero, List.set_cons_succ])
  refine wpAnyH_ready (rs := [1]) (by kernel_rfl) (by simp) ?_
  refine AllReadyH.cons (o := { dst := some 7, op := Op.call { callee := Callee.value (Operand.func 31), args := #[Operand.tmp 6], argTypes := #[24] }, type := 56, pos := _, after := #[{ on := 0, ground := Ground.data }], guard := none }) rfl (fun K hK => ?_) AllReadyH.nil
  go_simp
  refine (hold_any m n A l c _).mono ?_
  rintro e w1 ⟨rfl, hB'⟩
  replace hS : St w w1 [(w.heap.size + 1 + 1, #[.int .i64 0, .int .i64 0, .int .i64 0, .int .i64 0, .int .i64 0, .int .i64 0]), (w.heap.size + 1, #[.int .i64 b, .int .i64 ch]), (w.heap.size, #[.int .i64 m, .int .i64 n, .slice A l c])] [rowF A ls] := (by first | exact hS.on hB' | exact hS.drew.on hB')
  clear hB'
  go_wp2_with fail
  refine hK.out _ _ (by first | exact hS.pick _ (by simp) | exact hS.drew.pick _ (by simp)) (fun hHeld => ?_)
  clear hK K
  (try simp only [Act.put, List.setIfInBounds_toArray, List.set_cons_zero, List.set_cons_succ])
  refine wpAnyH_take (i := 2) (oi := { dst := some 8, op := Op.field 56 (Operand.tmp 7) 2, type := 54, pos := _, after := #[{ on := 1, ground := Ground.data }], guard := none }) (v := ?_) rfl (by kernel_rfl) (by kernel_rfl) (by kernel_rfl) (fun _ _ _ h => h) (Or.inl ⟨by rfl, ?hy⟩) hHeld ?_
  case hy => intro w0 hSw; clear hSw; have hfd := run_field_als m n A l c w0; go_simp; (try with_reducible rfl)
  (try simp only [Act.put, List.setIfInBounds_toArray, List.set_cons_zero, List.set_cons_succ])
  refine wpAnyH_ready (rs := [4]) (by kernel_rfl) (by simp) ?_
  refine AllReadyH.cons (o := { dst := some 10, op := Op.call { callee := Callee.value (Operand.func 39), args := #[Operand.tmp 8, Operand.tmp 9], argTypes := #[54, 26] }, type := 37, pos := _, after := #[{ on := 2, ground := Ground.data }, { on := 3, ground := Ground.data }, { on := 1, ground := Ground.chain }], guard := none }) rfl (fun K hK => ?_) AllReadyH.nil
  go_simp
  refine (g _ (by first | exact hS.fact 0 rfl | exact hS.drew.fact 0 rfl)).out.mono ?_
  rintro e w2 ⟨rfl, hB'⟩
  replace hS : St w w2 [(w.heap.size + 1 + 1, #[.int .i64 0, .int .i64 0, .int .i64 0, .int .i64 0, .int .i64 0, .int .i64 0]), (w.heap.size + 1, #[.int .i64 b, .int .i64 ch]), (w.heap.size, #[.int .i64 m, .int .i64 n, .slice A l c])] [rowF A ls] := (by first | exact hS.on hB' | exact hS.drew.on hB')
  clear hB' g
  go_wp2_with fail
  refine hK.out _ _ (by first | exact hS.pick _ (by simp) | exact hS.drew.pick _ (by simp)) (fun hHeld => ?_)
  clear hK K
  (try simp only [Act.put, List.setIfInBounds_toArray, List.set_cons_zero, List.set_cons_succ])
  refine wpAnyH_take (i := 5) (oi := { dst := some 11, op := Op.extract (Operand.tmp 10) 0, type := 28, pos := _, after := #[{ on := 4, ground := Ground.data }], guard := none }) (v := ?_) rfl (by kernel_rfl) (by kernel_rfl) (by kernel_rfl) (fun _ _ _ h => h) (Or.inl ⟨by rfl, ?hy⟩) hHeld ?_
  case hy => intro w0 hSw; clear hSw; go_simp; (try with_reducible rfl)
  (try simp only [Act.put, List.setIfInBounds_toArray, List.set_cons_zero, List.set_cons_succ])
  refine wpAnyH_take (i := 6) (oi := { dst := some 12, op := Op.extract (Operand.tmp 10) 1, type := 4, pos := _, after := #[{ on := 4, ground := Ground.data }], guard := none }) (v := ?_) rfl (by kernel_rfl) (by kernel_rfl) (by kernel_rfl) (fun _ _ _ h => h) (Or.inl ⟨by rfl, ?hy⟩) hHeld ?_
  case hy => intro w0 hSw; clear hSw; go_simp; (try with_reducible rfl)
  (try simp only [Act.put, List.setIfInBounds_toArray, List.set_cons_zero, List.set_cons_succ])
  refine wpAnyH_ready (rs := [7]) (by kernel_rfl) (by simp) ?_
  refine AllReadyH.cons (o := { dst := none, op := Op.store 28 (Operand.tmp 4) (Operand.tmp 11), type := 0, pos := _, after := #[{ on := 5, ground := Ground.data }, { on := 4, ground := Ground.chain }, { on := 0, ground := Ground.phase }, { on := 1, ground := Ground.phase }, { on := 2, ground := Ground.phase }, { on := 3, ground := Ground.phase }, { on := 4, ground := Ground.phase }, { on := 5, ground := Ground.phase }, { on := 6, ground := Ground.phase }], guard := none }) rfl (fun K hK => ?_) AllReadyH.nil
  rw [if_pos (by rfl)]
  obtain ⟨tz, hz⟩ := hS.live (w.heap.size + 1 + 1, #[.int .i64 0, .int .i64 0, .int .i64 0, .int .i64 0, .int .i64 0, .int .i64 0]) (by simp)
  refine wp_store_row 28 _ _ rfl (w.heap.size + 1 + 1) (sixV X) rfl rfl tz _ hz (by rfl) rfl (six_one X) ?_
  have hR := hS.pickSet (sixV X) (k := w.heap.size + 1 + 1) (i := 0) rfl (by omega)
  have hQ := hS.afterRow (sixV X) [(w.heap.size + 1, #[.int .i64 b, .int .i64 ch]), (w.heap.size, #[.int .i64 m, .int .i64 n, .slice A l c])] (by simp) (k := w.heap.size + 1 + 1) (by simp; omega) (by omega)
  clear hz hS
  refine hK.out _ _ hQ (fun hHeld => ?_)
  clear hK K
  (try simp only [Act.put])
  refine wpAnyH_take (i := 8) (oi := { dst := some 5, op := Op.assign (Operand.tmp 12), type := 4, pos := _, after := #[{ on := 6, ground := Ground.data }, { on := 7, ground := Ground.chain }, { on := 0, ground := Ground.phase }, { on := 1, ground := Ground.phase }, { on := 2, ground := Ground.phase }, { on := 3, ground := Ground.phase }, { on := 4, ground := Ground.phase }, { on := 5, ground := Ground.phase }, { on := 6, ground := Ground.phase }, { on := 7, ground := Ground.phase }], guard := none }) (v := ?_) rfl (by kernel_rfl) (by kernel_rfl) (by kernel_rfl) (fun _ _ _ h => h) (Or.inl ⟨by rfl, ?hy⟩) hHeld ?_
  case hy => intro w0 hSw; clear hSw; go_simp; (try with_reducible rfl)
  (try simp only [Act.put, List.setIfInBounds_toArray, List.set_cons_zero, List.set_cons_succ])
  refine wpAnyH_done (by kernel_rfl) ?_ _
  clear hHeld
  have HR := Lib.hid hR
  clear hR hQ
  go_wp2
  (try simp only [Exit.inBlock, Exit.then]); refine bodyPost_ret (ret_alarm8 rfl rfl HR.out 0 rfl rfl) rfl ?_
  exact ⟨rfl, HR.out.below⟩
end Go.Proofs.Ythlojadkgpmnmaa
