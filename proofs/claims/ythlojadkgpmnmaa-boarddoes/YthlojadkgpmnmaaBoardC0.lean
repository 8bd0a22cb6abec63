/-
  Layer 8 (board): blocks written while rows of one's own stand; the walks of New, Is, Get, Of.
-/
import Derived.Test.YthlojadkgpmnmaaBoardW3
import Derived.Test.YthlojadkgpmnmaaBoardW6
namespace Go.Proofs.Ythlojadkgpmnmaa
open Go.RowKit

theorem grown_setCell (w : World) (k j : Nat) (v : Value) : w.grownBy (w.setCell ⟨k, j, none⟩ v) (some k) :=
  ⟨rfl, rfl, rfl, by simp [World.setCell], fun i _ hne => heap_setCell_other w ⟨k, j, none⟩ i v (fun e => hne (by rw [show i = k from e]))⟩
/-- A block of one's own is written whole: rows behind it stay. -/
theorem wpList_setres {P : Program} {ops : Array Oper} {rest : List Oper} {o : Oper} {a : Act} {w : World} {Q : Exit → Act → World → Prop} (hgd : o.guard = none) (ty : TypeId) (x y : Operand) (ho : o.op = .store ty x y)
    {w0 : World} {L : List (Nat × Array Value)} {M : List Fact} (hS : St w0 w L M) (i k : Nat) (old cs : Array Value) (hi : L[i]? = some (k, old)) (hk : w0.heap.size ≤ k) (base : Nat) (v : Value) (ls : List Alm) (hO : OwnA w base v ls) (hkb : k < base)
    (hx : a.eval x = .pointer (some ⟨k, 0, none⟩)) (hy : a.eval y = .agg cs) (hz : (P.info? ty).map (·.size) = some cs.size) (hsz : old.size = cs.size) (h1 : cs.all (·.oneCell') = true)
    (h : ∀ w', St w0 w' [(k, cs)] [] → OwnA w' base v ls → wpList P ops Q rest (a.put o.dst undef) w') : wpList P ops Q (o :: rest) a w := by
  obtain ⟨t, ht⟩ := hS.live (k, old) (List.mem_of_getElem? hi)
  refine wpList_store_row hgd ty x y ho k cs hx hy t old ht hz hsz h1 ?_
  refine h _ ⟨fun y hy => ?_, (fun _ h => nomatch h), below_setRow hS.below hk cs⟩ ?_
  · obtain rfl : y = (k, cs) := by simpa using hy
    exact ⟨t, setRow_heap _ _ _ _ _ _ ht⟩
  · exact World.ownsRow.kept (row := some k) hO (grown_setRow w k cs) (Or.inr (fun e => by
      have := (World.ownsRow.lt hO k e).1
      omega))
/-- One cell of the block that came last is written: rows behind it stay. -/
theorem wpList_setcell {P : Program} {ops : Array Oper} {rest : List Oper} {o : Oper} {a : Act} {w : World} {Q : Exit → Act → World → Prop} (hgd : o.guard = none) (ty : TypeId) (x y : Operand) (ho : o.op = .store ty x y)
    {w0 : World} {k : Nat} {cs : Array Value} {L : List (Nat × Array Value)} {M : List Fact} (hS : St w0 w ((k, cs) :: L) M) (hne : ∀ y ∈ L, y.1 ≠ k) (hk : w0.heap.size ≤ k) (j : Nat) (v old : Value) (base : Nat) (u : Value) (ls : List Alm) (hO : OwnA w base u ls) (hkb : k < base)
    (hx : a.eval x = .pointer (some ⟨k, j, none⟩)) (hy : a.eval y = v) (hj : cs[j]? = some old) (hi : (P.info? ty).map (·.size) = some 1) (h1 : v.oneCell' = true)
    (h : ∀ w', St w0 w' ((k, cs.setIfInBounds j v) :: L) [] → OwnA w' base u ls → wpList P ops Q rest (a.put o.dst undef) w') : wpList P ops Q (o :: rest) a w := by
  refine wpList_plain hgd fun K hK => ?_
  have hc := hS.cell 0 rfl j hj
  have hf := hS.free 0 rfl j
  unfold Oper.wp execOp
  simp only [ho, hx, hy, Instr.storeAt, Instr.sureAddr, Sem.run_bind, Sem.run_pure, Result.andThen_ok, run_storeVar_cell w k j ty v (by rw [hc]; rfl) hf hi h1]
  refine hK _ _ (h _ ⟨fun y hy => ?_, (fun _ h => nomatch h), below_setCell hS.below hk j v⟩ ?_)
  · rcases List.mem_cons.1 hy with rfl | hy
    · obtain ⟨t, ht⟩ := hS.live (k, cs) (by simp)
      exact ⟨t, heap_setCell_same w k j cs t v ht⟩
    · obtain ⟨t, ht⟩ := hS.live y (List.mem_cons_of_mem _ hy)
      exact ⟨t, (heap_setCell_other w ⟨k, j, none⟩ y.1 v (hne y hy)).trans ht⟩
  · exact World.ownsRow.kept (row := some k) hO (grown_setCell w k j v) (Or.inr (fun e => by
      have := (World.ownsRow.lt hO k e).1
      omega))

theorem run_field_als (m n : Int) (A : Option Addr) (l c : Nat) (w : World) : (Instr.field 56 (.agg #[.int .i64 m, .int .i64 n, .slice A l c]) 2).run Try.prog w = .ok (.slice A l c) w := by
  kernel_rfl

theorem kk_is (m n : Int) (A : Option Addr) (l c : Nat) (ls : List Alm) (w : World) (h : Told w A l c ls) :
    Calls Try.prog 27 #[.agg #[.int .i64 m, .int .i64 n, .slice A l c]] w fun e w' => e = .returned (.bool (Bd.isB m n ls)) ∧ Below w.heap.size w w' := by
  have HS := Lib.hid (((St.start w).more (rowF A ls) h.2.1).new #[.int .i64 m, .int .i64 n, .slice A l c] 24)
  have g := fun W (hA : AlmsAt W W.heap.size A ls) => Lib.hid (right_any m n A l c ls W ⟨h.1, hA, h.2.2⟩)
  obtain ⟨r, hr⟩ : ∃ r, r = Bd.isB m n ls := ⟨_, rfl⟩
  simp only [← hr] at g ⊢
  clear hr h
  go_enter Try.func27, Try.ntmps27
  go_wp2_with (refine wpList_load_st rfl 24 _ rfl HS.out 0 _ _ rfl rfl _ Try.underlying24 rfl (by rfl) ?_)
  refine (hold_any m n A l c _).mono ?_
  rintro e w1 ⟨rfl, hB⟩
  replace HS := Lib.hid (HS.out.on hB)
  clear hB
  go_wp2_with fail
  refine (g _ (HS.out.fact 0 rfl)).out.mono ?_
  rintro e w2 ⟨rfl, hB⟩
  replace HS := Lib.hid (HS.out.on hB)
  clear hB g
  go_wp2
  go_ret
  exact ⟨rfl, HS.out.below⟩

theorem kk_of (m n : Int) (A : Option Addr) (l c : Nat) (ls : List Alm) (B : Option Addr) (k cb : Nat) (zs : List Int) (w : World) (h : Told w A l c ls) (hk : k = zs.length) (hB : IntsAt w w.heap.size B zs) (hk2 : k ≤ 1000) :
    Calls Try.prog 21 #[.agg #[.int .i64 m, .int .i64 n, .slice A l c], .slice B k cb] w (OwnedA w (Bd.ofL zs ls)) := by
  have HS := Lib.hid ((((St.start w).more (rowF A ls) h.2.1).more (numF B zs) hB).new #[.int .i64 m, .int .i64 n, .slice A l c] 24)
  have g := fun W (hA : AlmsAt W W.heap.size A ls) (hB : IntsAt W W.heap.size B zs) => Lib.hid (of_any A l c ls B k cb zs W ⟨h.1, hA, h.2.2⟩ hk hB hk2)
  clear h hk hB hk2
  go_enter Try.func21, Try.ntmps21
  go_wp2_with (refine wpList_load_st rfl 24 _ rfl HS.out 0 _ _ rfl rfl _ Try.underlying24 rfl (by rfl) ?_)
  refine (hold_any m n A l c _).mono ?_
  rintro e w1 ⟨rfl, hB⟩
  replace HS := Lib.hid (HS.out.on hB)
  clear hB
  have hfd := fun W => run_field_als m n A l c W
  go_wp2_with fail
  refine (g _ (HS.out.fact 1 rfl) (HS.out.fact 0 rfl)).out.mono ?_
  rintro e w2 ⟨v, rfl, hO, hB⟩
  have HO := Lib.hid (hO.lower HS.out.below.size)
  replace HS := Lib.hid (HS.out.on hB)
  clear hB g hO
  go_wp2
  go_ret
  exact ⟨v, rfl, HO.out, HS.out.below⟩

theorem kk_new (m : Int) (l : Nat) (w : World) (h : l = (Bd.new m).als.length) : Calls Try.prog 18 #[.int .i64 m] w (GivesB w (Bd.new m) l (Bd.newE m)) := by
  have g := fun W => right_any m 0 none 0 0 [] W ⟨rfl, AlmsAt.nil _ _ _, fun _ => rfl, Nat.zero_le _⟩
  have HS := Lib.hid ((St.start w).box2 #[.int .i64 0, .int .i64 0, .slice none 0 0] #[.int .i64 m, .int .i64 0, .slice none 0 0] 24 56)
  obtain ⟨r, hr⟩ : ∃ r, r = Bd.isB m 0 [] := ⟨_, rfl⟩
  simp only [← hr] at g
  have hz : Am.isT 0 = true := rfl
  cases r
  · have e : Bd.newE m = 1 := by
      unfold Bd.newE
      rw [if_pos ?_]
      have h1 : ¬ Bd.isB m 0 [] = true := by rw [← hr]; simp
      rw [Bd.isB_iff] at h1
      by_cases a1 : m < 1
      · exact Or.inl a1
      · refine Or.inr ?_
        rcases Int.lt_or_le 200 m with a2 | a2
        · exact a2
        · exact absurd ⟨⟨by omega, a2⟩, ⟨by omega, by omega⟩, by simp; omega, rfl⟩ h1
    have e2 : Bd.new m = ⟨0, 0, []⟩ := by unfold Bd.new; rw [e]; rfl
    rw [e2] at h ⊢
    rw [e]
    obtain rfl : l = 0 := h
    clear e e2 hr hz
    go_enter Try.func18, Try.ntmps18
    go_wp2_with fail
    refine (g _).mono ?_
    rintro e w1 ⟨rfl, hB⟩
    replace HS := Lib.hid (HS.out.on hB)
    clear hB g
    go_wp2_with (refine wpList_setres rfl 24 _ _ rfl HS.out 1 w.heap.size _ #[.int .i64 0, .int .i64 0, .slice none 0 0] rfl (Nat.le_refl _) w1.heap.size _ [] (OwnA.nil w1 w1.heap.size) (HS.out.lt 1 rfl) rfl rfl (by rfl) rfl (bd_one 0 0 none 0 0) ?_; intro w9 hS9 hO9; have HS9 := Lib.hid hS9; clear hS9 hO9)
    (try simp only [Exit.inBlock, Exit.then]); refine bodyPost_ret (ret_board rfl rfl HS9.out 0 rfl rfl) rfl ?_
    exact ⟨none, 0, rfl, OwnA.nil _ _, HS9.out.below⟩
  · have e : Bd.newE m = 0 := by
      unfold Bd.newE
      rw [if_neg ?_]
      have h1 := Bd.isB_iff.1 hr.symm
      omega
    have e2 : Bd.new m = ⟨m, 0, []⟩ := by unfold Bd.new; rw [e]; rfl
    rw [e2] at h ⊢
    rw [e]
    obtain rfl : l = 0 := h
    clear e e2 hr hz
    go_enter Try.func18, Try.ntmps18
    go_wp2_with fail
    refine (g _).mono ?_
    rintro e w1 ⟨rfl, hB⟩
    replace HS := Lib.hid (HS.out.on hB)
    clear hB g
    go_wp2_with (refine wpList_load_st rfl 56 _ rfl HS.out 0 _ _ rfl rfl _ Try.underlying56 rfl (by rfl) ?_)
    refine (board_any m 0 none 0 0 _).mono ?_
    rintro e w2 ⟨rfl, hB⟩
    replace HS := Lib.hid (HS.out.on hB)
    clear hB
    go_wp2_with (refine wpList_setres rfl 24 _ _ rfl HS.out 1 w.heap.size _ #[.int .i64 m, .int .i64 0, .slice none 0 0] rfl (Nat.le_refl _) w2.heap.size _ [] (OwnA.nil w2 w2.heap.size) (HS.out.lt 1 rfl) rfl rfl (by rfl) rfl (bd_one m 0 none 0 0) ?_; intro w9 hS9 hO9; have HS9 := Lib.hid hS9; clear hS9 hO9)
    (try simp only [Exit.inBlock, Exit.then]); refine bodyPost_ret (ret_board rfl rfl HS9.out 0 rfl rfl) rfl ?_
    exact ⟨none, 0, rfl, OwnA.nil _ _, HS9.out.below⟩
end Go.Proofs.Ythlojadkgpmnmaa
