/-
  Layer 4 (spot): the walks of the small functions: what may be, numbers, the order; and of the reference's.
-/
import Derived.Test.YtndpcnimebedcaaDoorChecked
import Derived.Test.YtndpcnimebedcaaDoorSpotM
import Derived.Laws.ResultCell
namespace Go.Proofs.YtndpcnimebedcaaDoor
open Go.RowKit

theorem retb {a b : Bool} (h : a = b) : Ending.returned (.bool a) = .returned (.bool b) := by rw [h]
theorem below_new (w : World) (o : Obj) : Below w.heap.size w (w.alloc o) := (Below.refl _ _).alloc (Nat.le_refl _) _
theorem below_new2 (w : World) (o o' : Obj) : Below w.heap.size w ((w.alloc o).alloc o') := (below_new w o).alloc (by simp) _
theorem below_new3 (w : World) (o o' o2 : Obj) : Below w.heap.size w (((w.alloc o).alloc o').alloc o2) := (below_new2 w o o').alloc (by simp; omega) _

/-- A spot lies in the block k. -/
structure Two (w : World) (k : Nat) (b c : Int) : Prop where
  lt : k < w.heap.size
  blk : ∃ t, w.heap[k]? = some (.cells #[.int .i64 b, .int .i64 c] t (0, 0))
theorem Two.c0 {w : World} {k : Nat} {b c : Int} (h : Two w k b c) : w.cell? ⟨k, 0, none⟩ = some (.int .i64 b) := by
  obtain ⟨_, t, hb⟩ := h; simp only [World.cell?, hb]; rfl
theorem Two.c1 {w : World} {k : Nat} {b c : Int} (h : Two w k b c) : w.cell? ⟨k, 1, none⟩ = some (.int .i64 c) := by
  obtain ⟨_, t, hb⟩ := h; simp only [World.cell?, hb]; rfl
theorem Two.f0 {w : World} {k : Nat} {b c : Int} (h : Two w k b c) : w.frozen? ⟨k, 0, none⟩ = false := by
  obtain ⟨_, t, hb⟩ := h; simp only [World.frozen?, hb]; rfl
theorem Two.f1 {w : World} {k : Nat} {b c : Int} (h : Two w k b c) : w.frozen? ⟨k, 1, none⟩ = false := by
  obtain ⟨_, t, hb⟩ := h; simp only [World.frozen?, hb]; rfl
theorem Two.new (w : World) (b c : Int) (t : TypeId) : Two (w.alloc (.cells #[.int .i64 b, .int .i64 c] t)) w.heap.size b c :=
  ⟨by simp, t, World.alloc_heap_new w (.cells #[.int .i64 b, .int .i64 c] t)⟩
theorem Two.set {w : World} {k : Nat} {b c : Int} (h : Two w k b c) (b' c' : Int) : Two ((w.setCell ⟨k, 0, none⟩ (.int .i64 b')).setCell ⟨k, 1, none⟩ (.int .i64 c')) k b' c' := by
  obtain ⟨hlt, t, hb⟩ := h
  refine ⟨by simp [World.setCell]; exact hlt, t, ?_⟩
  simp only [World.setCell, Array.getElem?_modify, if_true, hb, Option.map_some]
  rfl
theorem Two.new1 (w : World) (o : Obj) (b c : Int) (t : TypeId) : Two ((w.alloc o).alloc (.cells #[.int .i64 b, .int .i64 c] t)) (w.heap.size + 1) b c := by
  have h := Two.new (w.alloc o) b c t
  have e : (w.alloc o).heap.size = w.heap.size + 1 := by simp
  rw [e] at h; exact h
theorem Two.below {w w' : World} {k : Nat} {b c : Int} (h : Two w k b c) (hB : Below w.heap.size w w') : Two w' k b c := by
  obtain ⟨hlt, t, hb⟩ := h
  exact ⟨Nat.lt_of_lt_of_le hlt hB.size, t, (hB.block k hlt).trans hb⟩
theorem Two.drew {w : World} {k : Nat} {b c : Int} (h : Two w k b c) : Two w.drew k b c := ⟨h.lt, h.blk⟩
theorem Two.alloc {w : World} {k : Nat} {b c : Int} (h : Two w k b c) (o : Obj) : Two (w.alloc o) k b c := h.below (below_new w o)

/-- How a function ends that hands back a spot from a cell, and a refusal. -/
theorem ret_spot {fn : Func} {p u : Tmp} {k : Nat} {b c : Int} {tmps : Array Value} {w : World} (h : fn.results = #[.cell p 23, .tmp u]) (hp : tmps.getD p undef = .pointer (some ⟨k, 0, none⟩)) (h2 : Two w k b c) :
    (results fn tmps).run Tryd.prog w = .ok (.tuple #[.agg #[.int .i64 b, .int .i64 c], tmps.getD u undef]) w := by
  rw [results_cell_tmp h, hp]
  have h0 := h2.c0
  have h1 := h2.c1
  have hl := run_loadCells_list (P := Tryd.prog) (w := w) ⟨k, 0, none⟩ [.int .i64 b, .int .i64 c] (fun j v hj => by
    match j, hj with
    | 0, hj => simp at hj; subst hj; simpa [Addr.add] using h0
    | 1, hj => simp at hj; subst hj; simpa [Addr.add] using h1
    | j + 2, hj => simp at hj)
  simp only [List.length_cons, List.length_nil, Nat.zero_add, Nat.reduceAdd] at hl
  simp [asAddr, Result.andThen, loadVar, hl]

set_option maxHeartbeats 400000 in
theorem mayBe_any (b c : Int) (w : World) :
    Calls Tryd.prog 26 #[.agg #[.int .i64 b, .int .i64 c]] w fun e w' => e = .returned (.bool (Sp.may b c)) ∧ Below w.heap.size w w' := by
  go_enter Tryd.func26, Tryd.ntmps26
  go_wp2
  all_goals go_ret
  all_goals refine ⟨?_, below_new _ _⟩
  all_goals congr 2
  all_goals (unfold Sp.may; simp [*] <;> omega)

theorem number_any (b c : Int) (h : Sp.may b c = true) (w : World) :
    Calls Tryd.prog 27 #[.agg #[.int .i64 b, .int .i64 c]] w fun e w' => e = .returned (.int .i64 (Sp.num b c)) ∧ Below w.heap.size w w' := by
  have e0 : Sp.num b c = 8 * (b - 1) + c := by unfold Sp.num; rw [if_pos h]
  have hm := Sp.may_iff.1 h
  have w1 : wrap64 (b - 1) = b - 1 := by unfold wrap64; omega
  have w2 : wrap64 (8 * (b - 1)) = 8 * (b - 1) := by clear w1; unfold wrap64; omega
  have w3 : wrap64 (8 * (b - 1) + c) = 8 * (b - 1) + c := by clear w1 w2; unfold wrap64; omega
  rw [e0]
  clear h hm e0
  go_enter Tryd.func27, Tryd.ntmps27
  go_wp2
  go_ret
  exact ⟨by show Ending.returned (.int .i64 (wrap64 _)) = _; rw [w3], below_new _ _⟩

set_option maxHeartbeats 400000 in
theorem isAhead_any (b c b' c' : Int) (w : World) :
    Calls Tryd.prog 32 #[.agg #[.int .i64 b, .int .i64 c], .agg #[.int .i64 b', .int .i64 c']] w fun e w' => e = .returned (.bool (Sp.less b c b' c')) ∧ Below w.heap.size w w' := by
  rcases Int.lt_trichotomy b b' with h | h | h
  · have h1 : decide (b < b') = true := decide_eq_true h
    have e0 : Sp.less b c b' c' = true := by unfold Sp.less; rw [h1]; rfl
    rw [e0]; clear e0 h
    go_enter Tryd.func32, Tryd.ntmps32
    go_wp2
    go_ret
    exact ⟨rfl, below_new2 _ _ _⟩
  · subst h
    have h1 : decide (b < b) = false := decide_eq_false (by omega)
    have e0 : Sp.less b c b c' = decide (c < c') := by unfold Sp.less; rw [h1]; simp
    rw [e0]; clear e0
    go_enter Tryd.func32, Tryd.ntmps32
    go_wp2
    go_ret
    exact ⟨rfl, below_new2 _ _ _⟩
  · have h1 : decide (b < b') = false := decide_eq_false (by omega)
    have h2 : (b == b') = false := by rw [beq_eq_false_iff_ne]; omega
    have e0 : Sp.less b c b' c' = false := by unfold Sp.less; rw [h1, h2]; rfl
    rw [e0]; clear e0 h
    go_enter Tryd.func32, Tryd.ntmps32
    go_wp2
    go_ret
    exact ⟨rfl, below_new2 _ _ _⟩

theorem Is_any (b c : Int) (w : World) :
    Calls Tryd.prog 18 #[.agg #[.int .i64 b, .int .i64 c]] w fun e w' => e = .returned (.bool (Sp.may b c)) ∧ Below w.heap.size w w' := by
  go_enter Tryd.func18, Tryd.ntmps18
  go_wp2_with fail
  refine (mayBe_any b c _).mono ?_
  rintro e w1 ⟨rfl, hB⟩
  go_wp2
  go_ret
  exact ⟨rfl, below2 (below_new _ _) hB⟩

theorem Less_any (b c b' c' : Int) (w : World) :
    Calls Tryd.prog 20 #[.agg #[.int .i64 b, .int .i64 c], .agg #[.int .i64 b', .int .i64 c']] w fun e w' => e = .returned (.bool (Sp.less b c b' c')) ∧ Below w.heap.size w w' := by
  go_enter Tryd.func20, Tryd.ntmps20
  go_wp2_with fail
  refine (isAhead_any b c b' c' _).mono ?_
  rintro e w1 ⟨rfl, hB⟩
  go_wp2
  go_ret
  exact ⟨rfl, below2 (below_new2 _ _ _) hB⟩

theorem Number_any (b c : Int) (w : World) :
    Calls Tryd.prog 9 #[.agg #[.int .i64 b, .int .i64 c]] w fun e w' => e = .returned (.tuple #[.int .i64 (Sp.num b c), .int .i64 (Sp.numE b c)]) ∧ Below w.heap.size w w' := by
  cases h : Sp.may b c
  · have e0 : Sp.num b c = 0 := by unfold Sp.num; rw [h]; rfl
    have e1 : Sp.numE b c = 1 := by unfold Sp.numE; rw [h]; rfl
    rw [e0, e1]; clear e0 e1
    have h1 := fun W => mayBe_any b c W
    rw [h] at h1
    clear h
    go_enter Tryd.func9, Tryd.ntmps9
    go_wp2_with fail
    refine (h1 _).mono ?_
    rintro e w1 ⟨rfl, hB⟩
    clear h1
    go_wp2
    go_ret2
    exact ⟨rfl, below2 (below_new2 _ _ _) hB⟩
  · have e1 : Sp.numE b c = 0 := by unfold Sp.numE; rw [h]; rfl
    rw [e1]; clear e1
    have h1 := fun W => mayBe_any b c W
    have h2 := fun W => number_any b c h W
    rw [h] at h1
    obtain ⟨n, hn⟩ : ∃ n, n = Sp.num b c := ⟨_, rfl⟩
    rw [← hn] at h2 ⊢
    clear h hn
    go_enter Tryd.func9, Tryd.ntmps9
    go_wp2_with fail
    refine (h1 _).mono ?_
    rintro e w1 ⟨rfl, hB⟩
    have hB0 := below2 (below_new2 _ _ _) hB
    have k1 := Two.new1 w (.cells #[.int .i64 b, .int .i64 c] 23) b c 48
    have kk := k1.below hB
    have k10 := kk.c0
    have k11 := kk.c1
    clear kk
    clear h1 hB k1
    go_wp2_with fail
    refine (h2 _).mono ?_
    rintro e w2 ⟨rfl, hB⟩
    go_wp2
    go_ret2
    exact ⟨rfl, below2 hB0 hB⟩

set_option maxHeartbeats 400000 in
theorem At_any (n : Int) (w : World) :
    Calls Tryd.prog 11 #[.int .i64 n] w fun e w' => e = .returned (.tuple #[.agg #[.int .i64 (Sp.atB n), .int .i64 (Sp.atC n)], .int .i64 (Sp.atE n)]) ∧ Below w.heap.size w w' := by
  by_cases h0 : n < 0
  · have h : Sp.isNum n = false := by unfold Sp.isNum; simp; omega
    have hd : decide (n < 0) = true := decide_eq_true h0
    unfold Sp.atB Sp.atC Sp.atE; rw [h]
    simp only [Bool.false_eq_true, if_false]
    clear h0 h
    go_enter Tryd.func11, Tryd.ntmps11
    go_wp2
    (try simp only [Exit.inBlock, Exit.then]); refine bodyPost_ret (ret_spot rfl rfl (Two.new w 0 0 _)) rfl ?_
    exact ⟨rfl, below_new _ _⟩
  · by_cases h1 : 792 ≤ n
    · have h : Sp.isNum n = false := by unfold Sp.isNum; simp; omega
      have hd : decide (n < 0) = false := decide_eq_false h0
      have hd1 : decide (792 ≤ n) = true := decide_eq_true h1
      have hd2 : decide (791 < n) = true := decide_eq_true (by omega)
      unfold Sp.atB Sp.atC Sp.atE; rw [h]
      simp only [Bool.false_eq_true, if_false]
      clear h0 h1 h
      go_enter Tryd.func11, Tryd.ntmps11
      go_wp2
      (try simp only [Exit.inBlock, Exit.then]); refine bodyPost_ret (ret_spot rfl rfl (Two.new w 0 0 _)) rfl ?_
      exact ⟨rfl, below_new _ _⟩
    · have h : Sp.isNum n = true := by unfold Sp.isNum; simp; omega
      have hd : decide (n < 0) = false := decide_eq_false h0
      have hd1 : decide (792 ≤ n) = false := decide_eq_false h1
      have q1 : n.tdiv 8 = n / 8 := Int.tdiv_eq_ediv_of_nonneg (by omega)
      have q2 : n.tmod 8 = n % 8 := Int.tmod_eq_emod_of_nonneg (by omega)
      have w1 : wrap64 (n / 8 + 1) = n / 8 + 1 := by clear q1 q2; unfold wrap64; omega
      have w2 : wrap64 (n / 8) = n / 8 := by clear q1 q2 w1; unfold wrap64; omega
      have w3 : wrap64 (n % 8) = n % 8 := by clear q1 q2 w1 w2; unfold wrap64; omega
      have hd2 : decide (791 < n) = false := decide_eq_false (by omega)
      unfold Sp.atB Sp.atC Sp.atE; rw [h]
      simp only [if_true]
      clear h0 h1 h
      go_enter Tryd.func11, Tryd.ntmps11
      go_wp2
      (try simp only [Exit.inBlock, Exit.then]); refine bodyPost_ret (ret_spot rfl rfl (Two.new w (n / 8 + 1) (n % 8) _)) rfl ?_
      exact ⟨rfl, below_new _ _⟩

set_option maxHeartbeats 400000 in
theorem RAt_any (n : Int) (w : World) :
    Calls Tryd.prog 12 #[.int .i64 n] w fun e w' => e = .returned (.tuple #[.agg #[.int .i64 (Sp.atB n), .int .i64 (Sp.atC n)], .int .i64 (Sp.atE n)]) ∧ Below w.heap.size w w' := by
  by_cases h0 : n < 0
  · have h : Sp.isNum n = false := by unfold Sp.isNum; simp; omega
    have hd : decide (n < 0) = true := decide_eq_true h0
    unfold Sp.atB Sp.atC Sp.atE; rw [h]
    simp only [Bool.false_eq_true, if_false]
    clear h0 h
    go_enter Tryd.func12, Tryd.ntmps12
    go_wp2
    (try simp only [Exit.inBlock, Exit.then]); refine bodyPost_ret (ret_spot rfl rfl (Two.new w 0 0 _)) rfl ?_
    exact ⟨rfl, below_new _ _⟩
  · by_cases h1 : 792 ≤ n
    · have h : Sp.isNum n = false := by unfold Sp.isNum; simp; omega
      have hd : decide (n < 0) = false := decide_eq_false h0
      have hd1 : decide (792 ≤ n) = true := decide_eq_true h1
      have hd2 : decide (791 < n) = true := decide_eq_true (by omega)
      unfold Sp.atB Sp.atC Sp.atE; rw [h]
      simp only [Bool.false_eq_true, if_false]
      clear h0 h1 h
      go_enter Tryd.func12, Tryd.ntmps12
      go_wp2
      (try simp only [Exit.inBlock, Exit.then]); refine bodyPost_ret (ret_spot rfl rfl (Two.new w 0 0 _)) rfl ?_
      exact ⟨rfl, below_new _ _⟩
    · have h : Sp.isNum n = true := by unfold Sp.isNum; simp; omega
      have hd : decide (n < 0) = false := decide_eq_false h0
      have hd1 : decide (792 ≤ n) = false := decide_eq_false h1
      have q1 : n.tdiv 8 = n / 8 := Int.tdiv_eq_ediv_of_nonneg (by omega)
      have q2 : n.tmod 8 = n % 8 := Int.tmod_eq_emod_of_nonneg (by omega)
      have w1 : wrap64 (n / 8 + 1) = n / 8 + 1 := by clear q1 q2; unfold wrap64; omega
      have w2 : wrap64 (n / 8) = n / 8 := by clear q1 q2 w1; unfold wrap64; omega
      have w3 : wrap64 (n % 8) = n % 8 := by clear q1 q2 w1 w2; unfold wrap64; omega
      have hd2 : decide (791 < n) = false := decide_eq_false (by omega)
      unfold Sp.atB Sp.atC Sp.atE; rw [h]
      simp only [if_true]
      clear h0 h1 h
      go_enter Tryd.func12, Tryd.ntmps12
      go_wp2
      (try simp only [Exit.inBlock, Exit.then]); refine bodyPost_ret (ret_spot rfl rfl (Two.new w (n / 8 + 1) (n % 8) _)) rfl ?_
      exact ⟨rfl, below_new _ _⟩

set_option maxHeartbeats 400000 in
theorem RIs_any (b c : Int) (w : World) :
    Calls Tryd.prog 19 #[.agg #[.int .i64 b, .int .i64 c]] w fun e w' => e = .returned (.bool (Sp.may b c)) ∧ Below w.heap.size w w' := by
  go_enter Tryd.func19, Tryd.ntmps19
  go_wp2
  all_goals go_ret
  all_goals refine ⟨?_, below_new _ _⟩
  all_goals congr 2
  all_goals (unfold Sp.may; simp [*] <;> omega)

set_option maxHeartbeats 400000 in
theorem RLess_any (b c b' c' : Int) (w : World) :
    Calls Tryd.prog 21 #[.agg #[.int .i64 b, .int .i64 c], .agg #[.int .i64 b', .int .i64 c']] w fun e w' => e = .returned (.bool (Sp.less b c b' c')) ∧ Below w.heap.size w w' := by
  rcases Int.lt_trichotomy b b' with h | h | h
  · have h1 : decide (b < b') = true := decide_eq_true h
    have e0 : Sp.less b c b' c' = true := by unfold Sp.less; rw [h1]; rfl
    rw [e0]; clear e0 h
    go_enter Tryd.func21, Tryd.ntmps21
    go_wp2
    go_ret
    exact ⟨rfl, below_new2 _ _ _⟩
  · subst h
    have h1 : decide (b < b) = false := decide_eq_false (by omega)
    have e0 : Sp.less b c b c' = decide (c < c') := by unfold Sp.less; rw [h1]; simp
    rw [e0]; clear e0
    go_enter Tryd.func21, Tryd.ntmps21
    go_wp2
    go_ret
    exact ⟨rfl, below_new2 _ _ _⟩
  · have h1 : decide (b < b') = false := decide_eq_false (by omega)
    have h2 : (b == b') = false := by rw [beq_eq_false_iff_ne]; omega
    have e0 : Sp.less b c b' c' = false := by unfold Sp.less; rw [h1, h2]; rfl
    rw [e0]; clear e0 h
    go_enter Tryd.func21, Tryd.ntmps21
    go_wp2
    go_ret
    exact ⟨rfl, below_new2 _ _ _⟩

theorem RNumber_any (b c : Int) (w : World) :
    Calls Tryd.prog 10 #[.agg #[.int .i64 b, .int .i64 c]] w fun e w' => e = .returned (.tuple #[.int .i64 (Sp.num b c), .int .i64 (Sp.numE b c)]) ∧ Below w.heap.size w w' := by
  cases h : Sp.may b c
  · have e0 : Sp.num b c = 0 := by unfold Sp.num; rw [h]; rfl
    have e1 : Sp.numE b c = 1 := by unfold Sp.numE; rw [h]; rfl
    rw [e0, e1]; clear e0 e1
    have h1 := fun W => RIs_any b c W
    rw [h] at h1
    clear h
    go_enter Tryd.func10, Tryd.ntmps10
    go_wp2_with fail
    refine (h1 _).mono ?_
    rintro e w1 ⟨rfl, hB⟩
    clear h1
    go_wp2
    go_ret2
    exact ⟨rfl, below2 (below_new _ _) hB⟩
  · have e0 : Sp.num b c = 8 * (b - 1) + c := by unfold Sp.num; rw [if_pos h]
    have e1 : Sp.numE b c = 0 := by unfold Sp.numE; rw [h]; rfl
    rw [e1, e0]; clear e1 e0
    have h1 := fun W => RIs_any b c W
    have hm := Sp.may_iff.1 h
    rw [h] at h1
    have w3 : wrap64 (8 * (b - 1) + c) = 8 * (b - 1) + c := by unfold wrap64; omega
    have w1 : wrap64 (b - 1) = b - 1 := by clear w3; unfold wrap64; omega
    have w2 : wrap64 (8 * (b - 1)) = 8 * (b - 1) := by clear w3 w1; unfold wrap64; omega
    clear h hm
    go_enter Tryd.func10, Tryd.ntmps10
    go_wp2_with fail
    refine (h1 _).mono ?_
    rintro e w1 ⟨rfl, hB⟩
    have hB0 := below2 (below_new _ _) hB
    have kk := (Two.new w b c 23).below hB
    have k10 := kk.c0
    have k11 := kk.c1
    clear kk
    clear h1 hB
    go_wp2
    go_ret2
    exact ⟨by show Ending.returned (.tuple #[.int .i64 (wrap64 _), _]) = _; rw [w3]; rfl, hB0⟩

end Go.Proofs.YtndpcnimebedcaaDoor
