/-
  Layer 5 (life): the walks of the table: what is a phase, what is a deed, what a deed makes of a phase.
-/
import Derived.Test.YthlojadkgpmnmaaChecked
import Derived.Test.YthlojadkgpmnmaaAid
import Derived.Test.YthlojadkgpmnmaaLifeM
import Derived.Great.BuildSlice
import Derived.Deep.WholeRow
namespace Go.Proofs.Ythlojadkgpmnmaa
open Go.RowKit

theorem setRow_alloc2_new (w : World) (A : Obj) (c c' : Array Value) (t : TypeId) : ((w.alloc A).alloc (.cells c t)).setRow (w.heap.size + 1) c' = (w.alloc A).alloc (.cells c' t) := by
  have h := World.setRow_alloc_new (w.alloc A) c c' t
  have e : (w.alloc A).heap.size = w.heap.size + 1 := by simp
  rw [e] at h; exact h

theorem isPhase_any (p : Int) (w : World) :
    Calls Try.prog 74 #[.int .i64 p] w fun e w' => e = .returned (.bool (Lf.isP p)) ∧ w' = w := by
  go_enter Try.func74, Try.ntmps74
  go_wp2
  all_goals go_ret
  all_goals (refine ⟨?_, rfl⟩; congr 2; unfold Lf.isP; simp [*] <;> omega)
theorem isDeed_any (p : Int) (w : World) :
    Calls Try.prog 75 #[.int .i64 p] w fun e w' => e = .returned (.bool (Lf.isD p)) ∧ w' = w := by
  go_enter Try.func75, Try.ntmps75
  go_wp2
  all_goals go_ret
  all_goals (refine ⟨?_, rfl⟩; congr 2; unfold Lf.isD; simp [*] <;> omega)

/-- The table, as cells hold it. -/
def tabV : Array Value := (Lf.tab.map (Value.int .i64)).toArray
theorem tabV_size : tabV.size = 30 := by simp [tabV, Lf.tab]

set_option maxHeartbeats 1000000 in
theorem all_any (w : World) :
    Calls Try.prog 72 #[] w fun e w' => e = .returned (.agg tabV) ∧ w' = w.alloc (.cells tabV 89) := by
  go_enter Try.func72, Try.ntmps72
  go_wp2_with (first | refine wpList_buildTo rfl 89 _ rfl (some 6) rfl tabV (by kernel_rfl) ?_ | (refine wpList_store_row rfl 89 _ _ rfl w.heap.size tabV rfl rfl 89 _ (heap_alloc_new _ _) (by kernel_rfl) (by kernel_rfl) (by kernel_rfl) ?_; rw [World.setRow_alloc_new]))
  refine bodyPost_ret (results_cell_row rfl _ _ w.heap.size 89 tabV (0, 0) _ (by rfl) (heap_alloc_new _ _) Try.underlying89 rfl (by kernel_rfl)) rfl ⟨rfl, rfl⟩

/-- The table lies in the block k. -/
def TabAt (w : World) (k : Nat) : Prop := w.heap[k]? = some (.cells tabV 89 (0, 0))
theorem TabAt.new (w : World) : TabAt (w.alloc (.cells tabV 89)) w.heap.size := heap_alloc_new _ _
theorem TabAt.lt {w : World} {k : Nat} (h : TabAt w k) : k < w.heap.size := (Array.getElem?_eq_some_iff.1 h).1
theorem TabAt.below {w w' : World} {k : Nat} (h : TabAt w k) (hB : Below w.heap.size w w') : TabAt w' k := (hB.block k h.lt).trans h
theorem TabAt.upto {w w' : World} {k B : Nat} (h : TabAt w k) (hk : k < B) (hB : Below B w w') : TabAt w' k := (hB.block k hk).trans h
theorem TabAt.cell {w : World} {k : Nat} (h : TabAt w k) {i j : Nat} (hi : i < 5) (hj : j < 6) : w.cell? ⟨k, i * 6 + j, none⟩ = some (.int .i64 (Lf.tab.getD (i * 6 + j) 0)) := by
  have hlt : i * 6 + j < Lf.tab.length := by have : Lf.tab.length = 30 := rfl; omega
  rw [cell_of_row w k _ tabV _ _ h]
  simp [tabV, hlt]
theorem next_any (p d : Int) (w : World) :
    Calls Try.prog 73 #[.agg tabV, .int .i64 p, .int .i64 d] w fun e w' => e = .returned (.tuple #[.int .i64 (Lf.nx p d), .bool (Lf.ok p d)]) ∧ Below w.heap.size w w' := by
  have h1 := fun W => isPhase_any p W
  have h2 := fun W => isDeed_any d W
  cases hp : Lf.isP p
  · have e1 : Lf.ok p d = false := by unfold Lf.ok; rw [hp]; rfl
    have e2 : Lf.nx p d = 0 := by unfold Lf.nx; rw [e1]; rfl
    rw [e1, e2]
    rw [hp] at h1
    clear e1 e2 hp h2
    go_enter Try.func73, Try.ntmps73
    go_wp2_with fail
    refine (h1 _).mono ?_
    rintro e w1 ⟨rfl, rfl⟩
    go_wp2
    go_ret2
    exact ⟨rfl, below_new _ _⟩
  · cases hd : Lf.isD d
    · have e1 : Lf.ok p d = false := by unfold Lf.ok; rw [hp, hd]; rfl
      have e2 : Lf.nx p d = 0 := by unfold Lf.nx; rw [e1]; rfl
      rw [e1, e2]
      rw [hp] at h1
      rw [hd] at h2
      clear e1 e2 hp hd
      go_enter Try.func73, Try.ntmps73
      go_wp2_with fail
      refine (h1 _).mono ?_
      rintro e w1 ⟨rfl, rfl⟩
      go_wp2_with fail
      refine (h2 _).mono ?_
      rintro e w1 ⟨rfl, rfl⟩
      go_wp2
      go_ret2
      exact ⟨rfl, below_new _ _⟩
    · rw [hp] at h1
      rw [hd] at h2
      have hok : Lf.ok p d = !(Lf.look p d == -1) := by unfold Lf.ok; rw [hp, hd]; rfl
      have hnx : Lf.nx p d = if Lf.ok p d then Lf.look p d else 0 := rfl
      obtain ⟨p0, p1⟩ := Lf.isP_iff.1 hp
      obtain ⟨d0, d1⟩ := Lf.isD_iff.1 hd
      clear hp hd
      have w1 : wrap64 (d - 1) = d - 1 := by unfold wrap64; omega
      have w2 : 0 ≤ d - 1 := by omega
      have w3 : d - 1 < 6 := by omega
      have hc := (TabAt.new w).cell (i := p.toNat) (j := d.toNat - 1) (by omega) (by omega)
      obtain ⟨x, hx⟩ : ∃ x, x = Lf.look p d := ⟨_, rfl⟩
      have hx2 : Lf.tab.getD (p.toNat * 6 + (d.toNat - 1)) 0 = x := by rw [hx, show d.toNat - 1 = (d - 1).toNat by omega]; rfl
      rw [hx2] at hc
      rw [← hx] at hok hnx
      rw [hnx, hok]
      clear hx hx2 hnx hok
      by_cases hneg : x = -1
      · subst hneg
        go_enter Try.func73, Try.ntmps73
        go_wp2_with fail
        refine (h1 _).mono ?_
        rintro e w1 ⟨rfl, rfl⟩
        go_wp2_with fail
        refine (h2 _).mono ?_
        rintro e w1 ⟨rfl, rfl⟩
        go_wp2
        go_ret2
        exact ⟨rfl, below_new _ _⟩
      · have hb : (x == -1) = false := by rw [beq_eq_false_iff_ne]; exact hneg
        rw [hb]
        go_enter Try.func73, Try.ntmps73
        go_wp2_with fail
        refine (h1 _).mono ?_
        rintro e w1 ⟨rfl, rfl⟩
        go_wp2_with fail
        refine (h2 _).mono ?_
        rintro e w1 ⟨rfl, rfl⟩
        go_wp2
        go_ret2
        exact ⟨rfl, below_new _ _⟩

end Go.Proofs.Ythlojadkgpmnmaa
