/-
  Layer 15 (slots): blocks that are written anew along a walk; how a function ends that hands slots back.
-/
import Derived.Test.YteepemibmjpnfaaSloFar
import Derived.Test.YteepemibmjpnfaaSloK
namespace Go.Proofs.Yteepemibmjpnfaa
set_option maxRecDepth 10000
open Go.RowKit

theorem St.sub {w0 w : World} {L L' : List (Nat × Array Value)} {M : List Fact} (h : St w0 w L M) (hs : ∀ u ∈ L', u ∈ L) : St w0 w L' [] := ⟨fun u hu => h.live u (hs u hu), (fun _ h => nomatch h), h.below⟩
theorem St.setC {w0 w : World} {k : Nat} {cs : Array Value} {L : List (Nat × Array Value)} {M : List Fact} (h : St w0 w ((k, cs) :: L) M) (hk : w0.heap.size ≤ k) (hL : ∀ u ∈ L, u.1 ≠ k) (j : Nat) (v : Value) : St w0 (w.setCell ⟨k, j, none⟩ v) ((k, cs.setIfInBounds j v) :: L) [] := by
  refine ⟨fun u hu => ?_, (fun _ h => nomatch h), below_setCell h.below hk j v⟩
  rcases List.mem_cons.1 hu with rfl | hu
  · obtain ⟨t, ht⟩ := h.live (k, cs) (by simp)
    exact ⟨t, heap_setCell_same w k j cs t v ht⟩
  · obtain ⟨t, ht⟩ := h.live u (List.mem_cons_of_mem _ hu)
    exact ⟨t, (heap_setCell_other w ⟨k, j, none⟩ u.1 v (hL u hu)).trans ht⟩
theorem St.setR {w0 w : World} {k : Nat} {cs : Array Value} {L : List (Nat × Array Value)} {M : List Fact} (h : St w0 w ((k, cs) :: L) M) (hk : w0.heap.size ≤ k) (hL : ∀ u ∈ L, u.1 ≠ k) (cs' : Array Value) : St w0 (w.setRow k cs') ((k, cs') :: L) [] := by
  refine ⟨fun u hu => ?_, (fun _ h => nomatch h), below_setRow h.below hk cs'⟩
  rcases List.mem_cons.1 hu with rfl | hu
  · obtain ⟨t, ht⟩ := h.live (k, cs) (by simp)
    exact ⟨t, setRow_heap _ _ _ _ _ _ ht⟩
  · obtain ⟨t, ht⟩ := h.live u (List.mem_cons_of_mem _ hu)
    have hne := hL u hu
    refine ⟨t, ?_⟩
    rw [← ht]
    simp only [World.setRow, Array.getElem?_modify]
    rw [if_neg (fun e => hne e.symm)]
/-- A whole block is written anew. -/
theorem wpList_storew_st {P : Program} {ops : Array Oper} {rest : List Oper} {o : Oper} {a : Act} {w : World} {Q : Exit → Act → World → Prop} (hgd : o.guard = none) (ty : TypeId) (x y : Operand) (ho : o.op = .store ty x y)
    {w0 : World} {k : Nat} {z : Array Value} {L : List (Nat × Array Value)} {M : List Fact} (hS : St w0 w ((k, z) :: L) M) (hk : w0.heap.size ≤ k) (hL : ∀ u ∈ L, u.1 ≠ k) (cs : Array Value) (hx : a.eval x = .pointer (some ⟨k, 0, none⟩)) (hy : a.eval y = .agg cs)
    (hz : (P.info? ty).map (·.size) = some cs.size) (hsz : z.size = cs.size) (h1 : cs.all (·.oneCell') = true)
    (h : ∀ w', St w0 w' ((k, cs) :: L) [] → wpList P ops Q rest (a.put o.dst undef) w') : wpList P ops Q (o :: rest) a w := by
  obtain ⟨t, ht⟩ := hS.live (k, z) (by simp)
  exact wpList_store_row hgd ty x y ho k cs hx hy t z ht hz hsz h1 (h _ (hS.setR hk hL cs))
/-- Three cells of a block are written anew. -/
theorem wpList_storem_st {P : Program} {ops : Array Oper} {rest : List Oper} {o : Oper} {a : Act} {w : World} {Q : Exit → Act → World → Prop} (hgd : o.guard = none) (ty : TypeId) (x y : Operand) (ho : o.op = .store ty x y)
    {w0 : World} {k : Nat} {z : Array Value} {L : List (Nat × Array Value)} {M : List Fact} (hS : St w0 w ((k, z) :: L) M) (hk : w0.heap.size ≤ k) (hL : ∀ u ∈ L, u.1 ≠ k) (n : Nat) (b c d : Value) (cs : Array Value) (hcs : ((z.setIfInBounds n b).setIfInBounds (n + 1) c).setIfInBounds (n + 2) d = cs) (hn : n + 3 ≤ z.size) (hx : a.eval x = .pointer (some ⟨k, n, none⟩)) (hy : a.eval y = .agg #[b, c, d])
    (hz : (P.info? ty).map (·.size) = some 3) (h1 : (#[b, c, d] : Array Value).all (·.oneCell') = true)
    (h : ∀ w', St w0 w' ((k, cs) :: L) [] → wpList P ops Q rest (a.put o.dst undef) w') : wpList P ops Q (o :: rest) a w := by
  have hth : w.there k n 3 := fun j hj => by
    obtain ⟨v, hv⟩ : ∃ v, z[n + j]? = some v := ⟨z[n + j]'(by omega), Array.getElem?_eq_getElem _⟩
    exact ⟨by rw [hS.cell 0 rfl (n + j) hv]; rfl, hS.free 0 rfl (n + j)⟩
  refine wpList_store_mid hgd ty x y ho k n #[b, c, d] hx hy hth hz h1 (h _ ?_)
  have s1 := hS.setC hk hL n b
  have s2 := s1.setC hk hL (n + 1) c
  have s3 := s2.setC hk hL (n + 2) d
  rw [hcs] at s3
  exact s3
/-- How a function ends that hands slots back, and a number; and a Bool between. -/
theorem ret_slots {fn : Func} {p u : Tmp} {k : Nat} {cs : Array Value} {tmps : Array Value} {w w0 : World} {L : List (Nat × Array Value)} {M : List Fact} (h : fn.results = #[.cell p 25, .tmp u]) (hp : tmps.getD p undef = .pointer (some ⟨k, 0, none⟩)) (hS : St w0 w ((k, cs) :: L) M) (hc : cs.size = 6) :
    (results fn tmps).run Try.prog w = .ok (.tuple #[.agg cs, tmps.getD u undef]) w := by
  rw [results_cell_tmp h, hp]
  obtain ⟨t, hb⟩ := hS.live (k, cs) (by simp)
  have hl := run_loadVar_row (P := Try.prog) w k t 25 cs (0, 0) _ hb Try.underlying25 rfl (by rw [hc]; rfl)
  simp [asAddr, Result.andThen, hl]
theorem ret_slots3 {fn : Func} {p u v : Tmp} {k : Nat} {cs : Array Value} {tmps : Array Value} {w w0 : World} {L : List (Nat × Array Value)} {M : List Fact} (h : fn.results = #[.cell p 25, .tmp u, .tmp v]) (hp : tmps.getD p undef = .pointer (some ⟨k, 0, none⟩)) (hS : St w0 w ((k, cs) :: L) M) (hc : cs.size = 6) :
    (results fn tmps).run Try.prog w = .ok (.tuple #[.agg cs, tmps.getD u undef, tmps.getD v undef]) w := by
  obtain ⟨t, hb⟩ := hS.live (k, cs) (by simp)
  have hl := run_loadVar_row (P := Try.prog) w k t 25 cs (0, 0) _ hb Try.underlying25 rfl (by rw [hc]; rfl)
  have hp' : tmps[p]?.getD undef = .pointer (some ⟨k, 0, none⟩) := by simpa using hp
  simp [results, h, hp', asAddr, hl]
theorem fil_one15 (a : Int) (b c : ByteArray) : (#[.int .i64 a, .string b, .string c] : Array Value).all (·.oneCell') = true := by simp [Value.oneCell']
end Go.Proofs.Yteepemibmjpnfaa
