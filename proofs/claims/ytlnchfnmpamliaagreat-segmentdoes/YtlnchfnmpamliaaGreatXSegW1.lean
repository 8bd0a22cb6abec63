/-
  Layer 14 (segment): the landed code: Clone, isWhole, next, recordFor.
-/
import Derived.Test.YtlnchfnmpamliaaGreatXJd
import Derived.Test.YtlnchfnmpamliaaGreatXSegRow
import Derived.Test.YtlnchfnmpamliaaGreatXFileW3
import Derived.Test.YtlnchfnmpamliaaGreatXRecW1
import Derived.Lib.SliceRun
import Derived.Deep.RegionHeld3
namespace Go.Proofs.YtlnchfnmpamliaaGreat
set_option maxRecDepth 10000
open Go.RowKit

/-- An empty row of one's own. -/
theorem OwnF.empty (w : World) : OwnF (w.alloc (.cells #[] 47)) w.heap.size (.slice (some ⟨w.heap.size, 0, none⟩) 0 0) [] :=
  ⟨rfl, Or.inr ⟨w.heap.size, 0, #[], rfl, Nat.le_refl _, heap_alloc_new _ _, Nat.le_refl _, by decide, rfl, rfl⟩⟩

set_option maxHeartbeats 1000000 in
theorem clone_any (A : Option Addr) (n c : Nat) (fs : List Fil) (w : World) (hA : FilsAt w w.heap.size A fs) (hn : n = fs.length) (hc : A = none → c = 0) (hl : n ≤ 1000) :
    Calls Tryz.prog 41 #[.slice A n c] w (fun e w' => ∃ A' c', e = .returned (.slice A' n c') ∧ OwnF w' w.heap.size (.slice A' n c') fs ∧ Below w.heap.size w w') := by
  have qT : ∀ (w : World) (a : Option Addr) (n c n' c' : Nat), (binOp .eql 22 (.slice a n c) (.slice none n' c')).run Tryz.prog w = .ok (.bool a.isNone) w := fun w a n c n' c' => Lib.run_eql_slice_nil w _ _ a n c n' c' Tryz.underlying22
  have HA := Lib.hid hA
  have Hn := Lib.hid hn
  have Hl := Lib.hid hl
  have Hc := Lib.hid hc
  cases A with
  | none =>
    obtain rfl := hA.none_nil
    subst hn
    clear hA hc hl
    go_enter Tryz.func41, Tryz.ntmps41
    go_wp2
    go_ret
    exact ⟨none, 0, rfl, OwnF.nil _ _, Below.refl _ _⟩
  | some a =>
    clear hA hn hc hl
    go_enter Tryz.func41, Tryz.ntmps41
    go_wp2_with (at_builtin
                 refine wpList_append_fils rfl _ _ 22 rfl Tryz.underlying22 w.heap.size _ [] fs rfl (OwnF.empty w) (some a) n c rfl Hn.out (HA.out.on (below_new _ _)) (fun e => nomatch e) (by simp) (by have := Hl.out; have := Hn.out; simp; omega) ?_
                 intro v' w2 hO hg
                 rw [List.nil_append] at hO
                 obtain ⟨A', c', rfl, _, _, _⟩ := hO.slice
                 rw [← Hn.out] at hO
                 have HO := Lib.hid hO
                 have HG := Lib.hid ((below_new w (.cells #[] 47)).grown hg (below_new w _).size (fun j hj => by cases hj; exact Nat.le_refl _))
                 clear hO hg)
    go_ret
    exact ⟨A', c', by rw [Hn.out]; rfl, HO.out, HG.out⟩

/-- A part in a block of its own. -/
structure PrtAt (w : World) (k : Nat) (a : Prm) : Prop where
  blk : ∃ t, w.heap[k]? = some (.cells (prmV a) t (0, 0))
theorem cells14 {w : World} {k : Nat} {cs : Array Value} (h : ∃ t, w.heap[k]? = some (.cells cs t (0, 0))) (j : Nat) : w.cell? ⟨k, j, none⟩ = cs[j]? := by
  obtain ⟨t, h⟩ := h; simp only [World.cell?, h]; rfl

set_option maxHeartbeats 1000000 in
theorem whole_any (a : Prm) (hs : Fi.small a.p.f) (w : World) :
    Calls Tryz.prog 31 #[.agg (prmV a)] w fun e w' => e = .returned (.bool a.p.whole) ∧ Below w.heap.size w w' := by
  obtain ⟨⟨⟨m, k, l⟩, n, ts, q⟩, A, c⟩ := a
  have p1 := fun W => fread_any m k l hs W
  obtain ⟨r, hr⟩ : ∃ r, r = Fi.read ⟨m, k, l⟩ := ⟨_, rfl⟩
  have e : Prt.whole ⟨⟨m, k, l⟩, n, ts, q⟩ = ((q : Int) == (r.size : Int)) := by
    unfold Prt.whole
    simp only
    rw [← hr]
    by_cases h : q = r.size
    · rw [decide_eq_true h, h]; simp
    · rw [decide_eq_false h]; symm; simp; omega
  show Calls Tryz.prog 31 #[.agg #[.int .i64 m, .string k, .string l, .int .i64 n, .slice A ts.length c, .int .i64 (q : Nat)]] w fun e w' => e = .returned (.bool (Prt.whole ⟨⟨m, k, l⟩, n, ts, q⟩)) ∧ Below w.heap.size w w'
  rw [e]
  rw [← hr] at p1
  clear hr e hs
  obtain ⟨z, hz⟩ : ∃ z : Int, z = (q : Int) := ⟨_, rfl⟩
  rw [← hz]
  clear hz
  obtain ⟨L, hL⟩ : ∃ L, L = ts.length := ⟨_, rfl⟩
  rw [← hL]
  clear hL
  have S0 := (St.start w).new #[.int .i64 m, .string k, .string l, .int .i64 n, .slice A L c, .int .i64 z] 49
  have HS := Lib.hid S0
  have d0 := S0.cell 0 rfl 0 rfl
  have d1 := S0.cell 0 rfl 1 rfl
  have d2 := S0.cell 0 rfl 2 rfl
  have d5 := S0.cell 0 rfl 5 rfl
  have hlt : w.heap.size < (w.alloc (.cells #[.int .i64 m, .string k, .string l, .int .i64 n, .slice A L c, .int .i64 z] 49)).heap.size := by simp
  clear S0
  go_enter Tryz.func31, Tryz.ntmps31
  go_wp2_with fail
  obtain ⟨w1, hw1⟩ : ∃ x, x = w.alloc (.cells #[.int .i64 m, .string k, .string l, .int .i64 n, .slice A L c, .int .i64 z] 49) := ⟨_, rfl⟩
  rw [← hw1] at d0 d1 d2 d5 hlt HS ⊢
  clear hw1
  go_region_held3 (fun W => W.cell? ⟨w.heap.size, 0, none⟩ = some (.int .i64 m) ∧ W.cell? ⟨w.heap.size, 1, none⟩ = some (.string k) ∧ W.cell? ⟨w.heap.size, 2, none⟩ = some (.string l) ∧ W.cell? ⟨w.heap.size, 5, none⟩ = some (.int .i64 z)) (exact ⟨d0, d1, d2, d5⟩) ((go_at_call 50; refine (p1 _).mono ?_; rintro e w' ⟨rfl, hB'⟩; have hB2 : Below w1.heap.size w1 w' := (by first | exact hB' | exact below_undrew hB'); replace d0 := (hB2.cell (p := ⟨w.heap.size, 0, none⟩) hlt).trans d0; replace d1 := (hB2.cell (p := ⟨w.heap.size, 1, none⟩) hlt).trans d1; replace d2 := (hB2.cell (p := ⟨w.heap.size, 2, none⟩) hlt).trans d2; replace d5 := (hB2.cell (p := ⟨w.heap.size, 5, none⟩) hlt).trans d5; have HS2 := Lib.hid (HS.out.on hB2); clear hB' hB2))
  go_wp2_with fail
  go_ret
  exact ⟨rfl, HS2.out.below⟩

set_option maxHeartbeats 1000000 in
theorem next_any (a : Prm) (hn : 0 ≤ a.p.next ∧ a.p.next ≤ 4000000000) (w : World) :
    Calls Tryz.prog 33 #[.agg (prmV a)] w fun e w' => e = .returned (.int .i64 a.p.next) ∧ Below w.heap.size w w' := by
  obtain ⟨⟨⟨m, k, l⟩, n, ts, q⟩, A, c⟩ := a
  have hw : wrap64 (n + (ts.length : Int)) = n + (ts.length : Int) := by unfold Prt.next at hn; simp only at hn; unfold wrap64; omega
  show Calls Tryz.prog 33 #[.agg #[.int .i64 m, .string k, .string l, .int .i64 n, .slice A ts.length c, .int .i64 (q : Nat)]] w fun e w' => e = .returned (.int .i64 (n + (ts.length : Int))) ∧ Below w.heap.size w w'
  obtain ⟨L, hL⟩ : ∃ L, L = ts.length := ⟨_, rfl⟩
  rw [← hL] at hw ⊢
  clear hL hn
  have HS := Lib.hid ((St.start w).new #[.int .i64 m, .string k, .string l, .int .i64 n, .slice A L c, .int .i64 (q : Nat)] 49)
  go_enter Tryz.func33, Tryz.ntmps33
  go_wp2_with fail
  go_ret
  exact ⟨congrArg (fun z => Ending.returned (.int .i64 z)) hw, HS.out.below⟩

set_option maxHeartbeats 1000000 in
theorem recFor_bad (f : Fil) (n : Int) (s : ByteArray) (hs : s.size ≤ 9000) (he : Rc.putE n (bl s) ≠ 0) (w : World) :
    Calls Tryz.prog 52 #[.agg (filV f), .int .i64 n, .string s] w fun e w' => e = .returned (.tuple #[.string ⟨#[]⟩, .int .i64 (Rc.putE n (bl s))]) ∧ Below w.heap.size w w' := by
  have p1 := fun W => rput_any n s W (by omega)
  obtain ⟨E, hE⟩ : ∃ E, E = Rc.putE n (bl s) := ⟨_, rfl⟩
  obtain ⟨r, hr⟩ : ∃ r, r = strOf (Rc.putS n (bl s)) := ⟨_, rfl⟩
  rw [← hE] at he p1 ⊢
  rw [← hr] at p1
  have j1 : (E != 0) = true := by rw [bne_iff_ne]; exact he
  have HS := Lib.hid ((St.start w).new (filV f) 47)
  clear hE hr he hs
  go_enter Tryz.func52, Tryz.ntmps52
  go_wp2_with fail
  refine (p1 _).mono ?_
  rintro e w1 ⟨rfl, hB⟩
  have HS1 := Lib.hid (HS.out.on hB)
  clear hB p1
  go_wp2_with fail
  go_ret2
  exact ⟨rfl, HS1.out.below⟩
set_option maxHeartbeats 1000000 in
theorem recFor_ok (f : Fil) (n : Int) (s : ByteArray) (hs : s.size ≤ 9000) (he : Rc.putE n (bl s) = 0) (w : World) :
    Calls Tryz.prog 52 #[.agg (filV f), .int .i64 n, .string s] w fun e w' => e = .returned (if f.most < ((Rc.rec1 n (bl s)).length : Nat) then .tuple #[.string ⟨#[]⟩, .int .i64 2] else .tuple #[.string (strOf (Rc.rec1 n (bl s))), .int .i64 0]) ∧ Below w.heap.size w w' := by
  have p1 := fun W => rput_any n s W (by omega)
  rw [Rc.putS_yes he, he] at p1
  obtain ⟨r, hr⟩ : ∃ r, r = strOf (Rc.rec1 n (bl s)) := ⟨_, rfl⟩
  have hz : (Rc.rec1 n (bl s)).length = r.size := by rw [hr, strOf_size]
  rw [← hr] at p1
  rw [← hr, hz]
  obtain ⟨m, k, l⟩ := f
  have S0 := (St.start w).new #[.int .i64 m, .string k, .string l] 47
  have HS := Lib.hid S0
  show Calls Tryz.prog 52 #[.agg #[.int .i64 m, .string k, .string l], .int .i64 n, .string s] w fun e w' => e = .returned (if m < (r.size : Int) then .tuple #[.string ⟨#[]⟩, .int .i64 2] else .tuple #[.string r, .int .i64 0]) ∧ Below w.heap.size w w'
  clear hr hz he hs S0
  by_cases h : m < (r.size : Int)
  · rw [if_pos h]
    have j := eq_true h
    clear h
    go_enter Tryz.func52, Tryz.ntmps52
    go_wp2_with fail
    refine (p1 _).mono ?_
    rintro e w1 ⟨rfl, hB⟩
    have HS1 := Lib.hid (HS.out.on hB)
    have c0 := HS1.out.cell 0 rfl 0 rfl
    clear hB p1
    go_wp2_with fail
    go_ret2
    exact ⟨rfl, HS1.out.below⟩
  · rw [if_neg h]
    have j := eq_false h
    clear h
    go_enter Tryz.func52, Tryz.ntmps52
    go_wp2_with fail
    refine (p1 _).mono ?_
    rintro e w1 ⟨rfl, hB⟩
    have HS1 := Lib.hid (HS.out.on hB)
    have c0 := HS1.out.cell 0 rfl 0 rfl
    clear hB p1
    go_wp2_with fail
    go_ret2
    exact ⟨rfl, HS1.out.below⟩
end Go.Proofs.YtlnchfnmpamliaaGreat
