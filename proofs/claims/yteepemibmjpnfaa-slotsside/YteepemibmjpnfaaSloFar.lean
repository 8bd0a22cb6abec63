/-
  Layer 15 (slots): a part of a block is read; the law's far.
-/
import Derived.Test.YteepemibmjpnfaaRefFile1
import Derived.Test.YteepemibmjpnfaaLoadG
import Derived.Test.YteepemibmjpnfaaSloM2
import Derived.Deep.MidRow
namespace Go.Proofs.Yteepemibmjpnfaa
set_option maxRecDepth 10000
open Go.RowKit

theorem St.range {w0 w : World} {L : List (Nat × Array Value)} {M : List Fact} (hS : St w0 w L M) (i : Nat) {k : Nat} {cs : Array Value} (hi : L[i]? = some (k, cs)) (o : Nat) (sub : List Value) (hs : (cs.toList.drop o).take sub.length = sub) : w.rangeAt k o sub := by
  intro j v hv
  refine hS.cell i hi (o + j) ?_
  rw [← hs, List.getElem?_take] at hv
  split at hv
  · rw [List.getElem?_drop, Array.getElem?_toList] at hv; exact hv
  · cases hv
/-- A part of a block is read, wanted or under a guard. -/
theorem wpList_loadm_st {P : Program} {ops : Array Oper} {rest : List Oper} {o : Oper} {a : Act} {w : World} {Q : Exit → Act → World → Prop} (hw : Region.wanted o (yielded ops a.tmps) = true) (ty : TypeId) (x : Operand) (ho : o.op = .load ty x)
    {w0 : World} {L : List (Nat × Array Value)} {M : List Fact} (hS : St w0 w L M) (i k : Nat) (cs : Array Value) (hi : L[i]? = some (k, cs)) (n : Nat) (hx : a.eval x = .pointer (some ⟨k, n, none⟩)) (sub : List Value) (hs : (cs.toList.drop n).take sub.length = sub) (d : TypeDesc)
    (hu : P.underlying ty = some d) (hd : d.isRow = true) (hz : (P.info? ty).map (·.size) = some sub.length)
    (h : wpList P ops Q rest (a.put o.dst (.agg sub.toArray)) w) : wpList P ops Q (o :: rest) a w :=
  wpList_step fun K hK => by rw [if_pos hw]; exact wp_load_mid ty x ho k n hx sub d (hS.range i hi n sub hs) hu hd hz (hK _ _ h)
def Sl.bigB (s : Slo) : Bool := decide (2000 < s.a.kept.size ∨ 2000 < s.a.loose.size) || decide (2000 < s.b.kept.size ∨ 2000 < s.b.loose.size)
def Sl.farB (s : Slo) (t : ByteArray) : Bool := Sl.bigB s || ((decide (300 < t.size) && decide (t.size ≤ 1000)) || decide (1100 < t.size))
theorem Sl.farB_no {s : Slo} {t : ByteArray} (h : Sl.farB s t = false) : (s.a.kept.size ≤ 2000 ∧ s.a.loose.size ≤ 2000 ∧ s.b.kept.size ≤ 2000 ∧ s.b.loose.size ≤ 2000) ∧ t.size ≤ 1100 ∧ (t.size ≤ 1000 → t.size ≤ 300) := by
  unfold Sl.farB Sl.bigB at h; simp at h; omega

set_option maxHeartbeats 1000000 in
theorem slBig_go (p : Bool) (m m2 : Int) (k l k2 l2 : ByteArray) (w : World) (hp : decide (2000 < k.size ∨ 2000 < l.size) = p) :
    Calls Try.prog 20 #[.agg #[.int .i64 m, .string k, .string l, .int .i64 m2, .string k2, .string l2]] w fun e w' => e = .returned (.bool (p || decide (2000 < k2.size ∨ 2000 < l2.size))) ∧ Below w.heap.size w w' := by
  have p1 := fun W => Lib.hid (FRBig_any m k l W)
  have p2 := fun W => Lib.hid (FRBig_any m2 k2 l2 W)
  rw [hp] at p1
  obtain ⟨q, hq⟩ : ∃ q, q = decide (2000 < k2.size ∨ 2000 < l2.size) := ⟨_, rfl⟩
  rw [← hq] at p2 ⊢
  clear hp hq
  have S0 := Lib.hid ((St.start w).new #[.int .i64 m, .string k, .string l, .int .i64 m2, .string k2, .string l2] 25)
  go_enter Try.func20, Try.ntmps20
  go_wp2_with (refine wpList_loadm_st (by rfl) 23 _ rfl S0.out 0 _ _ rfl 0 rfl [.int .i64 m, .string k, .string l] rfl _ Try.underlying23 rfl (by rfl) ?_)
  refine (p1 _).out.mono ?_
  rintro e w1 ⟨rfl, hB⟩
  have S1 := Lib.hid (S0.out.on hB)
  clear hB S0 p1
  cases p
  · go_wp2_with (refine wpList_loadm_st (by rfl) 23 _ rfl S1.out 0 _ _ rfl 3 rfl [.int .i64 m2, .string k2, .string l2] rfl _ Try.underlying23 rfl (by rfl) ?_)
    refine (p2 _).out.mono ?_
    rintro e w2 ⟨rfl, hB⟩
    have S2 := Lib.hid (S1.out.on hB)
    clear hB S1 p2
    go_wp2
    go_ret
    exact ⟨rfl, S2.out.below⟩
  · go_wp2
    go_ret
    exact ⟨rfl, S1.out.below⟩
theorem SLBig_any (s : Slo) (w : World) :
    Calls Try.prog 20 #[.agg (Sl.v s)] w fun e w' => e = .returned (.bool (Sl.bigB s)) ∧ Below w.heap.size w w' := slBig_go _ s.a.most s.b.most s.a.kept s.a.loose s.b.kept s.b.loose w rfl

set_option maxHeartbeats 1000000 in
theorem slFar_go (p : Bool) (cs : Array Value) (t : ByteArray) (w : World) (hc : cs.size = 6)
    (p1 : ∀ W : World, Hid (Calls Try.prog 20 #[.agg cs] W fun e w' => e = .returned (.bool p) ∧ Below W.heap.size W w')) (q r u : Bool) (hq : q = decide ((300 : Int) < (t.size : Int))) (hr : r = decide ((t.size : Int) ≤ (1000 : Int))) (hu : u = decide ((1100 : Int) < (t.size : Int))) :
    Calls Try.prog 8 #[.agg cs, .string t] w fun e w' => e = .returned (.bool (p || ((q && r) || u))) ∧ Below w.heap.size w w' := by
  have S0 := Lib.hid ((St.start w).new cs 25)
  have hc' := Lib.hid hc
  have hz : (Try.prog.info? 25).map (·.size) = some cs.size := by rw [hc]; rfl
  have Hz := Lib.hid hz
  clear hz hc
  have h1 : ((300 : Int) < (t.size : Int)) = (q = true) := by rw [hq]; simp
  have h2 : ((t.size : Int) ≤ 1000) = (r = true) := by rw [hr]; simp
  have h3 : ((1100 : Int) < (t.size : Int)) = (u = true) := by rw [hu]; simp
  clear hq hr hu
  cases p <;> cases q <;> cases r <;> cases u
  all_goals
    simp only [Bool.false_eq_true, eq_self] at h1 h2 h3
    go_enter Try.func8, Try.ntmps8
    go_wp2_with (refine wpList_load_st rfl 25 _ rfl S0.out 0 _ _ rfl rfl _ Try.underlying25 rfl Hz.out ?_)
    refine (p1 _).out.mono ?_
    rintro e w1 ⟨rfl, hB⟩
    have S1 := Lib.hid (S0.out.on hB)
    clear hB S0 p1
    go_wp2
    go_ret
    exact ⟨rfl, S1.out.below⟩
theorem far15_any (s : Slo) (t : ByteArray) (w : World) :
    Calls Try.prog 8 #[.agg (Sl.v s), .string t] w fun e w' => e = .returned (.bool (Sl.farB s t)) ∧ Below w.heap.size w w' := by
  have h := slFar_go (Sl.bigB s) (Sl.v s) t w rfl (fun W => Lib.hid (SLBig_any s W)) _ _ _ rfl rfl rfl
  refine h.mono ?_
  rintro e w' ⟨rfl, hB⟩
  refine ⟨?_, hB⟩
  have e1 : decide ((300 : Int) < (t.size : Int)) = decide (300 < t.size) := decide_eq_decide.2 (by omega)
  have e2 : decide ((t.size : Int) ≤ (1000 : Int)) = decide (t.size ≤ 1000) := decide_eq_decide.2 (by omega)
  have e3 : decide ((1100 : Int) < (t.size : Int)) = decide (1100 < t.size) := decide_eq_decide.2 (by omega)
  rw [e1, e2, e3]; rfl
end Go.Proofs.Yteepemibmjpnfaa
