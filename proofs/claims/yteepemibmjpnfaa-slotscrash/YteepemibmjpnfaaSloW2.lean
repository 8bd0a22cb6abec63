/-
  Layer 15 (slots): the landed code: what a file's bytes say, and the better of two (printed by tools/gen-slow2.py).
-/
import Derived.Test.YteepemibmjpnfaaFrameGet
import Derived.Test.YteepemibmjpnfaaWireGet
import Derived.Test.YteepemibmjpnfaaSloM2
import Derived.Test.YteepemibmjpnfaaSloStore
import Derived.LoopN
namespace Go.Proofs.Yteepemibmjpnfaa
set_option maxRecDepth 10000
open Go.RowKit

def Sl.rdT (l : List UInt8) : ByteArray := if (Sl.raw l).2.2 = true then strOf (Sl.raw l).2.1 else ⟨#[]⟩
def Sl.rdN (l : List UInt8) : Int := if (Sl.raw l).2.2 = true then (Sl.raw l).1 else 0

set_option maxHeartbeats 2000000 in
theorem sread_no (s T R : ByteArray) (k e : Int) (w : World) (h : (e != 0) = true ∨ (e = 0 ∧ ((k != 2) = true ∨ (k = 2 ∧ R.toList.isEmpty = false))))
    (p1 : ∀ W : World, Hid (Calls Try.prog 52 #[.string s] W fun x w' => x = .returned (.tuple #[.int .i64 k, .string T, .string R, .int .i64 e]) ∧ Below W.heap.size W w')) :
    Calls Try.prog 36 #[.string s] w fun e w' => e = .returned (.tuple #[.string ⟨#[]⟩, .int .i64 0, .bool false]) ∧ Below w.heap.size w w' := by
  rcases h with h | ⟨rfl, h | ⟨rfl, h⟩⟩
  all_goals
    go_enter Try.func36, Try.ntmps36
    go_wp2_with fail
    refine (p1 _).out.mono ?_
    rintro e w1 ⟨rfl, hB⟩
    have Hb := Lib.hid hB
    clear hB p1
    go_wp2
    go_ret3
    exact ⟨rfl, Hb.out⟩
set_option maxHeartbeats 2000000 in
theorem sread_in (s T R T2 U : ByteArray) (n N e : Int) (o : Bool) (w : World) (h : R.toList.isEmpty = true)
    (hc : ((e != 0) = true ∧ U = ⟨#[]⟩ ∧ N = 0 ∧ o = false) ∨ (e = 0 ∧ ((n < 1) = True ∧ U = ⟨#[]⟩ ∧ N = 0 ∧ o = false ∨ (n < 1) = False ∧ ((1000000000 < n) = True ∧ U = ⟨#[]⟩ ∧ N = 0 ∧ o = false ∨ (1000000000 < n) = False ∧ U = T2 ∧ N = n ∧ o = true))))
    (p1 : ∀ W : World, Hid (Calls Try.prog 52 #[.string s] W fun x w' => x = .returned (.tuple #[.int .i64 2, .string T, .string R, .int .i64 0]) ∧ Below W.heap.size W w'))
    (p2 : ∀ W : World, Hid (Calls Try.prog 53 #[.string T] W fun x w' => x = .returned (.tuple #[.int .i64 n, .string T2, .int .i64 e]) ∧ Below W.heap.size W w')) :
    Calls Try.prog 36 #[.string s] w fun e w' => e = .returned (.tuple #[.string U, .int .i64 N, .bool o]) ∧ Below w.heap.size w w' := by
  rcases hc with ⟨h2, rfl, rfl, rfl⟩ | ⟨rfl, ⟨h2, rfl, rfl, rfl⟩ | ⟨h2, ⟨h3, rfl, rfl, rfl⟩ | ⟨h3, rfl, rfl, rfl⟩⟩⟩
  all_goals
    go_enter Try.func36, Try.ntmps36
    go_wp2_with fail
    refine (p1 _).out.mono ?_
    rintro e w1 ⟨rfl, hB⟩
    have Hb := Lib.hid hB
    clear hB p1
    go_wp2_with fail
    refine (p2 _).out.mono ?_
    rintro e w2 ⟨rfl, hB⟩
    have Hb2 := Lib.hid (below2 Hb.out hB)
    clear hB p2
    go_wp2
    go_ret3
    exact ⟨rfl, Hb2.out⟩
theorem isEmpty_strOf15 (l : List UInt8) : (strOf l).toList.isEmpty = l.isEmpty := by rw [strOf_toList]
theorem sread_any (s : ByteArray) (w : World) (hs : s.size ≤ 18000) :
    Calls Try.prog 36 #[.string s] w fun e w' => e = .returned (.tuple #[.string (Sl.rdT (bl s)), .int .i64 (Sl.rdN (bl s)), .bool (Sl.raw (bl s)).2.2]) ∧ Below w.heap.size w w' := by
  obtain ⟨k, t, r, e, hg⟩ : ∃ k t r e, Fm.get (bl s) = (k, t, r, e) := ⟨_, _, _, _, rfl⟩
  have p1 : ∀ W : World, Hid (Calls Try.prog 52 #[.string s] W fun x w' => x = .returned (.tuple #[.int .i64 k, .string (strOf t), .string (strOf r), .int .i64 e]) ∧ Below W.heap.size W w') := fun W => Lib.hid (by
    have := Get_any s W (Nat.le_trans hs (by unfold big; decide))
    rw [hg] at this; exact this)
  by_cases h : e = 0 ∧ r = [] ∧ k = 2
  · obtain ⟨rfl, rfl, rfl⟩ := h
    have hok := (Fm.get_ok hg).2.2
    have hlen : t.length ≤ 18000 := by
      have h3 := congrArg List.length hok
      have h4 : t.length ≤ (Fm.frame 2 t).length := by unfold Fm.frame Fm.ahead Fm.textL; simp only [List.length_append]; omega
      rw [List.length_append, bl_length] at h3; omega
    have p2 : ∀ W : World, Hid (Calls Try.prog 53 #[.string (strOf t)] W fun x w' => x = .returned (.tuple #[.int .i64 (Wm.getInt t).1, .string (strOf (Wm.getInt t).2.1), .int .i64 (Wm.getInt t).2.2]) ∧ Below W.heap.size W w') := fun W => Lib.hid (by
      have q := GetInt_any (strOf t) W (by rw [strOf_size]; unfold maxLen; omega)
      rw [bl_strOf] at q
      refine q.mono ?_
      rintro e w' ⟨rfl, n, rfl⟩
      exact ⟨rfl, below_drew (Below.refl _ _) n⟩)
    have e9 : Sl.raw (bl s) = ((Wm.getInt t).1, (Wm.getInt t).2.1, decide ((Wm.getInt t).2.2 = 0) && Sl.nOk (Wm.getInt t).1) := by unfold Sl.raw; rw [hg]; exact if_pos ⟨rfl, rfl, rfl⟩
    unfold Sl.rdT Sl.rdN
    rw [e9]
    refine sread_in s (strOf t) (strOf []) (strOf (Wm.getInt t).2.1) _ (Wm.getInt t).1 _ (Wm.getInt t).2.2 _ w (by rw [isEmpty_strOf15]; rfl) ?_ p1 p2
    by_cases h1 : (Wm.getInt t).2.2 = 0
    · right
      refine ⟨h1, ?_⟩
      by_cases h2 : (Wm.getInt t).1 < 1
      · left
        have e1 : Sl.nOk (Wm.getInt t).1 = false := by rw [Bool.eq_false_iff]; intro h; have := Sl.nOk_iff.1 h; omega
        simp only [e1, Bool.and_false]
        exact ⟨eq_true h2, by first | rfl | trivial, by first | rfl | trivial, by first | rfl | trivial⟩
      · right
        refine ⟨eq_false h2, ?_⟩
        by_cases h3 : 1000000000 < (Wm.getInt t).1
        · left
          have e1 : Sl.nOk (Wm.getInt t).1 = false := by rw [Bool.eq_false_iff]; intro h; have := Sl.nOk_iff.1 h; omega
          simp only [e1, Bool.and_false]
          exact ⟨eq_true h3, by first | rfl | trivial, by first | rfl | trivial, by first | rfl | trivial⟩
        · right
          have e1 : Sl.nOk (Wm.getInt t).1 = true := Sl.nOk_iff.2 (by omega)
          simp only [e1, h1, decide_true, Bool.and_true, if_true]
          exact ⟨eq_false h3, by first | rfl | trivial, by first | rfl | trivial, by first | rfl | trivial⟩
    · left
      simp only [h1, decide_false, Bool.false_and]
      exact ⟨by rw [bne_iff_ne]; exact h1, by first | rfl | trivial, by first | rfl | trivial, by first | rfl | trivial⟩
  · have e9 : Sl.raw (bl s) = (0, [], false) := by unfold Sl.raw; rw [hg]; exact if_neg (fun h' => h h')
    unfold Sl.rdT Sl.rdN
    rw [e9]
    refine sread_no s (strOf t) (strOf r) k e w ?_ p1
    by_cases h1 : e = 0
    · refine Or.inr ⟨h1, ?_⟩
      by_cases h2 : k = 2
      · refine Or.inr ⟨h2, ?_⟩
        rw [isEmpty_strOf15, Bool.eq_false_iff]
        exact fun h3 => h ⟨h1, List.isEmpty_iff.1 h3, h2⟩
      · left; rw [bne_iff_ne]; exact h2
    · left; rw [bne_iff_ne]; exact h1

set_option maxHeartbeats 4000000 in
theorem sBetter_go (a b s t x : ByteArray) (n m y z : Int) (ok is : Bool) (w : World)
    (h : (ok = true ∧ is = false ∧ x = s ∧ y = n ∧ z = 0) ∨ (ok = true ∧ is = true ∧ (n < m) = False ∧ x = s ∧ y = n ∧ z = 0) ∨ (ok = true ∧ is = true ∧ (n < m) = True ∧ x = t ∧ y = m ∧ z = 1) ∨ (ok = false ∧ is = true ∧ x = t ∧ y = m ∧ z = 1) ∨ (ok = false ∧ is = false ∧ x = ⟨#[]⟩ ∧ y = 0 ∧ z = -1))
    (p1 : ∀ W : World, Hid (Calls Try.prog 36 #[.string a] W fun x w' => x = .returned (.tuple #[.string s, .int .i64 n, .bool ok]) ∧ Below W.heap.size W w'))
    (p2 : ∀ W : World, Hid (Calls Try.prog 36 #[.string b] W fun x w' => x = .returned (.tuple #[.string t, .int .i64 m, .bool is]) ∧ Below W.heap.size W w')) :
    Calls Try.prog 15 #[.string a, .string b] w fun e w' => e = .returned (.tuple #[.string x, .int .i64 y, .int .i64 z]) ∧ Below w.heap.size w w' := by
  have i0 : ∀ W, (Instr.index 63 (.agg #[.string a, .string b]) (.int .i64 0)).run Try.prog W = .ok (.string a) W := fun _ => by kernel_rfl
  have i1 : ∀ W, (Instr.index 63 (.agg #[.string a, .string b]) (.int .i64 1)).run Try.prog W = .ok (.string b) W := fun _ => by kernel_rfl
  rcases h with ⟨rfl, rfl, rfl, rfl, rfl⟩ | ⟨rfl, rfl, h, rfl, rfl, rfl⟩ | ⟨rfl, rfl, h, rfl, rfl, rfl⟩ | ⟨rfl, rfl, rfl, rfl, rfl⟩ | ⟨rfl, rfl, rfl, rfl, rfl⟩
  all_goals
    go_enter Try.func15, Try.ntmps15
    go_wp2_with fail
    refine wp_loop_rounds 3 ?_
    rw [rounds_succ]
    go_wp2_with fail
    refine (p1 _).out.mono ?_
    rintro e w1 ⟨rfl, hB⟩
    have Hb := Lib.hid hB
    clear hB p1
    go_wp2_with fail
    rw [rounds_succ]
    go_wp2_with fail
    refine (p2 _).out.mono ?_
    rintro e w2 ⟨rfl, hB⟩
    have Hb2 := Lib.hid (below2 Hb.out hB)
    clear hB p2
    go_wp2_with fail
    rw [rounds_succ]
    go_wp2
    go_ret3
    exact ⟨rfl, Hb2.out⟩
theorem sBetter_any (a b : ByteArray) (w : World) (ha : a.size ≤ 18000) (hb : b.size ≤ 18000) :
    Calls Try.prog 15 #[.string a, .string b] w fun e w' => e = .returned (.tuple #[.string (strOf (Sl.better (bl a) (bl b)).1), .int .i64 (Sl.better (bl a) (bl b)).2.1, .int .i64 (Sl.better (bl a) (bl b)).2.2]) ∧ Below w.heap.size w w' := by
  have p1 := fun W => Lib.hid (sread_any a W ha)
  have p2 := fun W => Lib.hid (sread_any b W hb)
  refine sBetter_go a b _ _ _ _ _ _ _ _ _ w ?_ p1 p2
  unfold Sl.better Sl.rdT Sl.rdN
  cases h1 : (Sl.raw (bl a)).2.2 <;> cases h2 : (Sl.raw (bl b)).2.2
  · exact .inr (.inr (.inr (.inr ⟨rfl, rfl, rfl, rfl, rfl⟩)))
  · exact .inr (.inr (.inr (.inl ⟨rfl, rfl, rfl, rfl, rfl⟩)))
  · rw [if_pos (c := true = true ∧ (false = false ∨ _)) ⟨rfl, Or.inl rfl⟩]
    exact .inl ⟨rfl, rfl, rfl, rfl, rfl⟩
  · simp only [if_true]
    by_cases h3 : (Sl.raw (bl b)).1 ≤ (Sl.raw (bl a)).1
    · rw [if_pos ⟨trivial, Or.inr h3⟩]
      exact .inr (.inl ⟨by first | rfl | trivial, by first | rfl | trivial, eq_false (by omega), rfl, rfl, rfl⟩)
    · rw [if_neg (fun h => h.2.elim (fun h => by cases h) h3)]
      exact .inr (.inr (.inl ⟨by first | rfl | trivial, by first | rfl | trivial, eq_true (by omega), rfl, rfl, rfl⟩))
end Go.Proofs.Yteepemibmjpnfaa
