/-
  Layer 15 (slots): the landed code: what slots are made of (printed by tools/gen-slow1.py).
-/
import Derived.Test.YteepemibmjpnfaaFileW1
import Derived.Test.YteepemibmjpnfaaSloStore
namespace Go.Proofs.Yteepemibmjpnfaa
set_option maxRecDepth 10000
open Go.RowKit

/-- How a function ends that hands back one block. -/
theorem ret_row15 {fn : Func} {p : Tmp} {k : Nat} {T : TypeId} {cs : Array Value} {d : TypeDesc} {tmps : Array Value} {w w0 : World} {L : List (Nat × Array Value)} {M : List Fact} (h : fn.results = #[.cell p T]) (hp : tmps.getD p undef = .pointer (some ⟨k, 0, none⟩)) (hS : St w0 w ((k, cs) :: L) M)
    (hu : Try.prog.underlying T = some d) (hd : (match d with | .struct _ | .array _ _ => true | _ => false) = true) (hz : (Try.prog.info? T).map (·.size) = some cs.size) :
    (results fn tmps).run Try.prog w = .ok (.agg cs) w := by
  obtain ⟨t, hb⟩ := hS.live (k, cs) (by simp)
  exact results_cell_row h _ _ k t _ (0, 0) _ hp hb hu (by cases d <;> first | rfl | cases hd) hz

set_option maxHeartbeats 1000000 in
theorem sof_any (m n : Int) (k l x y : ByteArray) (w : World) :
    Calls Try.prog 21 #[.agg #[.int .i64 m, .string k, .string l, .int .i64 n, .string x, .string y]] w fun e w' => e = .returned (.agg #[.int .i64 m, .string k, .string l, .int .i64 n, .string x, .string y]) ∧ Below w.heap.size w w' := by
  have S0 := Lib.hid ((St.start w).box2 #[.int .i64 m, .string k, .string l, .int .i64 n, .string x, .string y] #[.int .i64 0, .string ⟨#[]⟩, .string ⟨#[]⟩, .int .i64 0, .string ⟨#[]⟩, .string ⟨#[]⟩] 25 49)
  go_enter Try.func21, Try.ntmps21
  go_wp2_with (first
    | (refine wpList_loadm_st (by rfl) 23 _ rfl S0.out 1 _ _ rfl 0 rfl [.int .i64 m, .string k, .string l] rfl _ Try.underlying23 rfl (by rfl) ?_)
    | (refine wpList_loadm_st (by rfl) 23 _ rfl S0.out 1 _ _ rfl 3 rfl [.int .i64 n, .string x, .string y] rfl _ Try.underlying23 rfl (by rfl) ?_)
    | (refine wpList_storew_st rfl 49 _ _ rfl S0.out (Nat.le_succ _) (by simp) #[.int .i64 m, .string k, .string l, .int .i64 n, .string x, .string y] rfl rfl (by rfl) rfl (sl_one15 _ _ _ _ _ _) ?_; intro w1 hS; have S1 := Lib.hid hS; clear hS))
  (try simp only [Exit.inBlock, Exit.then]); refine bodyPost_ret (ret_row15 rfl rfl S1.out Try.underlying49 rfl (by rfl)) rfl ?_
  exact ⟨rfl, S1.out.below⟩

set_option maxHeartbeats 1000000 in
theorem stold_any (m n : Int) (k l x y : ByteArray) (w : World) :
    Calls Try.prog 30 #[.agg #[.int .i64 m, .string k, .string l, .int .i64 n, .string x, .string y]] w fun e w' => e = .returned (.agg #[.int .i64 m, .string k, .string l, .int .i64 n, .string x, .string y]) ∧ Below w.heap.size w w' := by
  have S0 := Lib.hid ((St.start w).box2 #[.int .i64 m, .string k, .string l, .int .i64 n, .string x, .string y] #[.int .i64 0, .string ⟨#[]⟩, .string ⟨#[]⟩, .int .i64 0, .string ⟨#[]⟩, .string ⟨#[]⟩] 47 25)
  go_enter Try.func30, Try.ntmps30
  go_wp2_with (first
    | (refine wpList_loadm_st (by rfl) 23 _ rfl S0.out 1 _ _ rfl 0 rfl [.int .i64 m, .string k, .string l] rfl _ Try.underlying23 rfl (by rfl) ?_)
    | (refine wpList_loadm_st (by rfl) 23 _ rfl S0.out 1 _ _ rfl 3 rfl [.int .i64 n, .string x, .string y] rfl _ Try.underlying23 rfl (by rfl) ?_)
    | (refine wpList_storew_st rfl 25 _ _ rfl S0.out (Nat.le_succ _) (by simp) #[.int .i64 m, .string k, .string l, .int .i64 n, .string x, .string y] rfl rfl (by rfl) rfl (sl_one15 _ _ _ _ _ _) ?_; intro w1 hS; have S1 := Lib.hid hS; clear hS))
  (try simp only [Exit.inBlock, Exit.then]); refine bodyPost_ret (ret_row15 rfl rfl S1.out Try.underlying25 rfl (by rfl)) rfl ?_
  exact ⟨rfl, S1.out.below⟩

set_option maxHeartbeats 1000000 in
theorem smost_any (m n : Int) (k l x y : ByteArray) (w : World) :
    Calls Try.prog 27 #[.agg #[.int .i64 m, .string k, .string l, .int .i64 n, .string x, .string y]] w fun e w' => e = .returned (.int .i64 m) ∧ Below w.heap.size w w' := by
  have S0 := Lib.hid ((St.start w).new #[.int .i64 m, .string k, .string l, .int .i64 n, .string x, .string y] 47)
  have c0 := S0.out.cell 0 rfl 0 rfl
  go_enter Try.func27, Try.ntmps27
  go_wp2
  go_ret
  exact ⟨rfl, S0.out.below⟩

set_option maxHeartbeats 1000000 in
theorem sspare_go (a r : Int) (w : World) (h : (a = 0 ∧ r = 1) ∨ ((a == 0) = false ∧ r = 0)) :
    Calls Try.prog 29 #[.int .i64 a] w fun e w' => e = .returned (.int .i64 r) ∧ Below w.heap.size w w' := by
  rcases h with ⟨rfl, rfl⟩ | ⟨h, rfl⟩
  all_goals
    go_enter Try.func29, Try.ntmps29
    go_wp2
    go_ret
    exact ⟨rfl, Below.refl _ _⟩
theorem sspare_any (a : Int) (w : World) :
    Calls Try.prog 29 #[.int .i64 a] w fun e w' => e = .returned (.int .i64 (if a = 0 then 1 else 0)) ∧ Below w.heap.size w w' := by
  by_cases h : a = 0
  · rw [if_pos h]; exact sspare_go a 1 w (Or.inl ⟨h, rfl⟩)
  · rw [if_neg h]; exact sspare_go a 0 w (Or.inr ⟨by simpa using h, rfl⟩)

set_option maxHeartbeats 1000000 in
theorem sright_go (p q r : Bool) (m n : Int) (k l x y : ByteArray) (w : World) (hr : (m == n) = r)
    (p1 : ∀ W : World, Hid (Calls Try.prog 42 #[.agg #[.int .i64 m, .string k, .string l]] W fun e w' => e = .returned (.bool p) ∧ Below W.heap.size W w'))
    (p2 : ∀ W : World, Hid (Calls Try.prog 42 #[.agg #[.int .i64 n, .string x, .string y]] W fun e w' => e = .returned (.bool q) ∧ Below W.heap.size W w')) :
    Calls Try.prog 22 #[.agg #[.int .i64 m, .string k, .string l, .int .i64 n, .string x, .string y]] w fun e w' => e = .returned (.bool ((p && q) && r)) ∧ Below w.heap.size w w' := by
  have S0 := Lib.hid ((St.start w).new #[.int .i64 m, .string k, .string l, .int .i64 n, .string x, .string y] 47)
  cases p
  case false =>
    clear hr
    go_enter Try.func22, Try.ntmps22
    go_wp2_with (refine wpList_loadm_st (by rfl) 23 _ rfl S0.out 0 _ _ rfl 0 rfl [.int .i64 m, .string k, .string l] rfl _ Try.underlying23 rfl (by rfl) ?_)
    refine (p1 _).out.mono ?_
    rintro e w1 ⟨rfl, hB⟩
    have S1 := Lib.hid (S0.out.on hB)
    clear hB S0 p1
    go_wp2
    go_ret
    exact ⟨rfl, S1.out.below⟩
  case true =>
    cases q
    case false =>
      clear hr
      go_enter Try.func22, Try.ntmps22
      go_wp2_with (refine wpList_loadm_st (by rfl) 23 _ rfl S0.out 0 _ _ rfl 0 rfl [.int .i64 m, .string k, .string l] rfl _ Try.underlying23 rfl (by rfl) ?_)
      refine (p1 _).out.mono ?_
      rintro e w1 ⟨rfl, hB⟩
      have S1 := Lib.hid (S0.out.on hB)
      clear hB S0 p1
      go_wp2_with (refine wpList_loadm_st (by rfl) 23 _ rfl S1.out 0 _ _ rfl 3 rfl [.int .i64 n, .string x, .string y] rfl _ Try.underlying23 rfl (by rfl) ?_)
      refine (p2 _).out.mono ?_
      rintro e w2 ⟨rfl, hB⟩
      have S2 := Lib.hid (S1.out.on hB)
      clear hB S1 p2
      go_wp2
      go_ret
      exact ⟨rfl, S2.out.below⟩
    case true =>
      cases r
      all_goals
        go_enter Try.func22, Try.ntmps22
        go_wp2_with (refine wpList_loadm_st (by rfl) 23 _ rfl S0.out 0 _ _ rfl 0 rfl [.int .i64 m, .string k, .string l] rfl _ Try.underlying23 rfl (by rfl) ?_)
        refine (p1 _).out.mono ?_
        rintro e w1 ⟨rfl, hB⟩
        have S1 := Lib.hid (S0.out.on hB)
        clear hB S0 p1
        go_wp2_with (refine wpList_loadm_st (by rfl) 23 _ rfl S1.out 0 _ _ rfl 3 rfl [.int .i64 n, .string x, .string y] rfl _ Try.underlying23 rfl (by rfl) ?_)
        refine (p2 _).out.mono ?_
        rintro e w2 ⟨rfl, hB⟩
        have S2 := Lib.hid (S1.out.on hB)
        clear hB S1 p2
        have h0 := S2.out.cell 0 rfl 0 rfl
        have h3 := S2.out.cell 0 rfl 3 rfl
        go_wp2
        go_ret
        exact ⟨rfl, S2.out.below⟩
theorem sright_any (s : Slo) (hs : Sl.small s) (w : World) :
    Calls Try.prog 22 #[.agg (Sl.v s)] w fun e w' => e = .returned (.bool (Sl.is s)) ∧ Below w.heap.size w w' := by
  have h := sright_go _ _ _ s.a.most s.b.most s.a.kept s.a.loose s.b.kept s.b.loose w rfl (fun W => Lib.hid (fis_any _ _ _ hs.1 W)) (fun W => Lib.hid (fis_any _ _ _ hs.2 W))
  exact h
end Go.Proofs.Yteepemibmjpnfaa
