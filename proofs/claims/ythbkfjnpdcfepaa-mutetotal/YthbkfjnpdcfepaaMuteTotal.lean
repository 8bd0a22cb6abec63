/-
  Layer 10 (mute): the law MuteTotal, over the contracts (printed by tools/gen-mutetotal.py).
-/
import Derived.Test.YthbkfjnpdcfepaaMuteK
namespace Go.Proofs.Ythbkfjnpdcfepaa
set_option maxRecDepth 10000
open Go.RowKit

theorem muteTotal_far (A : Option Addr) (l c : Nat) (x0 x1 x2 b : Int) (w : World) (hf : 90 < l) :
    Calls Try.prog 6 #[.slice A l c, .agg #[.int .i64 x0, .int .i64 x1, .int .i64 x2], .int .i64 b] w fun e w' => e = .returned (.bool true) ∧ Below w.heap.size w w' := by
  have i1 : ((90 : Int) < (l : Int)) = True := eq_true (by omega)
  clear hf
  go_enter Try.func6, Try.ntmps6
  go_wp2
  go_ret
  exact ⟨rfl, below_new _ _⟩

set_option maxHeartbeats 4000000 in
theorem muteTotal_err (HC : Hid MutedK) (A : Option Addr) (l c : Nat) (ls : List Win) (x0 x1 x2 b : Int) (w : World) (ea ec : Int) (TA TC : List Win) (qa qc : Nat) (hA : WinsAt w w.heap.size A ls) (hf : l ≤ 90)
    (G1 : ∀ (W : World) (B : Option Addr) (d : Nat) (_h : WinsAt W W.heap.size A ls) (_h2 : WinsAt W W.heap.size B [⟨x0, x1, x2⟩]) (_hn : Roomy B [⟨x0, x1, x2⟩] d), Hid (Calls Try.prog 8 #[.slice A l c, .slice B 1 d] W (GivesW W qa TA ea)))
    (G2 : ∀ (W : World) (B : Option Addr) (d : Nat) (_h : WinsAt W W.heap.size A ls) (_h2 : WinsAt W W.heap.size B [⟨x0, x1, x2⟩]) (_hn : Roomy B [⟨x0, x1, x2⟩] d), Hid (Calls Try.prog 10 #[.slice A l c, .slice B 1 d] W (GivesW W qc TC ec)))
    (hE : ((ea == 0) = false ∧ (ea != 0) = true) ∨ (((ea == 0) = true ∧ (ea != 0) = false) ∧ ((ec == 0) = false ∧ (ec != 0) = true))) :
    Calls Try.prog 6 #[.slice A l c, .agg #[.int .i64 x0, .int .i64 x1, .int .i64 x2], .int .i64 b] w fun e w' => e = .returned (.bool true) ∧ Below w.heap.size w w' := by
  have HS0 := Lib.hid (((St.start w).more (winF A ls) hA).new #[.int .i64 x0, .int .i64 x1, .int .i64 x2] 32)
  have i1 : ((90 : Int) < (l : Int)) = False := eq_false (by omega)
  clear hA hf
  go_enter Try.func6, Try.ntmps6
  have HS := HS0
  go_wp2_with (first
    | (refine wpList_load_st rfl 32 _ rfl HS.out 0 _ _ rfl rfl _ Try.underlying32 rfl (by rfl) ?_))
  obtain ⟨u, hu⟩ : ∃ W, W = w.alloc (.cells #[.int .i64 x0, .int .i64 x1, .int .i64 x2] 32) := ⟨_, rfl⟩
  have Hus : Hid (u.heap.size = w.heap.size + 1) := Lib.hid (by rw [hu]; simp)
  rw [← hu] at HS ⊢
  clear hu HS0
  have T1 := WinsAt.one u x0 x1 x2 32
  rw [Hus.out] at T1
  have HN := Lib.hid (HS.out.on (below_new u (.cells #[.int .i64 x0, .int .i64 x1, .int .i64 x2] 32)))
  refine ((G1 _ _ _ (HN.out.fact 0 rfl) T1 ⟨(fun e => nomatch e), (by simp)⟩).out).mono ?_
  rintro e w1 ⟨A1, c1, rfl, hO, hB⟩
  replace HS := Lib.hid ((HN.out.on hB).more (winF A1 TA) hO.rows.1)
  have N1 := Lib.hid hO.rows.2
  clear hO hB G1 HN T1 Hus
  obtain ⟨p1, hp1⟩ : ∃ p, p = w.heap.size := ⟨_, rfl⟩
  rw [← hp1] at HS ⊢
  clear hp1
  go_wp2_with (first
    | (refine wpList_load_st rfl 32 _ rfl HS.out 0 _ _ rfl rfl _ Try.underlying32 rfl (by rfl) ?_))
  have T2 := WinsAt.one w1 x0 x1 x2 32
  have HN := Lib.hid (HS.out.on (below_new w1 (.cells #[.int .i64 x0, .int .i64 x1, .int .i64 x2] 32)))
  refine ((G2 _ _ _ (HN.out.fact 1 rfl) T2 ⟨(fun e => nomatch e), (by simp)⟩).out).mono ?_
  rintro e w2 ⟨A2, c2, rfl, hO, hB⟩
  replace HS := Lib.hid ((HN.out.on hB).more (winF A2 TC) hO.rows.1)
  have N2 := Lib.hid hO.rows.2
  clear hO hB G2 HN T2
  clear N1 N2
  rcases hE with ⟨a1, b1⟩ | ⟨⟨a1, b1⟩, a2, b2⟩
  all_goals
    go_wp2_with fail
    refine (HC.out _).mono ?_
    rintro e w3 ⟨rfl, hB⟩
    replace HS := Lib.hid (HS.out.on hB)
    clear hB
    go_wp2
    go_ret
    exact ⟨rfl, HS.out.below⟩

set_option maxHeartbeats 4000000 in
theorem muteTotal_ok (HM : Hid MuteK) (HT : Hid WSameK) (HC : Hid MutedK) (A : Option Addr) (l c : Nat) (ls : List Win) (x0 x1 x2 b : Int) (w : World) (hl : l = ls.length) (hA : WinsAt w w.heap.size A ls) (h0 : Roomy A ls c) (hf : l ≤ 90) (hE : Mu.turnE ls [⟨x0, x1, x2⟩] true = 0) (hE2 : Mu.turnE ls [⟨x0, x1, x2⟩] false = 0) :
    Calls Try.prog 6 #[.slice A l c, .agg #[.int .i64 x0, .int .i64 x1, .int .i64 x2], .int .i64 b] w fun e w' => e = .returned (.bool true) ∧ Below w.heap.size w w' := by
  have HS0 := Lib.hid (((St.start w).more (winF A ls) hA).new #[.int .i64 x0, .int .i64 x1, .int .i64 x2] 32)
  have i1 : ((90 : Int) < (l : Int)) = False := eq_false (by omega)
  have hsh := Mu.total_share (bed := b) hE hE2
  have hw := Mu.may_iff.1 ((Mu.turnE_iff.1 hE).2.1 ⟨x0, x1, x2⟩ (by simp))
  simp only at hsh hw
  obtain ⟨s1, s2, s3⟩ := hsh
  obtain ⟨TA, hTA⟩ : ∃ T, T = Mu.turn ls [⟨x0, x1, x2⟩] true := ⟨_, rfl⟩
  obtain ⟨TC, hTC⟩ : ∃ T, T = Mu.turn ls [⟨x0, x1, x2⟩] false := ⟨_, rfl⟩
  obtain ⟨qa, hqa⟩ : ∃ q, q = TA.length := ⟨_, rfl⟩
  obtain ⟨qc, hqc⟩ : ∃ q, q = TC.length := ⟨_, rfl⟩
  have hla : qa ≤ 1000 := by rw [hqa, hTA]; have := Mu.turn_len ls [⟨x0, x1, x2⟩] true; omega
  have hlc : qc ≤ 1000 := by rw [hqc, hTC]; have := Mu.turn_len ls [⟨x0, x1, x2⟩] false; omega
  have G1 := fun (W : World) (B : Option Addr) (d : Nat) (h : WinsAt W W.heap.size A ls) (h' : WinsAt W W.heap.size B [⟨x0, x1, x2⟩]) (hn : Roomy B [⟨x0, x1, x2⟩] d) => Lib.hid (by have z := HM.out.add A l c ls B 1 d [⟨x0, x1, x2⟩] qa W ⟨hl, h, h0, by omega⟩ ⟨rfl, h', hn, by omega⟩ (by rw [hqa, hTA]); rw [hE, ← hTA] at z; exact z)
  have G2 := fun (W : World) (B : Option Addr) (d : Nat) (h : WinsAt W W.heap.size A ls) (h' : WinsAt W W.heap.size B [⟨x0, x1, x2⟩]) (hn : Roomy B [⟨x0, x1, x2⟩] d) => Lib.hid (by have z := HM.out.cut A l c ls B 1 d [⟨x0, x1, x2⟩] qc W ⟨hl, h, h0, by omega⟩ ⟨rfl, h', hn, by omega⟩ (by rw [hqc, hTC]); rw [hE2, ← hTC] at z; exact z)
  rw [← hTA] at s1 s2 s3
  rw [← hTC] at s2 s3
  have G3 := fun (W : World) (A2 : Option Addr) (c2 : Nat) (B : Option Addr) (d : Nat) (h : WinsAt W W.heap.size A2 TA) (hm : Roomy A2 TA c2) (h' : WinsAt W W.heap.size B [⟨x0, x1, x2⟩]) (hn : Roomy B [⟨x0, x1, x2⟩] d) => Lib.hid (by have z := HM.out.cut A2 qa c2 TA B 1 d [⟨x0, x1, x2⟩] qc W ⟨hqa, h, hm, hla⟩ ⟨rfl, h', hn, by omega⟩ (by rw [s2]; exact hqc); rw [s1, s2] at z; exact z)
  obtain ⟨na, hna⟩ : ∃ n, n = Mu.total TA b := ⟨_, rfl⟩
  obtain ⟨nc, hnc⟩ : ∃ n, n = Mu.total TC b := ⟨_, rfl⟩
  have T1 := fun (W : World) (A2 : Option Addr) (c2 : Nat) (h : WinsAt W W.heap.size A2 TA) (hm : Roomy A2 TA c2) => Lib.hid (by have z := HM.out.total A2 qa c2 TA b W ⟨hqa, h, hm, hla⟩; rw [← hna] at z; exact z)
  have T2 := fun (W : World) (A2 : Option Addr) (c2 : Nat) (h : WinsAt W W.heap.size A2 TC) (hm : Roomy A2 TC c2) => Lib.hid (by have z := HM.out.total A2 qc c2 TC b W ⟨hqc, h, hm, hlc⟩; rw [← hnc] at z; exact z)
  have S1 := fun (W : World) (A2 A3 : Option Addr) (c2 c3 : Nat) (h : WinsAt W W.heap.size A2 TC) (h' : WinsAt W W.heap.size A3 TC) => Lib.hid (HT.out A2 A3 qc c2 c3 TC W hqc h h' hlc)
  rw [← hna, ← hnc] at s3
  have hbd : 0 ≤ nc ∧ nc ≤ 1000000000 := by
    have hs := (Mu.turn_spec hE2).1
    rw [← hTC] at hs
    have h1 := Mu.total_cnt (bed := b) hs
    have h2 := Mu.cnt_le (fun t => Mu.has TC b t) 1000000000
    rw [← hnc] at h1
    omega
  have Hbd := Lib.hid hbd
  have Hs3 := Lib.hid s3
  have Hw := Lib.hid hw
  clear hA hf hE hE2 s1 s2 s3 hTA hTC hqa hqc hla hlc hna hnc hbd hw hl h0
  go_enter Try.func6, Try.ntmps6
  have HS := HS0
  go_wp2_with (first
    | (refine wpList_load_st rfl 32 _ rfl HS.out 0 _ _ rfl rfl _ Try.underlying32 rfl (by rfl) ?_))
  obtain ⟨u, hu⟩ : ∃ W, W = w.alloc (.cells #[.int .i64 x0, .int .i64 x1, .int .i64 x2] 32) := ⟨_, rfl⟩
  have Hus : Hid (u.heap.size = w.heap.size + 1) := Lib.hid (by rw [hu]; simp)
  rw [← hu] at HS ⊢
  clear hu HS0
  have T1 := WinsAt.one u x0 x1 x2 32
  rw [Hus.out] at T1
  have HN := Lib.hid (HS.out.on (below_new u (.cells #[.int .i64 x0, .int .i64 x1, .int .i64 x2] 32)))
  refine ((G1 _ _ _ (HN.out.fact 0 rfl) T1 ⟨(fun e => nomatch e), (by simp)⟩).out).mono ?_
  rintro e w1 ⟨A1, c1, rfl, hO, hB⟩
  replace HS := Lib.hid ((HN.out.on hB).more (winF A1 TA) hO.rows.1)
  have N1 := Lib.hid hO.rows.2
  clear hO hB G1 HN T1 Hus
  obtain ⟨p1, hp1⟩ : ∃ p, p = w.heap.size := ⟨_, rfl⟩
  rw [← hp1] at HS ⊢
  clear hp1
  go_wp2_with (first
    | (refine wpList_load_st rfl 32 _ rfl HS.out 0 _ _ rfl rfl _ Try.underlying32 rfl (by rfl) ?_))
  have T2 := WinsAt.one w1 x0 x1 x2 32
  have HN := Lib.hid (HS.out.on (below_new w1 (.cells #[.int .i64 x0, .int .i64 x1, .int .i64 x2] 32)))
  refine ((G2 _ _ _ (HN.out.fact 1 rfl) T2 ⟨(fun e => nomatch e), (by simp)⟩).out).mono ?_
  rintro e w2 ⟨A2, c2, rfl, hO, hB⟩
  replace HS := Lib.hid ((HN.out.on hB).more (winF A2 TC) hO.rows.1)
  have N2 := Lib.hid hO.rows.2
  clear hO hB G2 HN T2
  go_wp2_with (first
    | (refine wpList_load_st rfl 32 _ rfl HS.out 0 _ _ rfl rfl _ Try.underlying32 rfl (by rfl) ?_))
  have T3 := WinsAt.one w2 x0 x1 x2 32
  have HN := Lib.hid (HS.out.on (below_new w2 (.cells #[.int .i64 x0, .int .i64 x1, .int .i64 x2] 32)))
  refine ((G3 _ A1 c1 _ _ (HN.out.fact 1 rfl) N1.out T3 ⟨(fun e => nomatch e), (by simp)⟩).out).mono ?_
  rintro e w3 ⟨A3, c3, rfl, hO, hB⟩
  replace HS := Lib.hid ((HN.out.on hB).more (winF A3 TC) hO.rows.1)
  clear hO hB G3 HN T3
  have q0 := HS.out.cell 0 rfl 0 rfl
  have q1 := HS.out.cell 0 rfl 1 rfl
  have q2 := HS.out.cell 0 rfl 2 rfl
  by_cases hb : b = x0
  · subst hb
    have e1 : (b == b) = true := beq_self_eq_true b
    have e2 : na = nc + (x2 - x1) := by have := Hs3.out; rw [if_pos rfl] at this; exact this
    subst e2
    have W1' : IntKind.i64.wrap (x2 - x1) = x2 - x1 := by have := Hw.out; rw [IntKind.wrap_i64]; omega
    have W2' : IntKind.i64.wrap (nc + (x2 - x1)) = nc + (x2 - x1) := by have := Hw.out; have := Hbd.out; rw [IntKind.wrap_i64]; omega
    have e3 : (nc + (x2 - x1) == nc + (x2 - x1)) = true := beq_self_eq_true _
    clear Hs3
    go_wp2_with fail
    refine (HC.out _).mono ?_
    rintro e w4 ⟨rfl, hB⟩
    replace HS := Lib.hid (HS.out.on hB)
    clear hB q0 q1 q2
    go_wp2_with fail
    refine ((S1 _ A3 A2 c3 c2 (HS.out.fact 0 rfl) (HS.out.fact 1 rfl)).out).mono ?_
    rintro e w5 ⟨rfl, hB⟩
    replace HS := Lib.hid (HS.out.on hB)
    clear hB S1
    go_wp2_with fail
    refine ((T1 _ A1 c1 (HS.out.fact 2 rfl) N1.out).out).mono ?_
    rintro e w6 ⟨rfl, hB⟩
    replace HS := Lib.hid (HS.out.on hB)
    clear hB T1
    go_wp2_with fail
    refine ((T2 _ A2 c2 (HS.out.fact 1 rfl) N2.out).out).mono ?_
    rintro e w7 ⟨rfl, hB⟩
    replace HS := Lib.hid (HS.out.on hB)
    clear hB T2
    go_wp2
    go_ret
    exact ⟨rfl, HS.out.below⟩
  · have e1 : (b == x0) = false := by rw [beq_eq_false_iff_ne]; exact hb
    have e2 : na = nc + 0 := by have := Hs3.out; rw [if_neg hb] at this; exact this
    have e2' : na = nc := by omega
    subst e2'
    have W2' : IntKind.i64.wrap (na + 0) = na := by have := Hbd.out; rw [IntKind.wrap_i64]; omega
    have W3' : IntKind.i64.wrap na = na := by have := Hbd.out; rw [IntKind.wrap_i64]; omega
    have e3 : (na == na) = true := beq_self_eq_true _
    clear Hs3 hb e2
    go_wp2_with fail
    refine (HC.out _).mono ?_
    rintro e w4 ⟨rfl, hB⟩
    replace HS := Lib.hid (HS.out.on hB)
    clear hB q0 q1 q2
    go_wp2_with fail
    refine ((S1 _ A3 A2 c3 c2 (HS.out.fact 0 rfl) (HS.out.fact 1 rfl)).out).mono ?_
    rintro e w5 ⟨rfl, hB⟩
    replace HS := Lib.hid (HS.out.on hB)
    clear hB S1
    go_wp2_with fail
    refine ((T1 _ A1 c1 (HS.out.fact 2 rfl) N1.out).out).mono ?_
    rintro e w6 ⟨rfl, hB⟩
    replace HS := Lib.hid (HS.out.on hB)
    clear hB T1
    go_wp2_with fail
    refine ((T2 _ A2 c2 (HS.out.fact 1 rfl) N2.out).out).mono ?_
    rintro e w7 ⟨rfl, hB⟩
    replace HS := Lib.hid (HS.out.on hB)
    clear hB T2
    go_wp2
    go_ret
    exact ⟨rfl, HS.out.below⟩

theorem muteTotal_walk (HM : Hid MuteK) (HT : Hid WSameK) (HC : Hid MutedK) (A : Option Addr) (c : Nat) (ls : List Win) (x0 x1 x2 b : Int) (w : World) (hA : WinsAt w w.heap.size A ls) (h0 : Roomy A ls c) :
    Calls Try.prog 6 #[.slice A ls.length c, .agg #[.int .i64 x0, .int .i64 x1, .int .i64 x2], .int .i64 b] w fun e w' => e = .returned (.bool true) ∧ Below w.heap.size w w' := by
  by_cases hf : 90 < ls.length
  · exact muteTotal_far A ls.length c x0 x1 x2 b w hf
  have E := fun hE => muteTotal_err HC A ls.length c ls x0 x1 x2 b w (Mu.turnE ls [⟨x0, x1, x2⟩] true) (Mu.turnE ls [⟨x0, x1, x2⟩] false) _ _ _ _ hA (by omega)
    (fun W B d h h' hn => Lib.hid (HM.out.add A ls.length c ls B 1 d [⟨x0, x1, x2⟩] _ W ⟨rfl, h, h0, by omega⟩ ⟨rfl, h', hn, by omega⟩ rfl))
    (fun W B d h h' hn => Lib.hid (HM.out.cut A ls.length c ls B 1 d [⟨x0, x1, x2⟩] _ W ⟨rfl, h, h0, by omega⟩ ⟨rfl, h', hn, by omega⟩ rfl)) hE
  have nz : ∀ e : Int, e ≠ 0 → (e == 0) = false ∧ (e != 0) = true := fun e h => by
    have h1 : (e == 0) = false := by rw [beq_eq_false_iff_ne]; exact h
    exact ⟨h1, by rw [bne, h1]; rfl⟩
  by_cases h1 : Mu.turnE ls [⟨x0, x1, x2⟩] true = 0
  · by_cases h2 : Mu.turnE ls [⟨x0, x1, x2⟩] false = 0
    · exact muteTotal_ok HM HT HC A ls.length c ls x0 x1 x2 b w rfl hA h0 (by omega) h1 h2
    · exact E (Or.inr ⟨⟨by rw [h1]; rfl, by rw [h1]; rfl⟩, nz _ h2⟩)
  · exact E (Or.inl (nz _ h1))
end Go.Proofs.Ythbkfjnpdcfepaa
