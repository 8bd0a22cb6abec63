/-
  Layer 15 (slots): the references' Is, Note, note and Better.
-/
import Derived.Test.YteepemibmjpnfaaXRefFrame
import Derived.Test.YteepemibmjpnfaaXRefGet
import Derived.Test.YteepemibmjpnfaaXSloFar
namespace Go.Proofs.Yteepemibmjpnfaa
set_option maxRecDepth 10000
open Go.RowKit

set_option maxHeartbeats 1000000 in
theorem slIs_go (p q r : Bool) (m n : Int) (k l x y : ByteArray) (w : World) (hr : (m == n) = r)
    (p1 : ∀ W : World, Hid (Calls Try.prog 44 #[.agg #[.int .i64 m, .string k, .string l]] W fun e w' => e = .returned (.bool p) ∧ Below W.heap.size W w'))
    (p2 : ∀ W : World, Hid (Calls Try.prog 44 #[.agg #[.int .i64 n, .string x, .string y]] W fun e w' => e = .returned (.bool q) ∧ Below W.heap.size W w')) :
    Calls Try.prog 24 #[.agg #[.int .i64 m, .string k, .string l, .int .i64 n, .string x, .string y]] w fun e w' => e = .returned (.bool ((p && q) && r)) ∧ Below w.heap.size w w' := by
  have S0 := Lib.hid ((St.start w).new #[.int .i64 m, .string k, .string l, .int .i64 n, .string x, .string y] 25)
  cases p
  case false =>
    clear hr
    go_enter Try.func24, Try.ntmps24
    go_wp2_with (refine wpList_loadm_st (by rfl) 23 _ rfl S0.out 0 _ _ rfl 0 rfl [.int .i64 m, .string k, .string l] rfl _ Try.underlying23 rfl (by rfl) ?_)
    refine (p1 _).out.mono ?_
    rintro e w1 ⟨rfl, hB⟩
    have S1 := Lib.hid (S0.out.on hB)
    clear hB S0 p1
    go_wp2
    go_ret
    exact ⟨rfl, S1.out.below⟩
  case true =>
    cases q
    case false =>
      clear hr
      go_enter Try.func24, Try.ntmps24
      go_wp2_with (refine wpList_loadm_st (by rfl) 23 _ rfl S0.out 0 _ _ rfl 0 rfl [.int .i64 m, .string k, .string l] rfl _ Try.underlying23 rfl (by rfl) ?_)
      refine (p1 _).out.mono ?_
      rintro e w1 ⟨rfl, hB⟩
      have S1 := Lib.hid (S0.out.on hB)
      clear hB S0 p1
      go_wp2_with (refine wpList_loadm_st (by rfl) 23 _ rfl S1.out 0 _ _ rfl 3 rfl [.int .i64 n, .string x, .string y] rfl _ Try.underlying23 rfl (by rfl) ?_)
      refine (p2 _).out.mono ?_
      rintro e w2 ⟨rfl, hB⟩
      have S2 := Lib.hid (S1.out.on hB)
      clear hB S1 p2
      go_wp2
      go_ret
      exact ⟨rfl, S2.out.below⟩
    case true =>
      cases r
      all_goals
        go_enter Try.func24, Try.ntmps24
        go_wp2_with (refine wpList_loadm_st (by rfl) 23 _ rfl S0.out 0 _ _ rfl 0 rfl [.int .i64 m, .string k, .string l] rfl _ Try.underlying23 rfl (by rfl) ?_)
        refine (p1 _).out.mono ?_
        rintro e w1 ⟨rfl, hB⟩
        have S1 := Lib.hid (S0.out.on hB)
        clear hB S0 p1
        go_wp2_with (refine wpList_loadm_st (by rfl) 23 _ rfl S1.out 0 _ _ rfl 3 rfl [.int .i64 n, .string x, .string y] rfl _ Try.underlying23 rfl (by rfl) ?_)
        refine (p2 _).out.mono ?_
        rintro e w2 ⟨rfl, hB⟩
        have S2 := Lib.hid (S1.out.on hB)
        clear hB S1 p2
        have h0 := S2.out.cell 0 rfl 0 rfl
        have h3 := S2.out.cell 0 rfl 3 rfl
        go_wp2
        go_ret
        exact ⟨rfl, S2.out.below⟩
theorem SLIs_any (s : Slo) (w : World) (h1 : s.a.kept.size ≤ 9000 ∧ s.a.loose.size ≤ 9000) (h2 : s.b.kept.size ≤ 9000 ∧ s.b.loose.size ≤ 9000) :
    Calls Try.prog 24 #[.agg (Sl.v s)] w fun e w' => e = .returned (.bool (Sl.is s)) ∧ Below w.heap.size w w' := by
  have h := slIs_go _ _ _ s.a.most s.b.most s.a.kept s.a.loose s.b.kept s.b.loose w rfl (fun W => Lib.hid (FRIs_any _ _ _ h1 W)) (fun W => Lib.hid (FRIs_any _ _ _ h2 W))
  exact h

set_option maxHeartbeats 1000000 in
theorem SLNote_any (n : Int) (t : ByteArray) (w : World) (hn : Sl.nOk n = true) (ht : t.size ≤ 1000) :
    Calls Try.prog 31 #[.int .i64 n, .string t] w fun e w' => e = .returned (.string (strOf (Sl.noteB n (bl t)))) ∧ Below w.heap.size w w' := by
  have hls := Sl.lay_le hn
  have p1 := fun W => Lib.hid (RInt_at n W (Sl.fits_n hn))
  have hb : (Wm.lay n ++ bl t).length ≤ 3000 := by rw [List.length_append, bl_length]; omega
  obtain ⟨u, hu⟩ : ∃ u, u = strOf (Wm.lay n) := ⟨_, rfl⟩
  have hus : u.size ≤ 5 := by rw [hu, strOf_size]; exact hls
  have p2 := fun W => RPut_any 2 (u ++ t) W (by rw [ByteArray.size_append]; unfold maxLen; omega)
  have eb : bl (u ++ t) = Wm.lay n ++ bl t := by rw [bl_append, hu, bl_strOf]
  have e3 := Fm.put_yes Sl.kind2 hb
  rw [eb, e3.1, e3.2] at p2
  rw [← hu] at p1
  have P2 := fun W => Lib.hid (p2 W)
  have hcat : ¬ 9223372036854775807 < u.size + t.size := by omega
  clear p2 hls hb hu hus eb e3 hn ht
  unfold Sl.noteB
  go_enter Try.func31, Try.ntmps31
  go_wp2_with fail
  refine (p1 _).out.mono ?_
  rintro e w1 ⟨rfl, hB⟩
  have Hb := Lib.hid hB
  clear hB p1
  go_wp2_with fail
  refine (P2 _).out.mono ?_
  rintro e w2 ⟨rfl, hB⟩
  have Hb2 := Lib.hid (below2 Hb.out hB)
  clear hB P2 hcat
  go_wp2
  go_ret
  exact ⟨rfl, Hb2.out⟩

set_option maxHeartbeats 2000000 in
theorem slnote_no (s T R : ByteArray) (k e : Int) (w : World) (h : (e != 0) = true ∨ (e = 0 ∧ (R.toList.isEmpty = false ∨ (R.toList.isEmpty = true ∧ (k != 2) = true))))
    (p1 : ∀ W : World, Hid (Calls Try.prog 54 #[.string s] W fun x w' => x = .returned (.tuple #[.int .i64 k, .string T, .string R, .int .i64 e]) ∧ Below W.heap.size W w')) :
    Calls Try.prog 37 #[.string s] w fun e w' => e = .returned (.tuple #[.int .i64 0, .string ⟨#[]⟩, .bool false]) ∧ Below w.heap.size w w' := by
  rcases h with h | ⟨rfl, h | ⟨h, h'⟩⟩
  all_goals
    go_enter Try.func37, Try.ntmps37
    go_wp2_with fail
    refine (p1 _).out.mono ?_
    rintro e w1 ⟨rfl, hB⟩
    have Hb := Lib.hid hB
    clear hB p1
    go_wp2
    go_ret3
    exact ⟨rfl, Hb.out⟩
set_option maxHeartbeats 2000000 in
theorem slnote_yes (s T R T2 : ByteArray) (n e : Int) (w : World) (h : R.toList.isEmpty = true) (p q r : Bool) (hp : (e == 0) = p) (hq : ((1 : Int) ≤ n) = (q = true)) (hr : (n ≤ 1000000000) = (r = true))
    (p1 : ∀ W : World, Hid (Calls Try.prog 54 #[.string s] W fun x w' => x = .returned (.tuple #[.int .i64 2, .string T, .string R, .int .i64 0]) ∧ Below W.heap.size W w'))
    (p2 : ∀ W : World, Hid (Calls Try.prog 55 #[.string T] W fun x w' => x = .returned (.tuple #[.int .i64 n, .string T2, .int .i64 e]) ∧ Below W.heap.size W w')) :
    Calls Try.prog 37 #[.string s] w fun e w' => e = .returned (.tuple #[.int .i64 n, .string T2, .bool (p && (q && r))]) ∧ Below w.heap.size w w' := by
  cases p <;> cases q <;> cases r
  all_goals
    simp only [Bool.false_eq_true, eq_self] at hq hr
    go_enter Try.func37, Try.ntmps37
    go_wp2_with fail
    refine (p1 _).out.mono ?_
    rintro e w1 ⟨rfl, hB⟩
    have Hb := Lib.hid hB
    clear hB p1
    go_wp2_with fail
    refine (p2 _).out.mono ?_
    rintro e w2 ⟨rfl, hB⟩
    have Hb2 := Lib.hid (below2 Hb.out hB)
    clear hB p2
    go_wp2
    go_ret3
    exact ⟨rfl, Hb2.out⟩
theorem isEmpty_strOf (l : List UInt8) : (strOf l).toList.isEmpty = l.isEmpty := by rw [strOf_toList]
theorem SLnote_any (s : ByteArray) (w : World) (hs : s.size ≤ 18000) :
    Calls Try.prog 37 #[.string s] w fun e w' => e = .returned (.tuple #[.int .i64 (Sl.raw (bl s)).1, .string (strOf (Sl.raw (bl s)).2.1), .bool (Sl.raw (bl s)).2.2]) ∧ Below w.heap.size w w' := by
  obtain ⟨k, t, r, e, hg⟩ : ∃ k t r e, Fm.get (bl s) = (k, t, r, e) := ⟨_, _, _, _, rfl⟩
  have p1 : ∀ W : World, Hid (Calls Try.prog 54 #[.string s] W fun x w' => x = .returned (.tuple #[.int .i64 k, .string (strOf t), .string (strOf r), .int .i64 e]) ∧ Below W.heap.size W w') := fun W => Lib.hid (by
    have := RGet_any s W (Nat.le_trans hs (by unfold big; decide))
    rw [hg] at this; exact this)
  by_cases h : e = 0 ∧ r = [] ∧ k = 2
  · obtain ⟨rfl, rfl, rfl⟩ := h
    have hok := (Fm.get_ok hg).2.2
    have hlen : t.length ≤ 18000 := by
      have h3 := congrArg List.length hok
      have h4 : t.length ≤ (Fm.frame 2 t).length := by unfold Fm.frame Fm.ahead Fm.textL; simp only [List.length_append]; omega
      rw [List.length_append, bl_length] at h3; omega
    have p2 := fun W => Lib.hid (RGetInt_any (strOf t) W (by rw [strOf_size]; unfold maxLen; omega))
    rw [bl_strOf] at p2
    have e9 : Sl.raw (bl s) = ((Wm.getInt t).1, (Wm.getInt t).2.1, decide ((Wm.getInt t).2.2 = 0) && Sl.nOk (Wm.getInt t).1) := by unfold Sl.raw; rw [hg]; exact if_pos ⟨rfl, rfl, rfl⟩
    rw [e9]
    have := slnote_yes s (strOf t) (strOf []) (strOf (Wm.getInt t).2.1) (Wm.getInt t).1 (Wm.getInt t).2.2 w (by rw [isEmpty_strOf]; rfl) _ (decide (1 ≤ (Wm.getInt t).1)) (decide ((Wm.getInt t).1 ≤ 1000000000)) rfl (by simp) (by simp) p1 p2
    have e8 : ((Wm.getInt t).2.2 == 0) = decide ((Wm.getInt t).2.2 = 0) := by rw [Bool.eq_iff_iff]; simp
    rw [e8] at this
    exact this
  · have e9 : Sl.raw (bl s) = (0, [], false) := by unfold Sl.raw; rw [hg]; exact if_neg h
    rw [e9]
    refine slnote_no s (strOf t) (strOf r) k e w ?_ p1
    by_cases h1 : e = 0
    · refine Or.inr ⟨h1, ?_⟩
      rw [isEmpty_strOf]
      by_cases h2 : r = []
      · refine Or.inr ⟨by rw [h2]; rfl, ?_⟩
        rw [bne_iff_ne]; exact fun h3 => h ⟨h1, h2, h3⟩
      · left; rw [Bool.eq_false_iff]; exact fun h3 => h2 (List.isEmpty_iff.1 h3)
    · left; rw [bne_iff_ne]; exact h1

set_option maxHeartbeats 2000000 in
theorem slBetter_go (a b s t x : ByteArray) (n m y z : Int) (ok is : Bool) (w : World)
    (h : (ok = true ∧ is = false ∧ x = s ∧ y = n ∧ z = 0) ∨ (ok = true ∧ is = true ∧ (m ≤ n) = True ∧ x = s ∧ y = n ∧ z = 0) ∨ (ok = true ∧ is = true ∧ (m ≤ n) = False ∧ x = t ∧ y = m ∧ z = 1) ∨ (ok = false ∧ is = true ∧ x = t ∧ y = m ∧ z = 1) ∨ (ok = false ∧ is = false ∧ x = ⟨#[]⟩ ∧ y = 0 ∧ z = -1))
    (p1 : ∀ W : World, Hid (Calls Try.prog 37 #[.string a] W fun x w' => x = .returned (.tuple #[.int .i64 n, .string s, .bool ok]) ∧ Below W.heap.size W w'))
    (p2 : ∀ W : World, Hid (Calls Try.prog 37 #[.string b] W fun x w' => x = .returned (.tuple #[.int .i64 m, .string t, .bool is]) ∧ Below W.heap.size W w')) :
    Calls Try.prog 16 #[.string a, .string b] w fun e w' => e = .returned (.tuple #[.string x, .int .i64 y, .int .i64 z]) ∧ Below w.heap.size w w' := by
  rcases h with ⟨rfl, rfl, rfl, rfl, rfl⟩ | ⟨rfl, rfl, h, rfl, rfl, rfl⟩ | ⟨rfl, rfl, h, rfl, rfl, rfl⟩ | ⟨rfl, rfl, rfl, rfl, rfl⟩ | ⟨rfl, rfl, rfl, rfl, rfl⟩
  all_goals
    go_enter Try.func16, Try.ntmps16
    go_wp2_with fail
    refine (p1 _).out.mono ?_
    rintro e w1 ⟨rfl, hB⟩
    have Hb := Lib.hid hB
    clear hB p1
    go_wp2_with fail
    refine (p2 _).out.mono ?_
    rintro e w2 ⟨rfl, hB⟩
    have Hb2 := Lib.hid (below2 Hb.out hB)
    clear hB p2
    go_wp2
    go_ret3
    exact ⟨rfl, Hb2.out⟩
theorem SLBetter_any (a b : ByteArray) (w : World) (ha : a.size ≤ 18000) (hb : b.size ≤ 18000) :
    Calls Try.prog 16 #[.string a, .string b] w fun e w' => e = .returned (.tuple #[.string (strOf (Sl.better (bl a) (bl b)).1), .int .i64 (Sl.better (bl a) (bl b)).2.1, .int .i64 (Sl.better (bl a) (bl b)).2.2]) ∧ Below w.heap.size w w' := by
  have p1 := fun W => Lib.hid (SLnote_any a W ha)
  have p2 := fun W => Lib.hid (SLnote_any b W hb)
  refine slBetter_go a b _ _ _ _ _ _ _ _ _ w ?_ p1 p2
  unfold Sl.better
  cases h1 : (Sl.raw (bl a)).2.2 <;> cases h2 : (Sl.raw (bl b)).2.2
  · exact .inr (.inr (.inr (.inr ⟨rfl, rfl, rfl, rfl, rfl⟩)))
  · exact .inr (.inr (.inr (.inl ⟨rfl, rfl, rfl, rfl, rfl⟩)))
  · rw [if_pos ⟨rfl, Or.inl rfl⟩]
    exact .inl ⟨rfl, rfl, rfl, rfl, rfl⟩
  · by_cases h3 : (Sl.raw (bl b)).1 ≤ (Sl.raw (bl a)).1
    · rw [if_pos ⟨rfl, Or.inr h3⟩]
      exact .inr (.inl ⟨rfl, rfl, eq_true h3, rfl, rfl, rfl⟩)
    · rw [if_neg (fun h => h.2.elim (fun h => by cases h) h3), if_pos rfl]
      exact .inr (.inr (.inl ⟨rfl, rfl, eq_false h3, rfl, rfl, rfl⟩))
end Go.Proofs.Yteepemibmjpnfaa
