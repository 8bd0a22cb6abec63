/-
  The document's answers for layer 1: what the reference's GetInt, GetInts and GetText hand back: what wire's do.
-/
import Derived.Test.YteepemibmjpnfaaXRefWire
import Derived.Test.YteepemibmjpnfaaXWireR2
namespace Go.Proofs.Yteepemibmjpnfaa
set_option maxRecDepth 10000
open Go.RowKit

/-- What holds ahead of each round of the reference's first loop. -/
def RAtRel (s : ByteArray) (at_ odd : Value) : Prop :=
  ∃ k : Nat, k ≤ s.size ∧ at_ = .int .i64 (k : Int) ∧ odd = .bool (Wm.oddB ((bl s).take k)) ∧ (∀ j (hj : j < (bl s).length), j < k → Wm.isEnd (bl s)[j] = false)

/-- What holds ahead of each round of the reference's second loop. -/
def RValRel (s : ByteArray) (p : Nat) (n i : Value) : Prop :=
  ∃ k : Nat, k ≤ p ∧ i = .int .i64 ((k : Int) - 1) ∧ n = .int .i64 (Wm.val (((bl s).take p).drop k) : Int)

set_option maxRecDepth 100000 in
set_option maxHeartbeats 2000000 in
theorem RGetInt_any (s : ByteArray) (w : World) (hs : s.size ≤ maxLen) :
    Calls Try.prog 55 #[.string s] w fun e w' => e = .returned (.tuple #[.int .i64 (Wm.getInt (bl s)).1, .string (strOf (Wm.getInt (bl s)).2.1), .int .i64 (Wm.getInt (bl s)).2.2]) ∧ Below w.heap.size w w' := by
  unfold maxLen at hs
  go_enter Try.func55, Try.ntmps55
  go_wp2_with fail
  go_loop [5, 6] (fun a o => RAtRel s a o) (fun a _ => s.size - (intOf a).toNat)
  case atStart => exact ⟨0, Nat.zero_le _, rfl, rfl, fun j _ h => absurd h (Nat.not_lt_zero _)⟩
  case round =>
    obtain ⟨k, hk, rfl, rfl, hend⟩ := hrel
    have Hend := Lib.hid hend
    clear hend
    obtain ⟨O, hO⟩ : ∃ O, O = Wm.oddB ((bl s).take k) := ⟨_, rfl⟩
    rw [← hO]
    have HO := Lib.hid hO
    clear hO
    by_cases hlt : k < s.size
    · have hidx : (k : Int) < (s.size : Int) := by omega
      by_cases hc : (s[k].toNat : Int) < 254
      · have Htk : Hid ((bl s).take (k + 1) = (bl s).take k ++ [s[k]]) := Lib.hid (List.take_succ_eq_append_getElem (l := bl s) hlt)
        have H2 := Lib.hid (fun j (hj : j < (bl s).length) (hjk : j < k + 1) => (show Wm.isEnd (bl s)[j] = false by
          by_cases hj2 : j < k
          · exact Hend.out j hj hj2
          · obtain rfl : j = k := by omega
            exact decide_eq_false (by show ¬ 254 ≤ s[j].toNat; omega)))
        cases O with
        | true =>
          go_wp2
          go_round
          case rel => exact ⟨k + 1, by omega, by go_num, by rw [Htk.out, Wm.oddB_snoc, ← HO.out]; rfl, H2.out⟩
          case measure => simp [intOf]; omega
        | false =>
          by_cases h250 : (250 : Int) ≤ (s[k].toNat : Int)
          · have hd : decide ((250 : Int) ≤ (s[k].toNat : Int)) = true := decide_eq_true h250
            go_wp2
            go_round
            case rel => exact ⟨k + 1, by omega, by go_num, by rw [Htk.out, Wm.oddB_snoc, ← HO.out, decide_eq_true (by omega)]; rfl, H2.out⟩
            case measure => simp [intOf]; omega
          · have hd : decide ((250 : Int) ≤ (s[k].toNat : Int)) = false := decide_eq_false h250
            go_wp2
            go_round
            case rel => exact ⟨k + 1, by omega, by go_num, by rw [Htk.out, Wm.oddB_snoc, ← HO.out, decide_eq_false (by omega)]; rfl, H2.out⟩
            case measure => simp [intOf]; omega
      · have hc' : decide ((s[k].toNat : Int) < 254) = false := decide_eq_false hc
        have hp : Wm.endAt (bl s) = k := Wm.endAt_eq (l := bl s) (k := k) hlt (by exact decide_eq_true (by show 254 ≤ s[k].toNat; omega)) (fun j hj => Hend.out j (by have := bl_length s; omega) hj)
        have h3 : ((k : Int) == (s.size : Int)) = false := by rw [beq_eq_false_iff_ne]; omega
        have Hp := Lib.hid hp
        clear hp
        cases O with
        | true =>
          have Hr : Hid (Wm.getInt (bl s) = (0, [], 20)) := Lib.hid (Wm.getInt_form (by rw [Hp.out]; exact hlt) (.inr (by rw [Hp.out]; exact HO.out.symm)))
          go_wp2
          go_ret3
          exact ⟨by rw [Hr.out]; rfl, Below.refl _ _⟩
        | false =>
          by_cases h5 : 5 < k
          · have h5' : decide ((5 : Int) < (k : Int)) = true := decide_eq_true (by omega)
            have Hr : Hid (Wm.getInt (bl s) = (0, [], 20)) := Lib.hid (Wm.getInt_form (by rw [Hp.out]; exact hlt) (.inl (by rw [Hp.out]; exact h5)))
            go_wp2
            go_ret3
            exact ⟨by rw [Hr.out]; rfl, Below.refl _ _⟩
          · have h5' : decide ((5 : Int) < (k : Int)) = false := decide_eq_false (by omega)
            have h5k : k ≤ 5 := by omega
            clear h5
            have hdig := Wm.oddB_not HO.out.symm
            have Hdig := Lib.hid hdig
            clear hdig
            have htl : ((bl s).take k).length = k := by rw [List.length_take, bl_length]; omega
            have Htl := Lib.hid htl
            clear htl
            go_wp2_with fail
            go_loop [7, 8] (fun n i => RValRel s k n i) (fun _ i => (intOf i + 1).toNat)
            case atStart => exact ⟨k, Nat.le_refl _, rfl, by rw [List.drop_eq_nil_of_le (by rw [Htl.out]; omega)]; rfl⟩
            case round =>
              obtain ⟨q, hq, rfl, rfl⟩ := hrel
              have hv5 : Wm.val (((bl s).take k).drop q) < 976562500000 := Wm.val_five (fun d hd => Hdig.out d (List.mem_of_mem_drop hd)) (by rw [List.length_drop, Htl.out]; omega)
              rcases Nat.eq_zero_or_pos q with h0 | h0
              · subst h0
                rw [List.drop_zero] at hv5 ⊢
                rw [show ((0 : Nat) : Int) - 1 = -1 from rfl]
                have hgi := Wm.getInt_iff (l := bl s) (p := k) hlt Hp.out
                rw [bl_get s k hlt] at hgi
                have hext : bl (s.extract 0 (k + 1)) = (bl s).take (k + 1) := bl_extract_to s (k + 1) (by omega)
                obtain ⟨V, hV⟩ : ∃ V, V = Wm.val ((bl s).take k) := ⟨_, rfl⟩
                rw [← hV] at hv5 ⊢
                have hk1 : (k : Int) + 1 ≤ (s.size : Int) := by omega
                have hk2 : k + 1 ≤ s.size := by omega
                by_cases h254 : s[k].toNat = 254
                have hcc : s[k] = 254 := UInt8.toNat_inj.1 (by simpa using h254)
                have heq : ((s[k].toNat : Int) == 254) = true := by rw [beq_iff_eq]; omega
                have hsg : Wm.sgn ((bl s).take k) s[k] = -(V : Int) := by rw [Wm.sgn, if_pos hcc, hV]
                obtain ⟨n, hn⟩ : ∃ n, n = -(V : Int) := ⟨_, rfl⟩
                rotate_left
                have hcc : s[k] ≠ 254 := fun h => h254 (by rw [h]; rfl)
                have heq : ((s[k].toNat : Int) == 254) = false := by rw [beq_eq_false_iff_ne]; omega
                have hsg : Wm.sgn ((bl s).take k) s[k] = (V : Int) := by rw [Wm.sgn, if_neg hcc, hV]
                obtain ⟨n, hn⟩ : ∃ n, n = (V : Int) := ⟨_, rfl⟩
                all_goals
                  rw [hsg, ← hn] at hgi
                  have Hn := Lib.hid hn
                  have Hgi := Lib.hid hgi
                  have Hext := Lib.hid hext
                  have HV := Lib.hid hV
                  clear hn hgi hext hV hsg hcc h254
                  by_cases hok : Wm.fits n = true ∧ Wm.lay n = (bl s).take (k + 1)
                  · have hfit := hok.1
                    have ht : (strOf (Wm.lay n)).toList = (s.extract 0 (k + 1)).toList := by
                      rw [strOf_toList, ByteArray.toList_eq]; exact hok.2.trans Hext.out.symm
                    have Hr : Hid (Wm.getInt (bl s) = (n, (bl s).drop (k + 1), 0)) := Lib.hid (by rw [Hgi.out, if_pos hok])
                    have hb1 := (Wm.fits_iff.1 hfit).1
                    have hb2 := (Wm.fits_iff.1 hfit).2
                    clear hok hfit Hgi
                    go_wp2_with fail
                    rw [← Hn.out]
                    refine (RInt_yes n _ hb1 hb2).mono ?_
                    rintro e w1 ⟨rfl, hB1⟩
                    go_wp2
                    go_quiet (fail)
                    go_wp2
                    go_ret3
                    exact ⟨ret3 (by rw [Hr.out]) (by rw [Hr.out]; exact bl_inj (by rw [bl_extract_from]; rfl)) (by rw [Hr.out]), below_drew hB1 _⟩
                  · have Hr : Hid (Wm.getInt (bl s) = (0, [], 20)) := Lib.hid (by rw [Hgi.out, if_neg hok])
                    by_cases hfit : Wm.fits n = true
                    · have ht : ¬ (strOf (Wm.lay n)).toList = (s.extract 0 (k + 1)).toList := by
                        rw [strOf_toList, ByteArray.toList_eq]
                        intro hh
                        exact hok ⟨hfit, hh.trans Hext.out⟩
                      have ht2 : ((strOf (Wm.lay n)).toList == (s.extract 0 (k + 1)).toList) = false := by rw [beq_eq_false_iff_ne]; exact ht
                      have hb1 := (Wm.fits_iff.1 hfit).1
                      have hb2 := (Wm.fits_iff.1 hfit).2
                      clear hok hfit Hgi
                      go_wp2_with fail
                      rw [← Hn.out]
                      refine (RInt_yes n _ hb1 hb2).mono ?_
                      rintro e w1 ⟨rfl, hB1⟩
                      go_wp2
                      go_ret3
                      exact ⟨by rw [Hr.out]; rfl, hB1⟩
                    · have hb : n < -2147483647 ∨ 2147483647 < n := by
                        by_cases h1 : -2147483647 ≤ n
                        · by_cases h2 : n ≤ 2147483647
                          · exact absurd (Wm.fits_iff.2 ⟨h1, h2⟩) hfit
                          · right; omega
                        · left; omega
                      have Hb := Lib.hid hb
                      clear hok hfit Hgi hb
                      go_wp2_with fail
                      rw [← Hn.out]
                      refine (RInt_no n _ Hb.out).mono ?_
                      rintro e w1 ⟨rfl, hB1⟩
                      go_wp2
                      go_ret3
                      exact ⟨by rw [Hr.out]; rfl, hB1⟩
              · obtain ⟨j, rfl⟩ : ∃ j, q = j + 1 := ⟨q - 1, by omega⟩
                rw [show ((j + 1 : Nat) : Int) - 1 = (j : Int) from by omega]
                have hj : j < s.size := by omega
                have hji : (j : Int) < (s.size : Int) := by omega
                have hd2 := s[j].toNat_lt
                have hvd : Wm.val (((bl s).take k).drop j) = s[j].toNat + 250 * Wm.val (((bl s).take k).drop (j + 1)) := by
                  have h1 : j < ((bl s).take k).length := by rw [Htl.out]; omega
                  rw [val_drop h1, List.getElem_take]; rfl
                have Hvd := Lib.hid hvd
                clear hvd
                obtain ⟨V, hV⟩ : ∃ V, V = Wm.val (((bl s).take k).drop (j + 1)) := ⟨_, rfl⟩
                rw [← hV] at hv5 ⊢
                have HV := Lib.hid hV
                clear hV
                go_wp2
                go_round
                case rel => exact ⟨j, by omega, by go_num, by rw [Hvd.out, ← HV.out]; exact congrArg (Value.int .i64) (by omega)⟩
                case measure => simp [intOf]
    · obtain rfl : k = s.size := by omega
      have Hr : Hid (Wm.getInt (bl s) = (0, [], 22)) := Lib.hid (by
        unfold Wm.getInt; rw [dif_neg (by rw [Wm.endAt_none (fun j hj => Hend.out j hj (by have := bl_length s; omega))]; omega)])
      have hx : decide ((s.size : Int) < (s.size : Int)) = false := decide_eq_false (by omega)
      go_wp2
      go_ret3
      exact ⟨by rw [Hr.out]; rfl, Below.refl _ _⟩

theorem RGetInt_at (s : ByteArray) (n : Int) (r : List UInt8) (c : Int) (w : World) (hs : s.size ≤ maxLen) (h : Wm.getInt (bl s) = (n, r, c)) :
    Calls Try.prog 55 #[.string s] w fun e w' => e = .returned (.tuple #[.int .i64 n, .string (strOf r), .int .i64 c]) ∧ Below w.heap.size w w' := by
  have := RGetInt_any s w hs
  rw [h] at this
  exact this

set_option maxHeartbeats 1000000 in
theorem RGetText_any (s : ByteArray) (w : World) (hs : s.size ≤ maxLen) :
    Calls Try.prog 70 #[.string s] w fun e w' => e = .returned (.tuple #[.string (strOf (Wm.getText (bl s)).1), .string (strOf (Wm.getText (bl s)).2.1), .int .i64 (Wm.getText (bl s)).2.2]) ∧ Below w.heap.size w w' := by
  have Hs := Lib.hid hs
  have hs2 := hs
  unfold maxLen at hs
  obtain ⟨n, r, c, hg⟩ : ∃ n r c, Wm.getInt (bl s) = (n, r, c) := ⟨_, _, _, rfl⟩
  have hrl := getInt_len hg
  rw [bl_length] at hrl
  have hrs := strOf_size r
  rw [← hrs] at hrl
  have Hg := Lib.hid hg
  have Hrs := Lib.hid hrs
  have Ht : Hid (Wm.getText (bl s) = if c = 0 then (if n < 0 ∨ 3000 < n then ([], [], 20) else if (r.length : Int) < n then ([], [], 22) else (r.take n.toNat, r.drop n.toNat, 0)) else ([], [], c)) := Lib.hid (by unfold Wm.getText; rw [hg])
  clear hg hrs
  by_cases hc : c = 0
  · subst hc
    by_cases hn : n < 0 ∨ 3000 < n
    · have Hr : Hid (Wm.getText (bl s) = ([], [], 20)) := Lib.hid (by rw [Ht.out, if_pos rfl, if_pos hn])
      rcases hn with hn | hn
      · go_enter Try.func70, Try.ntmps70
        go_wp2_with fail
        refine (RGetInt_at s n r 0 w Hs.out Hg.out).mono ?_
        rintro e w1 ⟨rfl, hB1⟩
        go_wp2
        go_ret3
        exact ⟨by rw [Hr.out]; rfl, hB1⟩
      · have hn' : ¬ n < 0 := by omega
        go_enter Try.func70, Try.ntmps70
        go_wp2_with fail
        refine (RGetInt_at s n r 0 w Hs.out Hg.out).mono ?_
        rintro e w1 ⟨rfl, hB1⟩
        go_wp2
        go_ret3
        exact ⟨by rw [Hr.out]; rfl, hB1⟩
    · have hn1 : 0 ≤ n := by omega
      have hn2 : n ≤ 3000 := by omega
      obtain ⟨N, rfl⟩ : ∃ N : Nat, n = (N : Int) := ⟨n.toNat, by omega⟩
      by_cases hl : (r.length : Int) < (N : Int)
      · have Hr : Hid (Wm.getText (bl s) = ([], [], 22)) := Lib.hid (by rw [Ht.out, if_pos rfl, if_neg hn, if_pos hl])
        have hl' : (strOf r).size < N := by rw [strOf_size]; omega
        clear hn hl
        go_enter Try.func70, Try.ntmps70
        go_wp2_with fail
        refine (RGetInt_at s _ r 0 w Hs.out Hg.out).mono ?_
        rintro e w1 ⟨rfl, hB1⟩
        go_wp2
        go_ret3
        exact ⟨by rw [Hr.out]; rfl, hB1⟩
      · have Hr : Hid (Wm.getText (bl s) = (r.take N, r.drop N, 0)) := Lib.hid (by rw [Ht.out, if_pos rfl, if_neg hn, if_neg hl]; simp)
        have hl' : N ≤ (strOf r).size := by rw [strOf_size]; omega
        clear hn hl
        go_enter Try.func70, Try.ntmps70
        go_wp2_with fail
        refine (RGetInt_at s _ r 0 w Hs.out Hg.out).mono ?_
        rintro e w1 ⟨rfl, hB1⟩
        go_wp2
        go_quiet (fail)
        go_wp2
        go_ret3
        exact ⟨ret3s (by rw [Hr.out]; exact bl_inj (by rw [bl_extract_to _ _ hl']; rfl)) (by rw [Hr.out]; exact bl_inj (by rw [bl_extract_from]; rfl)) (by rw [Hr.out]), below_drew hB1 nq⟩
  · have hc' : (c == 0) = false := by rw [beq_eq_false_iff_ne]; exact hc
    have hc2 : (c != 0) = true := by rw [bne_iff_ne]; exact hc
    have Hr : Hid (Wm.getText (bl s) = ([], [], c)) := Lib.hid (by rw [Ht.out, if_neg hc])
    clear hc
    go_enter Try.func70, Try.ntmps70
    go_wp2_with fail
    refine (RGetInt_at s n r c w Hs.out Hg.out).mono ?_
    rintro e w1 ⟨rfl, hB1⟩
    go_wp2
    go_ret3
    exact ⟨by rw [Hr.out]; rfl, hB1⟩

end Go.Proofs.Yteepemibmjpnfaa
