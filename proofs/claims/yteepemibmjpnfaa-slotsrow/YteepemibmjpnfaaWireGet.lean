/-
  Layer 1 (wire): what endIn, size, GetInt and GetText hand back.
-/
import Derived.Test.YteepemibmjpnfaaWireInts
import Derived.Test.YteepemibmjpnfaaWireR
import Derived.WalkKit
import Derived.WalkSpells
import Derived.WalkLawsBesides
import Derived.BigQuiet
import Derived.Deep.QuietTactic
import Derived.IntWalk
namespace Go.Proofs.Yteepemibmjpnfaa
set_option maxRecDepth 10000
open Go.RowKit

theorem isEnd_bl {s : ByteArray} {k : Nat} (h : k < s.size) : Wm.isEnd ((bl s)[k]'h) = decide (254 ≤ s[k].toNat) := rfl
theorem ret_int {a b : Int} (h : a = b) : Ending.returned (.int .i64 a) = .returned (.int .i64 b) := by rw [h]

set_option maxHeartbeats 400000 in
theorem endIn_any (s : ByteArray) (w : World) (hs : s.size ≤ maxLen) :
    Calls Try.prog 68 #[.string s] w fun e w' => e = .returned (.int .i64 (Wm.endAt (bl s) : Int)) ∧ w = w' := by
  unfold maxLen at hs
  go_enter Try.func68, Try.ntmps68
  go_wp2
  go_loop [6] (fun i => ∃ k : Nat, k ≤ s.size ∧ i = .int .i64 (k : Int) ∧ Hid (∀ j (hj : j < (bl s).length), j < k → Wm.isEnd (bl s)[j] = false)) (fun i => s.size - (intOf i).toNat)
  case atStart => exact ⟨0, Nat.zero_le _, rfl, Lib.hid (fun j _ h => absurd h (Nat.not_lt_zero _))⟩
  case round =>
    obtain ⟨k, hk, rfl, H⟩ := hrel
    by_cases hlt : k < s.size
    · by_cases hc : 254 ≤ s[k].toNat
      · have hc' : (254 : Int) ≤ (s[k].toNat : Int) := by omega
        have hfin := Lib.hid (Wm.endAt_eq (l := bl s) (k := k) hlt (by rw [isEnd_bl hlt]; exact decide_eq_true hc) (fun j hj => H.out j (by have := bl_length s; omega) hj))
        clear hc
        go_wp2
        go_ret
        exact ⟨ret_int (by rw [hfin.out]), rfl⟩
      · have hc' : ¬ (254 : Int) ≤ (s[k].toNat : Int) := by omega
        have H2 := Lib.hid (fun j (hj : j < (bl s).length) (hjk : j < k + 1) => (show Wm.isEnd (bl s)[j] = false by
          by_cases hj2 : j < k
          · exact H.out j hj hj2
          · obtain rfl : j = k := by omega
            exact (isEnd_bl hlt).trans (decide_eq_false hc)))
        clear H hc
        go_wp2
        go_round
        case rel => exact ⟨k + 1, by omega, by go_num, H2⟩
        case measure => simp [intOf]; omega
    · have hfin := Lib.hid (Wm.endAt_none (l := bl s) (fun j hj => H.out j hj (by have := bl_length s; omega)))
      go_wp2
      go_ret
      exact ⟨ret_int (by rw [hfin.out, bl_length]), rfl⟩

/-- What size hands back. -/
def sizeN (l : List UInt8) : Int := if Wm.sizeOk l = true then (Wm.val l : Int) else 0

theorem ret_size {a b : Int} {x y : Bool} (h : a = b) (h' : x = y) : Ending.returned (.tuple #[.int .i64 a, .bool x]) = .returned (.tuple #[.int .i64 b, .bool y]) := by rw [h, h']

theorem val_drop {l : List UInt8} {k : Nat} (h : k < l.length) : Wm.val (l.drop k) = l[k].toNat + 250 * Wm.val (l.drop (k + 1)) := by
  rw [List.drop_eq_getElem_cons h]; rfl

theorem val_drop_le (l : List UInt8) (k : Nat) : Wm.val (l.drop k) ≤ Wm.val l := by
  induction k with
  | zero => simp
  | succ k ih =>
    by_cases h : k < l.length
    · have := val_drop h; omega
    · rw [List.drop_eq_nil_of_le (by omega)]; simp [Wm.val]

theorem sizeOk_no {l : List UInt8} (h : l.getLast? = some 0) : Wm.sizeOk l = false := by simp [Wm.sizeOk, h]
theorem sizeOk_big {l : List UInt8} {k : Nat} (hk : k < l.length) (h : 250 ≤ l[k].toNat) : Wm.sizeOk l = false := by
  rw [Bool.eq_false_iff]
  intro hh
  have := (Wm.sizeOk_iff.1 hh).1.1 l[k] (List.getElem_mem hk)
  omega
theorem sizeOk_much {l : List UInt8} {k : Nat} (h : 2147483647 < Wm.val (l.drop k)) : Wm.sizeOk l = false := by
  rw [Bool.eq_false_iff]
  intro hh
  have := (Wm.sizeOk_iff.1 hh).2
  have := val_drop_le l k
  omega

/-- What holds ahead of each round of size. -/
def SizeRel (s : ByteArray) (n i : Value) : Prop :=
  ∃ k : Nat, k ≤ s.size ∧ i = .int .i64 ((k : Int) - 1) ∧ n = .int .i64 (Wm.val ((bl s).drop k) : Int) ∧ Wm.val ((bl s).drop k) ≤ 2147483647 ∧ Hid (∀ d ∈ (bl s).drop k, d.toNat < 250)

theorem last_bl {s : ByteArray} (h : s.size - 1 < s.size) : (bl s).getLast? = some s[s.size - 1] := by
  rw [List.getLast?_eq_getElem?, bl_length]
  exact List.getElem?_eq_getElem (l := bl s) h

set_option maxHeartbeats 1000000 in
theorem size_loop (s : ByteArray) (w : World) (hs : s.size ≤ 9223372036854775807) (hlast : (bl s).getLast? ≠ some 0) (hz : s.size = 0 ∨ (0 < s.size ∧ s.size - 1 < s.size ∧ ∀ h : s.size - 1 < s.size, ((s[s.size - 1].toNat : Int) == 0) = false)) :
    Calls Try.prog 69 #[.string s] w fun e w' => e = .returned (.tuple #[.int .i64 (sizeN (bl s)), .bool (Wm.sizeOk (bl s))]) ∧ w = w' := by
  have Hlast := Lib.hid hlast
  clear hlast
  rcases hz with hz | ⟨hpos, hidx, hne⟩
  have hz' : ¬ 0 < s.size := by omega
  have hempty := Lib.hid (show bl s = [] from List.eq_nil_of_length_eq_zero (by rw [bl_length]; exact hz))
  have Hz := Lib.hid hz
  clear hz
  go_enter Try.func69, Try.ntmps69
  go_wp2_with fail
  clear hz'
  rotate_left
  have hne1 := hne hidx
  clear hne
  go_enter Try.func69, Try.ntmps69
  go_wp2_with fail
  all_goals
    go_loop [4, 5] (fun n i => SizeRel s n i) (fun _ i => (intOf i + 1).toNat)
    case atStart => exact ⟨s.size, Nat.le_refl _, rfl, by simp [← bl_length, Wm.val], by simp [← bl_length, Wm.val], Lib.hid (by simp [← bl_length])⟩
    case round =>
      obtain ⟨k, hk, rfl, rfl, hv, H⟩ := hrel
      rcases Nat.eq_zero_or_pos k with h0 | h0
      · subst h0
        have hfin : Wm.sizeOk (bl s) = true := Wm.sizeOk_iff.2 ⟨⟨by simpa using H.out, Hlast.out⟩, by simpa using hv⟩
        have Hfin := Lib.hid hfin
        clear hfin
        rw [show ((0 : Nat) : Int) - 1 = -1 from rfl]
        go_wp2
        go_ret2
        exact ⟨ret_size (by rw [sizeN, if_pos Hfin.out]) (by rw [Hfin.out]), rfl⟩
      · obtain ⟨j, rfl⟩ : ∃ j, k = j + 1 := ⟨k - 1, by omega⟩
        rw [show ((j + 1 : Nat) : Int) - 1 = (j : Int) from by omega]
        have hj : j < s.size := by omega
        have hvd := val_drop (l := bl s) (k := j) hj
        rw [bl_get s j hj] at hvd
        have hd2 := s[j].toNat_lt
        have Hvd := Lib.hid hvd
        clear hvd
        obtain ⟨V, hV⟩ : ∃ V, V = Wm.val ((bl s).drop (j + 1)) := ⟨_, rfl⟩
        rw [← hV] at hv ⊢
        have HV := Lib.hid hV
        clear hV
        by_cases hbig : (250 : Int) ≤ (s[j].toNat : Int)
        · have Hno := Lib.hid (sizeOk_big (l := bl s) (k := j) hj (by rw [bl_get]; omega))
          go_wp2
          go_ret2
          exact ⟨ret_size (by rw [sizeN, Hno.out]; rfl) (by rw [Hno.out]), rfl⟩
        · by_cases hmuch : (2147483647 - (s[j].toNat : Int)) / 250 < (V : Int)
          · have Hno := Lib.hid (sizeOk_much (l := bl s) (k := j) (by rw [Hvd.out, ← HV.out]; omega))
            go_wp2
            go_ret2
            exact ⟨ret_size (by rw [sizeN, Hno.out]; rfl) (by rw [Hno.out]), rfl⟩
          · go_wp2
            go_round
            case rel =>
              refine ⟨j, by omega, by go_num, ?_, by rw [Hvd.out, ← HV.out]; omega, Lib.hid ?_⟩
              · rw [Hvd.out, ← HV.out]
                exact congrArg (Value.int .i64) (by omega)
              · intro d hd
                rw [List.drop_eq_getElem_cons (l := bl s) hj] at hd
                rcases List.mem_cons.1 hd with rfl | hd
                · rw [bl_get]; omega
                · exact H.out d hd
            case measure => simp [intOf]

set_option maxHeartbeats 400000 in
theorem size_any (s : ByteArray) (w : World) (hs : s.size ≤ maxLen) :
    Calls Try.prog 69 #[.string s] w fun e w' => e = .returned (.tuple #[.int .i64 (sizeN (bl s)), .bool (Wm.sizeOk (bl s))]) ∧ w = w' := by
  unfold maxLen at hs
  by_cases h0 : s.size = 0
  · exact size_loop s w (by omega) (by rw [show bl s = [] from List.eq_nil_of_length_eq_zero (by rw [bl_length]; exact h0)]; simp) (.inl h0)
  · have hidx : s.size - 1 < s.size := by omega
    have hpos : 0 < s.size := by omega
    by_cases hl : s[s.size - 1].toNat = 0
    · have hne1 : ((s[s.size - 1].toNat : Int) == 0) = true := by rw [beq_iff_eq]; omega
      have Hno := Lib.hid (sizeOk_no (l := bl s) (by rw [last_bl hidx]; congr 1; exact UInt8.toNat_inj.1 (by simpa using hl)))
      clear hl h0
      go_enter Try.func69, Try.ntmps69
      go_wp2
      go_ret2
      exact ⟨ret_size (by rw [sizeN, Hno.out]; rfl) (by rw [Hno.out]), rfl⟩
    · refine size_loop s w (by omega) (by rw [last_bl hidx]; simp; intro hc; rw [hc] at hl; exact hl rfl) (.inr ⟨hpos, hidx, fun _ => by rw [beq_eq_false_iff_ne]; omega⟩)

theorem ret3 {a b : Int} {x y : ByteArray} {n m : Int} (h : a = b) (h' : x = y) (h'' : n = m) : Ending.returned (.tuple #[.int .i64 a, .string x, .int .i64 n]) = .returned (.tuple #[.int .i64 b, .string y, .int .i64 m]) := by rw [h, h', h'']

theorem size_yes (s : ByteArray) (V : Nat) (w : World) (hs : s.size ≤ maxLen) (h : Wm.sizeOk (bl s) = true) (hv : Wm.val (bl s) = V) :
    Calls Try.prog 69 #[.string s] w fun e w' => e = .returned (.tuple #[.int .i64 (V : Int), .bool true]) ∧ w = w' :=
  (size_any s w hs).mono fun _ _ ⟨he, hw⟩ => ⟨by rw [he, h, sizeN, if_pos h, hv], hw⟩
theorem size_not (s : ByteArray) (w : World) (hs : s.size ≤ maxLen) (h : Wm.sizeOk (bl s) = false) :
    Calls Try.prog 69 #[.string s] w fun e w' => e = .returned (.tuple #[.int .i64 0, .bool false]) ∧ w = w' :=
  (size_any s w hs).mono fun _ _ ⟨he, hw⟩ => ⟨by rw [he, h, sizeN, h]; rfl, hw⟩
theorem endIn_at (s : ByteArray) (p : Nat) (w : World) (hs : s.size ≤ maxLen) (h : Wm.endAt (bl s) = p) :
    Calls Try.prog 68 #[.string s] w fun e w' => e = .returned (.int .i64 (p : Int)) ∧ w = w' := by
  subst h; exact endIn_any s w hs

theorem getInt_at {s : ByteArray} {p : Nat} (hlt : p < s.size) (h : Wm.endAt (bl s) = p) :
    Wm.getInt (bl s) = if Wm.good ((bl s).take p) s[p] = true then (Wm.sgn ((bl s).take p) s[p], (bl s).drop (p + 1), 0) else (0, [], 20) := by
  subst h
  unfold Wm.getInt
  rw [dif_pos (show Wm.endAt (bl s) < (bl s).length from hlt)]
  rfl

set_option maxHeartbeats 1000000 in
theorem GetInt_any (s : ByteArray) (w : World) (hs : s.size ≤ maxLen) :
    Calls Try.prog 53 #[.string s] w fun e w' => e = .returned (.tuple #[.int .i64 (Wm.getInt (bl s)).1, .string (strOf (Wm.getInt (bl s)).2.1), .int .i64 (Wm.getInt (bl s)).2.2]) ∧ ∃ n, w' = w.drewN n := by
  have hle := Wm.endAt_le (bl s)
  rw [bl_length] at hle
  have Hs := Lib.hid hs
  unfold maxLen at hs
  obtain ⟨p, hp⟩ : ∃ p, Wm.endAt (bl s) = p := ⟨_, rfl⟩
  rw [hp] at hle
  by_cases hlt : p < s.size
  · have h3 : ((p : Int) == (s.size : Int)) = false := by rw [beq_eq_false_iff_ne]; omega
    have Hg := Lib.hid (getInt_at hlt hp)
    have Hp := Lib.hid hp
    clear hp
    have Hs2 : Hid ((s.extract 0 p).size ≤ maxLen) := Lib.hid (by have h1 := bl_extract_to s p hle; have h2 := congrArg List.length h1; rw [bl_length] at h2; rw [h2]; have h3 := List.length_take_le p (bl s); have h4 := Hs.out; omega)
    by_cases hok : Wm.sizeOk ((bl s).take p) = true
    · obtain ⟨V, hV⟩ : ∃ V, Wm.val ((bl s).take p) = V := ⟨_, rfl⟩
      have hVle : V ≤ 2147483647 := by rw [← hV]; exact (Wm.sizeOk_iff.1 hok).2
      by_cases hc : s[p].toNat = 254
      · have hc' : ((s[p].toNat : Int) == 254) = true := by rw [beq_iff_eq]; omega
        have hcc : s[p] = 254 := UInt8.toNat_inj.1 (by simpa using hc)
        by_cases hV0 : V = 0
        · have hV0' : ((V : Int) == 0) = true := by rw [beq_iff_eq]; omega
          have Hr : Hid (Wm.getInt (bl s) = (0, [], 20)) := Lib.hid (by rw [Hg.out, if_neg]; simp [Wm.good, hcc, hV, hV0])
          have Hok := Lib.hid hok; have HV := Lib.hid hV
          clear hc hcc hV0 hok hV Hg
          go_enter Try.func53, Try.ntmps53
          go_wp2_with fail
          refine (endIn_at s p w Hs.out Hp.out).mono ?_
          rintro e w1 ⟨rfl, rfl⟩
          go_wp2_with fail
          refine (size_yes _ V w Hs2.out (by rw [bl_extract_to s p hle]; exact Hok.out) (by rw [bl_extract_to s p hle]; exact HV.out)).mono ?_
          rintro e w1 ⟨rfl, rfl⟩
          go_wp2
          go_ret3
          exact ⟨by rw [Hr.out]; rfl, 0, rfl⟩
        · have hV0' : ((V : Int) == 0) = false := by rw [beq_eq_false_iff_ne]; omega
          have Hr : Hid (Wm.getInt (bl s) = (-(V : Int), (bl s).drop (p + 1), 0)) := Lib.hid (by rw [Hg.out, if_pos]; simp [Wm.sgn, hcc, hV]; simp [Wm.good, hcc, hV, hV0, hok])
          have Hok := Lib.hid hok; have HV := Lib.hid hV
          clear hc hcc hV0 hok hV Hg
          go_enter Try.func53, Try.ntmps53
          go_wp2_with fail
          refine (endIn_at s p w Hs.out Hp.out).mono ?_
          rintro e w1 ⟨rfl, rfl⟩
          go_wp2_with fail
          refine (size_yes _ V w Hs2.out (by rw [bl_extract_to s p hle]; exact Hok.out) (by rw [bl_extract_to s p hle]; exact HV.out)).mono ?_
          rintro e w1 ⟨rfl, rfl⟩
          go_wp2
          go_quiet (fail)
          go_wp2
          go_ret3
          exact ⟨ret3 (by rw [Hr.out]) (by rw [Hr.out]; exact bl_inj (by rw [bl_extract_from]; rfl)) (by rw [Hr.out]), nq, rfl⟩
      · have hc' : ((s[p].toNat : Int) == 254) = false := by rw [beq_eq_false_iff_ne]; omega
        have hcc : s[p] ≠ 254 := fun h => hc (by rw [h]; rfl)
        have Hr : Hid (Wm.getInt (bl s) = ((V : Int), (bl s).drop (p + 1), 0)) := Lib.hid (by rw [Hg.out, if_pos]; simp [Wm.sgn, hcc, hV]; simp [Wm.good, hcc, hok])
        have Hok := Lib.hid hok; have HV := Lib.hid hV
        clear hc hcc hok hV Hg
        go_enter Try.func53, Try.ntmps53
        go_wp2_with fail
        refine (endIn_at s p w Hs.out Hp.out).mono ?_
        rintro e w1 ⟨rfl, rfl⟩
        go_wp2_with fail
        refine (size_yes _ V w Hs2.out (by rw [bl_extract_to s p hle]; exact Hok.out) (by rw [bl_extract_to s p hle]; exact HV.out)).mono ?_
        rintro e w1 ⟨rfl, rfl⟩
        go_wp2
        go_quiet (fail)
        go_wp2
        go_ret3
        exact ⟨ret3 (by rw [Hr.out]) (by rw [Hr.out]; exact bl_inj (by rw [bl_extract_from]; rfl)) (by rw [Hr.out]), nq, rfl⟩
    · have hok' : Wm.sizeOk ((bl s).take p) = false := by simpa using hok
      have Hr : Hid (Wm.getInt (bl s) = (0, [], 20)) := Lib.hid (by rw [Hg.out, if_neg]; simp [Wm.good, hok'])
      have Hok := Lib.hid hok'
      clear hok hok' Hg
      go_enter Try.func53, Try.ntmps53
      go_wp2_with fail
      refine (endIn_at s p w Hs.out Hp.out).mono ?_
      rintro e w1 ⟨rfl, rfl⟩
      go_wp2_with fail
      refine (size_not _ w Hs2.out (by rw [bl_extract_to s p hle]; exact Hok.out)).mono ?_
      rintro e w1 ⟨rfl, rfl⟩
      go_wp2
      go_ret3
      exact ⟨by rw [Hr.out]; rfl, 0, rfl⟩
  · have h3 : ((p : Int) == (s.size : Int)) = true := by rw [beq_iff_eq]; omega
    have Hr : Hid (Wm.getInt (bl s) = (0, [], 22)) := Lib.hid (by unfold Wm.getInt; rw [dif_neg (by rw [hp, bl_length]; exact hlt)])
    have Hp := Lib.hid hp
    clear hp
    go_enter Try.func53, Try.ntmps53
    go_wp2_with fail
    refine (endIn_at s p w Hs.out Hp.out).mono ?_
    rintro e w1 ⟨rfl, rfl⟩
    go_wp2
    go_ret3
    exact ⟨by rw [Hr.out]; rfl, 0, rfl⟩

/-- GetInt at a text of which it is known what is read. -/
theorem GetInt_at (s : ByteArray) (n : Int) (r : List UInt8) (c : Int) (w : World) (hs : s.size ≤ maxLen) (h : Wm.getInt (bl s) = (n, r, c)) :
    Calls Try.prog 53 #[.string s] w fun e w' => e = .returned (.tuple #[.int .i64 n, .string (strOf r), .int .i64 c]) ∧ ∃ k, w' = w.drewN k := by
  have := GetInt_any s w hs
  rw [h] at this
  exact this

theorem ret3s {a b x y : ByteArray} {n m : Int} (h : a = b) (h' : x = y) (h'' : n = m) : Ending.returned (.tuple #[.string a, .string x, .int .i64 n]) = .returned (.tuple #[.string b, .string y, .int .i64 m]) := by rw [h, h', h'']

theorem getInt_len {l : List UInt8} {n : Int} {r : List UInt8} {e : Int} (h : Wm.getInt l = (n, r, e)) : r.length ≤ l.length := by
  rcases Wm.getInt_err l with ⟨n', r', h'⟩ | h' | h'
  · rw [h'] at h; simp only [Prod.mk.injEq] at h
    obtain ⟨rfl, rfl, rfl⟩ := h
    have := (Wm.getInt_ok h').2
    rw [this]; simp
  · rw [h'] at h; simp only [Prod.mk.injEq] at h
    obtain ⟨rfl, rfl, rfl⟩ := h; simp
  · rw [h'] at h; simp only [Prod.mk.injEq] at h
    obtain ⟨rfl, rfl, rfl⟩ := h; simp

set_option maxHeartbeats 1000000 in
theorem GetText_any (s : ByteArray) (w : World) (hs : s.size ≤ maxLen) :
    Calls Try.prog 78 #[.string s] w fun e w' => e = .returned (.tuple #[.string (strOf (Wm.getText (bl s)).1), .string (strOf (Wm.getText (bl s)).2.1), .int .i64 (Wm.getText (bl s)).2.2]) ∧ ∃ n, w' = w.drewN n := by
  have Hs := Lib.hid hs
  have hs2 := hs
  unfold maxLen at hs
  obtain ⟨n, r, c, hg⟩ : ∃ n r c, Wm.getInt (bl s) = (n, r, c) := ⟨_, _, _, rfl⟩
  have hrl := getInt_len hg
  rw [bl_length] at hrl
  have hrs := strOf_size r
  rw [← hrs] at hrl
  have Hg := Lib.hid hg
  have Hrs := Lib.hid hrs
  have Ht : Hid (Wm.getText (bl s) = if c = 0 then (if n < 0 ∨ 3000 < n then ([], [], 20) else if (r.length : Int) < n then ([], [], 22) else (r.take n.toNat, r.drop n.toNat, 0)) else ([], [], c)) := Lib.hid (by unfold Wm.getText; rw [hg])
  clear hg hrs
  by_cases hc : c = 0
  · subst hc
    by_cases hn : n < 0 ∨ 3000 < n
    · have Hr : Hid (Wm.getText (bl s) = ([], [], 20)) := Lib.hid (by rw [Ht.out, if_pos rfl, if_pos hn])
      rcases hn with hn | hn
      · go_enter Try.func78, Try.ntmps78
        go_wp2_with fail
        refine (GetInt_at s n r 0 w Hs.out Hg.out).mono ?_
        rintro e w1 ⟨rfl, k, rfl⟩
        go_wp2
        go_ret3
        exact ⟨by rw [Hr.out]; rfl, k, rfl⟩
      · have hn' : ¬ n < 0 := by omega
        go_enter Try.func78, Try.ntmps78
        go_wp2_with fail
        refine (GetInt_at s n r 0 w Hs.out Hg.out).mono ?_
        rintro e w1 ⟨rfl, k, rfl⟩
        go_wp2
        go_ret3
        exact ⟨by rw [Hr.out]; rfl, k, rfl⟩
    · have hn1 : 0 ≤ n := by omega
      have hn2 : n ≤ 3000 := by omega
      obtain ⟨N, rfl⟩ : ∃ N : Nat, n = (N : Int) := ⟨n.toNat, by omega⟩
      by_cases hl : (r.length : Int) < (N : Int)
      · have Hr : Hid (Wm.getText (bl s) = ([], [], 22)) := Lib.hid (by rw [Ht.out, if_pos rfl, if_neg hn, if_pos hl])
        have hl' : (strOf r).size < N := by rw [strOf_size]; omega
        clear hn hl
        go_enter Try.func78, Try.ntmps78
        go_wp2_with fail
        refine (GetInt_at s _ r 0 w Hs.out Hg.out).mono ?_
        rintro e w1 ⟨rfl, k, rfl⟩
        go_wp2
        go_ret3
        exact ⟨by rw [Hr.out]; rfl, k, rfl⟩
      · have Hr : Hid (Wm.getText (bl s) = (r.take N, r.drop N, 0)) := Lib.hid (by rw [Ht.out, if_pos rfl, if_neg hn, if_neg hl]; simp)
        have hl' : N ≤ (strOf r).size := by rw [strOf_size]; omega
        clear hn hl
        go_enter Try.func78, Try.ntmps78
        go_wp2_with fail
        refine (GetInt_at s _ r 0 w Hs.out Hg.out).mono ?_
        rintro e w1 ⟨rfl, k, rfl⟩
        go_wp2
        go_quiet (fail)
        go_wp2
        go_ret3
        exact ⟨ret3s (by rw [Hr.out]; exact bl_inj (by rw [bl_extract_to _ _ hl']; rfl)) (by rw [Hr.out]; exact bl_inj (by rw [bl_extract_from]; rfl)) (by rw [Hr.out]), k + nq, by rw [World.drewN_drewN]⟩
  · have hc' : (c == 0) = false := by rw [beq_eq_false_iff_ne]; exact hc
    have hc2 : (c != 0) = true := by rw [bne_iff_ne]; exact hc
    have Hr : Hid (Wm.getText (bl s) = ([], [], c)) := Lib.hid (by rw [Ht.out, if_neg hc])
    clear hc
    go_enter Try.func78, Try.ntmps78
    go_wp2_with fail
    refine (GetInt_at s n r c w Hs.out Hg.out).mono ?_
    rintro e w1 ⟨rfl, k, rfl⟩
    go_wp2
    go_ret3
    exact ⟨by rw [Hr.out]; rfl, k, rfl⟩

end Go.Proofs.Yteepemibmjpnfaa
