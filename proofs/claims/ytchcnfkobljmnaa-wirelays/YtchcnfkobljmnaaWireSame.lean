/-
  Layer 1 (wire): the walks of the laws WireSame and WireBack.
-/
import Derived.Test.YtchcnfkobljmnaaWireApart
namespace Go.Proofs.Ytchcnfkobljmnaa
open Go.RowKit

theorem GetInts_at (s : ByteArray) (m : Int) (ns : List Int) (r : List UInt8) (c : Int) (w : World) (hs : s.size ≤ maxLen) (h : getsL (bl s) m = (ns, r, c)) :
    Calls Try.prog 19 #[.string s, .int .i64 m] w fun e w' => ∃ A cap, e = .returned (.tuple #[.slice A ns.length cap, .string (strOf r), .int .i64 c]) ∧ IntsAt w' w'.heap.size A ns ∧ Below w.heap.size w w' := by
  have := GetInts_any s m w hs
  rw [h] at this
  refine this.mono ?_
  rintro e w' ⟨v, he, ho, hb⟩
  obtain ⟨A, cap, rfl⟩ := ownsRow_slice ho
  exact ⟨A, cap, he, IntsAt.of_own ho, hb⟩

theorem GetText_at (s : ByteArray) (t r : List UInt8) (c : Int) (w : World) (hs : s.size ≤ maxLen) (h : Wm.getText (bl s) = (t, r, c)) :
    Calls Try.prog 21 #[.string s] w fun e w' => e = .returned (.tuple #[.string (strOf t), .string (strOf r), .int .i64 c]) ∧ ∃ k, w' = w.drewN k := by
  have := GetText_any s w hs
  rw [h] at this
  exact this

theorem Ints_yes (A : Option Addr) (cap : Nat) (zs : List Int) (w : World) (hA : IntsAt w w.heap.size A zs) (hl : zs.length ≤ 100000000) (h : zs.all Wm.fits = true) :
    Calls Try.prog 11 #[.slice A zs.length cap] w fun e w' => e = .returned (.tuple #[.string (strOf (Wm.lays zs)), .int .i64 0]) ∧ Below w.heap.size w w' := by
  have := Ints_any A cap zs w hA hl
  rw [intsS, intsE, if_pos h, if_pos h] at this
  exact this

theorem Text_yes (t : List UInt8) (w : World) (h : t.length ≤ 3000) :
    Calls Try.prog 13 #[.string (strOf t)] w fun e w' => e = .returned (.tuple #[.string (strOf (Wm.lay t.length ++ t)), .int .i64 0]) ∧ Below w.heap.size w w' := by
  have := Text_any (strOf t) w (by rw [strOf_size]; unfold maxLen; omega)
  rw [textS, textE, if_pos (by rw [strOf_size]; exact h), if_pos (by rw [strOf_size]; exact h)] at this
  exact this

theorem getsL_cases (l : List UInt8) (m : Int) : (∃ ns r, getsL l m = (ns, r, 0) ∧ (ns.length : Int) = m ∧ ns.length ≤ 100 ∧ ns.all Wm.fits = true ∧ l = Wm.lays ns ++ r) ∨ ∃ c, c ≠ 0 ∧ getsL l m = ([], [], c) := by
  unfold getsL
  split
  · exact .inr ⟨1, by decide, rfl⟩
  · rename_i h
    rcases Wm.getInts_err m.toNat l with ⟨ns, r, h'⟩ | ⟨c, hc, h'⟩
    · obtain ⟨a, b, c⟩ := Wm.getInts_ok h'
      exact .inl ⟨ns, r, h', by omega, by omega, b, c⟩
    · exact .inr ⟨c, hc, h'⟩

set_option maxRecDepth 100000 in
set_option maxHeartbeats 2000000 in
theorem wireSame_walk (s : ByteArray) (m : Int) (w : World) (hs : s.size ≤ maxLen) (_hm : (Lit.int .i64 m).wf = true) :
    Calls Try.prog 6 #[.string s, .int .i64 m] w fun e w' => e = .returned (.bool true) ∧ Below w.heap.size w w' := by
  have Hs := Lib.hid hs
  unfold maxLen at hs
  by_cases hlong : 1000 < s.size
  · go_enter Try.func6, Try.ntmps6
    go_wp2
    go_ret
    exact ⟨rfl, Below.refl _ _⟩
  · have hshort : s.size ≤ 1000 := by omega
    have hd0 : decide (1000 < (s.size : Int)) = false := decide_eq_false (by omega)
    clear hlong hs
    rcases getsL_cases (bl s) m with ⟨ns, r, hg, hnm, hn100, hall, hl⟩ | ⟨c, hc, hg⟩
    obtain rfl : m = (ns.length : Int) := hnm.symm
    have hcat : ¬ 9223372036854775807 < (strOf (Wm.lays ns)).size + (strOf r).size := by
      rw [strOf_size, strOf_size]; have := congrArg List.length hl; rw [bl_length, List.length_append] at this; omega
    have hq : (strOf (Wm.lays ns) ++ strOf r).toList = s.toList := by rw [show strOf (Wm.lays ns) ++ strOf r = s by rw [strs_append]; exact bl_inj (by rw [bl_strOf, hl])]
    have Hg := Lib.hid hg; have Hall := Lib.hid hall
    clear hg hall hl hnm
    go_enter Try.func6, Try.ntmps6
    go_wp2_with fail
    refine (GetInts_at s _ ns r 0 w Hs.out Hg.out).mono ?_
    rintro e w1 ⟨A, cap, rfl, hA, hB1⟩
    go_wp2_with fail
    refine (Ints_yes A cap ns w1 hA (by omega) Hall.out).mono ?_
    rintro e w2 ⟨rfl, hB2⟩
    have hB12 := below2 hB1 hB2
    clear hB1 hB2 hA
    go_wp2_with fail
    clear hq hcat
    rotate_left
    have Hg := Lib.hid hg
    have hc2 : (c == 0) = false := by rw [beq_eq_false_iff_ne]; exact hc
    clear hc hg
    go_enter Try.func6, Try.ntmps6
    go_wp2_with fail
    refine (GetInts_at s m [] [] c w Hs.out Hg.out).mono ?_
    rintro e w1 ⟨A, cap, rfl, hA, hB1⟩
    go_wp2_with fail
    refine (Ints_yes A cap [] w1 hA (by simp) (by rfl)).mono ?_
    rintro e w2 ⟨rfl, hB2⟩
    have hB12 := below2 hB1 hB2
    clear hB1 hB2 hA
    go_wp2_with fail
    clear hc2
    all_goals
      rcases Wm.getText_err (bl s) with ⟨t, rr, ht⟩ | ⟨cc, hcc, ht⟩
      · have htl := (Wm.getText_ok ht).1
        have hte := (Wm.getText_ok ht).2
        have hcat : ¬ 9223372036854775807 < (strOf (Wm.lay t.length ++ t)).size + (strOf rr).size := by
          rw [strOf_size, strOf_size]; have := congrArg List.length hte; rw [bl_length, List.length_append] at this; omega
        have hq : (strOf (Wm.lay t.length ++ t) ++ strOf rr).toList = s.toList := by rw [show strOf (Wm.lay t.length ++ t) ++ strOf rr = s by rw [strs_append]; exact bl_inj (by rw [bl_strOf, hte])]
        have Ht := Lib.hid ht
        clear ht hte
        refine (GetText_at s t rr 0 w2 Hs.out Ht.out).mono ?_
        rintro e w3 ⟨rfl, k3, rfl⟩
        go_wp2_with fail
        refine (Text_yes t _ htl).mono ?_
        rintro e w4 ⟨rfl, hB4⟩
        go_wp2_with fail
        refine (wired_any w4).mono ?_
        rintro e w5 ⟨rfl, hB5⟩
        go_wp2
        go_ret
        exact ⟨rfl, below2 (below2 (below_drew hB12 k3) hB4) hB5⟩
      · have Ht := Lib.hid ht
        have hc2 : (cc == 0) = false := by rw [beq_eq_false_iff_ne]; exact hcc
        have hc3 : (cc != 0) = true := by rw [bne_iff_ne]; exact hcc
        clear ht hcc
        refine (GetText_at s [] [] cc w2 Hs.out Ht.out).mono ?_
        rintro e w3 ⟨rfl, k3, rfl⟩
        go_wp2_with fail
        refine (Text_yes [] _ (by simp)).mono ?_
        rintro e w4 ⟨rfl, hB4⟩
        go_wp2_with fail
        refine (wired_any w4).mono ?_
        rintro e w5 ⟨rfl, hB5⟩
        go_wp2
        go_ret
        exact ⟨rfl, below2 (below2 (below_drew hB12 k3) hB4) hB5⟩

end Go.Proofs.Ytchcnfkobljmnaa
