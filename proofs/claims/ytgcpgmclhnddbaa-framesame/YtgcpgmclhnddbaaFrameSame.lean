/-
  Layer 3 (frame): the walk of the law FrameSame.
-/
import Derived.Test.YtgcpgmclhnddbaaFrameFramed
namespace Go.Proofs.Ytgcpgmclhnddbaa
open Go.RowKit

theorem map_strOf (ls : List (List UInt8)) : (ls.map strOf).map bl = ls := by rw [List.map_map]; exact List.map_id' ls
theorem map_strV (ls : List (List UInt8)) : (ls.map strOf).map Value.string = ls.map strV := by rw [List.map_map]; rfl

theorem StrsAt.of_ownV {w : World} {base : Nat} {e : TypeId} {A : Option Addr} {cap : Nat} {ls : List (List UInt8)} (h : w.ownsRow base e 1 (.slice A ls.length cap) ls.length (ls.map strV)) : StrsAt w w.heap.size A (ls.map strOf) := by
  refine StrsAt.of_own (base := base) (e := e) (cap := cap) ?_
  rw [List.length_map, map_strV]; exact h

theorem Row_own (k : Int) (A : Option Addr) (cap : Nat) (ls : List (List UInt8)) (w : World) (hA : StrsAt w w.heap.size A (ls.map strOf)) (hs : ∀ t ∈ ls, t.length ≤ maxLen) :
    Calls Try.prog 12 #[.int .i64 k, .slice A ls.length cap] w fun x w' => x = .returned (.tuple #[.string (strOf (Fm.rowS k ls)), .int .i64 (Fm.rowE k ls)]) ∧ Below w.heap.size w w' := by
  have h := Row_any k A cap (ls.map strOf) w hA (by
    intro s hs'
    obtain ⟨t, ht, rfl⟩ := List.mem_map.1 hs'
    rw [strOf_size]; exact hs t ht)
  rw [map_strOf, List.length_map] at h
  exact h

theorem row_texts {k : Int} {ls : List (List UInt8)} (h : Fm.rowE k ls = 0) : ∀ t ∈ ls, t.length ≤ maxLen := by
  intro t ht
  have := (Fm.layOk_iff.1 (Fm.rowE_zero h).2.1).2 t ht
  unfold maxLen; omega

theorem Put_l (k : Int) (t : List UInt8) (w : World) (hs : t.length ≤ maxLen) :
    Calls Try.prog 10 #[.int .i64 k, .string (strOf t)] w fun x w' => x = .returned (.tuple #[.string (strOf (Fm.putS k t)), .int .i64 (Fm.putE k t)]) ∧ Below w.heap.size w w' := by
  have h := Put_any k (strOf t) w (by rw [strOf_size]; exact hs)
  rw [bl_strOf] at h; exact h

set_option maxRecDepth 10000 in
set_option maxHeartbeats 1000000 in
theorem frameSame_walk (s : ByteArray) (w : World) (_hs : s.size ≤ maxLen) :
    Calls Try.prog 6 #[.string s] w fun e w' => e = .returned (.bool true) ∧ Below w.heap.size w w' := by
  by_cases hl : 600 < s.size
  · have hd : decide (600 < (s.size : Int)) = true := decide_eq_true (by omega)
    clear hl _hs
    go_enter Try.func6, Try.ntmps6
    go_wp2
    go_ret
    exact ⟨rfl, Below.refl _ _⟩
  · have hd : decide (600 < (s.size : Int)) = false := decide_eq_false (by omega)
    have Hb : Hid (s.size ≤ big) := Lib.hid (by unfold big; omega)
    have hl6 : s.size ≤ 600 := by omega
    clear hl _hs
    have hg0 := Get_any s w Hb.out
    rcases Fm.get_cases (bl s) with ⟨k, t, r, h⟩ | ⟨e, he, h⟩
    rw [h] at hg0
    obtain ⟨hk, ht, hbl⟩ := Fm.get_ok h
    have Hp := Lib.hid (Fm.put_yes hk ht)
    have Ht : Hid (t.length ≤ maxLen) := Lib.hid (by unfold maxLen; omega)
    have hcat : strOf (Fm.frame k t) ++ strOf r = s := bl_inj (by rw [bl_append, bl_strOf, bl_strOf]; exact hbl.symm)
    have hsum : ¬ 9223372036854775807 < (strOf (Fm.frame k t)).size + (strOf r).size := by
      have := congrArg List.length hbl
      rw [bl_length, List.length_append] at this
      rw [strOf_size, strOf_size]; omega
    clear h hk ht hbl
    unfold got4 at hg0
    go_enter Try.func6, Try.ntmps6
    go_wp2_with fail
    refine hg0.mono ?_
    rintro x w1 ⟨rfl, hB1⟩
    clear hg0
    go_wp2_with fail
    have hp := Put_l k t w1 Ht.out
    rw [Hp.out.1, Hp.out.2] at hp
    refine hp.mono ?_
    rintro x w2 ⟨rfl, hB2⟩
    clear hp
    go_wp2_with fail
    rotate_left
    rw [h] at hg0
    have he' : (e == 0) = false := by rw [beq_eq_false_iff_ne]; exact he
    clear h he
    unfold got4 at hg0
    go_enter Try.func6, Try.ntmps6
    go_wp2_with fail
    refine hg0.mono ?_
    rintro x w1 ⟨rfl, hB1⟩
    clear hg0
    go_wp2_with fail
    refine (Put_l 0 [] w1 (by unfold maxLen; simp)).mono ?_
    rintro x w2 ⟨rfl, hB2⟩
    go_wp2_with fail
    all_goals
      have hr0 := GetRow_any s w2 Hb.out
      have hB02 := below2 hB1 hB2
      clear hB1 hB2
      rcases Fm.getRow_cases (bl s) with ⟨k', ls, r', h'⟩ | ⟨e', he', h'⟩
      · rw [h'] at hr0
        obtain ⟨q1, q2⟩ := Fm.getRow_ok h'
        have Hq := Lib.hid q1
        have hcat' : strOf (Fm.rowS k' ls) ++ strOf r' = s := bl_inj (by rw [bl_append, bl_strOf, bl_strOf]; exact q2.symm)
        have hsum' : ¬ 9223372036854775807 < (strOf (Fm.rowS k' ls)).size + (strOf r').size := by
          have := congrArg List.length q2
          rw [bl_length, List.length_append] at this
          rw [strOf_size, strOf_size]; omega
        clear h' q1 q2
        refine hr0.mono ?_
        rintro x w3 ⟨v, rfl, hown, hB3⟩
        obtain ⟨A, c, rfl⟩ := ownsRow_slice hown
        have hA := StrsAt.of_ownV hown
        have hB03 := below2 hB02 hB3
        clear hr0 hown hB02 hB3
        go_wp2_with fail
        have hw := Row_own k' A c ls w3 hA (row_texts Hq.out)
        rw [Hq.out] at hw
        refine hw.mono ?_
        rintro x w4 ⟨rfl, hB4⟩
        have hB04 := below2 hB03 hB4
        clear hw hB03 hB4 hA
        go_wp2_with fail
        refine (framed_any w4).mono ?_
        rintro x w5 ⟨rfl, hB5⟩
        have hB05 := below2 hB04 hB5
        go_wp2
        go_ret
        exact ⟨rfl, hB05⟩
      · rw [h'] at hr0
        have he2 : (e' != 0) = true := by rw [bne_iff_ne]; exact he'
        clear h' he'
        refine hr0.mono ?_
        rintro x w3 ⟨v, rfl, hown, hB3⟩
        obtain ⟨A, c, rfl⟩ := ownsRow_slice hown
        have hA := StrsAt.of_ownV hown
        have hB03 := below2 hB02 hB3
        clear hr0 hown hB02 hB3
        go_wp2_with fail
        have hw := Row_own 0 A c [] w3 hA (by simp)
        refine hw.mono ?_
        rintro x w4 ⟨rfl, hB4⟩
        have hB04 := below2 hB03 hB4
        clear hw hB03 hB4 hA
        go_wp2_with fail
        refine (framed_any w4).mono ?_
        rintro x w5 ⟨rfl, hB5⟩
        have hB05 := below2 hB04 hB5
        go_wp2
        go_ret
        exact ⟨rfl, hB05⟩

end Go.Proofs.Ytgcpgmclhnddbaa
