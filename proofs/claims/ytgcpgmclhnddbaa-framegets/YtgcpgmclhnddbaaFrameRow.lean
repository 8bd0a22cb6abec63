/-
  Layer 3 (frame): what lay, Row, texts and GetRow hand back.
-/
import Derived.Test.YtgcpgmclhnddbaaFrameAll
namespace Go.Proofs.Ytgcpgmclhnddbaa
open Go.RowKit

theorem textsL_short {ls : List (List UInt8)} (h : ∀ t ∈ ls, t.length ≤ 3000) : (Fm.textsL ls).length ≤ 3006 * ls.length := by
  induction ls with
  | nil => simp [Fm.textsL]
  | cons t ls ih =>
    have h1 := textL_short (h t (List.mem_cons_self ..))
    have h2 := h t (List.mem_cons_self ..)
    have h3 := ih fun x hx => h x (List.mem_cons_of_mem _ hx)
    rw [Fm.textsL_cons, List.length_append, List.length_cons]; omega

theorem rowL_short {ls : List (List UInt8)} (h : Fm.layOk ls = true) : (Fm.rowL ls).length ≤ 400000 := by
  obtain ⟨h1, h2⟩ := Fm.layOk_iff.1 h
  have h3 := textsL_short h2
  have h4 := lay_short (ls.length : Int) (Wm.fits_iff.2 (by omega))
  rw [Fm.rowL, List.length_append]; omega

/-- What holds ahead of each round of lay. -/
def LayRel (w : World) (ss : List ByteArray) (out i : Value) (wr : World) : Prop :=
  ∃ k : Nat, k ≤ ss.length ∧ i = .int .i64 (k : Int) ∧ (∀ t ∈ (ss.map bl).take k, t.length ≤ 3000) ∧ out = .string (strOf (Wm.lay (ss.length : Int) ++ Fm.textsL ((ss.map bl).take k))) ∧ Below w.heap.size w wr

theorem map_take_succ {ss : List ByteArray} {k : Nat} (h : k < ss.length) : (ss.map bl).take (k + 1) = (ss.map bl).take k ++ [bl ss[k]] := by
  rw [List.take_succ_eq_append_getElem (by rw [List.length_map]; exact h), List.getElem_map]

set_option maxRecDepth 10000 in
set_option maxHeartbeats 1000000 in
theorem lay_any (A : Option Addr) (cap : Nat) (ss : List ByteArray) (w : World) (hA : StrsAt w w.heap.size A ss) (hs : ∀ s ∈ ss, s.size ≤ maxLen) :
    Calls Try.prog 30 #[.slice A ss.length cap] w fun x w' => x = .returned (.tuple #[.string (strOf (Fm.layS (ss.map bl))), .int .i64 (Fm.layE (ss.map bl))]) ∧ Below w.heap.size w w' := by
  have Hs := Lib.hid hs
  clear hs
  by_cases hmany : 100 < ss.length
  · have hm : decide (100 < (ss.length : Int)) = true := decide_eq_true (by omega)
    have Hr := Lib.hid (Fm.layOk_many (ls := ss.map bl) (by rw [List.length_map]; exact hmany))
    clear hmany
    go_enter Try.func30, Try.ntmps30
    go_wp2
    go_ret2
    exact ⟨ret2 (by rw [Fm.layS, Hr.out]; rfl) (by rw [Fm.layE, Hr.out]; rfl), Below.refl _ _⟩
  · have hm : decide (100 < (ss.length : Int)) = false := decide_eq_false (by omega)
    have hn : ss.length ≤ 100 := by omega
    clear hmany
    go_enter Try.func30, Try.ntmps30
    go_wp2_with fail
    refine (small_any (ss.length : Int) w (Wm.fits_iff.2 (by omega))).mono ?_
    rintro x w1 ⟨rfl, hB1⟩
    go_wp2_with fail
    go_loopw [4, 17] (fun out i wr => LayRel w ss out i wr) (fun _ i _ => ss.length - (intOf i).toNat)
    case atStart => exact ⟨0, Nat.zero_le _, rfl, by simp, by simp [Fm.textsL], hB1⟩
    case round =>
      obtain ⟨k, hk, rfl, hall, rfl, hB⟩ := hrel
      clear hB1
      by_cases hlt : k < ss.length
      · obtain ⟨b, off, rfl, hb, hc⟩ := (hA.below hB (Nat.le_refl _)) k hlt
        by_cases hlong : ss[k].size ≤ 3000
        · have Hlong := Lib.hid hlong
          have Hall := Lib.hid hall
          have hcat : ¬ 9223372036854775807 < (strOf (Wm.lay (ss.length : Int) ++ Fm.textsL ((ss.map bl).take k))).size + (strOf (Fm.textL (bl ss[k]))).size := by
            have h1 := lay_short (ss.length : Int) (Wm.fits_iff.2 (by omega))
            have h2 := textsL_short hall
            rw [List.length_take, List.length_map] at h2
            have h3 := textL_short (t := bl ss[k]) hlong
            rw [bl_length] at h3
            rw [strOf_size, strOf_size, List.length_append]
            omega
          have hout : strOf (Wm.lay (ss.length : Int) ++ Fm.textsL ((ss.map bl).take k)) ++ strOf (Fm.textL (bl ss[k])) = strOf (Wm.lay (ss.length : Int) ++ Fm.textsL ((ss.map bl).take (k + 1))) := by
            rw [strs_append, map_take_succ hlt, Fm.textsL_snoc, List.append_assoc]
          clear hlong hall
          go_wp2_with fail
          refine (Text_yes ss[k] wr Hlong.out).mono ?_
          rintro x w2 ⟨rfl, hB2⟩
          go_wp2
          go_roundw
          case rel =>
            refine ⟨k + 1, by omega, by go_num, ?_, rfl, hB.trans (hB2.mono hB.size)⟩
            intro t ht
            rw [map_take_succ hlt] at ht
            rcases List.mem_append.1 ht with ht | ht
            · exact Hall.out t ht
            · rw [List.mem_singleton.1 ht]; exact Hlong.out
          case measure => simp [intOf]; omega
        · have Hlong := Lib.hid hlong
          have Hr := Lib.hid (Fm.layOk_long (ls := ss.map bl) (k := k) (by rw [List.length_map]; exact hlt) (by rw [List.getElem_map, bl_length]; omega))
          clear hlong hall
          go_wp2_with fail
          refine (Text_no ss[k] wr (Hs.out _ (List.getElem_mem hlt)) Hlong.out).mono ?_
          rintro x w2 ⟨rfl, hB2⟩
          go_wp2
          go_ret2
          exact ⟨ret2 (by rw [Fm.layS, Hr.out]; rfl) (by rw [Fm.layE, Hr.out]; rfl), hB.trans (hB2.mono hB.size)⟩
      · obtain rfl : k = ss.length := by omega
        have Hr : Hid (Fm.layOk (ss.map bl) = true) := Lib.hid (Fm.layOk_iff.2 ⟨by rw [List.length_map]; exact hn, by rwa [List.take_of_length_le (by rw [List.length_map]; exact Nat.le_refl _)] at hall⟩)
        clear hall
        go_wp2
        go_ret2
        refine ⟨ret2 ?_ (by rw [Fm.layE, Hr.out]; rfl), hB⟩
        rw [Fm.layS, if_pos Hr.out, Fm.rowL, List.take_of_length_le (by rw [List.length_map]; exact Nat.le_refl _), List.length_map]

set_option maxHeartbeats 1000000 in
theorem Row_any (k : Int) (A : Option Addr) (cap : Nat) (ss : List ByteArray) (w : World) (hA : StrsAt w w.heap.size A ss) (hs : ∀ s ∈ ss, s.size ≤ maxLen) :
    Calls Try.prog 12 #[.int .i64 k, .slice A ss.length cap] w fun x w' => x = .returned (.tuple #[.string (strOf (Fm.rowS k (ss.map bl))), .int .i64 (Fm.rowE k (ss.map bl))]) ∧ Below w.heap.size w w' := by
  have hla := lay_any A cap ss w hA hs
  by_cases hk : Fm.kindOk k = true
  · have Hk := Lib.hid hk
    clear hk
    by_cases hok : Fm.layOk (ss.map bl) = true
    · rw [Fm.layS, Fm.layE, if_pos hok, if_pos hok] at hla
      have Hb : Hid ((strOf (Fm.rowL (ss.map bl))).size ≤ maxLen) := Lib.hid (by have := rowL_short hok; rw [strOf_size]; unfold maxLen; omega)
      have Hok := Lib.hid hok
      clear hok
      go_enter Try.func12, Try.ntmps12
      go_wp2_with fail
      refine (isKind_any k w).mono ?_
      rintro x w1 ⟨rfl, rfl⟩
      rw [Hk.out]
      go_wp2_with fail
      refine hla.mono ?_
      rintro x w1 ⟨rfl, hB1⟩
      go_wp2_with fail
      refine (Put_any k (strOf (Fm.rowL (ss.map bl))) w1 Hb.out).mono ?_
      rintro x w2 ⟨rfl, hB2⟩
      go_wp2
      go_ret2
      exact ⟨ret2 (by rw [Fm.rowS, if_pos Hk.out, if_pos Hok.out]; rfl) (by rw [Fm.rowE, if_pos Hk.out, if_pos Hok.out]; rfl), below2 hB1 hB2⟩
    · rw [Fm.layS, Fm.layE, if_neg hok, if_neg hok] at hla
      have Hok := Lib.hid hok
      clear hok
      go_enter Try.func12, Try.ntmps12
      go_wp2_with fail
      refine (isKind_any k w).mono ?_
      rintro x w1 ⟨rfl, rfl⟩
      rw [Hk.out]
      go_wp2_with fail
      refine hla.mono ?_
      rintro x w1 ⟨rfl, hB1⟩
      go_wp2
      go_ret2
      exact ⟨ret2 (by rw [Fm.rowS, if_pos Hk.out, if_neg Hok.out]; rfl) (by rw [Fm.rowE, if_pos Hk.out, if_neg Hok.out]), hB1⟩
  · have hk' : Fm.kindOk k = false := by simpa using hk
    have Hk := Lib.hid hk'
    clear hk hk' hla
    go_enter Try.func12, Try.ntmps12
    go_wp2_with fail
    refine (isKind_any k w).mono ?_
    rintro x w1 ⟨rfl, rfl⟩
    rw [Hk.out]
    go_wp2
    go_ret2
    exact ⟨ret2 (by rw [Fm.rowS, Hk.out]; rfl) (by rw [Fm.rowE, Hk.out]; rfl), Below.refl _ _⟩

end Go.Proofs.Ytgcpgmclhnddbaa
