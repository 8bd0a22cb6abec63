/-
  Layer 3 (frame): the walk of the law FramePuts.
-/
import Derived.Test.YtgcpgmclhnddbaaRefFrame2
namespace Go.Proofs.Ytgcpgmclhnddbaa
open Go.RowKit

/-- What far hands back: if it is false, there are few texts. -/
def FarSays (ss : List ByteArray) (w : World) (e : Ending) (w' : World) : Prop := ∃ b, e = .returned (.bool b) ∧ (b = false → ss.length ≤ 120) ∧ w = w'

set_option maxRecDepth 10000 in
set_option maxHeartbeats 1000000 in
theorem far_any (A : Option Addr) (cap : Nat) (ss : List ByteArray) (w : World) (hA : StrsAt w w.heap.size A ss) (hl : ss.length ≤ maxLen) (hsz : ∀ s ∈ ss, s.size ≤ maxLen) :
    Calls Try.prog 8 #[.slice A ss.length cap] w (FarSays ss w) := by
  unfold maxLen at hl
  have Hsz := Lib.hid hsz
  clear hsz
  go_enter Try.func8, Try.ntmps8
  go_wp2
  go_loop [3] (fun i => ∃ k : Nat, k ≤ ss.length ∧ i = .int .i64 (k : Int)) (fun i => ss.length - (intOf i).toNat)
  case atStart => exact ⟨0, Nat.zero_le _, rfl⟩
  case round =>
    obtain ⟨k, hk, rfl⟩ := hrel
    by_cases hlt : k < ss.length
    · obtain ⟨b, off, rfl, hb, hc⟩ := hA k hlt
      have hz := Hsz.out ss[k] (List.getElem_mem hlt)
      unfold maxLen at hz
      obtain ⟨x, hx⟩ : ∃ x, x = ss[k] := ⟨_, rfl⟩
      rw [← hx] at hc hz
      clear hx
      by_cases h1 : 300 < x.size
      · have d1 : decide (300 < (x.size : Int)) = true := decide_eq_true (by omega)
        by_cases h2 : x.size ≤ 3000
        · have d2 : decide ((x.size : Int) ≤ 3000) = true := decide_eq_true (by omega)
          clear h1 h2
          go_wp2
          go_ret
          exact ⟨true, rfl, (fun h => by cases h), rfl⟩
        · have d2 : decide ((x.size : Int) ≤ 3000) = false := decide_eq_false (by omega)
          by_cases h3 : 3100 < x.size
          · have d3 : decide (3100 < (x.size : Int)) = true := decide_eq_true (by omega)
            clear h1 h2 h3
            go_wp2
            go_ret
            exact ⟨true, rfl, (fun h => by cases h), rfl⟩
          · have d3 : decide (3100 < (x.size : Int)) = false := decide_eq_false (by omega)
            clear h1 h2 h3
            go_wp2
            go_round
            case rel => exact ⟨k + 1, by omega, by go_num⟩
            case measure => simp [intOf]; omega
      · have d1 : decide (300 < (x.size : Int)) = false := decide_eq_false (by omega)
        have d3 : decide (3100 < (x.size : Int)) = false := decide_eq_false (by omega)
        clear h1
        go_wp2
        go_round
        case rel => exact ⟨k + 1, by omega, by go_num⟩
        case measure => simp [intOf]; omega
    · obtain rfl : k = ss.length := by omega
      by_cases h1 : 60 < ss.length
      · have d1 : decide (60 < (ss.length : Int)) = true := decide_eq_true (by omega)
        by_cases h2 : ss.length ≤ 100
        · have d2 : decide ((ss.length : Int) ≤ 100) = true := decide_eq_true (by omega)
          clear h1 h2
          go_wp2
          go_ret
          exact ⟨true, rfl, (fun h => by cases h), rfl⟩
        · have d2 : decide ((ss.length : Int) ≤ 100) = false := decide_eq_false (by omega)
          by_cases h3 : 120 < ss.length
          · have d3 : decide (120 < (ss.length : Int)) = true := decide_eq_true (by omega)
            clear h1 h2 h3
            go_wp2
            go_ret
            exact ⟨true, rfl, (fun h => by cases h), rfl⟩
          · have d3 : decide (120 < (ss.length : Int)) = false := decide_eq_false (by omega)
            have H3 := Lib.hid (show ss.length ≤ 120 by omega)
            clear h1 h2 h3
            go_wp2
            go_ret
            exact ⟨false, rfl, fun _ => H3.out, rfl⟩
      · have d1 : decide (60 < (ss.length : Int)) = false := decide_eq_false (by omega)
        have d3 : decide (120 < (ss.length : Int)) = false := decide_eq_false (by omega)
        have H3 := Lib.hid (show ss.length ≤ 120 by omega)
        clear h1
        go_wp2
        go_ret
        exact ⟨false, rfl, fun _ => H3.out, rfl⟩

set_option maxRecDepth 10000 in
set_option maxHeartbeats 2000000 in
theorem framePuts_main (k : Int) (s : ByteArray) (A : Option Addr) (cap : Nat) (ss : List ByteArray) (w : World) (hs : s.size ≤ maxLen) (hA : StrsAt w w.heap.size A ss) (hnil : A = none → cap = 0) (hl : ss.length ≤ maxLen) (hsz : ∀ s ∈ ss, s.size ≤ maxLen) :
    Calls Try.prog 3 #[.int .i64 k, .string s, .slice A ss.length cap] w fun e w' => e = .returned (.bool true) ∧ Below w.heap.size w w' := by
  have f1 := far_any (some ⟨w.heap.size, 0, none⟩) 1 [s] (w.alloc (.cells #[.string s] 9)) ((StrsAt.new w [s] 9).more (by simp)) (Nat.le_trans (show 1 ≤ 2 by decide) (by decide)) (by simpa using hs)
  have hB1 : Below w.heap.size w (w.alloc (.cells #[.string s] 9)) := (Below.refl _ w).alloc (Nat.le_refl _) _
  have f2 := far_any A cap ss (w.alloc (.cells #[.string s] 9)) ((hA.below hB1 (Nat.le_refl _)).more hB1.size) hl hsz
  have Hs := Lib.hid hs; have Hsz := Lib.hid hsz; have Hnil := Lib.hid hnil
  obtain ⟨pS, hpS⟩ : ∃ x, x = Fm.putS k (bl s) := ⟨_, rfl⟩
  obtain ⟨pE, hpE⟩ : ∃ x, x = Fm.putE k (bl s) := ⟨_, rfl⟩
  obtain ⟨rS, hrS⟩ : ∃ x, x = Fm.rowS k (ss.map bl) := ⟨_, rfl⟩
  obtain ⟨rE, hrE⟩ : ∃ x, x = Fm.rowE k (ss.map bl) := ⟨_, rfl⟩
  have HpS := Lib.hid hpS; have HpE := Lib.hid hpE; have HrS := Lib.hid hrS; have HrE := Lib.hid hrE
  clear hs hsz hnil hl hpS hpE hrS hrE
  go_enter Try.func3, Try.ntmps3
  go_wp2_with fail
  refine f1.mono ?_
  rintro x w1 ⟨b1, rfl, _, rfl⟩
  clear f1
  cases b1 with
  | true =>
    go_wp2
    go_ret
    exact ⟨rfl, hB1⟩
  | false =>
    go_wp2_with fail
    refine f2.mono ?_
    rintro x w1 ⟨b2, rfl, hb2, rfl⟩
    clear f2
    cases b2 with
    | true =>
      go_wp2
      go_ret
      exact ⟨rfl, hB1⟩
    | false =>
      have Hlen := Lib.hid (hb2 rfl)
      clear hb2
      obtain ⟨w1, hw1⟩ : ∃ w1, w1 = w.alloc (.cells #[.string s] 9) := ⟨_, rfl⟩
      rw [← hw1] at hB1 ⊢
      clear hw1
      go_wp2_with fail
      refine (OwnTexts_any A cap ss w1 ((hA.below hB1 (Nat.le_refl _)).more hB1.size) Hnil.out (by have := Hlen.out; omega)).mono ?_
      rintro x w2 ⟨A', c', rfl, hown, hB2⟩
      have hA' := StrsAt.of_own hown
      have hB02 := below2 hB1 hB2
      clear hown hB1 hB2
      go_wp2_with fail
      have h1 := Put_any k s w2 Hs.out
      rw [← HpS.out, ← HpE.out] at h1
      refine h1.mono ?_
      rintro x w3 ⟨rfl, hB3⟩
      replace hA' := (hA'.below hB3 (Nat.le_refl _)).more hB3.size
      have hB03 := below2 hB02 hB3
      clear h1 hB02 hB3
      go_wp2_with fail
      have h2 := RPut_any k s w3 Hs.out
      rw [← HpS.out, ← HpE.out] at h2
      refine h2.mono ?_
      rintro x w4 ⟨rfl, hB4⟩
      replace hA' := (hA'.below hB4 (Nat.le_refl _)).more hB4.size
      have hB04 := below2 hB03 hB4
      clear h2 hB03 hB4
      go_wp2_with fail
      have h3 := Row_any k A cap ss w4 ((hA.below hB04 (Nat.le_refl _)).more hB04.size) Hsz.out
      rw [← HrS.out, ← HrE.out] at h3
      refine h3.mono ?_
      rintro x w5 ⟨rfl, hB5⟩
      replace hA' := (hA'.below hB5 (Nat.le_refl _)).more hB5.size
      have hB05 := below2 hB04 hB5
      clear h3 hB04 hB5
      go_wp2_with fail
      have h4 := RRow_any k A' c' ss w5 hA' Hsz.out
      rw [← HrS.out, ← HrE.out] at h4
      refine h4.mono ?_
      rintro x w6 ⟨rfl, hB6⟩
      replace hA' := (hA'.below hB6 (Nat.le_refl _)).more hB6.size
      have hB06 := below2 hB05 hB6
      clear h4 hB05 hB6
      go_wp2_with fail
      refine (framed_any w6).mono ?_
      rintro x w7 ⟨rfl, hB7⟩
      replace hA' := (hA'.below hB7 (Nat.le_refl _)).more hB7.size
      have hB07 := below2 hB06 hB7
      clear hB06 hB7
      go_wp2_with fail
      have t1 := Texts_any A A' cap c' ss ss w7 ((hA.below hB07 (Nat.le_refl _)).more hB07.size) hA' (by have := Hlen.out; unfold maxLen; omega)
      rw [decide_eq_true (rfl : ss = ss)] at t1
      refine t1.mono ?_
      rintro x w8 ⟨rfl, n8, rfl⟩
      go_wp2
      go_ret
      exact ⟨rfl, below_drew hB07 n8⟩

theorem framePuts_walk (a0 : Int) (a1 : ByteArray) (a2 : Option Addr) (len2 cap2 : Nat) (z2 : List ByteArray) (w : World) (_w0 : (Lit.int .i64 a0).wf = true) (w1 : a1.size ≤ maxLen) (w2 : IsStrs w a2 len2 cap2 z2) :
    Calls Try.prog 3 #[.int .i64 a0, .string a1, .slice a2 len2 cap2] w fun e w' => e = .returned (.bool true) ∧ Below w.heap.size w w' := by
  obtain ⟨h1, h2, h3, h4⟩ := w2.strs
  have hn : a2 = none → cap2 = 0 := by
    rcases w2 with ⟨_, _, h, _⟩ | ⟨x, h, _⟩
    · exact fun _ => h
    · intro hh; rw [hh] at h; cases h
  have h := framePuts_main a0 a1 a2 cap2 z2 w w1 h3 hn (by omega) h4
  rw [← h1] at h
  exact h

end Go.Proofs.Ytgcpgmclhnddbaa
