/-
  Layer 10 (mute), the reference: Same, Own.
-/
import Derived.Test.YthbkfjnpdcfepaaMuteK
import Derived.BigQuiet
import Derived.Deep.QuietTactic
namespace Go.Proofs.Ythbkfjnpdcfepaa
set_option maxRecDepth 10000
open Go.RowKit

set_option maxHeartbeats 1000000 in
theorem RWSame_any (A B : Option Addr) (ca cb : Nat) (ls : List Win) (w : World) (hA : WinsAt w w.heap.size A ls) (hB : WinsAt w w.heap.size B ls) (hl : ls.length ≤ 1000) :
    Calls Try.prog 14 #[.slice A ls.length ca, .slice B ls.length cb] w fun e w' => e = .returned (.bool true) ∧ ∃ n, w' = w.drewN n := by
  have h1 : ((ls.length : Int) == (ls.length : Int)) = true := by rw [beq_iff_eq]
  go_enter Try.func14, Try.ntmps14
  go_wp2
  go_loopw [5] (fun i wr => ∃ k q : Nat, k ≤ ls.length ∧ i = .int .i64 (k : Int) ∧ wr = w.drewN q) (fun i _ => ls.length - (intOf i).toNat)
  case atStart => exact ⟨0, 0, Nat.zero_le _, rfl, rfl⟩
  case round =>
    obtain ⟨k, q, hk, rfl, rfl⟩ := hrel
    by_cases hlt : k < ls.length
    · obtain ⟨b, off, rfl, hb, h6⟩ := hA k hlt
      obtain ⟨b', off', rfl, hb', h6'⟩ := hB k hlt
      obtain ⟨a, ha⟩ : ∃ a, a = ls[k] := ⟨_, rfl⟩
      rw [← ha] at h6 h6'
      obtain ⟨x0, x1, x2⟩ := a
      have c0 := h6.c0
      have c1 := h6.c1
      have c2 := h6.c2
      have d0 := h6'.c0
      have d1 := h6'.c1
      have d2 := h6'.c2
      simp only at c0 c1 c2 d0 d1 d2
      have i1 : (k : Int) < (ls.length : Int) := by omega
      have i3 : (0 : Int) ≤ (k : Int) := by omega
      have i5 : wrap64 ((k : Int) + 1) = (k : Int) + 1 := by unfold wrap64; omega
      clear ha h6 h6'
      go_wp2
      go_quiet (fail)
      go_wp2
      go_roundw
      case rel => exact ⟨k + 1, _, by omega, by first | rfl | (rw [i5]; rfl), rfl⟩
      case measure => first | (rw [i5]; clear i5; simp [intOf]; omega) | (simp only [intOf]; clear i5; omega)
    · obtain rfl : k = ls.length := by omega
      go_wp2
      go_ret
      exact ⟨rfl, _, rfl⟩
theorem rwSame : WSameK := by
  intro A B l c c2 ts w h h1 h2 h3
  subst h
  refine (RWSame_any A B c c2 ts w h1 h2 h3).mono ?_
  rintro e w' ⟨rfl, q, rfl⟩
  exact ⟨rfl, below_drew (Below.refl _ _) q⟩

set_option maxHeartbeats 400000 in
theorem RWOwn_any (A : Option Addr) (l cap : Nat) (ls : List Win) (w : World) (hl : l = ls.length) (hA : WinsAt w w.heap.size A ls) (hnil : A = none → cap = 0) (hf : l ≤ 1000) :
    Calls Try.prog 7 #[.slice A l cap] w (OwnedW w l ls) := by
  have HA := Lib.hid hA
  have Hn := Lib.hid hnil
  have Hl := Lib.hid hf
  have Hm := Lib.hid hl
  have HB := Lib.hid (Below.refl w.heap.size w)
  clear hA hnil hl hf
  go_enter Try.func7, Try.ntmps7
  go_wp2_with (at_builtin; refine wpList_append_wins rfl _ _ 22 rfl Try.underlying22 w.heap.size (.slice none 0 0) [] ls rfl (OwnW.nil _ _) A l cap rfl Hm.out HA.out Hn.out (Nat.le_refl _) (by have := Hl.out; have := Hm.out; simp only [List.length_nil]; omega) ?_; intro v' w1 hown' hgrow; rw [List.nil_append] at hown'; have O1 := Lib.hid hown'; have HB1 := Lib.hid (HB.out.grown hgrow (Nat.le_refl _) (fun _ e => nomatch e)); clear hown' hgrow)
  go_ret
  obtain ⟨A2, c2, rfl, _, _, _⟩ := O1.out.slice
  exact ⟨A2, c2, by rw [Hm.out]; rfl, by rw [Hm.out]; exact O1.out, HB1.out⟩
end Go.Proofs.Ythbkfjnpdcfepaa
