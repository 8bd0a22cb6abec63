/-
  Layer 7 (rank), the reference: Own, Same.
-/
import Derived.Test.YtplpadblhjdpcaaGreatXJa
import Derived.BigQuiet
import Derived.Deep.QuietTactic
namespace Go.Proofs.YtplpadblhjdpcaaGreat
set_option maxRecDepth 10000
open Go.RowKit

set_option maxHeartbeats 400000 in
theorem RAOwn_any (A : Option Addr) (cap : Nat) (ls : List Alm) (w : World) (hA : AlmsAt w w.heap.size A ls) (hnil : A = none → cap = 0) (hl : ls.length ≤ 1000) :
    Calls Tryz.prog 20 #[.slice A ls.length cap] w (OwnedA w ls) := by
  have HA := Lib.hid hA
  have Hn := Lib.hid hnil
  have Hl := Lib.hid hl
  obtain ⟨m, hm⟩ : ∃ m, m = ls.length := ⟨_, rfl⟩
  have Hm := Lib.hid hm
  rw [← hm]
  clear hA hnil hl hm
  go_enter Tryz.func20, Tryz.ntmps20
  go_wp2_with (at_builtin; refine wpList_append_alms rfl _ _ rfl w.heap.size _ [] ls rfl (OwnA.nil _ _) A _ cap rfl Hm.out HA.out Hn.out (Nat.le_refl _) (by have := Hl.out; simp; omega) ?_; intro v' w1 hown' hgrow; rw [List.nil_append] at hown'; have hB1 : Below w.heap.size w w1 := (Below.refl _ w).grown hgrow (Nat.le_refl _) (fun k hk => by cases hk); clear hgrow)
  go_ret
  exact ⟨_, rfl, hown', hB1⟩

set_option maxHeartbeats 1000000 in
theorem RASame_any (A B : Option Addr) (ca cb : Nat) (ls : List Alm) (w : World) (hA : AlmsAt w w.heap.size A ls) (hB : AlmsAt w w.heap.size B ls) (hl : ls.length ≤ 1000) :
    Calls Tryz.prog 41 #[.slice A ls.length ca, .slice B ls.length cb] w fun e w' => e = .returned (.bool true) ∧ ∃ n, w' = w.drewN n := by
  have h1 : ((ls.length : Int) == (ls.length : Int)) = true := by rw [beq_iff_eq]
  go_enter Tryz.func41, Tryz.ntmps41
  go_wp2
  go_loopw [5] (fun i wr => ∃ k q : Nat, k ≤ ls.length ∧ i = .int .i64 (k : Int) ∧ wr = w.drewN q) (fun i _ => ls.length - (intOf i).toNat)
  case atStart => exact ⟨0, 0, Nat.zero_le _, rfl, rfl⟩
  case round =>
    obtain ⟨k, q, hk, rfl, rfl⟩ := hrel
    by_cases hlt : k < ls.length
    · obtain ⟨b, off, rfl, hb, h6⟩ := hA k hlt
      obtain ⟨b', off', rfl, hb', h6'⟩ := hB k hlt
      obtain ⟨a, ha⟩ : ∃ a, a = ls[k] := ⟨_, rfl⟩
      rw [← ha] at h6 h6'
      obtain ⟨x0, x1, x2, x3, x4, x5⟩ := a
      have c0 := h6.c0
      have c1 := h6.c1
      have c2 := h6.c2
      have c3 := h6.c3
      have c4 := h6.c4
      have c5 := h6.c5
      have d0 := h6'.c0
      have d1 := h6'.c1
      have d2 := h6'.c2
      have d3 := h6'.c3
      have d4 := h6'.c4
      have d5 := h6'.c5
      simp only at c0 c1 c2 c3 c4 c5 d0 d1 d2 d3 d4 d5
      have i1 : (k : Int) < (ls.length : Int) := by omega
      have i3 : (0 : Int) ≤ (k : Int) := by omega
      have i5 : wrap64 ((k : Int) + 1) = (k : Int) + 1 := by unfold wrap64; omega
      clear ha h6 h6'
      go_wp2
      go_quiet (fail)
      go_wp2
      go_roundw
      case rel => exact ⟨k + 1, _, by omega, by first | rfl | (rw [i5]; rfl), rfl⟩
      case measure => first | (rw [i5]; clear i5; simp [intOf]; omega) | (simp only [intOf]; clear i5; omega)
    · obtain rfl : k = ls.length := by omega
      go_wp2
      go_ret
      exact ⟨rfl, _, rfl⟩
end Go.Proofs.YtplpadblhjdpcaaGreat
