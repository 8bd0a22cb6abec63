/-
  Layer 9 (due), the reference: Same.
-/
import Derived.Test.YtplpadblhjdpcaaGreatXJa
import Derived.BigQuiet
import Derived.Deep.QuietTactic
namespace Go.Proofs.YtplpadblhjdpcaaGreat
set_option maxRecDepth 10000
open Go.RowKit

set_option maxHeartbeats 1000000 in
theorem RTSame_any (A B : Option Addr) (ca cb : Nat) (ls : List Trn) (w : World) (hA : TrnsAt w w.heap.size A ls) (hB : TrnsAt w w.heap.size B ls) (hl : ls.length ≤ 1000) :
    Calls Tryz.prog 15 #[.slice A ls.length ca, .slice B ls.length cb] w fun e w' => e = .returned (.bool true) ∧ ∃ n, w' = w.drewN n := by
  have h1 : ((ls.length : Int) == (ls.length : Int)) = true := by rw [beq_iff_eq]
  go_enter Tryz.func15, Tryz.ntmps15
  go_wp2
  go_loopw [5] (fun i wr => ∃ k q : Nat, k ≤ ls.length ∧ i = .int .i64 (k : Int) ∧ wr = w.drewN q) (fun i _ => ls.length - (intOf i).toNat)
  case atStart => exact ⟨0, 0, Nat.zero_le _, rfl, rfl⟩
  case round =>
    obtain ⟨k, q, hk, rfl, rfl⟩ := hrel
    by_cases hlt : k < ls.length
    · obtain ⟨b, off, rfl, hb, h6⟩ := hA k hlt
      obtain ⟨b', off', rfl, hb', h6'⟩ := hB k hlt
      obtain ⟨a, ha⟩ : ∃ a, a = ls[k] := ⟨_, rfl⟩
      rw [← ha] at h6 h6'
      obtain ⟨x0, x1, x2, x3⟩ := a
      have c0 := h6.c0
      have c1 := h6.c1
      have c2 := h6.c2
      have c3 := h6.c3
      have d0 := h6'.c0
      have d1 := h6'.c1
      have d2 := h6'.c2
      have d3 := h6'.c3
      simp only at c0 c1 c2 c3 d0 d1 d2 d3
      have i1 : (k : Int) < (ls.length : Int) := by omega
      have i3 : (0 : Int) ≤ (k : Int) := by omega
      have i5 : wrap64 ((k : Int) + 1) = (k : Int) + 1 := by unfold wrap64; omega
      clear ha h6 h6'
      go_wp2
      go_quiet (fail)
      go_wp2
      go_roundw
      case rel => exact ⟨k + 1, _, by omega, by first | rfl | (rw [i5]; rfl), rfl⟩
      case measure => first | (rw [i5]; clear i5; simp [intOf]; omega) | (simp only [intOf]; clear i5; omega)
    · obtain rfl : k = ls.length := by omega
      go_wp2
      go_ret
      exact ⟨rfl, _, rfl⟩
theorem rtSame : TSameK := by
  intro A B l c c2 ts w h h1 h2 h3
  subst h
  refine (RTSame_any A B c c2 ts w h1 h2 h3).mono ?_
  rintro e w' ⟨rfl, q, rfl⟩
  exact ⟨rfl, below_drew (Below.refl _ _) q⟩
end Go.Proofs.YtplpadblhjdpcaaGreat
