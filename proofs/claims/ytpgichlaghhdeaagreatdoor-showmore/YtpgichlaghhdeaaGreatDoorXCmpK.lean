/-
  Worlds with draws and new blocks behind; the library's cmp.Compare and cmp.Or of ints.
-/
import Derived.Test.YtpgichlaghhdeaaGreatDoorChecked
import Derived.Test.YtpgichlaghhdeaaGreatDoorXJa
import Derived.Sort.Grow
import Derived.BigQuiet
import Derived.Deep.QuietTactic
import Derived.Lib.Hide
namespace Go.Proofs.YtpgichlaghhdeaaGreatDoor
set_option maxRecDepth 10000
open Go.RowKit

/-- Some draws on, and some blocks more. -/
def GrM (w W : World) : Prop := ∃ q os, W = Go.Sort.grow (w.drewN q) os
theorem GrM.refl (w : World) : GrM w w := ⟨0, #[], by rw [Go.Sort.grow_empty]; rfl⟩
theorem GrM.alloc {w W : World} (h : GrM w W) (o : Obj) : GrM w (W.alloc o) := by
  obtain ⟨q, os, rfl⟩ := h
  exact ⟨q, os ++ #[o], by rw [Go.Sort.alloc_eq_grow, Go.Sort.grow_grow]⟩
theorem GrM.drewN {w W : World} (h : GrM w W) (n : Nat) : GrM w (W.drewN n) := by
  obtain ⟨q, os, rfl⟩ := h
  exact ⟨q + n, os, by show Go.Sort.grow ((w.drewN q).drewN n) os = _; rw [World.drewN_drewN]⟩
theorem GrM.drew {w W : World} (h : GrM w W) : GrM w W.drew := h.drewN 1
theorem GrM.trans {a b c : World} (h : GrM a b) (k : GrM b c) : GrM a c := by
  obtain ⟨q, os, rfl⟩ := h
  obtain ⟨q2, os2, rfl⟩ := k
  exact ⟨q + q2, os ++ os2, by show Go.Sort.grow (Go.Sort.grow ((a.drewN q).drewN q2) os) os2 = _; rw [Go.Sort.grow_grow, World.drewN_drewN]⟩
theorem GrM.below {w W : World} (h : GrM w W) : Below w.heap.size w W := by
  obtain ⟨q, os, rfl⟩ := h
  exact ⟨rfl, rfl, rfl, by rw [Go.Sort.size_grow]; exact Nat.le_add_right _ _, fun i hi => Go.Sort.heap_grow_old (w.drewN q) os hi⟩

namespace Du
/-- Two numbers. -/
def ci (x y : Int) : Int := if x < y then -1 else if y < x then 1 else 0
/-- The first one that is not 0. -/
def nz : List Int → Int
  | [] => 0
  | x :: l => if x ≠ 0 then x else nz l
theorem nz_drop {zs : List Int} {k : Nat} (h : k < zs.length) : nz (zs.drop k) = if zs[k] ≠ 0 then zs[k] else nz (zs.drop (k + 1)) := by
  rw [List.drop_eq_getElem_cons h]; rfl
end Du

theorem isnanM_any (x : Int) (w : World) : Calls Tryz.prog 101 #[.int .i64 x] w fun e w' => e = .returned (.bool false) ∧ w' = w := by
  have h : (x == x) = true := by rw [beq_iff_eq]
  go_enter Tryz.func101, Tryz.ntmps101
  go_wp2
  go_ret
  exact ⟨rfl, rfl⟩
theorem cmpintM_any (x y : Int) (w : World) : Calls Tryz.prog 73 #[.int .i64 x, .int .i64 y] w fun e w' => e = .returned (.int .i64 (Du.ci x y)) ∧ w' = w := by
  have g1 := fun W => isnanM_any x W
  have g2 := fun W => isnanM_any y W
  unfold Du.ci
  by_cases h1 : x < y
  · rw [if_pos h1]
    go_enter Tryz.func73, Tryz.ntmps73
    go_wp2_with fail
    refine (g1 _).mono ?_
    rintro e w1 ⟨rfl, rfl⟩
    go_wp2_with fail
    refine (g2 _).mono ?_
    rintro e w1 ⟨rfl, rfl⟩
    go_wp2
    go_ret
    exact ⟨rfl, rfl⟩
  · rw [if_neg h1]
    have d1 : (x < y) = False := eq_false h1
    by_cases h2 : y < x
    · rw [if_pos h2]
      go_enter Tryz.func73, Tryz.ntmps73
      go_wp2_with fail
      refine (g1 _).mono ?_
      rintro e w1 ⟨rfl, rfl⟩
      go_wp2_with fail
      refine (g2 _).mono ?_
      rintro e w1 ⟨rfl, rfl⟩
      go_wp2
      go_ret
      exact ⟨rfl, rfl⟩
    · rw [if_neg h2]
      have d2 : (y < x) = False := eq_false h2
      go_enter Tryz.func73, Tryz.ntmps73
      go_wp2_with fail
      refine (g1 _).mono ?_
      rintro e w1 ⟨rfl, rfl⟩
      go_wp2_with fail
      refine (g2 _).mono ?_
      rintro e w1 ⟨rfl, rfl⟩
      go_wp2
      go_ret
      exact ⟨rfl, rfl⟩

set_option maxHeartbeats 1000000 in
theorem cmpor_any (A : Option Addr) (n cap : Nat) (zs : List Int) (w : World) (hn : n = zs.length) (hA : IntsAt w w.heap.size A zs) (hl : n ≤ 1000) :
    Calls Tryz.prog 106 #[.slice A n cap] w fun e w' => e = .returned (.int .i64 (Du.nz zs)) ∧ w' = w := by
  have HA := Lib.hid hA
  have Hn := Lib.hid hn
  have Hl := Lib.hid hl
  obtain ⟨r, hr⟩ : ∃ r, r = Du.nz zs := ⟨_, rfl⟩
  have Hr := Lib.hid hr
  rw [← hr]
  clear hA hn hl hr
  go_enter Tryz.func106, Tryz.ntmps106
  go_wp2
  go_loopw [8] (fun i wr => ∃ k : Nat, k ≤ n ∧ i = .int .i64 (k : Int) ∧ wr = w ∧ Hid (Du.nz (zs.drop k) = r)) (fun i _ => n - (intOf i).toNat)
  case atStart => exact ⟨0, Nat.zero_le _, rfl, (by first | trivial | rfl), Lib.hid (by rw [Hr.out]; rfl)⟩
  case round =>
    obtain ⟨k, hk, rfl, rfl, Hf⟩ := hrel
    by_cases hlt : k < n
    · have kl : k < zs.length := by rw [← Hn.out]; exact hlt
      obtain ⟨b0, o0, rfl, hb0, hc⟩ := HA.out k kl
      have Hs := Lib.hid (Du.nz_drop kl)
      obtain ⟨x, hx⟩ : ∃ x, x = zs[k] := ⟨_, rfl⟩
      rw [← hx] at hc Hs
      have i1 : (k : Int) < (n : Int) := by omega
      have i3 : (0 : Int) ≤ (k : Int) := by omega
      have Iw : Hid (wrap64 ((k : Int) + 1) = (k : Int) + 1) := Lib.hid (by have := Hl.out; unfold wrap64; omega)
      have Hk := Lib.hid hlt
      clear hx kl hk hlt
      by_cases hx0 : x = 0
      · subst hx0
        have He : Hid (Du.nz (zs.drop (k + 1)) = r) := Lib.hid (by rw [← Hf.out, Hs.out, if_neg (by simp)])
        clear Hs Hf
        go_wp2
        go_roundw
        case rel => exact ⟨k + 1, Hk.out, by first | rfl | (rw [Iw.out]; rfl), (by first | trivial | rfl), He⟩
        case measure => have := Hk.out; (try rw [Iw.out]); simp [intOf]; omega
      · have hxb : (x == 0) = false := by rw [beq_eq_false_iff_ne]; exact hx0
        have He : Hid (r = x) := Lib.hid (by rw [← Hf.out, Hs.out, if_pos hx0])
        clear Hs Hf hx0
        go_wp2
        go_ret
        exact ⟨by rw [He.out]; rfl, by first | trivial | rfl⟩
    · have ik : ((k : Int) < (n : Int)) = False := eq_false (by omega)
      have He : Hid (r = 0) := Lib.hid (by rw [← Hf.out, List.drop_eq_nil_of_le (by have := Hn.out; omega)]; rfl)
      clear hk hlt Hf
      go_wp2
      go_ret
      exact ⟨by rw [He.out]; rfl, by first | trivial | rfl⟩
end Go.Proofs.YtpgichlaghhdeaaGreatDoor
