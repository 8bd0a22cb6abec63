/-
  Layer 10 (mute), the reference: May, Has, Is, Total.
-/
import Derived.Test.YtpgichlaghhdeaaGreatDoorXJb
import Derived.BigQuiet
import Derived.Deep.QuietTactic
namespace Go.Proofs.YtpgichlaghhdeaaGreatDoor
set_option maxRecDepth 10000
open Go.RowKit

theorem RMay_any (x0 x1 x2 : Int) (w : World) :
    Calls Tryz.prog 70 #[.agg #[.int .i64 x0, .int .i64 x1, .int .i64 x2]] w fun e w' => e = .returned (.bool (Mu.may ⟨x0, x1, x2⟩)) ∧ Below w.heap.size w w' := by
  have key : ∀ z : Bool, z = Mu.may ⟨x0, x1, x2⟩ → Calls Tryz.prog 70 #[.agg #[.int .i64 x0, .int .i64 x1, .int .i64 x2]] w fun e w' => e = .returned (.bool z) ∧ Below w.heap.size w w' := by
    intro z hz
    unfold Mu.may at hz
    simp only at hz
    by_cases h1 : 1 ≤ x0
    · have a1 : (1 ≤ x0) = True := eq_true h1
      by_cases h2 : x0 ≤ 99
      · have a2 : (x0 ≤ 99) = True := eq_true h2
        by_cases h3 : 0 ≤ x1
        · have a3 : (0 ≤ x1) = True := eq_true h3
          by_cases h4 : x1 < x2
          · have a4 : (x1 < x2) = True := eq_true h4
            have e : z = decide (x2 ≤ 1000000000) := by rw [hz]; simp [h1, h2, h3, h4]
            subst e
            clear hz h1 h2 h3 h4
            go_enter Tryz.func70, Tryz.ntmps70
            go_wp2
            go_ret
            exact ⟨rfl, below_new _ _⟩
          · have a4 : (x1 < x2) = False := eq_false h4
            obtain rfl : z = false := by rw [hz]; simp [h1, h2, h3, h4]
            clear hz h1 h2 h3 h4
            go_enter Tryz.func70, Tryz.ntmps70
            go_wp2
            go_ret
            exact ⟨rfl, below_new _ _⟩
        · have a3 : (0 ≤ x1) = False := eq_false h3
          obtain rfl : z = false := by rw [hz]; simp [h1, h2, h3]
          clear hz h1 h2 h3
          go_enter Tryz.func70, Tryz.ntmps70
          go_wp2
          go_ret
          exact ⟨rfl, below_new _ _⟩
      · have a2 : (x0 ≤ 99) = False := eq_false h2
        obtain rfl : z = false := by rw [hz]; simp [h1, h2]
        clear hz h1 h2
        go_enter Tryz.func70, Tryz.ntmps70
        go_wp2
        go_ret
        exact ⟨rfl, below_new _ _⟩
    · have a1 : (1 ≤ x0) = False := eq_false h1
      obtain rfl : z = false := by rw [hz]; simp [h1]
      clear hz h1
      go_enter Tryz.func70, Tryz.ntmps70
      go_wp2
      go_ret
      exact ⟨rfl, below_new _ _⟩
  exact key _ rfl

theorem Mu.has_drop {ls : List Win} {b t : Int} {k : Nat} (h : k < ls.length) : Mu.has (ls.drop k) b t = (Mu.hasW ls[k] b t || Mu.has (ls.drop (k + 1)) b t) := by
  rw [List.drop_eq_getElem_cons h]; rfl

set_option maxHeartbeats 1000000 in
theorem RHas_any (A : Option Addr) (l c : Nat) (ls : List Win) (b t : Int) (w : World) (hl : l = ls.length) (hA : WinsAt w w.heap.size A ls) (hf : l ≤ 1000) :
    Calls Tryz.prog 45 #[.slice A l c, .int .i64 b, .int .i64 t] w fun e w' => e = .returned (.bool (Mu.has ls b t)) ∧ w' = w := by
  have HA := Lib.hid hA
  have Hl := Lib.hid hl
  have Hf := Lib.hid hf
  obtain ⟨r, hr⟩ : ∃ r, r = Mu.has ls b t := ⟨_, rfl⟩
  have Hr := Lib.hid hr
  rw [← hr]
  clear hA hl hf hr
  go_enter Tryz.func45, Tryz.ntmps45
  go_wp2
  go_loopw [7] (fun i wr => ∃ k : Nat, k ≤ l ∧ i = .int .i64 (k : Int) ∧ wr = w ∧ Hid (Mu.has (ls.drop k) b t = r)) (fun i _ => l - (intOf i).toNat)
  case atStart => exact ⟨0, Nat.zero_le _, rfl, (by first | trivial | rfl), Lib.hid (by rw [Hr.out]; rfl)⟩
  case round =>
    obtain ⟨k, hk, rfl, rfl, Hg⟩ := hrel
    by_cases hlt : k < l
    · have kl : k < ls.length := by rw [← Hl.out]; exact hlt
      obtain ⟨b0, o0, rfl, hb0, h3⟩ := HA.out k kl
      have Hs := Lib.hid (Mu.has_drop (b := b) (t := t) kl)
      obtain ⟨x, hx⟩ : ∃ x, x = ls[k] := ⟨_, rfl⟩
      rw [← hx] at h3 Hs
      clear hx
      obtain ⟨x0, x1, x2⟩ := x
      have d0 := h3.c0
      have d1 := h3.c1
      have d2 := h3.c2
      simp only at d0 d1 d2
      have i1 : (k : Int) < (l : Int) := by omega
      have i3 : (0 : Int) ≤ (k : Int) := by omega
      have Ik : Hid (wrap64 ((k : Int) + 1) = (k : Int) + 1) := Lib.hid (by have := Hf.out; unfold wrap64; omega)
      have Hk := Lib.hid hlt
      clear h3 kl hk hlt hb0
      by_cases e1 : x0 = b
      · subst e1
        have b1 : (x0 == x0) = true := beq_self_eq_true x0
        by_cases e2 : x1 ≤ t
        · have b2 : (x1 ≤ t) = True := eq_true e2
          by_cases e3 : t < x2
          · have b3 : (t < x2) = True := eq_true e3
            have He : Hid (r = true) := Lib.hid (by rw [← Hg.out, Hs.out]; unfold Mu.hasW; simp [e2, e3])
            clear Hs Hg e2 e3
            go_wp2
            go_ret
            exact ⟨by rw [He.out]; rfl, by first | trivial | rfl⟩
          · have b3 : (t < x2) = False := eq_false e3
            have He : Hid (Mu.has (ls.drop (k + 1)) x0 t = r) := Lib.hid (by rw [← Hg.out, Hs.out]; unfold Mu.hasW; simp [e3])
            clear Hs Hg e2 e3
            go_wp2
            go_roundw
            case rel => exact ⟨k + 1, Hk.out, by first | rfl | (rw [Ik.out]; rfl), (by first | trivial | rfl), He⟩
            case measure => have := Hk.out; (try rw [Ik.out]); simp [intOf]; omega
        · have b2 : (x1 ≤ t) = False := eq_false e2
          have He : Hid (Mu.has (ls.drop (k + 1)) x0 t = r) := Lib.hid (by rw [← Hg.out, Hs.out]; unfold Mu.hasW; simp [e2])
          clear Hs Hg e2
          go_wp2
          go_roundw
          case rel => exact ⟨k + 1, Hk.out, by first | rfl | (rw [Ik.out]; rfl), (by first | trivial | rfl), He⟩
          case measure => have := Hk.out; (try rw [Ik.out]); simp [intOf]; omega
      · have b1 : (x0 == b) = false := by rw [beq_eq_false_iff_ne]; exact e1
        have He : Hid (Mu.has (ls.drop (k + 1)) b t = r) := Lib.hid (by rw [← Hg.out, Hs.out]; unfold Mu.hasW; simp [e1])
        clear Hs Hg e1
        go_wp2
        go_roundw
        case rel => exact ⟨k + 1, Hk.out, by first | rfl | (rw [Ik.out]; rfl), (by first | trivial | rfl), He⟩
        case measure => have := Hk.out; (try rw [Ik.out]); simp [intOf]; omega
    · have ik : ((k : Int) < (l : Int)) = False := eq_false (by omega)
      have He : Hid (r = false) := Lib.hid (by rw [← Hg.out, List.drop_eq_nil_of_le (by have := Hl.out; omega)]; rfl)
      clear hk hlt Hg
      go_wp2
      go_ret
      exact ⟨by rw [He.out]; rfl, by first | trivial | rfl⟩

theorem Mu.rising_idx : ∀ {l : List Win}, Mu.rising l = true ↔ ∀ k (h : k + 1 < l.length), Mu.before (l[k]'(by omega)) (l[k + 1]'h)
  | [] => ⟨fun _ k h => by simp at h, fun _ => rfl⟩
  | [x] => ⟨fun _ k h => by simp at h, fun _ => rfl⟩
  | x :: y :: l => by
    have ih := Mu.rising_idx (l := y :: l)
    unfold Mu.rising
    rw [Bool.and_eq_true, decide_eq_true_eq, ih]
    constructor
    · rintro ⟨h1, h2⟩ k h
      cases k with
      | zero => exact h1
      | succ k => exact h2 k (by simpa using h)
    · intro h
      exact ⟨h 0 (by simp), fun k hk => h (k + 1) (by simpa using hk)⟩
/-- Are the first k windows right, one by one? -/
def Mu.upTo (ls : List Win) (k : Nat) : Prop := ∀ i (h : i < ls.length), i < k → Mu.may ls[i] = true ∧ ∀ h0 : 0 < i, Mu.before (ls[i - 1]'(by omega)) ls[i]
theorem Mu.upTo_all {ls : List Win} (h : Mu.upTo ls ls.length) : Mu.isL ls = decide (ls.length ≤ 100) := by
  have h1 : ls.all Mu.may = true := List.all_eq_true.2 fun w hw => by
    obtain ⟨i, hi, rfl⟩ := List.mem_iff_getElem.1 hw
    exact (h i hi hi).1
  have h2 : Mu.rising ls = true := Mu.rising_idx.2 fun k hk => (h (k + 1) hk hk).2 (Nat.succ_pos k)
  unfold Mu.isL
  rw [h1, h2]
  rfl
theorem Mu.upTo_may {ls : List Win} {k : Nat} (hk : k < ls.length) (h : Mu.may ls[k] = false) : Mu.isL ls = false := by
  cases hi : Mu.isL ls
  · rfl
  · have := (Mu.isL_iff.1 hi).1 _ (List.getElem_mem hk)
    rw [h] at this
    cases this
theorem Mu.upTo_not {ls : List Win} {k : Nat} (hk : k + 1 < ls.length) (h : ¬ Mu.before (ls[k]'(by omega)) ls[k + 1]) : Mu.isL ls = false := by
  cases hi : Mu.isL ls
  · rfl
  · have hr : Mu.rising ls = true := by
      unfold Mu.isL at hi
      simp only [Bool.and_eq_true] at hi
      exact hi.1.2
    exact absurd (Mu.rising_idx.1 hr k hk) h
theorem Mu.upTo_succ {ls : List Win} {k : Nat} (hk : k < ls.length) (h : Mu.upTo ls k) (h1 : Mu.may ls[k] = true) (h2 : ∀ h0 : 0 < k, Mu.before (ls[k - 1]'(by omega)) ls[k]) : Mu.upTo ls (k + 1) := by
  intro i hi hik
  rcases Nat.lt_or_ge i k with hlt | hge
  · exact h i hi hlt
  · obtain rfl : i = k := by omega
    exact ⟨h1, h2⟩

end Go.Proofs.YtpgichlaghhdeaaGreatDoor
