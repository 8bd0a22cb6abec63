/-
  Layer 5 (life): the walk of the law LifeCalm.
-/
import Derived.Test.YtipblfmabhggkaaLifeLived
namespace Go.Proofs.Ytipblfmabhggkaa
open Go.RowKit

/-- Without RAISE and WAKE; without SILENCE. -/
def calmL (p : Int) (l : List Int) : Bool := (p == 0 || p == 3 || p == 4) && l.all (fun d => d != 1 && d != 6)
def loudL (p : Int) (l : List Int) : Bool := p != 4 && l.all (fun d => d != 4)
theorem calm_one {p d : Int} (h : p ≠ 1 ∧ p ≠ 2) (h1 : d ≠ 1) (h6 : d ≠ 6) : (if Lf.ok p d then Lf.nx p d else p) ≠ 1 ∧ (if Lf.ok p d then Lf.nx p d else p) ≠ 2 := by
  cases ho : Lf.ok p d
  · simpa using h
  · obtain ⟨hp, hd, _⟩ := Lf.ok_parts ho
    rcases Lf.isP_cases hp with rfl | rfl | rfl | rfl | rfl <;> rcases Lf.isD_cases hd with rfl | rfl | rfl | rfl | rfl | rfl <;> first | (exfalso; revert ho; decide) | (exfalso; omega) | decide
theorem loud_one {p d : Int} (h : p ≠ 4) (h1 : d ≠ 4) : (if Lf.ok p d then Lf.nx p d else p) ≠ 4 := by
  cases ho : Lf.ok p d
  · simpa using h
  · obtain ⟨hp, hd, _⟩ := Lf.ok_parts ho
    rcases Lf.isP_cases hp with rfl | rfl | rfl | rfl | rfl <;> rcases Lf.isD_cases hd with rfl | rfl | rfl | rfl | rfl | rfl <;> first | (exfalso; revert ho; decide) | (exfalso; omega) | decide
theorem calm_run {p : Int} {l : List Int} (h : p ≠ 1 ∧ p ≠ 2) (hl : ∀ d ∈ l, d ≠ 1 ∧ d ≠ 6) : Lf.runP p l ≠ 1 ∧ Lf.runP p l ≠ 2 := by
  induction l generalizing p with
  | nil => exact h
  | cons d l ih =>
    have hd := hl d (by simp)
    exact ih (p := if Lf.ok p d then Lf.nx p d else p) (calm_one h hd.1 hd.2) (fun x hx => hl x (by simp [hx]))
theorem loud_run {p : Int} {l : List Int} (h : p ≠ 4) (hl : ∀ d ∈ l, d ≠ 4) : Lf.runP p l ≠ 4 := by
  induction l generalizing p with
  | nil => exact h
  | cons d l ih => exact ih (p := if Lf.ok p d then Lf.nx p d else p) (loud_one h (hl d (by simp))) (fun x hx => hl x (by simp [hx]))
theorem calm_ok {p : Int} {l : List Int} (h : calmL p l = true) : Lf.runP p l ≠ 1 ∧ Lf.runP p l ≠ 2 := by
  unfold calmL at h
  simp at h
  exact calm_run (by omega) h.2
theorem loud_ok {p : Int} {l : List Int} (h : loudL p l = true) : Lf.runP p l ≠ 4 := by
  unfold loudL at h
  simp at h
  exact loud_run h.1 h.2
theorem calm_take {p : Int} {l : List Int} {k : Nat} (h : k < l.length) : calmL p (l.take (k + 1)) = (calmL p (l.take k) && (l[k] != 1) && (l[k] != 6)) := by
  unfold calmL
  rw [List.take_succ_eq_append_getElem h, List.all_append]
  simp only [List.all_cons, List.all_nil, Bool.and_true, Bool.and_assoc]
theorem loud_take {p : Int} {l : List Int} {k : Nat} (h : k < l.length) : loudL p (l.take (k + 1)) = (loudL p (l.take k) && (l[k] != 4)) := by
  unfold loudL
  rw [List.take_succ_eq_append_getElem h, List.all_append]
  simp only [List.all_cons, List.all_nil, Bool.and_true, Bool.and_assoc]

theorem calm_start (p : Int) : calmL p [] = (p == 0 || p == 3 || p == 4) := by unfold calmL; simp
theorem loud_start (p : Int) : loudL p [] = (p != 4) := by unfold loudL; simp

set_option maxRecDepth 10000 in
set_option maxHeartbeats 8000000 in
theorem lifeCalm_case (p : Int) (c0 c3 c4 : Bool) (e0 : (p == 0) = c0) (e3 : (p == 3) = c3) (e4 : (p == 4) = c4) (A : Option Addr) (cap : Nat) (zs : List Int) (w : World) (hA : IntsAt w w.heap.size A zs) (hl : zs.length ≤ maxLen) (hone : (c0 = true ∧ c3 = false ∧ c4 = false) ∨ (c0 = false ∧ c3 = true ∧ c4 = false) ∨ (c0 = false ∧ c3 = false ∧ c4 = true) ∨ (c0 = false ∧ c3 = false ∧ c4 = false)) :
    Calls Try.prog 7 #[.int .i64 p, .slice A zs.length cap] w fun e w' => e = .returned (.bool true) ∧ Below w.heap.size w w' := by
  unfold maxLen at hl
  by_cases hlen : (200 : Int) < zs.length
  · clear hone
    go_enter Try.func7, Try.ntmps7
    go_wp2
    go_ret
    exact ⟨rfl, Below.refl _ _⟩
  · have hle : (zs.length : Int) ≤ 200 := by omega
    clear hl hlen
    have Hs := Lib.hid (calm_start p)
    have Ht := Lib.hid (loud_start p)
    have e4' : (p != 4) = !(p == 4) := rfl
    rw [e0, e3, e4] at Hs
    rw [e4'] at Ht
    rw [e4] at e4' Ht
    have HA := Lib.hid hA
    clear hA
    rcases hone with ⟨rfl, rfl, rfl⟩ | ⟨rfl, rfl, rfl⟩ | ⟨rfl, rfl, rfl⟩ | ⟨rfl, rfl, rfl⟩
    all_goals (
      go_enter Try.func7, Try.ntmps7
      go_wp2_with fail
      clear e0 e3 e4 e4'
      go_loopw [5, 6, 7] (fun c l i wr => ∃ k : Nat, k ≤ zs.length ∧ i = .int .i64 (k : Int) ∧ c = .bool (calmL p (zs.take k)) ∧ l = .bool (loudL p (zs.take k)) ∧ wr = w) (fun _ _ i _ => zs.length - (intOf i).toNat)
      case atStart => exact ⟨0, Nat.zero_le _, rfl, by rw [List.take_zero, Hs.out]; rfl, by rw [List.take_zero, Ht.out]; rfl, rfl⟩
      case round =>
        obtain ⟨k, hk, rfl, rfl, rfl, rfl⟩ := hrel
        clear Hs Ht
        by_cases hlt : k < zs.length
        · have HC := Lib.hid (calm_take (p := p) hlt)
          have HL := Lib.hid (loud_take (p := p) hlt)
          have Hk : Hid (k + 1 ≤ zs.length) := Lib.hid hlt
          have Ik : Hid (wrap64 ((k : Int) + 1) = (k : Int) + 1) := Lib.hid (by unfold wrap64; omega)
          obtain ⟨b, off, rfl, hb, hc⟩ := HA.out k hlt
          obtain ⟨x, hx⟩ : ∃ x, x = zs[k]'hlt := ⟨_, rfl⟩
          obtain ⟨b1, hb1⟩ : ∃ b1, b1 = calmL p (zs.take k) := ⟨_, rfl⟩
          obtain ⟨b2, hb2⟩ : ∃ b2, b2 = loudL p (zs.take k) := ⟨_, rfl⟩
          rw [← hx] at hc HC HL
          rw [← hb1] at HC ⊢
          rw [← hb2] at HL ⊢
          have i1 : (k : Int) < (zs.length : Int) := by omega
          clear hx hb1 hb2 hlt hk hle
          by_cases x1 : x = 1
          · subst x1
            cases b1 <;> cases b2 <;> (
              go_wp2
              go_roundw
              case rel => exact ⟨k + 1, Hk.out, by first | rfl | (rw [Ik.out]; rfl), by rw [HC.out]; rfl, by rw [HL.out]; rfl, by first | trivial | rfl⟩
              case measure => have := Hk.out; (try rw [Ik.out]); simp [intOf]; omega)
          · by_cases x6 : x = 6
            · subst x6
              cases b1 <;> cases b2 <;> (
                go_wp2
                go_roundw
                case rel => exact ⟨k + 1, Hk.out, by first | rfl | (rw [Ik.out]; rfl), by rw [HC.out]; rfl, by rw [HL.out]; rfl, by first | trivial | rfl⟩
                case measure => have := Hk.out; (try rw [Ik.out]); simp [intOf]; omega)
            · by_cases x4 : x = 4
              · subst x4
                cases b1 <;> cases b2 <;> (
                  go_wp2
                  go_roundw
                  case rel => exact ⟨k + 1, Hk.out, by first | rfl | (rw [Ik.out]; rfl), by rw [HC.out]; rfl, by rw [HL.out]; rfl, by first | trivial | rfl⟩
                  case measure => have := Hk.out; (try rw [Ik.out]); simp [intOf]; omega)
              · have n1 : (x != 1) = true := by rw [bne_iff_ne]; exact x1
                have n6 : (x != 6) = true := by rw [bne_iff_ne]; exact x6
                have n4 : (x != 4) = true := by rw [bne_iff_ne]; exact x4
                have m1 : (x == 1) = false := by rw [beq_eq_false_iff_ne]; exact x1
                have m6 : (x == 6) = false := by rw [beq_eq_false_iff_ne]; exact x6
                have m4 : (x == 4) = false := by rw [beq_eq_false_iff_ne]; exact x4
                rw [n1, n6] at HC
                rw [n4] at HL
                clear x1 x6 x4
                cases b1 <;> cases b2 <;> (
                  go_wp2
                  go_roundw
                  case rel => exact ⟨k + 1, Hk.out, by first | rfl | (rw [Ik.out]; rfl), by rw [HC.out]; rfl, by rw [HL.out]; rfl, by first | trivial | rfl⟩
                  case measure => have := Hk.out; (try rw [Ik.out]); simp [intOf]; omega)
        · obtain rfl : k = zs.length := by omega
          rw [List.take_length]
          have hR := fun W hW => Run_any p A cap zs W hW (by omega)
          have hn : (Lf.runN p zs : Int) ≤ (zs.length : Int) := by have := Lf.runN_le p zs; omega
          have hok1 := calm_ok (p := p) (l := zs)
          have hok2 := loud_ok (p := p) (l := zs)
          obtain ⟨q, hq⟩ : ∃ q, q = Lf.runP p zs := ⟨_, rfl⟩
          obtain ⟨m, hm⟩ : ∃ m, m = Lf.runN p zs := ⟨_, rfl⟩
          obtain ⟨b1, hb1⟩ : ∃ b1, b1 = calmL p zs := ⟨_, rfl⟩
          obtain ⟨b2, hb2⟩ : ∃ b2, b2 = loudL p zs := ⟨_, rfl⟩
          rw [← hq] at hR hok1 hok2
          rw [← hm] at hR hn
          rw [← hb1] at hok1 ⊢
          rw [← hb2] at hok2 ⊢
          clear hq hm hb1 hb2 hk hlt
          have f1 : b1 = true → (q != 1) = true ∧ (q != 2) = true := fun h => by
            have := hok1 h; exact ⟨by rw [bne_iff_ne]; exact this.1, by rw [bne_iff_ne]; exact this.2⟩
          have f2 : b2 = true → (q != 4) = true := fun h => by rw [bne_iff_ne]; exact hok2 h
          have g1 : b1 = true → (q == 1) = false ∧ (q == 2) = false := fun h => by
            have := hok1 h; exact ⟨by rw [beq_eq_false_iff_ne]; exact this.1, by rw [beq_eq_false_iff_ne]; exact this.2⟩
          have g2 : b2 = true → (q == 4) = false := fun h => by rw [beq_eq_false_iff_ne]; exact hok2 h
          clear hok1 hok2
          cases b1 <;> cases b2 <;> (
            (try obtain ⟨f11, f12⟩ := f1 rfl)
            (try obtain ⟨g11, g12⟩ := g1 rfl)
            (try have f21 := f2 rfl)
            (try have g21 := g2 rfl)
            clear f1 f2 g1 g2
            go_wp2_with fail
            refine (hR _ HA.out).mono ?_
            rintro e w1 ⟨rfl, hB0⟩
            clear hR
            go_wp2_with fail
            refine (lived_any _).mono ?_
            rintro e w2 ⟨rfl, hB1⟩
            have HB := Lib.hid (below2 hB0 hB1)
            clear hB0 hB1
            go_wp2
            go_ret
            exact ⟨rfl, HB.out⟩))

theorem lifeCalm_walk (p : Int) (A : Option Addr) (len cap : Nat) (zs : List Int) (w : World) (_hp : (Lit.int .i64 p).wf = true) (h : IsRow .i64 w A len cap zs) :
    Calls Try.prog 7 #[.int .i64 p, .slice A len cap] w fun e w' => e = .returned (.bool true) ∧ Below w.heap.size w w' := by
  obtain ⟨e, h1, h2, _⟩ := h.ints
  have hone : ((p == 0) = true ∧ (p == 3) = false ∧ (p == 4) = false) ∨ ((p == 0) = false ∧ (p == 3) = true ∧ (p == 4) = false) ∨ ((p == 0) = false ∧ (p == 3) = false ∧ (p == 4) = true) ∨ ((p == 0) = false ∧ (p == 3) = false ∧ (p == 4) = false) := by
    simp only [beq_iff_eq, beq_eq_false_iff_ne]; omega
  have := lifeCalm_case p _ _ _ rfl rfl rfl A cap (zs.take len) w h2 (by rw [← e]; exact h1) hone
  rw [← e] at this; exact this
end Go.Proofs.Ytipblfmabhggkaa
