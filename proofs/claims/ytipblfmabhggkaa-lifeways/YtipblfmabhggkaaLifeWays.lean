/-
  Layer 5 (life): the walk of the law LifeWays.
-/
import Derived.Test.YtipblfmabhggkaaLifeLived
namespace Go.Proofs.Ytipblfmabhggkaa
open Go.RowKit

theorem ways1_nat : ∀ f to : Fin 5, ∀ d : Fin 6, Lf.ok (f.val : Int) ((d.val : Int) + 1) = true → Lf.nx (f.val : Int) ((d.val : Int) + 1) = (to.val : Int) → (Lf.way (f.val : Int) (to.val : Int)).length ≤ 1 := by decide +kernel
theorem ways2_nat : ∀ f to : Fin 5, ∀ d e : Fin 6, Lf.ok (f.val : Int) ((d.val : Int) + 1) = true → Lf.ok (Lf.nx (f.val : Int) ((d.val : Int) + 1)) ((e.val : Int) + 1) = true → Lf.nx (Lf.nx (f.val : Int) ((d.val : Int) + 1)) ((e.val : Int) + 1) = (to.val : Int) → (Lf.way (f.val : Int) (to.val : Int)).length ≤ 2 := by decide +kernel

theorem ways1 {f to d : Int} (hf : Lf.isP f = true) (ht : Lf.isP to = true) (h : Lf.ok f d = true) (he : Lf.nx f d = to) : (Lf.way f to).length ≤ 1 := by
  have h1 := Lf.isP_iff.1 hf
  have h2 := Lf.isP_iff.1 ht
  have h3 := Lf.isD_iff.1 (Lf.ok_parts h).2.1
  have := ways1_nat ⟨f.toNat, by omega⟩ ⟨to.toNat, by omega⟩ ⟨(d - 1).toNat, by omega⟩
  simp only [show ((f.toNat : Nat) : Int) = f by omega, show ((to.toNat : Nat) : Int) = to by omega, show (((d - 1).toNat : Nat) : Int) + 1 = d by omega] at this
  exact this h he
theorem ways2 {f to d e : Int} (hf : Lf.isP f = true) (ht : Lf.isP to = true) (h : Lf.ok f d = true) (h' : Lf.ok (Lf.nx f d) e = true) (he : Lf.nx (Lf.nx f d) e = to) : (Lf.way f to).length ≤ 2 := by
  have h1 := Lf.isP_iff.1 hf
  have h2 := Lf.isP_iff.1 ht
  have h3 := Lf.isD_iff.1 (Lf.ok_parts h).2.1
  have h4 := Lf.isD_iff.1 (Lf.ok_parts h').2.1
  have := ways2_nat ⟨f.toNat, by omega⟩ ⟨to.toNat, by omega⟩ ⟨(d - 1).toNat, by omega⟩ ⟨(e - 1).toNat, by omega⟩
  simp only [show ((f.toNat : Nat) : Int) = f by omega, show ((to.toNat : Nat) : Int) = to by omega, show (((d - 1).toNat : Nat) : Int) + 1 = d by omega, show (((e - 1).toNat : Nat) : Int) + 1 = e by omega] at this
  exact this h h' he
theorem way_all {f to : Int} (hf : Lf.isP f = true) (ht : Lf.isP to = true) : (Lf.way f to).length ≤ 3 ∧ Lf.runP f (Lf.way f to) = to ∧ Lf.runN f (Lf.way f to) = (Lf.way f to).length ∧ ((Lf.way f to).length = 0 ↔ f = to) := by
  have h1 := Lf.isP_iff.1 hf
  have h2 := Lf.isP_iff.1 ht
  have := Lf.way_facts ⟨f.toNat, by omega⟩ ⟨to.toNat, by omega⟩
  simp only [show ((f.toNat : Nat) : Int) = f by omega, show ((to.toNat : Nat) : Int) = to by omega] at this
  refine ⟨this.1, this.2.1, this.2.2.1, this.2.2.2.trans ⟨fun h => ?_, fun h => ?_⟩⟩
  · have := congrArg Fin.val h
    simp only at this
    omega
  · subst h; rfl

set_option maxRecDepth 10000 in
set_option maxHeartbeats 4000000 in
theorem lifeWays_no (f to d e : Int) (w : World) (h : f < 0 ∨ (0 ≤ f ∧ 4 < f) ∨ (0 ≤ f ∧ f ≤ 4 ∧ to < 0) ∨ (0 ≤ f ∧ f ≤ 4 ∧ 0 ≤ to ∧ 4 < to)) :
    Calls Try.prog 5 #[.int .i64 f, .int .i64 to, .int .i64 d, .int .i64 e] w fun e w' => e = .returned (.bool true) ∧ Below w.heap.size w w' := by
  have hno : (Lf.isP f && Lf.isP to) = false := by unfold Lf.isP; simp; omega
  have hW := fun W => Way_any f to W
  rw [hno] at hW
  have hw0 : Lf.way f to = [] := by unfold Lf.way; rw [hno]; rfl
  rw [hw0] at hW
  have hR := fun A cap W hW => Run_any f A cap [] W hW (by simp)
  obtain ⟨x, hx⟩ : ∃ x, x = Lf.runP f [] := ⟨_, rfl⟩
  obtain ⟨n, hn⟩ : ∃ n, n = Lf.runN f [] := ⟨_, rfl⟩
  rw [← hx, ← hn] at hR
  clear hno hw0 hx hn
  rcases h with h | ⟨h, h'⟩ | ⟨h, h', h''⟩ | ⟨h, h', h'', h3⟩
  all_goals (
    (try have hd4 : decide (to ≤ 4) = false := decide_eq_false (by omega))
    go_enter Try.func5, Try.ntmps5
    go_wp2_with fail
    refine (hW _).mono ?_
    rintro e w1 ⟨u, rfl, hown, hB0⟩
    obtain ⟨A1, c1, rfl⟩ := ownsRow_slice hown
    have hI := IntsAt.of_own (zs := []) hown
    clear hW hown
    go_wp2_with fail
    refine (hR _ _ _ hI).mono ?_
    rintro e w2 ⟨rfl, hB1⟩
    replace hB0 := below2 hB0 hB1
    clear hR hI hB1
    go_wp2_with fail
    refine (lived_any _).mono ?_
    rintro e w3 ⟨rfl, hB1⟩
    have HB := Lib.hid (below2 hB0 hB1)
    clear hB0 hB1
    go_wp2
    go_ret
    exact ⟨rfl, HB.out⟩)

set_option maxRecDepth 10000 in
set_option maxHeartbeats 8000000 in
theorem lifeWays_yes (f to d e : Int) (w : World) (hf : Lf.isP f = true) (ht : Lf.isP to = true) :
    Calls Try.prog 5 #[.int .i64 f, .int .i64 to, .int .i64 d, .int .i64 e] w fun e w' => e = .returned (.bool true) ∧ Below w.heap.size w w' := by
  have hW := fun W => Way_any f to W
  rw [hf, ht] at hW
  obtain ⟨l3, lr, ln, l0⟩ := way_all hf ht
  have h1 := fun W => Next_any f d W
  have h2 := fun W => Next_any (Lf.nx f d) e W
  have k1 := fun h h' => ways1 (d := d) hf ht h h'
  have k2 := fun h h' h'' => ways2 (d := d) (e := e) hf ht h h' h''
  have hR := fun A cap W hW => Run_any f A cap (Lf.way f to) W hW (by omega)
  rw [lr, ln] at hR
  obtain ⟨a0, a1⟩ := Lf.isP_iff.1 hf
  obtain ⟨b0, b1⟩ := Lf.isP_iff.1 ht
  have a2 : f ≤ 4 := by omega
  have b2 : to ≤ 4 := by omega
  obtain ⟨l, hl⟩ : ∃ l, l = Lf.way f to := ⟨_, rfl⟩
  rw [← hl] at hW l3 l0 k1 k2 hR
  obtain ⟨q, hq⟩ : ∃ q, q = Lf.nx f d := ⟨_, rfl⟩
  obtain ⟨one, ho⟩ : ∃ o, o = Lf.ok f d := ⟨_, rfl⟩
  rw [← hq] at h1 h2 k1 k2
  rw [← ho] at h1 k1 k2
  obtain ⟨r, hr⟩ : ∃ r, r = Lf.nx q e := ⟨_, rfl⟩
  obtain ⟨two, hw⟩ : ∃ o, o = Lf.ok q e := ⟨_, rfl⟩
  rw [← hr] at h2 k2
  rw [← hw] at h2 k2
  have z0 : ((l.length : Int) == 0) = (f == to) := by
    by_cases h : f = to
    · rw [h]; simp only [beq_self_eq_true, beq_iff_eq]; have := l0.2 h; omega
    · rw [beq_eq_false_iff_ne.2 h, beq_eq_false_iff_ne]; intro h'; exact h (l0.1 (by omega))
  have l3i : (l.length : Int) ≤ 3 := by omega
  have hcase : (one = false) ∨ (one = true ∧ (q != to) = true ∧ two = false) ∨ (one = true ∧ (q != to) = true ∧ two = true ∧ (r != to) = true) ∨ (one = true ∧ (q != to) = true ∧ two = true ∧ (r != to) = false ∧ (l.length : Int) ≤ 2) ∨ (one = true ∧ (q != to) = false ∧ (l.length : Int) ≤ 1 ∧ two = false) ∨ (one = true ∧ (q != to) = false ∧ (l.length : Int) ≤ 1 ∧ two = true ∧ (r != to) = true) ∨ (one = true ∧ (q != to) = false ∧ (l.length : Int) ≤ 1 ∧ two = true ∧ (r != to) = false ∧ (l.length : Int) ≤ 2) := by
    cases one
    · exact Or.inl rfl
    · cases hc : (q != to)
      · have e1 : q = to := by simpa using hc
        have := k1 rfl e1
        cases two
        · right; right; right; right; left; exact ⟨rfl, rfl, by omega, rfl⟩
        · cases hd : (r != to)
          · right; right; right; right; right; right; exact ⟨rfl, rfl, by omega, rfl, rfl, by omega⟩
          · right; right; right; right; right; left; exact ⟨rfl, rfl, by omega, rfl, rfl⟩
      · cases two
        · right; left; exact ⟨rfl, rfl, rfl⟩
        · cases hd : (r != to)
          · have e2 : r = to := by simpa using hd
            have := k2 rfl rfl e2
            right; right; right; left; exact ⟨rfl, rfl, rfl, rfl, by omega⟩
          · right; right; left; exact ⟨rfl, rfl, rfl, rfl⟩
  clear k1 k2 hl hq ho hr hw l0 lr ln l3 hf ht a1 b1
  obtain ⟨z, hz⟩ : ∃ z, z = (f == to) := ⟨_, rfl⟩
  rw [← hz] at z0
  replace hz := hz.symm
  have tt : (to != to) = false := by simp
  rcases hcase with c1 | ⟨c1, c2, c3⟩ | ⟨c1, c2, c3, c4⟩ | ⟨c1, c2, c3, c4, c5⟩ | ⟨c1, c2, c5, c3⟩ | ⟨c1, c2, c5, c3, c4⟩ | ⟨c1, c2, c5, c3, c4, c6⟩
  all_goals (
    (try subst c1)
    (try subst c3)
    (try (have c2' : (q == to) = false := by rw [bne_iff_ne] at c2; rw [beq_eq_false_iff_ne]; exact c2))
    (try (have c2' : (q == to) = true := by simpa using c2))
    (try (have c4' : (r == to) = false := by rw [bne_iff_ne] at c4; rw [beq_eq_false_iff_ne]; exact c4))
    (try (have c4' : (r == to) = true := by simpa using c4))
    cases z)
  all_goals (
    go_enter Try.func5, Try.ntmps5
    go_wp2_with fail
    refine (hW _).mono ?_
    rintro e w1 ⟨u, rfl, hown, hB0⟩
    obtain ⟨A1, c1, rfl⟩ := ownsRow_slice hown
    have hI := IntsAt.of_own hown
    clear hW hown
    go_wp2_with fail
    refine (hR _ _ _ hI).mono ?_
    rintro e w2 ⟨rfl, hB1⟩
    replace hB0 := below2 hB0 hB1
    clear hR hI hB1
    go_wp2_with fail
    refine (h1 _).mono ?_
    rintro e w3 ⟨rfl, hB1⟩
    replace hB0 := below2 hB0 hB1
    clear h1 hB1
    go_wp2_with fail
    refine (h2 _).mono ?_
    rintro e w4 ⟨rfl, hB1⟩
    replace hB0 := below2 hB0 hB1
    clear h2 hB1
    go_wp2_with fail
    refine (lived_any _).mono ?_
    rintro e w5 ⟨rfl, hB1⟩
    have HB := Lib.hid (below2 hB0 hB1)
    clear hB0 hB1
    go_wp2
    go_ret
    exact ⟨rfl, HB.out⟩)

theorem lifeWays_walk (f to d e : Int) (w : World) (_h0 : (Lit.int .i64 f).wf = true) (_h1 : (Lit.int .i64 to).wf = true) (_h2 : (Lit.int .i64 d).wf = true) (_h3 : (Lit.int .i64 e).wf = true) :
    Calls Try.prog 5 #[.int .i64 f, .int .i64 to, .int .i64 d, .int .i64 e] w fun e w' => e = .returned (.bool true) ∧ Below w.heap.size w w' := by
  by_cases h : (0 ≤ f ∧ f < 5) ∧ 0 ≤ to ∧ to < 5
  · exact lifeWays_yes f to d e w (Lf.isP_iff.2 h.1) (Lf.isP_iff.2 h.2)
  · exact lifeWays_no f to d e w (by omega)
end Go.Proofs.Ytipblfmabhggkaa
