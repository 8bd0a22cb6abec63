/-
  Layer 10 (mute), the reference: put, marks.
-/
import Derived.Test.YthbkfjnpdcfepaaRefMute4
import Derived.Laws.AppendOwnNone
namespace Go.Proofs.Ythbkfjnpdcfepaa
set_option maxRecDepth 10000
open Go.RowKit

theorem Mu.put_at {n : Int} : ∀ {zs : List Int} {k : Nat}, (∀ i (_ : i < zs.length), i < k → zs[i] < n) → k ≤ zs.length → (∀ h : k < zs.length, ¬ zs[k] < n) →
    (∀ h : k < zs.length, zs[k] = n → Mu.put n zs = zs) ∧ ((∀ h : k < zs.length, zs[k] ≠ n) → Mu.put n zs = zs.take k ++ [n] ++ zs.drop k)
  | [], 0, _, _, _ => ⟨fun h => absurd h (Nat.not_lt_zero _), fun _ => rfl⟩
  | [], k + 1, _, h, _ => absurd h (by simp)
  | z :: zs, 0, _, _, h3 => by
    have h0 := h3 (by simp)
    simp only [List.getElem_cons_zero] at h0
    refine ⟨fun _ e => ?_, fun e => ?_⟩
    · simp only [List.getElem_cons_zero] at e
      unfold Mu.put
      simp [e]
    · have e0 := e (by simp)
      simp only [List.getElem_cons_zero] at e0
      unfold Mu.put
      simp [h0, e0]
  | z :: zs, k + 1, h1, h2, h3 => by
    have h0 := h1 0 (by simp) (Nat.succ_pos k)
    simp only [List.getElem_cons_zero] at h0
    have ih := Mu.put_at (n := n) (zs := zs) (k := k) (fun i hi hk => by have := h1 (i + 1) (by simpa using hi) (by omega); simpa using this) (by simpa using h2) (fun h => by have := h3 (by simpa using h); simpa using this)
    have e : Mu.put n (z :: zs) = z :: Mu.put n zs := by
      conv => lhs; unfold Mu.put
      simp [h0]
    refine ⟨fun h e1 => ?_, fun h => ?_⟩
    · rw [e, ih.1 (by simpa using h) (by simpa using e1)]
    · rw [e, ih.2 (fun hk => by have := h (by simpa using hk); simpa using this)]
      simp

theorem Try.infoInt : (Try.prog.info? 3).map (fun i => (i.zero, i.size, i.bytes)) = some (some (.int .i64 0), 1, 8) := by kernel_rfl
/-- A row of numbers of one's own. -/
def OwnN (w : World) (base : Nat) (v : Value) (zs : List Int) : Prop := w.ownsRow base 3 1 v zs.length (zs.map (Value.int .i64))
theorem OwnN.nil (w : World) (base : Nat) : OwnN w base (.slice none 0 0) [] := World.ownsRow_nil w base 3 1
theorem OwnN.below {w W : World} {base : Nat} {v : Value} {ls : List Int} (h : OwnN w base v ls) (hb : Below w.heap.size w W) : OwnN W base v ls := owns_below h hb
theorem OwnN.ge {w : World} {base : Nat} {v : Value} {ls : List Int} (h : OwnN w base v ls) : ∀ k, v.ownBlock = some k → base ≤ k := fun k hk => (World.ownsRow.lt h k hk).1
/-- A slice of numbers that is none has no room; it has room for its numbers. -/
def RoomN (A : Option Addr) (n c : Nat) : Prop := (A = none → c = 0) ∧ n ≤ c ∧ ∀ ad, A = some ad → ad.spot = none
theorem OwnN.rows {w : World} {base : Nat} {v : Value} {zs : List Int} (h : OwnN w base v zs) : ∃ A c, v = .slice A zs.length c ∧ IntsAt w w.heap.size A zs ∧ RoomN A zs.length c := by
  have h' := h
  unfold OwnN at h'
  rcases h'.2 with ⟨hv, h0⟩ | ⟨g, cap, cur, hv, _, hg, hcap, _⟩
  · refine ⟨none, 0, by rw [hv, h0], ?_, fun _ => rfl, by omega, fun _ e => nomatch e⟩
    rw [List.length_eq_zero_iff.1 h0]
    exact IntsAt.nil _ _ _
  · subst hv
    exact ⟨_, _, rfl, IntsAt.of_own h, (fun e => by cases e), hcap, fun _ e => by cases e; rfl⟩

theorem wpList_append_nums {ops : Array Oper} {rest : List Oper} {o : Oper} {a : Act} {w : World} {Q : Exit → Act → World → Prop} (hgd : o.guard = none) (s x : Operand)
    (ho : o.op = .call { callee := .builtin .append, args := #[s, x], argTypes := #[64, 64] })
    (base : Nat) (v : Value) (zs ms : List Int) (hs : a.eval s = v) (hown : OwnN w base v zs)
    (A : Option Addr) (n cap : Nat) (hx : a.eval x = .slice A n cap) (hn : n = ms.length) (hA : IntsAt w w.heap.size A ms) (hnil : A = none → cap = 0) (hb : base ≤ w.heap.size) (hl : zs.length + ms.length ≤ 100000)
    (h : ∀ v' w', OwnN w' base v' (zs ++ ms) → w.grownBy w' v.ownBlock → wpList Try.prog ops Q rest (a.put o.dst v') w') : wpList Try.prog ops Q (o :: rest) a w := by
  obtain ⟨i0, hi, hz0, hz1, hz2⟩ := info_parts Try.infoInt
  subst hn
  cases A with
  | none =>
    obtain rfl : cap = 0 := hnil rfl
    obtain rfl : ms = [] := by
      cases ms with
      | nil => rfl
      | cons z zs => obtain ⟨b, off, h, _⟩ := hA 0 (by simp); cases h
    refine wpList_append_own_none hgd s x 64 ho base 3 i0 1 Try.underlying64 hi v _ _ hs hown hx ?_
    exact h v w (by simpa using hown) (grown_refl _ _)
  | some ad =>
    have hcells : ∀ j u, (ms.map (Value.int .i64))[j]? = some u → w.cell? (ad.add j) = some u := by
      intro j u hu
      have hj : j < ms.length := by
        have := (List.getElem?_eq_some_iff.1 hu).1
        simpa using this
      obtain ⟨b, off, ha, _, hc⟩ := hA j hj
      cases ha
      rw [Go.WideShapes.add_plain, hc]
      simpa [List.getElem?_eq_getElem hj] using hu
    refine wpList_append_own _ hgd s x 64 ho base 3 i0 (.int .i64 0) 1 8 Try.underlying64 hi hz0 hz1 hz2 rfl (by decide) v _ _ hs hown ad ms.length cap (ms.map (Value.int .i64)) hx (by simp) hcells (by simp [Value.oneCell']) (by unfold maxLen; omega) (by omega) hb ?_
    intro v' w' ho' hg _
    exact h v' w' (by unfold OwnN; simpa using ho') hg

theorem IntsAt.to {w : World} {B : Nat} {A : Option Addr} {zs : List Int} (h : IntsAt w B A zs) (k : Nat) : IntsAt w B A (zs.take k) := fun i hi => by
  have hi' : i < zs.length := by rw [List.length_take] at hi; omega
  obtain ⟨b, off, e, hlt, hc⟩ := h i hi'
  exact ⟨b, off, e, hlt, by rw [List.getElem_take]; exact hc⟩
theorem IntsAt.from {w : World} {B b off : Nat} {zs : List Int} (h : IntsAt w B (some ⟨b, off, none⟩) zs) (k : Nat) : IntsAt w B (some ⟨b, off + k, none⟩) (zs.drop k) := fun i hi => by
  have hi' : k + i < zs.length := by rw [List.length_drop] at hi; omega
  obtain ⟨b', off', e, hlt, hc⟩ := h (k + i) hi'
  cases e
  refine ⟨b, off + k, rfl, hlt, ?_⟩
  rw [List.getElem_drop, Nat.add_assoc]
  exact hc

/-- What put, and marks, end with. -/
def PutS (w : World) (base : Nat) (ps : List Int) (e : Ending) (w' : World) : Prop := ∃ A' c' m, m = ps.length ∧ e = .returned (.slice A' m c') ∧ OwnN w' base (.slice A' m c') ps ∧ Below w.heap.size w w'

set_option maxHeartbeats 1000000 in
theorem RPut_any (A : Option Addr) (l c base : Nat) (zs : List Int) (n : Int) (w : World) (hl : l = zs.length) (hO : OwnN w base (.slice A l c) zs) (hb : base ≤ w.heap.size) (hf : l ≤ 10000) :
    Calls Try.prog 59 #[.slice A l c, .int .i64 n] w (PutS w base (Mu.put n zs)) := by
  have HO := Lib.hid hO
  have Hbs := Lib.hid hb
  obtain ⟨hA, hr⟩ : IntsAt w w.heap.size A zs ∧ RoomN A l c := by
    obtain ⟨A', c', e, h1, h2⟩ := hO.rows
    rw [← hl] at e h2
    cases e
    exact ⟨h1, h2⟩
  have HA := Lib.hid hA
  have Hl := Lib.hid hl
  have Hf := Lib.hid hf
  have Hr := Lib.hid hr
  clear hA hl hf hr hO hb
  go_enter Try.func59, Try.ntmps59
  go_wp2
  go_loopw [5] (fun i wr => ∃ k : Nat, k ≤ l ∧ i = .int .i64 (k : Int) ∧ wr = w ∧ Hid (∀ i (_ : i < zs.length), i < k → zs[i] < n)) (fun i _ => l - (intOf i).toNat)
  case atStart => exact ⟨0, Nat.zero_le _, rfl, (by first | trivial | rfl), Lib.hid (fun _ _ h => absurd h (Nat.not_lt_zero _))⟩
  case round =>
    obtain ⟨k, hk, rfl, hww, Hg⟩ := hrel
    subst wr
    have Hk := Lib.hid hk
    by_cases hlt : k < l
    · have kl : k < zs.length := by rw [← Hl.out]; exact hlt
      obtain ⟨b0, o0, rfl, hb0, hc⟩ := HA.out k kl
      obtain ⟨x, hx⟩ : ∃ x, x = zs[k] := ⟨_, rfl⟩
      rw [← hx] at hc
      have i1 : (k : Int) < (l : Int) := by omega
      have i3 : (0 : Int) ≤ (k : Int) := by omega
      have Ik : Hid (wrap64 ((k : Int) + 1) = (k : Int) + 1) := Lib.hid (by have := Hf.out; unfold wrap64; omega)
      have Hlt := Lib.hid hlt
      have Hx : Hid (∀ h : k < zs.length, zs[k] = x) := Lib.hid (fun _ => hx.symm)
      by_cases h1 : x < n
      · have a1 : (x < n) = True := eq_true h1
        have He : Hid (∀ i (_ : i < zs.length), i < k + 1 → zs[i] < n) := Lib.hid (fun i hi hik => by
          rcases Nat.lt_or_ge i k with h | h
          · exact Hg.out i hi h
          · obtain rfl : i = k := by omega
            rw [← hx]; exact h1)
        clear hx kl hk hlt hb0 h1 Hg
        go_wp2
        go_roundw
        case rel => exact ⟨k + 1, Hlt.out, by first | rfl | (rw [Ik.out]; rfl), (by first | trivial | rfl), He⟩
        case measure => have := Hlt.out; (try rw [Ik.out]); simp [intOf]; omega
      · have a1 : (x < n) = False := eq_false h1
        have P := Mu.put_at (n := n) (zs := zs) (k := k) Hg.out (by omega) (fun h => by rw [← hx]; exact h1)
        by_cases h2 : x = n
        · have a2 : (x == n) = true := beq_iff_eq.2 h2
          have a3 : (x = n) = True := eq_true h2
          have He : Hid (Mu.put n zs = zs) := Lib.hid (P.1 kl (by rw [← hx]; exact h2))
          clear hx kl hk hlt hb0 h1 h2 Hg P
          go_wp2
          go_ret
          exact ⟨_, c, l, by rw [He.out]; exact Hl.out, rfl, by rw [He.out]; exact HO.out, Below.refl _ _⟩
        · have a2 : (x == n) = false := by rw [beq_eq_false_iff_ne]; exact h2
          have a3 : (x = n) = False := eq_false h2
          have He : Hid (Mu.put n zs = zs.take k ++ [n] ++ zs.drop k) := Lib.hid (P.2 (fun _ => by rw [← hx]; exact h2))
          have i7 : k ≤ c := by have := Hr.out.2.1; omega
          have i8 : (k : Int) ≤ (c : Int) := by omega
          have i9 : (k : Int) ≤ (l : Int) := by omega
          clear hx kl hk hb0 h1 h2 Hg P
          have i10 : (c = k) = False := eq_false (by have := Hr.out.2.1; omega)
          clear hlt
          have HA1 : Hid (IntsAt w w.heap.size (some ⟨b0, o0, none⟩) (zs.take k)) := Lib.hid (HA.out.to k)
          have HA3 : Hid (IntsAt w w.heap.size (some ⟨b0, o0 + k, none⟩) (zs.drop k)) := Lib.hid (HA.out.from k)
          have Hk1 : Hid (k = (zs.take k).length) := Lib.hid (by rw [List.length_take]; have := Hl.out; have := Hk.out; omega)
          have Hk3 : Hid (l - k = (zs.drop k).length) := Lib.hid (by rw [List.length_drop]; have := Hl.out; have := Hk.out; omega)
          have Hn3 : Hid ((some ⟨b0, o0 + k, none⟩ : Option Addr) = none → c - k = 0) := Lib.hid (fun e => nomatch e)
          obtain ⟨z1, hz1⟩ : ∃ z1, z1 = zs.take k := ⟨_, rfl⟩
          obtain ⟨z3, hz3⟩ : ∃ z3, z3 = zs.drop k := ⟨_, rfl⟩
          rw [← hz1] at HA1 Hk1 He
          rw [← hz3] at HA3 Hk3 He
          have Hlen : Hid (z1.length ≤ 10000 ∧ z3.length ≤ 10000) := Lib.hid (by rw [← Hk1.out, ← Hk3.out]; have := Hf.out; have := Hk.out; omega)
          clear hz1 hz3
          go_wp2_with (first
            | (at_builtin; refine wpList_append_nums rfl _ _ rfl w.heap.size _ (z1 ++ [n]) z3 rfl HO2.out (some ⟨b0, o0 + k, none⟩) _ _ rfl Hk3.out (HA3.out.below HB2.out (Nat.le_refl _) |>.more HB2.out.size) Hn3.out HB2.out.size (by have := Hlen.out; simp only [List.length_append, List.length_cons, List.length_nil]; omega) ?_; intro v' w3 hown' hgrow; have HO3 := Lib.hid hown'; have HB3 : Hid (Below w.heap.size w w3) := Lib.hid (HB2.out.grown hgrow HB2.out.size (fun k hk => HO2.out.ge k hk)); clear hown' hgrow)
            | (at_builtin; refine wpList_append_nums rfl _ _ rfl w.heap.size _ z1 [n] rfl (HO1.out.below (below_new w1 (.cells #[.int .i64 n] 3))) (some ⟨w1.heap.size, 0, none⟩) 1 _ rfl rfl (IntsAt.one w1 n 3) (fun e => nomatch e) (Nat.le_trans HB1.out.size (below_new w1 (.cells #[.int .i64 n] 3)).size) (by have := Hlen.out; simp only [List.length_cons, List.length_nil]; omega) ?_; intro v' w2 hown' hgrow; have HO2 := Lib.hid hown'; have HB2 : Hid (Below w.heap.size w w2) := Lib.hid ((below2 HB1.out (below_new w1 (.cells #[.int .i64 n] 3))).grown hgrow (Nat.le_trans HB1.out.size (below_new w1 (.cells #[.int .i64 n] 3)).size) (fun k hk => HO1.out.ge k hk)); clear hown' hgrow)
            | (at_builtin; refine wpList_append_nums rfl _ _ rfl w.heap.size _ [] z1 rfl (OwnN.nil _ _) (some ⟨b0, o0, none⟩) _ _ rfl Hk1.out HA1.out Hr.out.1 (Nat.le_refl _) (by have := Hlen.out; simp only [List.length_nil]; omega) ?_; intro v' w1 hown' hgrow; rw [List.nil_append] at hown'; have HO1 := Lib.hid hown'; have HB1 : Hid (Below w.heap.size w w1) := Lib.hid ((Below.refl _ w).grown hgrow (Nat.le_refl _) (fun _ e => nomatch e)); clear hown' hgrow))
          obtain ⟨A9, c9, rfl, _, _⟩ := HO3.out.rows
          have hO9 := HO3.out
          obtain ⟨m, hm⟩ : ∃ m, m = (z1 ++ [n] ++ z3).length := ⟨_, rfl⟩
          rw [← hm] at hO9 ⊢
          have Hm := Lib.hid hm
          have HO9 := Lib.hid hO9
          clear hO9 hm HO3
          go_ret
          exact ⟨A9, c9, m, by rw [He.out]; exact Hm.out, rfl, by rw [He.out]; exact owns_lower HO9.out Hbs.out, HB3.out⟩
    · have ik : ((k : Int) < (l : Int)) = False := eq_false (by omega)
      have P := Mu.put_at (n := n) (zs := zs) (k := k) Hg.out (by have := Hl.out; omega) (fun h => absurd h (by have := Hl.out; omega))
      have He : Hid (Mu.put n zs = zs.take k ++ [n] ++ zs.drop k) := Lib.hid (P.2 (fun h => absurd h (by have := Hl.out; omega)))
      have hkl : k = l := by omega
      have hz : zs.drop k = [] := List.drop_eq_nil_of_le (by have := Hl.out; omega)
      have i7 : k ≤ c := by have := Hr.out.2.1; omega
      have i8 : (k : Int) ≤ (c : Int) := by omega
      have i9 : (k : Int) ≤ (l : Int) := by omega
      have i3 : (0 : Int) ≤ (k : Int) := by omega
      clear P Hg hk hlt
      subst hkl
      cases A with
      | none =>
        obtain rfl : c = 0 := Hr.out.1 rfl
        obtain rfl : k = 0 := by omega
        have HA1 : Hid (IntsAt w w.heap.size none (zs.take 0)) := Lib.hid (by have := HA.out.to 0; exact this)
        have HA3 : Hid (IntsAt w w.heap.size none (zs.drop 0)) := Lib.hid (by rw [hz]; exact IntsAt.nil _ _ _)
        have Hk1 : Hid (0 = (zs.take 0).length) := Lib.hid (by rw [List.length_take]; have := Hl.out; have := Hk.out; omega)
        have Hk3 : Hid (0 = (zs.drop 0).length) := Lib.hid (by rw [List.length_drop]; have := Hl.out; have := Hk.out; omega)
        have Hn3 : Hid ((none : Option Addr) = none → 0 = 0) := Lib.hid (fun _ => rfl)
        obtain ⟨z1, hz1⟩ : ∃ z1, z1 = zs.take 0 := ⟨_, rfl⟩
        obtain ⟨z3, hz3⟩ : ∃ z3, z3 = zs.drop 0 := ⟨_, rfl⟩
        rw [← hz1] at HA1 Hk1 He
        rw [← hz3] at HA3 Hk3 He
        have Hlen : Hid (z1.length ≤ 10000 ∧ z3.length ≤ 10000) := Lib.hid (by rw [← Hk1.out, ← Hk3.out]; have := Hf.out; have := Hk.out; omega)
        clear hz1 hz3 hz
        go_wp2_with (first
          | (at_builtin; refine wpList_append_nums rfl _ _ rfl w.heap.size _ (z1 ++ [n]) z3 rfl HO2.out none _ _ rfl Hk3.out (HA3.out.below HB2.out (Nat.le_refl _) |>.more HB2.out.size) Hn3.out HB2.out.size (by have := Hlen.out; simp only [List.length_append, List.length_cons, List.length_nil]; omega) ?_; intro v' w3 hown' hgrow; have HO3 := Lib.hid hown'; have HB3 : Hid (Below w.heap.size w w3) := Lib.hid (HB2.out.grown hgrow HB2.out.size (fun k hk => HO2.out.ge k hk)); clear hown' hgrow)
          | (at_builtin; refine wpList_append_nums rfl _ _ rfl w.heap.size _ z1 [n] rfl (HO1.out.below (below_new w1 (.cells #[.int .i64 n] 3))) (some ⟨w1.heap.size, 0, none⟩) 1 _ rfl rfl (IntsAt.one w1 n 3) (fun e => nomatch e) (Nat.le_trans HB1.out.size (below_new w1 (.cells #[.int .i64 n] 3)).size) (by have := Hlen.out; simp only [List.length_cons, List.length_nil]; omega) ?_; intro v' w2 hown' hgrow; have HO2 := Lib.hid hown'; have HB2 : Hid (Below w.heap.size w w2) := Lib.hid ((below2 HB1.out (below_new w1 (.cells #[.int .i64 n] 3))).grown hgrow (Nat.le_trans HB1.out.size (below_new w1 (.cells #[.int .i64 n] 3)).size) (fun k hk => HO1.out.ge k hk)); clear hown' hgrow)
          | (at_builtin; refine wpList_append_nums rfl _ _ rfl w.heap.size _ [] z1 rfl (OwnN.nil _ _) none _ _ rfl Hk1.out HA1.out Hr.out.1 (Nat.le_refl _) (by have := Hlen.out; simp only [List.length_nil]; omega) ?_; intro v' w1 hown' hgrow; rw [List.nil_append] at hown'; have HO1 := Lib.hid hown'; have HB1 : Hid (Below w.heap.size w w1) := Lib.hid ((Below.refl _ w).grown hgrow (Nat.le_refl _) (fun _ e => nomatch e)); clear hown' hgrow))
        obtain ⟨A9, c9, rfl, _, _⟩ := HO3.out.rows
        have hO9 := HO3.out
        obtain ⟨m, hm⟩ : ∃ m, m = (z1 ++ [n] ++ z3).length := ⟨_, rfl⟩
        rw [← hm] at hO9 ⊢
        have Hm := Lib.hid hm
        have HO9 := Lib.hid hO9
        clear hO9 hm HO3
        go_ret
        exact ⟨A9, c9, m, by rw [He.out]; exact Hm.out, rfl, by rw [He.out]; exact owns_lower HO9.out Hbs.out, HB3.out⟩
      | some ad =>
        obtain ⟨b0, o0, sp⟩ := ad
        obtain rfl : sp = none := Hr.out.2.2 _ rfl
        by_cases hc : c = k
        · obtain rfl := hc.symm
          have HA1 : Hid (IntsAt w w.heap.size (some ⟨b0, o0, none⟩) (zs.take k)) := Lib.hid (HA.out.to k)
          have HA3 : Hid (IntsAt w w.heap.size (some ⟨b0, o0, none⟩) (zs.drop k)) := Lib.hid (by rw [hz]; exact IntsAt.nil _ _ _)
          have Hk1 : Hid (k = (zs.take k).length) := Lib.hid (by rw [List.length_take]; have := Hl.out; have := Hk.out; omega)
          have Hk3 : Hid (0 = (zs.drop k).length) := Lib.hid (by rw [List.length_drop]; have := Hl.out; have := Hk.out; omega)
          have Hn3 : Hid ((some ⟨b0, o0, none⟩ : Option Addr) = none → 0 = 0) := Lib.hid (fun e => nomatch e)
          obtain ⟨z1, hz1⟩ : ∃ z1, z1 = zs.take k := ⟨_, rfl⟩
          obtain ⟨z3, hz3⟩ : ∃ z3, z3 = zs.drop k := ⟨_, rfl⟩
          rw [← hz1] at HA1 Hk1 He
          rw [← hz3] at HA3 Hk3 He
          have Hlen : Hid (z1.length ≤ 10000 ∧ z3.length ≤ 10000) := Lib.hid (by rw [← Hk1.out, ← Hk3.out]; have := Hf.out; have := Hk.out; omega)
          clear hz1 hz3 hz
          go_wp2_with (first
            | (at_builtin; refine wpList_append_nums rfl _ _ rfl w.heap.size _ (z1 ++ [n]) z3 rfl HO2.out (some ⟨b0, o0, none⟩) _ _ rfl Hk3.out (HA3.out.below HB2.out (Nat.le_refl _) |>.more HB2.out.size) Hn3.out HB2.out.size (by have := Hlen.out; simp only [List.length_append, List.length_cons, List.length_nil]; omega) ?_; intro v' w3 hown' hgrow; have HO3 := Lib.hid hown'; have HB3 : Hid (Below w.heap.size w w3) := Lib.hid (HB2.out.grown hgrow HB2.out.size (fun k hk => HO2.out.ge k hk)); clear hown' hgrow)
            | (at_builtin; refine wpList_append_nums rfl _ _ rfl w.heap.size _ z1 [n] rfl (HO1.out.below (below_new w1 (.cells #[.int .i64 n] 3))) (some ⟨w1.heap.size, 0, none⟩) 1 _ rfl rfl (IntsAt.one w1 n 3) (fun e => nomatch e) (Nat.le_trans HB1.out.size (below_new w1 (.cells #[.int .i64 n] 3)).size) (by have := Hlen.out; simp only [List.length_cons, List.length_nil]; omega) ?_; intro v' w2 hown' hgrow; have HO2 := Lib.hid hown'; have HB2 : Hid (Below w.heap.size w w2) := Lib.hid ((below2 HB1.out (below_new w1 (.cells #[.int .i64 n] 3))).grown hgrow (Nat.le_trans HB1.out.size (below_new w1 (.cells #[.int .i64 n] 3)).size) (fun k hk => HO1.out.ge k hk)); clear hown' hgrow)
            | (at_builtin; refine wpList_append_nums rfl _ _ rfl w.heap.size _ [] z1 rfl (OwnN.nil _ _) (some ⟨b0, o0, none⟩) _ _ rfl Hk1.out HA1.out Hr.out.1 (Nat.le_refl _) (by have := Hlen.out; simp only [List.length_nil]; omega) ?_; intro v' w1 hown' hgrow; rw [List.nil_append] at hown'; have HO1 := Lib.hid hown'; have HB1 : Hid (Below w.heap.size w w1) := Lib.hid ((Below.refl _ w).grown hgrow (Nat.le_refl _) (fun _ e => nomatch e)); clear hown' hgrow))
          obtain ⟨A9, c9, rfl, _, _⟩ := HO3.out.rows
          have hO9 := HO3.out
          obtain ⟨m, hm⟩ : ∃ m, m = (z1 ++ [n] ++ z3).length := ⟨_, rfl⟩
          rw [← hm] at hO9 ⊢
          have Hm := Lib.hid hm
          have HO9 := Lib.hid hO9
          clear hO9 hm HO3
          go_ret
          exact ⟨A9, c9, m, by rw [He.out]; exact Hm.out, rfl, by rw [He.out]; exact owns_lower HO9.out Hbs.out, HB3.out⟩
        · have i10 : (c = k) = False := eq_false hc
          clear hc
          have HA1 : Hid (IntsAt w w.heap.size (some ⟨b0, o0, none⟩) (zs.take k)) := Lib.hid (HA.out.to k)
          have HA3 : Hid (IntsAt w w.heap.size (some ⟨b0, o0 + k, none⟩) (zs.drop k)) := Lib.hid (by rw [hz]; exact IntsAt.nil _ _ _)
          have Hk1 : Hid (k = (zs.take k).length) := Lib.hid (by rw [List.length_take]; have := Hl.out; have := Hk.out; omega)
          have Hk3 : Hid (0 = (zs.drop k).length) := Lib.hid (by rw [List.length_drop]; have := Hl.out; have := Hk.out; omega)
          have Hn3 : Hid ((some ⟨b0, o0 + k, none⟩ : Option Addr) = none → c - k = 0) := Lib.hid (fun e => nomatch e)
          obtain ⟨z1, hz1⟩ : ∃ z1, z1 = zs.take k := ⟨_, rfl⟩
          obtain ⟨z3, hz3⟩ : ∃ z3, z3 = zs.drop k := ⟨_, rfl⟩
          rw [← hz1] at HA1 Hk1 He
          rw [← hz3] at HA3 Hk3 He
          have Hlen : Hid (z1.length ≤ 10000 ∧ z3.length ≤ 10000) := Lib.hid (by rw [← Hk1.out, ← Hk3.out]; have := Hf.out; have := Hk.out; omega)
          clear hz1 hz3 hz
          go_wp2_with (first
            | (at_builtin; refine wpList_append_nums rfl _ _ rfl w.heap.size _ (z1 ++ [n]) z3 rfl HO2.out (some ⟨b0, o0 + k, none⟩) _ _ rfl Hk3.out (HA3.out.below HB2.out (Nat.le_refl _) |>.more HB2.out.size) Hn3.out HB2.out.size (by have := Hlen.out; simp only [List.length_append, List.length_cons, List.length_nil]; omega) ?_; intro v' w3 hown' hgrow; have HO3 := Lib.hid hown'; have HB3 : Hid (Below w.heap.size w w3) := Lib.hid (HB2.out.grown hgrow HB2.out.size (fun k hk => HO2.out.ge k hk)); clear hown' hgrow)
            | (at_builtin; refine wpList_append_nums rfl _ _ rfl w.heap.size _ z1 [n] rfl (HO1.out.below (below_new w1 (.cells #[.int .i64 n] 3))) (some ⟨w1.heap.size, 0, none⟩) 1 _ rfl rfl (IntsAt.one w1 n 3) (fun e => nomatch e) (Nat.le_trans HB1.out.size (below_new w1 (.cells #[.int .i64 n] 3)).size) (by have := Hlen.out; simp only [List.length_cons, List.length_nil]; omega) ?_; intro v' w2 hown' hgrow; have HO2 := Lib.hid hown'; have HB2 : Hid (Below w.heap.size w w2) := Lib.hid ((below2 HB1.out (below_new w1 (.cells #[.int .i64 n] 3))).grown hgrow (Nat.le_trans HB1.out.size (below_new w1 (.cells #[.int .i64 n] 3)).size) (fun k hk => HO1.out.ge k hk)); clear hown' hgrow)
            | (at_builtin; refine wpList_append_nums rfl _ _ rfl w.heap.size _ [] z1 rfl (OwnN.nil _ _) (some ⟨b0, o0, none⟩) _ _ rfl Hk1.out HA1.out Hr.out.1 (Nat.le_refl _) (by have := Hlen.out; simp only [List.length_nil]; omega) ?_; intro v' w1 hown' hgrow; rw [List.nil_append] at hown'; have HO1 := Lib.hid hown'; have HB1 : Hid (Below w.heap.size w w1) := Lib.hid ((Below.refl _ w).grown hgrow (Nat.le_refl _) (fun _ e => nomatch e)); clear hown' hgrow))
          obtain ⟨A9, c9, rfl, _, _⟩ := HO3.out.rows
          have hO9 := HO3.out
          obtain ⟨m, hm⟩ : ∃ m, m = (z1 ++ [n] ++ z3).length := ⟨_, rfl⟩
          rw [← hm] at hO9 ⊢
          have Hm := Lib.hid hm
          have HO9 := Lib.hid hO9
          clear hO9 hm HO3
          go_ret
          exact ⟨A9, c9, m, by rw [He.out]; exact Hm.out, rfl, by rw [He.out]; exact owns_lower HO9.out Hbs.out, HB3.out⟩

theorem Mu.put_len {n : Int} : ∀ zs : List Int, (Mu.put n zs).length ≤ zs.length + 1
  | [] => by unfold Mu.put; simp
  | z :: zs => by
    have := Mu.put_len (n := n) zs
    unfold Mu.put
    repeat' split
    all_goals simp only [List.length_cons]; omega
theorem Mu.mark_len (bed : Int) (out : List Int) (x : Win) : (Mu.mark bed out x).length ≤ out.length + 2 := by
  unfold Mu.mark
  split
  · have := Mu.put_len (n := x.to) (Mu.put x.fr out)
    have := Mu.put_len (n := x.fr) out
    omega
  · omega

set_option maxHeartbeats 1000000 in
theorem RMarks_any (A : Option Addr) (l c : Nat) (ls : List Win) (b : Int) (w : World) (hl : l = ls.length) (hA : WinsAt w w.heap.size A ls) (hf : l ≤ 1000) :
    Calls Try.prog 46 #[.slice A l c, .int .i64 b] w (PutS w w.heap.size (Mu.marks ls b)) := by
  have HA := Lib.hid hA
  have Hl := Lib.hid hl
  have Hf := Lib.hid hf
  obtain ⟨r, hr⟩ : ∃ r, r = Mu.marks ls b := ⟨_, rfl⟩
  have Hr := Lib.hid hr
  rw [← hr]
  clear hA hl hf hr
  go_enter Try.func46, Try.ntmps46
  go_wp2
  go_loopw [5, 6] (fun z i wr => ∃ (out : List Int) (B : Option Addr) (m d k : Nat), z = .slice B m d ∧ Hid (m = out.length) ∧ k ≤ l ∧ i = .int .i64 (k : Int) ∧ Hid (Below w.heap.size w wr) ∧ Hid (OwnN wr w.heap.size (.slice B m d) out) ∧ Hid ((ls.drop k).foldl (Mu.mark b) out = r) ∧ Hid (out.length ≤ k * 2)) (fun _ i _ => l - (intOf i).toNat)
  case atStart => exact ⟨[], none, 0, 0, 0, rfl, Lib.hid rfl, Nat.zero_le _, rfl, Lib.hid (Below.refl _ _), Lib.hid (OwnN.nil _ _), Lib.hid (by rw [Hr.out]; rfl), Lib.hid (Nat.zero_le _)⟩
  case round =>
    obtain ⟨out, B, m, d, k, rfl, Hm, hk, rfl, HB, HI, Ho, Hn⟩ := hrel
    by_cases hlt : k < l
    · have kl : k < ls.length := by rw [← Hl.out]; exact hlt
      obtain ⟨x, hx⟩ : ∃ x, x = ls[k] := ⟨_, rfl⟩
      have Hd : Hid ((ls.drop (k + 1)).foldl (Mu.mark b) (Mu.mark b out x) = r) := Lib.hid (by rw [← Ho.out, List.drop_eq_getElem_cons kl, hx]; rfl)
      have Hn2 : Hid ((Mu.mark b out x).length ≤ (k + 1) * 2) := Lib.hid (by have := Mu.mark_len b out x; have := Hn.out; omega)
      obtain ⟨b0, o0, hA0, hb0, h3⟩ := HA.out k kl
      rw [← hx] at h3
      subst hA0
      obtain ⟨x0, x1, x2⟩ := x
      have H3 := Lib.hid h3
      have Hb0 := Lib.hid hb0
      have h3 := h3.below HB.out hb0
      have d0 := h3.c0
      have d1 := h3.c1
      simp only at d0 d1
      have i1 : (k : Int) < (l : Int) := by omega
      have i3 : (0 : Int) ≤ (k : Int) := by omega
      have Ik : Hid (wrap64 ((k : Int) + 1) = (k : Int) + 1) := Lib.hid (by have := Hf.out; unfold wrap64; omega)
      have Hk := Lib.hid hlt
      have hm5 : m ≤ 5000 := by have := Hm.out; have := Hn.out; have := Hf.out; omega
      have k1 := RPut_any B m d w.heap.size out x1 wr Hm.out HI.out HB.out.size (by omega)
      have Hm5 := Lib.hid hm5
      clear hx kl hk hlt hb0 h3 Ho hm5
      by_cases hb : x0 = b
      · have hbb : (x0 == b) = true := beq_iff_eq.2 hb
        have hbp : (x0 = b) = True := eq_true hb
        have em : Mu.mark b out ⟨x0, x1, x2⟩ = Mu.put x2 (Mu.put x1 out) := by unfold Mu.mark; rw [if_pos hb]
        rw [em] at Hd Hn2
        clear em hb
        go_wp2_with fail
        refine k1.mono ?_
        rintro e w1 ⟨B1, d1', m1, hm1, rfl, hI1, hB1⟩
        have HB1 := Lib.hid (below2 HB.out hB1)
        have h3 := H3.out.below HB1.out Hb0.out
        have d2 := h3.c2
        simp only at d2
        have k2 := RPut_any B1 m1 d1' w.heap.size (Mu.put x1 out) x2 w1 hm1 hI1 HB1.out.size (by have := Mu.put_len (n := x1) out; have := Hm.out; have := Hm5.out; omega)
        clear k1 hm1 hI1 hB1 h3 d0 d1
        go_wp2_with fail
        refine k2.mono ?_
        rintro e w2 ⟨B2, d2', m2, hm2, rfl, hI2, hB2⟩
        have HB2 := Lib.hid (below2 HB1.out hB2)
        have HI2 := Lib.hid hI2
        have Hm2 := Lib.hid hm2
        clear hI2 hm2 hB2 k2 d2
        go_wp2
        go_roundw
        case rel => exact ⟨_, B2, m2, d2', k + 1, rfl, Hm2, Hk.out, by first | rfl | (rw [Ik.out]; rfl), HB2, HI2, Hd, Hn2⟩
        case measure => have := Hk.out; (try rw [Ik.out]); simp [intOf]; omega
      · have hbb : (x0 == b) = false := by rw [beq_eq_false_iff_ne]; exact hb
        have hbp : (x0 = b) = False := eq_false hb
        have em : Mu.mark b out ⟨x0, x1, x2⟩ = out := by unfold Mu.mark; rw [if_neg hb]
        rw [em] at Hd Hn2
        clear em hb k1
        go_wp2
        go_roundw
        case rel => exact ⟨out, B, m, d, k + 1, rfl, Hm, Hk.out, by first | rfl | (rw [Ik.out]; rfl), HB, HI, Hd, Hn2⟩
        case measure => have := Hk.out; (try rw [Ik.out]); simp [intOf]; omega
    · have ik : ((k : Int) < (l : Int)) = False := eq_false (by omega)
      have He : Hid (out = r) := Lib.hid (by
        have e : ls.drop k = [] := List.drop_eq_nil_of_le (by have := Hl.out; omega)
        have h := Ho.out
        rw [e] at h
        exact h)
      rw [He.out] at HI Hm
      clear hk hlt Ho
      go_wp2
      go_ret
      exact ⟨B, d, m, Hm.out, rfl, HI.out, HB.out⟩
end Go.Proofs.Ythbkfjnpdcfepaa
