/-
  Layer 10 (mute), plain mathematics: windows joined, and what cuts leave of windows.
-/
import Derived.Test.YthbkfjnpdcfepaaMuteM2
namespace Go.Proofs.Ythbkfjnpdcfepaa
set_option maxRecDepth 10000
namespace Mu
/-- By bed, then by beginning. -/
def le2 (x y : Win) : Prop := x.bed < y.bed ∨ (x.bed = y.bed ∧ x.fr ≤ y.fr)
def joinS (all : List Win) (w : Win) : List Win :=
  match all.getLast? with
  | some v => if before v w then all ++ [w] else all.dropLast ++ [⟨v.bed, v.fr, max v.to w.to⟩]
  | none => [w]
theorem joinS_nil (w : Win) : joinS [] w = [w] := rfl
theorem joinS_far {all : List Win} {v w : Win} (h : all.getLast? = some v) (hb : before v w) : joinS all w = all ++ [w] := by unfold joinS; rw [h]; simp only; rw [if_pos hb]
theorem joinS_near {all : List Win} {v w : Win} (h : all.getLast? = some v) (hb : ¬ before v w) : joinS all w = all.dropLast ++ [⟨v.bed, v.fr, max v.to w.to⟩] := by unfold joinS; rw [h]; simp only; rw [if_neg hb]
def joinL (s : List Win) : List Win := s.foldl joinS []
theorem has_one (w : Win) (b t : Int) : has [w] b t = hasW w b t := by rw [has_cons, has_nil, Bool.or_false]
/-- What is joined so far. -/
structure Joined (all pre rest : List Win) : Prop where
  can : Can all
  hs : ∀ b t, has all b t = has pre b t
  mays : (∀ w ∈ pre, may w = true) → ∀ w ∈ all, may w = true
  le : ∀ v ∈ all, ∀ w ∈ rest, le2 v w
theorem bool_iff {a b : Bool} (h : a = true ↔ b = true) : a = b := by cases a <;> cases b <;> simp_all
theorem Joined.step {all pre rest : List Win} {w : Win} (h : Joined all pre (w :: rest)) (hw : w.fr < w.to) (hr : ∀ v ∈ rest, le2 w v) : Joined (joinS all w) (pre ++ [w]) rest := by
  cases hg : all.getLast? with
  | none =>
    obtain rfl : all = [] := by cases all with | nil => rfl | cons x l => simp [List.getLast?] at hg
    rw [joinS_nil]
    refine ⟨⟨fun v hv => ?_, List.pairwise_singleton _ _⟩, fun b t => ?_, fun hm v hv => hm v (by simp at hv; simp [hv]), fun v hv u hu => ?_⟩
    · obtain rfl : v = w := by simpa using hv
      exact hw
    · rw [has_app, ← h.hs, has_nil]; rfl
    · obtain rfl : v = w := by simpa using hv
      exact hr u hu
  | some v =>
    obtain ⟨d, e1, e2⟩ := last_split hg
    have hv : v ∈ all := by rw [e1]; simp
    have hd : ∀ x ∈ d, x ∈ all := fun x hx => by rw [e1]; simp [hx]
    have hpw := h.can.2
    rw [e1, List.pairwise_append] at hpw
    have hdv : ∀ x ∈ d, before x v := fun x hx => hpw.2.2 x hx v (by simp)
    have hvl := h.can.1 v hv
    have hvw := h.le v hv w (by simp)
    by_cases hb : before v w
    · rw [joinS_far hg hb]
      refine ⟨⟨fun x hx => ?_, ?_⟩, fun b t => ?_, fun hm x hx => ?_, fun x hx u hu => ?_⟩
      · rcases List.mem_append.1 hx with hx | hx
        · exact h.can.1 x hx
        · obtain rfl : x = w := by simpa using hx
          exact hw
      · refine List.pairwise_append.2 ⟨h.can.2, List.pairwise_singleton _ _, fun x hx y hy => ?_⟩
        obtain rfl : y = w := by simpa using hy
        rw [e1] at hx
        rcases List.mem_append.1 hx with hx | hx
        · exact before_trans (hdv x hx) hb hvl
        · obtain rfl : x = v := by simpa using hx
          exact hb
      · rw [has_app, has_app, h.hs]
      · rcases List.mem_append.1 hx with hx | hx
        · exact h.mays (fun u hu => hm u (by simp [hu])) x hx
        · obtain rfl : x = w := by simpa using hx
          exact hm x (by simp)
      · rcases List.mem_append.1 hx with hx | hx
        · exact h.le x hx u (by simp [hu])
        · obtain rfl : x = w := by simpa using hx
          exact hr u hu
    · rw [joinS_near hg hb, e2]
      have hq : v.bed = w.bed ∧ v.fr ≤ w.fr ∧ w.fr ≤ v.to := by unfold before at hb; unfold le2 at hvw; omega
      refine ⟨⟨fun x hx => ?_, ?_⟩, fun b t => ?_, fun hm x hx => ?_, fun x hx u hu => ?_⟩
      · rcases List.mem_append.1 hx with hx | hx
        · exact h.can.1 x (hd x hx)
        · obtain rfl : x = ⟨v.bed, v.fr, max v.to w.to⟩ := by simpa using hx
          simp only; omega
      · refine List.pairwise_append.2 ⟨hpw.1, List.pairwise_singleton _ _, fun x hx y hy => ?_⟩
        obtain rfl : y = ⟨v.bed, v.fr, max v.to w.to⟩ := by simpa using hy
        have := hdv x hx
        unfold before at *
        simp only; omega
      · have e3 : has all b t = (has d b t || hasW v b t) := by rw [e1, has_app, has_one]
        rw [has_app, has_app, ← h.hs, e3, has_one, has_one]
        apply bool_iff
        simp only [Bool.or_eq_true, hasW_iff]
        constructor
        · rintro (h1 | h1)
          · exact Or.inl (Or.inl h1)
          · by_cases ht : t < v.to
            · exact Or.inl (Or.inr ⟨h1.1, h1.2.1, ht⟩)
            · exact Or.inr ⟨by omega, by omega, by omega⟩
        · rintro ((h1 | h1) | h1)
          · exact Or.inl h1
          · exact Or.inr ⟨h1.1, h1.2.1, by omega⟩
          · exact Or.inr ⟨by omega, by omega, by omega⟩
      · rcases List.mem_append.1 hx with hx | hx
        · exact h.mays (fun u hu => hm u (by simp [hu])) x (hd x hx)
        · obtain rfl : x = ⟨v.bed, v.fr, max v.to w.to⟩ := by simpa using hx
          have m1 := may_iff.1 (h.mays (fun u hu => hm u (by simp [hu])) v hv)
          have m2 := may_iff.1 (hm w (by simp))
          exact may_iff.2 ⟨m1.1, m1.2.1, m1.2.2.1, by simp only; omega, by simp only; omega⟩
      · rcases List.mem_append.1 hx with hx | hx
        · exact h.le x (hd x hx) u (by simp [hu])
        · obtain rfl : x = ⟨v.bed, v.fr, max v.to w.to⟩ := by simpa using hx
          have := h.le v hv u (by simp [hu])
          unfold le2 at *
          exact this
theorem Joined.fold : ∀ {rest all pre : List Win}, Joined all pre rest → (∀ w ∈ rest, w.fr < w.to) → rest.Pairwise le2 → Joined (rest.foldl joinS all) (pre ++ rest) []
  | [], all, pre, h, _, _ => by rw [List.append_nil]; exact h
  | w :: rest, all, pre, h, hf, hp => by
    have hp' := List.pairwise_cons.1 hp
    have k := Joined.fold (h.step (hf w (by simp)) hp'.1) (fun v hv => hf v (List.mem_cons_of_mem _ hv)) hp'.2
    rw [List.append_assoc, List.singleton_append] at k
    exact k
theorem joinL_spec {s : List Win} (hm : ∀ w ∈ s, may w = true) (hp : s.Pairwise le2) : Can (joinL s) ∧ (∀ b t, has (joinL s) b t = has s b t) ∧ ∀ w ∈ joinL s, may w = true := by
  have k := Joined.fold (rest := s) (all := []) (pre := []) ⟨⟨(fun _ h => by cases h), List.Pairwise.nil⟩, fun _ _ => rfl, (fun _ _ h => by cases h), (fun _ h => by cases h)⟩ (fun w hw => (may_iff.1 (hm w hw)).2.2.2.1) hp
  rw [List.nil_append] at k
  exact ⟨k.can, k.hs, k.mays hm⟩
theorem has_perm {s l : List Win} (h : s.Perm l) (b t : Int) : has s b t = has l b t := by
  apply bool_iff
  rw [has_iff, has_iff]
  exact ⟨fun ⟨w, hw, k⟩ => ⟨w, h.mem_iff.1 hw, k⟩, fun ⟨w, hw, k⟩ => ⟨w, h.mem_iff.2 hw, k⟩⟩
theorem joinS_len (all : List Win) (w : Win) : (joinS all w).length ≤ all.length + 1 := by
  unfold joinS
  split
  · split
    · simp
    · simp only [List.length_append, List.length_dropLast, List.length_cons, List.length_nil]; omega
  · simp
theorem fold_len : ∀ (rest all : List Win), (rest.foldl joinS all).length ≤ all.length + rest.length
  | [], all => by simp
  | w :: rest, all => by
    have := fold_len rest (joinS all w)
    have := joinS_len all w
    rw [List.foldl_cons, List.length_cons]
    omega

/-! ### what cuts leave -/
def rest1 (w : Win) : List Win := if w.fr < w.to then [w] else []
def head1 (w c : Win) : List Win := if w.fr < c.fr then [⟨w.bed, w.fr, c.fr⟩] else []
def meetB (c w : Win) : Bool := decide (c.bed = w.bed ∧ c.fr < w.to ∧ w.fr < c.to)
def wo : Win → List Win → List Win
  | w, [] => rest1 w
  | w, c :: cs => if meetB c w then head1 w c ++ wo ⟨w.bed, c.to, w.to⟩ cs else rest1 w
def behB (w c : Win) : Bool := decide (c.bed < w.bed ∨ (w.bed = c.bed ∧ c.to ≤ w.fr))
def dropB (w : Win) : List Win → List Win
  | [] => []
  | c :: cs => if behB w c then dropB w cs else c :: cs
def leftL : List Win → List Win → List Win
  | [], _ => []
  | w :: l, cuts => wo w (dropB w cuts) ++ leftL l (dropB w cuts)
theorem rest1_mem {w v : Win} (h : v ∈ rest1 w) : v = w ∧ w.fr < w.to := by
  unfold rest1 at h
  split at h
  · rename_i h1; exact ⟨by simpa using h, h1⟩
  · cases h
theorem rest1_has (w : Win) (b t : Int) : has (rest1 w) b t = hasW w b t := by
  unfold rest1
  split
  · exact has_one w b t
  · rw [has_nil]
    symm
    rw [← Bool.not_eq_true, hasW_iff]
    omega
theorem head1_mem {w c v : Win} (h : v ∈ head1 w c) : v = ⟨w.bed, w.fr, c.fr⟩ ∧ w.fr < c.fr := by
  unfold head1 at h
  split at h
  · rename_i h1; exact ⟨by simpa using h, h1⟩
  · cases h
theorem head1_has (w c : Win) (b t : Int) : has (head1 w c) b t = true ↔ w.bed = b ∧ w.fr ≤ t ∧ t < c.fr := by
  unfold head1
  split
  · rw [has_one, hasW_iff]
  · rw [has_nil]
    constructor
    · intro h; cases h
    · omega
theorem wo_spec : ∀ (cs : List Win) (w : Win), Can cs → (∀ c ∈ cs, behB w c = false) →
    (wo w cs).Pairwise before ∧ (∀ v ∈ wo w cs, v.bed = w.bed ∧ w.fr ≤ v.fr ∧ v.fr < v.to ∧ v.to ≤ w.to) ∧ ∀ b t, has (wo w cs) b t = (hasW w b t && !has cs b t)
  | [], w, _, _ => by
    unfold wo
    refine ⟨?_, fun v hv => ?_, fun b t => ?_⟩
    · unfold rest1; split
      · exact List.pairwise_singleton _ _
      · exact List.Pairwise.nil
    · obtain ⟨rfl, h⟩ := rest1_mem hv
      omega
    · rw [rest1_has, has_nil]; simp
  | c :: cs, w, hc, hb => by
    have hcc := hc.1 c (by simp)
    have hcs := (List.pairwise_cons.1 hc.2).1
    have hbc := hb c (by simp)
    unfold behB at hbc
    rw [decide_eq_false_iff_not] at hbc
    unfold wo
    by_cases hm : meetB c w = true
    · rw [if_pos hm]
      unfold meetB at hm
      rw [decide_eq_true_eq] at hm
      have ih := wo_spec cs ⟨w.bed, c.to, w.to⟩ hc.tail (fun c' hc' => by
        have := hcs c' hc'
        have := hc.1 c' (List.mem_cons_of_mem _ hc')
        unfold before at *
        unfold behB
        rw [decide_eq_false_iff_not]
        simp only
        omega)
      refine ⟨?_, fun v hv => ?_, fun b t => ?_⟩
      · refine List.pairwise_append.2 ⟨?_, ih.1, fun x hx y hy => ?_⟩
        · unfold head1; split
          · exact List.pairwise_singleton _ _
          · exact List.Pairwise.nil
        · obtain ⟨rfl, h⟩ := head1_mem hx
          have := ih.2.1 y hy
          simp only at this
          unfold before
          simp only
          omega
      · rcases List.mem_append.1 hv with hv | hv
        · obtain ⟨rfl, h⟩ := head1_mem hv
          refine ⟨rfl, Int.le_refl _, h, ?_⟩
          simp only; omega
        · have := ih.2.1 v hv
          simp only at this
          omega
      · rw [has_app, ih.2.2, has_cons]
        apply bool_iff
        rw [Bool.or_eq_true, head1_has, Bool.and_eq_true, Bool.and_eq_true, Bool.not_eq_true', Bool.not_eq_true', Bool.or_eq_false_iff, hasW_iff, hasW_iff, ← Bool.not_eq_true (hasW c b t), hasW_iff]
        simp only
        constructor
        · rintro (h1 | ⟨h1, h2⟩)
          · refine ⟨⟨h1.1, h1.2.1, by omega⟩, by omega, ?_⟩
            rw [has_not]
            intro x hx hxx
            have := hcs x hx
            unfold before at this
            omega
          · exact ⟨⟨h1.1, by omega, h1.2.2⟩, by omega, h2⟩
        · rintro ⟨h1, h2, h3⟩
          by_cases ht : t < c.fr
          · exact Or.inl ⟨h1.1, h1.2.1, ht⟩
          · exact Or.inr ⟨⟨h1.1, by omega, h1.2.2⟩, h3⟩
    · rw [if_neg hm]
      have hm' := hm
      unfold meetB at hm'
      rw [decide_eq_true_eq] at hm'
      refine ⟨?_, fun v hv => ?_, fun b t => ?_⟩
      · unfold rest1; split
        · exact List.pairwise_singleton _ _
        · exact List.Pairwise.nil
      · obtain ⟨rfl, h⟩ := rest1_mem hv
        omega
      · rw [rest1_has]
        cases hw : hasW w b t
        · rfl
        · rw [hasW_iff] at hw
          have : has (c :: cs) b t = false := by
            rw [has_not]
            intro x hx hxx
            rcases List.mem_cons.1 hx with rfl | hx
            · omega
            · have := hcs x hx
              unfold before at this
              omega
          rw [this]; rfl
theorem dropB_can (w : Win) : ∀ {cs : List Win}, Can cs → Can (dropB w cs) ∧ (∀ c ∈ dropB w cs, behB w c = false) ∧ ∀ c ∈ dropB w cs, c ∈ cs
  | [], h => ⟨h, (fun _ h => by cases h), fun _ h => h⟩
  | c :: cs, h => by
    unfold dropB
    split
    · have ih := dropB_can w h.tail
      exact ⟨ih.1, ih.2.1, fun x hx => List.mem_cons_of_mem _ (ih.2.2 x hx)⟩
    · rename_i hb
      have hbf : behB w c = false := by simpa using hb
      refine ⟨h, fun x hx => ?_, fun _ h => h⟩
      rcases List.mem_cons.1 hx with rfl | hx
      · exact hbf
      · have := (List.pairwise_cons.1 h.2).1 x hx
        have := h.1 x (List.mem_cons_of_mem _ hx)
        unfold behB at hbf ⊢
        rw [decide_eq_false_iff_not] at hbf ⊢
        unfold before at *
        omega
theorem dropB_has (w : Win) {b t : Int} (ht : w.bed < b ∨ (w.bed = b ∧ w.fr ≤ t)) : ∀ cs : List Win, has (dropB w cs) b t = has cs b t
  | [] => rfl
  | c :: cs => by
    unfold dropB
    split
    · rename_i hb
      unfold behB at hb
      rw [decide_eq_true_eq] at hb
      rw [dropB_has w ht cs, has_cons]
      have : hasW c b t = false := by rw [← Bool.not_eq_true, hasW_iff]; omega
      rw [this]; rfl
    · rfl
theorem left_spec : ∀ (l cs : List Win), Can l → Can cs →
    Can (leftL l cs) ∧ (∀ v ∈ leftL l cs, ∃ w ∈ l, v.bed = w.bed ∧ w.fr ≤ v.fr ∧ v.to ≤ w.to) ∧ ∀ b t, has (leftL l cs) b t = (has l b t && !has cs b t)
  | [], cs, _, _ => ⟨⟨(fun _ h => by cases h), List.Pairwise.nil⟩, (fun _ h => by cases h), fun _ _ => rfl⟩
  | w :: l, cs, hl, hc => by
    obtain ⟨d1, d2, d3⟩ := dropB_can w hc
    have ih := left_spec l (dropB w cs) hl.tail d1
    have hw := wo_spec (dropB w cs) w d1 d2
    have hbw := (List.pairwise_cons.1 hl.2).1
    have hww := hl.1 w (by simp)
    unfold leftL
    refine ⟨⟨fun v hv => ?_, ?_⟩, fun v hv => ?_, fun b t => ?_⟩
    · rcases List.mem_append.1 hv with hv | hv
      · exact (hw.2.1 v hv).2.2.1
      · exact ih.1.1 v hv
    · refine List.pairwise_append.2 ⟨hw.1, ih.1.2, fun x hx y hy => ?_⟩
      have h1 := hw.2.1 x hx
      obtain ⟨u, hu, h2⟩ := ih.2.1 y hy
      have h3 := hbw u hu
      unfold before at *
      omega
    · rcases List.mem_append.1 hv with hv | hv
      · have h1 := hw.2.1 v hv
        exact ⟨w, by simp, h1.1, h1.2.1, h1.2.2.2⟩
      · obtain ⟨u, hu, h2⟩ := ih.2.1 v hv
        exact ⟨u, List.mem_cons_of_mem _ hu, h2⟩
    · rw [has_app, hw.2.2, ih.2.2, has_cons]
      by_cases ht : w.bed < b ∨ (w.bed = b ∧ w.fr ≤ t)
      · rw [dropB_has w ht]
        cases hasW w b t <;> cases has l b t <;> cases has cs b t <;> rfl
      · have h1 : hasW w b t = false := by rw [← Bool.not_eq_true, hasW_iff]; omega
        have h2 : has l b t = false := by
          rw [has_not]
          intro x hx hxx
          have := hbw x hx
          unfold before at this
          omega
        rw [h1, h2]; rfl
theorem wo_len : ∀ (cs : List Win) (w : Win), (wo w cs).length ≤ cs.length + 1
  | [], w => by unfold wo rest1; split <;> simp
  | c :: cs, w => by
    unfold wo
    have ih := wo_len cs ⟨w.bed, c.to, w.to⟩
    have hh : (head1 w c).length ≤ 1 := by unfold head1; split <;> simp
    split
    · rw [List.length_append, List.length_cons]; omega
    · unfold rest1; split <;> simp
/-- What is right, but for how many, and of these times, is what comes out. -/
theorem wins_of {l m x : List Win} {both : Bool} (hm : ∀ w ∈ l ++ m, may w = true) (hx : Can x) (h : ∀ b t, has x b t = F2 l m both b t) : wins l m both = x := by
  have hw := wins_spec (both := both) hm
  exact can_eq hw.1 hx (fun b t => by rw [hw.2.1, h])
theorem turn_fit {l m x : List Win} {both : Bool} (h1 : isL l = true) (h2 : m.all may = true) (hx : Can x) (h : ∀ b t, has x b t = F2 l m both b t) :
    turnE l m both = (if 100 < x.length then 81 else 0) ∧ turn l m both = (if 100 < x.length then [] else x) := by
  have hm : ∀ w ∈ l ++ m, may w = true := fun w hw => by
    rcases List.mem_append.1 hw with hw | hw
    · exact (isL_iff.1 h1).1 w hw
    · exact List.all_eq_true.1 h2 w hw
  have e := wins_of hm hx h
  have hE : turnE l m both = (if 100 < x.length then 81 else 0) := by unfold turnE; rw [h1, h2, e]; rfl
  refine ⟨hE, ?_⟩
  unfold turn
  rw [hE, e]
  by_cases hl : 100 < x.length
  · rw [if_pos hl, if_pos hl]; rfl
  · rw [if_neg hl, if_neg hl]; rfl
theorem turn_bad {l m : List Win} {both : Bool} (h : isL l = false ∨ m.all may = false) : turnE l m both = 1 ∧ turn l m both = [] := by
  have hE : turnE l m both = 1 := by
    unfold turnE
    rcases h with h | h
    · rw [h]; rfl
    · rw [h]; cases isL l <;> rfl
  exact ⟨hE, by unfold turn; rw [hE]; rfl⟩
end Mu
end Go.Proofs.Ythbkfjnpdcfepaa
