/-
  Layer 12 (file): texts that are added one by one: the mathematics.
-/
import Derived.Test.YtdhklggbmlkloaaFileM
namespace Go.Proofs.Ytdhklggbmlkloaa
set_option maxRecDepth 10000
open Go.RowKit

/-- One more text is added; the first error stays. -/
def Fi.one (x : Fil × Int) (s : ByteArray) : Fil × Int := (Fi.add x.1 [s], if Fi.addE x.1 [s] ≠ 0 ∧ x.2 = 0 then Fi.addE x.1 [s] else x.2)
def Fi.run (f : Fil) (ss : List ByteArray) : Fil × Int := ss.foldl Fi.one (f, 0)
theorem Fi.run_snoc (f : Fil) (ss : List ByteArray) (j : Nat) (h : j < ss.length) : Fi.run f (ss.take (j + 1)) = Fi.one (Fi.run f (ss.take j)) ss[j] := by
  unfold Fi.run; rw [List.take_succ_eq_append_getElem h, List.foldl_append]; rfl
theorem Fi.all_one (s : ByteArray) : Fi.all [s] = s := by
  unfold Fi.all; apply bl_inj; rw [bl_strOf]; simp
theorem Fi.all_cons (s : ByteArray) (r : List ByteArray) : Fi.all (s :: r) = s ++ Fi.all r := by
  have h := Fi.all_append [s] r
  rw [Fi.all_one] at h; exact h
theorem Fi.add_small {f : Fil} (_h : Fi.small f) (ss : List ByteArray) : Fi.small (Fi.add f ss) := by
  unfold Fi.add
  split
  · rename_i h0
    have hi : Fi.is f = true := by
      cases hh : Fi.is f
      · unfold Fi.addE at h0; rw [hh] at h0; simp at h0
      · rfl
    have h2 := Fi.is_small hi
    unfold Fi.addE at h0
    rw [if_pos hi] at h0
    split at h0
    · rename_i h3
      unfold Fi.small; simp only; rw [ByteArray.size_append]; omega
    · cases h0
  · unfold Fi.small Fi.no; exact ⟨Nat.zero_le _, Nat.zero_le _⟩
theorem Fi.run_small {f : Fil} (h : Fi.small f) (ss : List ByteArray) (j : Nat) (hj : j ≤ ss.length) : Fi.small (Fi.run f (ss.take j)).1 := by
  induction j with
  | zero => rw [List.take_zero]; exact h
  | succ j ih => rw [Fi.run_snoc f ss j (by omega)]; exact Fi.add_small (ih (by omega)) _
theorem Fi.keep (ss : List ByteArray) : ∀ (x : Fil) (g : Int), g ≠ 0 → (ss.foldl Fi.one (x, g)).2 = g := by
  induction ss with
  | nil => intro x g _; rfl
  | cons s r ih =>
    intro x g hg
    rw [List.foldl_cons]
    have e : Fi.one (x, g) s = (Fi.add x [s], g) := by unfold Fi.one; simp only; rw [if_neg (fun hh => hg hh.2)]
    rw [e]; exact ih _ g hg
theorem Fi.run_ok (ss : List ByteArray) : ∀ (f : Fil), Fi.is f = true → (f.kept.size : Int) + f.loose.size + (Fi.all ss).size ≤ f.most → Fi.run f ss = (⟨f.most, f.kept, f.loose ++ Fi.all ss⟩, 0) := by
  induction ss with
  | nil => intro f _ _; rw [Fi.all_nil, ba_nil]; rfl
  | cons s r ih =>
    intro f hi hle
    rw [Fi.all_cons, ByteArray.size_append] at hle
    have he : Fi.addE f [s] = 0 := by unfold Fi.addE; rw [if_pos hi, Fi.all_one, if_pos (by omega)]
    have ha : Fi.add f [s] = ⟨f.most, f.kept, f.loose ++ s⟩ := by unfold Fi.add; rw [if_pos he, Fi.all_one]
    have h2 := Fi.is_small hi
    have hi2 : Fi.is ⟨f.most, f.kept, f.loose ++ s⟩ = true := by
      unfold Fi.is; rw [decide_eq_true_iff]; simp only; rw [ByteArray.size_append]; omega
    have e1 : Fi.run f (s :: r) = Fi.run ⟨f.most, f.kept, f.loose ++ s⟩ r := by
      unfold Fi.run; rw [List.foldl_cons]
      have e : Fi.one (f, 0) s = (⟨f.most, f.kept, f.loose ++ s⟩, 0) := by unfold Fi.one; simp only; rw [ha, he, if_neg (fun hh => hh.1 rfl)]
      rw [e]
    rw [e1, ih _ hi2 (by simp only; rw [ByteArray.size_append]; omega), Fi.all_cons, ba_assoc]
theorem Fi.run_bad (ss : List ByteArray) : ∀ (f : Fil), Fi.is f = true → ¬ ((f.kept.size : Int) + f.loose.size + (Fi.all ss).size ≤ f.most) → (Fi.run f ss).2 ≠ 0 := by
  induction ss with
  | nil => intro f hi hle; exact absurd (by rw [Fi.all_nil]; have := Fi.is_small hi; show (f.kept.size : Int) + f.loose.size + 0 ≤ f.most; omega) hle
  | cons s r ih =>
    intro f hi hle
    have h2 := Fi.is_small hi
    rw [Fi.all_cons, ByteArray.size_append] at hle
    by_cases hs : (f.kept.size : Int) + f.loose.size + s.size ≤ f.most
    · have he : Fi.addE f [s] = 0 := by unfold Fi.addE; rw [if_pos hi, Fi.all_one, if_pos hs]
      have ha : Fi.add f [s] = ⟨f.most, f.kept, f.loose ++ s⟩ := by unfold Fi.add; rw [if_pos he, Fi.all_one]
      have hi2 : Fi.is ⟨f.most, f.kept, f.loose ++ s⟩ = true := by
        unfold Fi.is; rw [decide_eq_true_iff]; simp only; rw [ByteArray.size_append]; omega
      have e1 : Fi.run f (s :: r) = Fi.run ⟨f.most, f.kept, f.loose ++ s⟩ r := by
        unfold Fi.run; rw [List.foldl_cons]
        have e : Fi.one (f, 0) s = (⟨f.most, f.kept, f.loose ++ s⟩, 0) := by unfold Fi.one; simp only; rw [ha, he, if_neg (fun hh => hh.1 rfl)]
        rw [e]
      rw [e1]
      exact ih _ hi2 (by simp only; rw [ByteArray.size_append]; omega)
    · have he : Fi.addE f [s] = 81 := by unfold Fi.addE; rw [if_pos hi, Fi.all_one, if_neg hs]
      unfold Fi.run
      rw [List.foldl_cons]
      have e : Fi.one (f, 0) s = (Fi.add f [s], 81) := by unfold Fi.one; simp only; rw [he, if_pos ⟨by decide, trivial⟩]
      rw [e, Fi.keep r _ 81 (by decide)]
      decide
theorem Fi.run_not (ss : List ByteArray) (f : Fil) (hi : Fi.is f = false) (hs : ss ≠ []) : (Fi.run f ss).2 ≠ 0 := by
  cases ss with
  | nil => exact absurd rfl hs
  | cons s r =>
    have he : Fi.addE f [s] = 1 := by unfold Fi.addE; rw [hi]; rfl
    unfold Fi.run
    rw [List.foldl_cons]
    have e : Fi.one (f, 0) s = (Fi.add f [s], 1) := by unfold Fi.one; simp only; rw [he, if_pos ⟨by decide, trivial⟩]
    rw [e, Fi.keep r _ 1 (by decide)]
    decide
theorem Fi.all_small (ss : List ByteArray) (hl : ss.length ≤ 60) (hz : ∀ s ∈ ss, s.size ≤ 300) (j : Nat) : (Fi.all (ss.take j)).size ≤ 18000 := by
  have h : ∀ ts : List ByteArray, (∀ s ∈ ts, s.size ≤ 300) → (Fi.all ts).size ≤ 300 * ts.length := by
    intro ts
    induction ts with
    | nil => intro _; rw [Fi.all_nil]; exact Nat.zero_le _
    | cons s r ih =>
      intro hh
      have h1 := ih (fun x hx => hh x (List.mem_cons_of_mem _ hx))
      have h2 := hh s (by simp)
      rw [Fi.all_cons, ByteArray.size_append, List.length_cons]; omega
  have h1 := Fi.all_take_le ss j
  have h2 := h ss hz
  omega
end Go.Proofs.Ytdhklggbmlkloaa
