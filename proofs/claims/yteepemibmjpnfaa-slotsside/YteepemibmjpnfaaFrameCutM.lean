/-
  Plain mathematics of layer 3 (frame): frames one behind the other, and what is cut within one. No program, no memory.
-/
import Derived.Test.YteepemibmjpnfaaFrameM
namespace Go.Proofs.Yteepemibmjpnfaa
set_option maxRecDepth 10000
namespace Fm

theorem take_cut {a b : List UInt8} {m : Nat} (h : a.length ≤ m) : (a ++ b).take m = a ++ b.take (m - a.length) := by
  rw [List.take_append, List.take_of_length_le h]

/-- A number's bytes, cut ahead of its end, are none yet. -/
theorem getInt_cut (n : Int) (r : List UInt8) {m : Nat} (h : m < (Wm.lay n).length) : Wm.getInt ((Wm.lay n ++ r).take m) = (0, [], 22) := by
  have h1 : (Wm.lay n ++ r).take m = (Wm.digs n.natAbs).take m := by
    have h2 : m ≤ (Wm.digs n.natAbs).length := by simp [Wm.lay] at h; omega
    unfold Wm.lay
    rw [List.append_assoc, List.take_append_of_le_length h2]
  have h3 : Wm.endAt ((Wm.digs n.natAbs).take m) = ((Wm.digs n.natAbs).take m).length := Wm.endAt_none (by
    intro j hj
    exact Wm.digs_notEnd (List.mem_of_mem_take (List.getElem_mem hj)))
  rw [h1]
  unfold Wm.getInt
  rw [dif_neg (by omega)]

theorem getText_cut (t r : List UInt8) (ht : t.length ≤ 3000) {m : Nat} (h : m < (textL t).length) : Wm.getText ((textL t ++ r).take m) = ([], [], 22) := by
  unfold textL at h ⊢
  rw [List.append_assoc]
  by_cases hm : m < (Wm.lay (t.length : Int)).length
  · have h1 := getInt_cut (t.length : Int) (t ++ r) hm
    unfold Wm.getText
    rw [h1]; rfl
  · rw [List.length_append] at h
    have h1 := Wm.getInt_lay (n := (t.length : Int)) (Wm.fits_iff.2 (by omega)) ((t ++ r).take (m - (Wm.lay (t.length : Int)).length))
    rw [take_cut (by omega)]
    unfold Wm.getText
    rw [h1]
    simp only [if_true]
    rw [if_neg (by omega), if_pos]
    rw [List.length_take]
    omega

/-- What is cut within a frame asks for more. -/
theorem get_cut {k : Int} {t : List UInt8} (hk : kindOk k = true) (ht : t.length ≤ 3000) {m : Nat} (h : m < (frame k t).length) (r : List UInt8) : get ((frame k t ++ r).take m) = (0, [], [], 22) := by
  have e : frame k t ++ r = Wm.lay k ++ (textL t ++ (Wm.lay (Sm.ofL (ahead k t) : Int) ++ r)) := by simp [frame, ahead, List.append_assoc]
  have hlen : (frame k t).length = (Wm.lay k).length + ((textL t).length + (Wm.lay (Sm.ofL (ahead k t) : Int)).length) := by simp [frame, ahead]
  rw [e]
  by_cases h1 : m < (Wm.lay k).length
  · exact get_e1 (getInt_cut k _ h1) (by decide)
  · rw [take_cut (by omega)]
    have g1 := Wm.getInt_lay (fits_kind hk) ((textL t ++ (Wm.lay (Sm.ofL (ahead k t) : Int) ++ r)).take (m - (Wm.lay k).length))
    by_cases h2 : m - (Wm.lay k).length < (textL t).length
    · exact get_e2 g1 (getText_cut t _ ht h2) (by decide)
    · rw [take_cut (by omega)] at g1 ⊢
      have g2 := Wm.getText_lay t ((Wm.lay (Sm.ofL (ahead k t) : Int) ++ r).take (m - (Wm.lay k).length - (textL t).length)) ht
      exact get_e3 g1 g2 (getInt_cut _ r (by omega)) (by decide)

/-- Frames one behind the other. -/
def frames (k : Int) (ls : List (List UInt8)) : List UInt8 := ls.flatMap (frame k)
theorem frames_nil (k : Int) : frames k [] = [] := rfl
theorem frames_cons (k : Int) (t : List UInt8) (ls : List (List UInt8)) : frames k (t :: ls) = frame k t ++ frames k ls := by simp [frames]
theorem frames_append (k : Int) (a b : List (List UInt8)) : frames k (a ++ b) = frames k a ++ frames k b := by simp [frames]
theorem frames_succ (k : Int) {ls : List (List UInt8)} {i : Nat} (h : i < ls.length) : frames k (ls.take (i + 1)) = frames k (ls.take i) ++ frame k ls[i] := by
  rw [List.take_succ_eq_append_getElem h, frames_append, frames_cons, frames_nil, List.append_nil]
theorem frames_mono (k : Int) (ls : List (List UInt8)) {i j : Nat} (h : i ≤ j) : (frames k (ls.take i)).length ≤ (frames k (ls.take j)).length := by
  have e : ls.take j = ls.take i ++ (ls.take j).drop i := by
    have h1 := List.take_append_drop i (ls.take j)
    rw [List.take_take, Nat.min_eq_left h] at h1
    exact h1.symm
  rw [e, frames_append, List.length_append]; omega

theorem all_frames {k : Int} (hk : kindOk k = true) {ls : List (List UInt8)} (h : ∀ t ∈ ls, t.length ≤ 3000) (r : List UInt8) : all (frames k ls ++ r) = allGlue ls (frames k ls).length (all r) := by
  induction ls with
  | nil => rw [frames_nil, List.nil_append, List.length_nil, allGlue_zero]
  | cons t ls ih =>
    have h1 := get_frame hk (h t (List.mem_cons_self ..)) (frames k ls ++ r)
    rw [frames_cons, List.append_assoc, all_ok h1, ih fun x hx => h x (List.mem_cons_of_mem _ hx)]
    simp only [allGlue, List.length_append, List.cons_append]
    refine Prod.ext rfl (Prod.ext ?_ rfl)
    show _ = _
    simp only
    omega

theorem all_whole {k : Int} (hk : kindOk k = true) {ls : List (List UInt8)} (h : ∀ t ∈ ls, t.length ≤ 3000) : all (frames k ls) = (ls, (frames k ls).length, 0) := by
  have := all_frames hk h []
  rw [List.append_nil, allGlue_end] at this; exact this

/-- Frames cut at m: j of them are whole; at their end, or within the next one. -/
theorem all_cut {k : Int} (hk : kindOk k = true) {ls : List (List UInt8)} (h : ∀ t ∈ ls, t.length ≤ 3000) {m j : Nat} (hm : m ≤ (frames k ls).length) (hj : j ≤ ls.length)
    (h1 : (frames k (ls.take j)).length ≤ m) (h2 : j < ls.length → m < (frames k (ls.take (j + 1))).length) :
    all ((frames k ls).take m) = (ls.take j, (frames k (ls.take j)).length, if (frames k (ls.take j)).length = m then 0 else 22) := by
  have e : frames k ls = frames k (ls.take j) ++ frames k (ls.drop j) := by rw [← frames_append, List.take_append_drop]
  have hshort : ∀ t ∈ ls.take j, t.length ≤ 3000 := fun t ht => h t (List.mem_of_mem_take ht)
  rw [e, take_cut h1, all_frames hk hshort]
  by_cases heq : (frames k (ls.take j)).length = m
  · rw [if_pos heq, heq, Nat.sub_self, List.take_zero, allGlue_end, ← heq]
  · rw [if_neg heq]
    have hlt : j < ls.length := by
      refine Nat.lt_of_le_of_ne hj fun hh => heq ?_
      rw [hh, List.take_length] at h1 ⊢
      omega
    have h3 := h2 hlt
    rw [frames_succ k hlt, List.length_append] at h3
    have hd : frames k (ls.drop j) = frame k ls[j] ++ frames k (ls.drop (j + 1)) := by rw [List.drop_eq_getElem_cons hlt, frames_cons]
    rw [hd]
    refine allGlue_bad ?_ (get_cut hk (h _ (List.getElem_mem hlt)) (by omega) _) (by decide)
    intro hh
    have := congrArg List.length hh
    rw [List.length_take, List.length_append, List.length_nil] at this
    have := frame_pos k ls[j]
    omega

end Fm
end Go.Proofs.Yteepemibmjpnfaa
