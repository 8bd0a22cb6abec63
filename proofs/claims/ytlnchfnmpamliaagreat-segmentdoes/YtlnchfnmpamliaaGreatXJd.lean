/-
  A row of texts of one's own, appended to by whatever slice of texts.
  Layer 14 (segment): the landed code's parts: the mathematics.
  Layer 14 (segment): rows of parts in memory.
-/
import Derived.Test.YtlnchfnmpamliaaGreatXJb
import Derived.Test.YtlnchfnmpamliaaGreatXJa
import Derived.Laws.AppendOwnNone
import Derived.Test.YtlnchfnmpamliaaGreatChecked
import Derived.Maps.AppendAt
namespace Go.Proofs.YtlnchfnmpamliaaGreat
set_option maxRecDepth 10000
open Go.RowKit

theorem Tryz.infoS13 : (Tryz.prog.info? 9).map (fun i => (i.zero, i.size, i.bytes)) = some (some (.string ByteArray.empty), 1, 16) := by kernel_rfl
/-- A row of texts of one's own since u. -/
def OwnTs (u w : World) (v : Value) (ss : List ByteArray) : Prop := w.ownsRow u.heap.size 9 1 v ss.length (ss.map Value.string) ∧ Below u.heap.size u w
theorem OwnTs.nil (u : World) : OwnTs u u (.slice none 0 0) [] := ⟨World.ownsRow_nil u u.heap.size 9 1, Below.refl _ _⟩
theorem OwnTs.slice {u w : World} {v : Value} {ss : List ByteArray} (h : OwnTs u w v ss) {L : Nat} (hL : L = ss.length) : ∃ A c, v = .slice A L c ∧ L ≤ c ∧ StrsAt w w.heap.size A ss ∧ Below u.heap.size u w := by
  subst hL
  obtain ⟨ho, hB⟩ := h
  obtain ⟨A, c, rfl⟩ := ownsRow_slice ho
  refine ⟨A, c, rfl, ?_, StrsAt.of_own ho, hB⟩
  rcases ho.2 with ⟨e, h0⟩ | ⟨g, cap, cur, e, _, _, h1, _⟩
  · omega
  · cases e; exact h1

theorem OwnTs.none13 {u w : World} {v : Value} {ss : List ByteArray} (h : OwnTs u w v ss) {L : Nat} (_hL : L = ss.length) (c : Nat) (hv : v = .slice none L c) : L = 0 ∧ c = 0 := by
  subst hv
  rcases h.1.2 with ⟨e, h0⟩ | ⟨g, cap, cur, e, _⟩
  · injection e with e1 e2 e3; exact ⟨e2, e3⟩
  · injection e with e1 _ _; cases e1
theorem StrsAt.take13 {w : World} {B : Nat} {A : Option Addr} {ss : List ByteArray} (h : StrsAt w B A ss) (j : Nat) : StrsAt w B A (ss.take j) := fun i hi => by
  rw [List.length_take] at hi
  obtain ⟨b, off, e, hb, hc⟩ := h i (by omega)
  refine ⟨b, off, e, hb, ?_⟩
  rw [List.getElem_take]; exact hc
/-- A beginning of a slice of texts. -/
theorem run_slice_strs (w : World) (A : Option Addr) (n c j : Nat) (hj : j ≤ c) (hn : A = none → c = 0) : (Instr.slice 25 (.slice A n c) none (some (.int .i64 (j : Int))) none).run Tryz.prog w = .ok (.slice A j c) w := by
  have h1 : (0 : Int) ≤ (j : Int) := by omega
  have h2 : ¬ (c < j) := by omega
  cases A with
  | none =>
    obtain rfl := hn rfl
    obtain rfl : j = 0 := by omega
    go_simp
  | some a =>
    go_simp
theorem IsStrs.cap13 {w : World} {A : Option Addr} {N cap : Nat} {ss : List ByteArray} (h : IsStrs w A N cap ss) : ss.length ≤ cap ∧ (A = none → cap = 0) := by
  rcases h with ⟨_, e1, e2, e3⟩ | ⟨x, e0, e1, _, e2, _⟩
  · exact ⟨by rw [e3]; exact Nat.zero_le _, fun _ => e2⟩
  · exact ⟨by omega, fun h => by rw [h] at e0; cases e0⟩

theorem wpList_append_strs {ops : Array Oper} {rest : List Oper} {o : Oper} {a : Act} {w : World} {Q : Exit → Act → World → Prop} (hgd : o.guard = none) (s x : Operand)
    (ho : o.op = .call { callee := .builtin .append, args := #[s, x], argTypes := #[25, 25] })
    (u : World) (v : Value) (zs ms rs : List ByteArray) (hr : zs ++ ms = rs) (hs : a.eval s = v) (hO : OwnTs u w v zs)
    (A : Option Addr) (N cap : Nat) (hN : N = ms.length) (hx : a.eval x = .slice A N cap) (hA : StrsAt w w.heap.size A ms) (hnil : A = none → cap = 0) (hl : zs.length + ms.length ≤ 100000)
    (h : ∀ v' w', OwnTs u w' v' rs → wpList Tryz.prog ops Q rest (a.put o.dst v') w') : wpList Tryz.prog ops Q (o :: rest) a w := by
  subst hN hr
  obtain ⟨hown, hB⟩ := hO
  obtain ⟨i0, hi, hz0, hz1, hz2⟩ := info_parts Tryz.infoS13
  cases A with
  | none =>
    obtain rfl : cap = 0 := hnil rfl
    obtain rfl : ms = [] := by
      cases ms with
      | nil => rfl
      | cons z zs => obtain ⟨b, off, h, _⟩ := hA 0 (by simp); cases h
    refine wpList_append_own_none hgd s x 25 ho u.heap.size 9 i0 1 Tryz.underlying25 hi v _ _ hs hown hx ?_
    exact h v w ⟨by simpa using hown, hB⟩
  | some ad =>
    have hcells : ∀ j y, (ms.map Value.string)[j]? = some y → w.cell? (ad.add j) = some y := by
      intro j y hy
      have hj : j < ms.length := by
        have := (List.getElem?_eq_some_iff.1 hy).1
        simpa using this
      obtain ⟨b, off, ha, _, hc⟩ := hA j hj
      cases ha
      rw [Go.WideShapes.add_plain, hc]
      simpa [List.getElem?_eq_getElem hj] using hy
    refine wpList_append_own _ hgd s x 25 ho u.heap.size 9 i0 (.string ByteArray.empty) 1 16 Tryz.underlying25 hi hz0 hz1 hz2 rfl (by decide) v _ _ hs hown ad ms.length cap (ms.map Value.string) hx (by simp) hcells (by simp [Value.oneCell']) (by unfold maxLen; omega) (by omega) hB.size ?_
    intro v' w' ho' hg _
    exact h v' w' ⟨by simpa using ho', hB.grown hg hB.size (fun k e => (hown.lt k e).1)⟩
end Go.Proofs.YtlnchfnmpamliaaGreat

namespace Go.Proofs.YtlnchfnmpamliaaGreat
set_option maxRecDepth 10000
open Go.RowKit

/-- A part: a file, the number of its first record, its records' texts, how many bytes they take. -/
structure Prt where
  f : Fil
  n : Int
  ts : List (List UInt8)
  q : Nat
def Prt.whole (p : Prt) : Bool := decide (p.q = (Fi.read p.f).size)
def Prt.next (p : Prt) : Int := p.n + (p.ts.length : Int)
namespace Sg
def prt (f : Fil) (n : Int) : Prt := ⟨f, n, (sc f n).1, (sc f n).2⟩
theorem prt_whole (f : Fil) (n : Int) : (prt f n).whole = whole f n := rfl
theorem prt_next (f : Fil) (n : Int) : (prt f n).next = n + (sc f n).1.length := rfl
/-- The parts: up to the first file that is not whole. -/
def partsL : List Fil → Int → List Prt
  | [], _ => []
  | f :: r, n => prt f n :: (if whole f n = true then partsL r (n + (sc f n).1.length) else [])
theorem partsL_yes {f : Fil} {r : List Fil} {n : Int} (h : whole f n = true) : partsL (f :: r) n = prt f n :: partsL r (n + (sc f n).1.length) := by simp only [partsL]; rw [if_pos h]
theorem partsL_not {f : Fil} {r : List Fil} {n : Int} (h : ¬ whole f n = true) : partsL (f :: r) n = [prt f n] := by simp only [partsL]; rw [if_neg h]
theorem partsL_texts (fs : List Fil) (n : Int) : (partsL fs n).flatMap Prt.ts = (rd fs n).1 := by
  induction fs generalizing n with
  | nil => rfl
  | cons f r ih =>
    by_cases h : whole f n = true
    · rw [partsL_yes h, rd_yes h, List.flatMap_cons, ih]; rfl
    · rw [partsL_not h, rd_not h]; simp [prt]
theorem partsL_len (fs : List Fil) (n : Int) : (partsL fs n).length ≤ fs.length := by
  induction fs generalizing n with
  | nil => exact Nat.le_refl _
  | cons f r ih =>
    by_cases h : whole f n = true
    · rw [partsL_yes h]; simp only [List.length_cons]; have := ih (n + (sc f n).1.length); omega
    · rw [partsL_not h]; simp
/-- The last part: the file that is not whole, or the last one. -/
theorem partsL_split (fs : List Fil) (n : Int) (h : fs ≠ []) : ∃ pre f post m ps, fs = pre ++ f :: post ∧ partsL fs n = ps ++ [prt f m] ∧ ps.length = pre.length ∧ (rd pre n).2 = true ∧ m = n + (rd pre n).1.length ∧ (whole f m = true → post = []) := by
  induction fs generalizing n with
  | nil => exact absurd rfl h
  | cons f r ih =>
    by_cases hw : whole f n = true
    · cases r with
      | nil => exact ⟨[], f, [], n, [], rfl, by rw [partsL_yes hw]; rfl, rfl, rfl, by simp [rd], fun _ => rfl⟩
      | cons g r =>
        obtain ⟨pre, x, post, m, ps, h1, h2, h3, h4, h5, h6⟩ := ih (n + (sc f n).1.length) (by simp)
        refine ⟨f :: pre, x, post, m, prt f n :: ps, by rw [h1]; rfl, by rw [partsL_yes hw, h2]; rfl, by simp [h3], ?_, ?_, h6⟩
        · rw [rd_yes hw]; exact h4
        · rw [rd_yes hw, h5]; simp only [List.length_append]; omega
    · exact ⟨[], f, r, n, [], rfl, partsL_not hw, rfl, rfl, by simp [rd], fun h => absurd h hw⟩
theorem mendL_app (a b : List Fil) (n : Int) (h : (rd a n).2 = true) : mendL (a ++ b) n = a ++ mendL b (n + (rd a n).1.length) := by
  induction a generalizing n with
  | nil => simp [rd]
  | cons x a ih =>
    by_cases hw : whole x n = true
    · rw [rd_yes hw] at h
      rw [List.cons_append, mendL, if_pos hw, ih _ h, rd_yes hw]
      simp only [List.length_append, List.cons_append]
      have e : n + ((sc x n).1.length : Int) + ((rd a (n + ((sc x n).1.length : Int))).1.length : Int) = n + (((sc x n).1.length + (rd a (n + ((sc x n).1.length : Int))).1.length : Nat) : Int) := by omega
      rw [e]
    · rw [rd_not hw] at h; cases h
/-- What of a right log's parts the landed code asks. -/
theorem last_part (fs : List Fil) (n : Int) (h : fs ≠ []) : ∃ ps f m, partsL fs n = ps ++ [prt f m] ∧ f ∈ fs ∧ ps.length < fs.length ∧
    ((rd fs n).2 = whole f m) ∧ (whole f m = true → (rd fs n).1.length + n = (prt f m).next ∧ ps.length + 1 = fs.length ∧ mendL fs n = fs) ∧
    (whole f m = false → mendL fs n = fs.take ps.length ++ [Rc.mend f m]) ∧ fs[ps.length]? = some f := by
  obtain ⟨pre, f, post, m, ps, h1, h2, h3, h4, h5, h6⟩ := partsL_split fs n h
  refine ⟨ps, f, m, h2, by rw [h1]; simp, by rw [h1, h3]; simp, ?_, ?_, ?_, ?_⟩
  · rw [h1, rd_app _ _ _ h4, ← h5]
    simp only
    by_cases hw : whole f m = true
    · obtain rfl := h6 hw
      rw [rd_one]
    · rw [rd_not hw]; simpa using hw
  · intro hw
    obtain rfl := h6 hw
    refine ⟨?_, by rw [h1, h3]; simp, ?_⟩
    · rw [h1, rd_app _ _ _ h4, ← h5, rd_one, prt_next]
      simp only [List.length_append]
      rw [h5]; omega
    · rw [h1, mendL_app _ _ _ h4, ← h5]
      simp only [mendL]
      rw [if_pos hw]
  · intro hw
    rw [h1, mendL_app _ _ _ h4, ← h5, h3, List.take_left]
    simp only [mendL]
    rw [if_neg (by rw [hw]; decide)]
  · rw [h1, h3]; simp
/-- Drop, a step. -/
theorem dropL_step {fs : List Fil} {j : Nat} (h : j + 1 < fs.length) (u m : Int) : dropL u (fs.drop j) m =
    if whole fs[j] m = true ∧ m + (sc fs[j] m).1.length ≤ u ∧ m + (sc fs[j] m).1.length ≤ 900000000 then dropL u (fs.drop (j + 1)) (m + (sc fs[j] m).1.length) else (m, fs.drop j) := by
  have e1 : fs.drop j = fs[j] :: fs[j + 1] :: fs.drop (j + 1 + 1) := by rw [List.drop_eq_getElem_cons (by omega), List.drop_eq_getElem_cons h]
  rw [e1, dropL, ← List.drop_eq_getElem_cons h]
theorem dropL_end {fs : List Fil} {j : Nat} (h : j + 1 = fs.length) (u m : Int) : dropL u (fs.drop j) m = (m, fs.drop j) := by
  have e1 : fs.drop j = [fs[j]] := by rw [List.drop_eq_getElem_cons (by omega), List.drop_eq_nil_of_le (by omega)]
  rw [e1]; simp [dropL]
theorem partsL_at {fs : List Fil} {j : Nat} (h : j < fs.length) (m : Int) : partsL (fs.drop j) m = prt fs[j] m :: (if whole fs[j] m = true then partsL (fs.drop (j + 1)) (m + (sc fs[j] m).1.length) else []) := by
  rw [List.drop_eq_getElem_cons h]; rfl

/-! ### Add -/
/-- How far the landed code is: the files so far, the next number, the texts that are left. -/
structure Fill (sz fi : Int) (fs0 : List Fil) (l0 : List (List UInt8)) (all : List Fil) (nn : Int) (rest : List (List UInt8)) : Prop where
  is : is ⟨sz, fi, all⟩ = true
  wh : (rd all fi).2 = true
  num : nn = fi + (rd all fi).1.length
  goes : go ⟨sz, fi, fs0⟩ l0 = go ⟨sz, fi, all⟩ rest
section
variable {sz fi nn : Int} {fs0 all : List Fil} {l0 r : List (List UInt8)} {t : List UInt8}
theorem Fill.start (hi : Sg.is ⟨sz, fi, fs0⟩ = true) (hw : (rd fs0 fi).2 = true) : Fill sz fi fs0 l0 fs0 (fi + (rd fs0 fi).1.length) l0 := ⟨hi, hw, rfl, rfl⟩
theorem Fill.oneE_eq (h : Fill sz fi fs0 l0 all nn (t :: r)) : oneE ⟨sz, fi, all⟩ t = if Rc.putE nn t = 0 then (if sz < (Rc.rec1 nn t).length then 2 else if ((Fi.read (lastF all)).size : Int) + (Rc.rec1 nn t).length ≤ sz then 0 else if 20 ≤ all.length then 81 else 0) else Rc.putE nn t := by
  unfold oneE
  simp only
  rw [if_pos h.wh, ← h.num]
theorem Fill.badPut (h : Fill sz fi fs0 l0 all nn (t :: r)) (he : Rc.putE nn t ≠ 0) : go ⟨sz, fi, fs0⟩ l0 = (no, Rc.putE nn t) := by
  have e := h.oneE_eq
  rw [if_neg he] at e
  rw [h.goes, go_not (by rw [e]; exact he), e]
theorem Fill.badLen (h : Fill sz fi fs0 l0 all nn (t :: r)) (he : Rc.putE nn t = 0) (hl : sz < (Rc.rec1 nn t).length) : go ⟨sz, fi, fs0⟩ l0 = (no, 2) := by
  have e := h.oneE_eq
  rw [if_pos he, if_pos hl] at e
  rw [h.goes, go_not (by rw [e]; decide), e]
theorem Fill.full (h : Fill sz fi fs0 l0 all nn (t :: r)) (he : Rc.putE nn t = 0) (hl : ¬ sz < (Rc.rec1 nn t).length) (hr : ¬ ((Fi.read (lastF all)).size : Int) + (Rc.rec1 nn t).length ≤ sz) (hn : 20 ≤ all.length) : go ⟨sz, fi, fs0⟩ l0 = (no, 81) := by
  have e := h.oneE_eq
  rw [if_pos he, if_neg hl, if_neg hr, if_pos hn] at e
  rw [h.goes, go_not (by rw [e]; decide), e]
theorem Fill.last {pre : List Fil} {f : Fil} (h : Fill sz fi fs0 l0 (pre ++ [f]) nn (t :: r)) (he : Rc.putE nn t = 0) (hl : ¬ sz < (Rc.rec1 nn t).length) (hr : ((Fi.read f).size : Int) + (Rc.rec1 nn t).length ≤ sz) :
    Fill sz fi fs0 l0 (pre ++ [⟨f.most, f.kept, f.loose ++ strOf (Rc.rec1 nn t)⟩]) (nn + 1) r := by
  have e := h.oneE_eq
  rw [lastF_split, if_pos he, if_neg hl, if_pos hr] at e
  have e2 : one ⟨sz, fi, pre ++ [f]⟩ t = ⟨sz, fi, pre ++ [⟨f.most, f.kept, f.loose ++ strOf (Rc.rec1 nn t)⟩]⟩ := by
    unfold one
    rw [if_pos e]
    simp only
    rw [← h.num]
    unfold oneF
    simp only
    rw [lastF_split, if_pos hr, onLast_split]
  obtain ⟨o1, o2, _, _⟩ := one_ok h.is e
  rw [e2] at o1 o2
  refine ⟨o1, by rw [o2], ?_, ?_⟩
  · simp only at o2; rw [o2]; simp only [List.length_append, List.length_singleton]; have := h.num; omega
  · rw [h.goes, go_yes e, e2]
theorem Fill.more {pre : List Fil} {f : Fil} (h : Fill sz fi fs0 l0 (pre ++ [f]) nn (t :: r)) (he : Rc.putE nn t = 0) (hl : ¬ sz < (Rc.rec1 nn t).length) (hr : ¬ ((Fi.read f).size : Int) + (Rc.rec1 nn t).length ≤ sz) (hn : pre.length + 1 < 20) :
    Fill sz fi fs0 l0 (pre ++ [Fi.sync f] ++ [⟨sz, ⟨#[]⟩, ⟨#[]⟩⟩]) nn (t :: r) := by
  obtain ⟨i1, i2⟩ := is_iff.1 h.is
  simp only at i1 i2
  obtain ⟨k1, k2, k3⟩ := (okF_split _ _ _).1 i2
  obtain ⟨y1, y2, y3, y4⟩ := sync_read k2
  have e := h.oneE_eq
  rw [lastF_split, if_pos he, if_neg hl, if_neg hr, if_neg (by simp; omega)] at e
  have hrd0 : rd (pre ++ [Fi.sync f]) fi = rd (pre ++ [f]) fi := by
    have h9 := rd_onLast Fi.sync pre f y1 fi
    rw [onLast_split] at h9
    exact h9
  have hem := sc_of (f := ⟨sz, ⟨#[]⟩, ⟨#[]⟩⟩) (n := fi + (rd (pre ++ [f]) fi).1.length) (ts := []) rfl trivial
  have hrd1 : rd (pre ++ [Fi.sync f] ++ [⟨sz, ⟨#[]⟩, ⟨#[]⟩⟩]) fi = rd (pre ++ [f]) fi := by
    rw [rd_app _ _ _ (by rw [hrd0]; exact h.wh), hrd0, rd_one, hem.1, hem.2]
    simp only [List.append_nil]
    rw [← h.wh]
  have hi : Sg.is ⟨sz, fi, pre ++ [Fi.sync f] ++ [⟨sz, ⟨#[]⟩, ⟨#[]⟩⟩]⟩ = true := by
    refine is_iff.2 ⟨⟨i1.1, i1.2.1, by simp, by simp; omega⟩, ?_⟩
    simp only
    rw [okF_split]
    refine ⟨?_, ?_, rfl⟩
    · intro x hx
      rcases List.mem_append.1 hx with hx | hx
      · exact k1 x hx
      · obtain rfl : x = Fi.sync f := by simpa using hx
        exact ⟨y2, y3.trans k3, y4⟩
    · unfold Fi.is; rw [decide_eq_true_iff]; simp only
      show 1 ≤ sz ∧ sz ≤ 4000 ∧ ((0 : Nat) : Int) + (0 : Nat) ≤ sz
      omega
  refine ⟨hi, by rw [hrd1]; exact h.wh, by rw [hrd1]; exact h.num, ?_⟩
  have hF : Fill sz fi (pre ++ [Fi.sync f] ++ [⟨sz, ⟨#[]⟩, ⟨#[]⟩⟩]) (t :: r) (pre ++ [Fi.sync f] ++ [⟨sz, ⟨#[]⟩, ⟨#[]⟩⟩]) nn (t :: r) := ⟨hi, by rw [hrd1]; exact h.wh, by rw [hrd1]; exact h.num, rfl⟩
  have hz : ((Fi.read ⟨sz, ⟨#[]⟩, ⟨#[]⟩⟩).size : Int) + (Rc.rec1 nn t).length ≤ sz := by
    rw [Fi.read_size]; simp only
    show ((0 + 0 : Nat) : Int) + _ ≤ _
    omega
  have e' := hF.oneE_eq
  rw [lastF_split, if_pos he, if_neg hl, if_pos hz] at e'
  have e1 : one ⟨sz, fi, pre ++ [f]⟩ t = ⟨sz, fi, pre ++ [Fi.sync f] ++ [⟨sz, ⟨#[]⟩, strOf (Rc.rec1 nn t)⟩]⟩ := by
    unfold one
    rw [if_pos e]
    simp only
    rw [← h.num]
    unfold oneF
    simp only
    rw [lastF_split, if_neg hr, onLast_split]
  have e2 : one ⟨sz, fi, pre ++ [Fi.sync f] ++ [⟨sz, ⟨#[]⟩, ⟨#[]⟩⟩]⟩ t = ⟨sz, fi, pre ++ [Fi.sync f] ++ [⟨sz, ⟨#[]⟩, strOf (Rc.rec1 nn t)⟩]⟩ := by
    unfold one
    rw [if_pos e']
    simp only
    rw [← hF.num]
    unfold oneF
    simp only
    rw [lastF_split, if_pos hz, onLast_split]
    have e0 : (⟨#[]⟩ : ByteArray) ++ strOf (Rc.rec1 nn t) = strOf (Rc.rec1 nn t) := by
      apply ByteArray.ext; simp
    rw [e0]
  rw [h.goes, go_yes e, go_yes e', e1, e2]
theorem Fill.done (h : Fill sz fi fs0 l0 all nn []) : go ⟨sz, fi, fs0⟩ l0 = (⟨sz, fi, all⟩, 0) := h.goes
end
theorem sc_cnt (f : Fil) (n : Int) : (sc f n).1.length ≤ (Fi.read f).size := by
  have recs_cnt : ∀ (ls : List (List UInt8)) (n : Int), ls.length ≤ (Rc.recs n ls).length := by
    intro ls
    induction ls with
    | nil => intro n; exact Nat.zero_le _
    | cons t ls ih =>
      intro n
      have h := ih (n + 1)
      have h1 : 1 ≤ (Rc.rec1 n t).length := by unfold Rc.rec1 Fm.frame; rw [List.length_append]; have := Fm.lay_pos (Sm.ofL (Fm.ahead 1 (Wm.lay n ++ t)) : Int); omega
      simp only [Rc.recs, List.length_cons, List.length_append]; omega
  obtain ⟨_, h2, _⟩ := Rc.scan_split (bl (Fi.read f)) n
  have h3 := Rc.scan_le (bl (Fi.read f)) n
  have h4 := recs_cnt (sc f n).1 n
  rw [bl_length] at h3
  unfold sc at h4 ⊢
  omega
theorem rd_cnt {fs : List Fil} (h : ∀ f ∈ fs, Fi.is f = true) (n : Int) : (rd fs n).1.length ≤ 4000 * fs.length := by
  induction fs generalizing n with
  | nil => exact Nat.zero_le _
  | cons f r ih =>
    have h1 := sc_cnt f n
    have h2 := Fi.is_small (h f (by simp))
    have h3 := Fi.read_size f
    have h4 := ih (fun x hx => h x (by simp [hx])) (n + (sc f n).1.length)
    by_cases hw : whole f n = true
    · rw [rd_yes hw]; simp only [List.length_append, List.length_cons]; omega
    · rw [rd_not hw]; simp only [List.length_cons]; omega
end Sg
end Go.Proofs.YtlnchfnmpamliaaGreat

namespace Go.Proofs.YtlnchfnmpamliaaGreat
set_option maxRecDepth 10000
open Go.RowKit

/-- A part as it lies in memory: where its texts lie. -/
structure Prm where
  p : Prt
  A : Option Addr
  c : Nat
def prmV (a : Prm) : Array Value := #[.int .i64 a.p.f.most, .string a.p.f.kept, .string a.p.f.loose, .int .i64 a.p.n, .slice a.A a.p.ts.length a.c, .int .i64 (a.p.q : Nat)]
theorem Tryz.infoPrm : (Tryz.prog.info? 49).map (fun i => (i.zero, i.size, i.bytes)) = some (some (.agg #[.int .i64 0, .string ByteArray.empty, .string ByteArray.empty, .int .i64 0, .slice none 0 0, .int .i64 0]), 6, 80) := by kernel_rfl
theorem prm_one (a : Prm) : (prmV a).all (·.oneCell') = true := by simp [prmV, Value.oneCell']

/-- A part lies at a place of a block. -/
structure Pr6 (w : World) (b o : Nat) (a : Prm) : Prop where
  c0 : w.cell? ⟨b, o, none⟩ = some (.int .i64 a.p.f.most)
  c1 : w.cell? ⟨b, o + 1, none⟩ = some (.string a.p.f.kept)
  c2 : w.cell? ⟨b, o + 2, none⟩ = some (.string a.p.f.loose)
  c3 : w.cell? ⟨b, o + 3, none⟩ = some (.int .i64 a.p.n)
  c4 : w.cell? ⟨b, o + 4, none⟩ = some (.slice a.A a.p.ts.length a.c)
  c5 : w.cell? ⟨b, o + 5, none⟩ = some (.int .i64 (a.p.q : Nat))
theorem Pr6.below {w w' : World} {B b o : Nat} {a : Prm} (h : Pr6 w b o a) (hb : Below B w w') (hB : b < B) : Pr6 w' b o a := by
  have f : ∀ j, w'.cell? ⟨b, j, none⟩ = w.cell? ⟨b, j, none⟩ := fun j => hb.cell (p := ⟨b, j, none⟩) hB
  exact ⟨(f _).trans h.c0, (f _).trans h.c1, (f _).trans h.c2, (f _).trans h.c3, (f _).trans h.c4, (f _).trans h.c5⟩
/-- Parts, cell by cell. -/
def flatP (ls : List Prm) : List Value := ls.flatMap (fun a => [.int .i64 a.p.f.most, .string a.p.f.kept, .string a.p.f.loose, .int .i64 a.p.n, .slice a.A a.p.ts.length a.c, .int .i64 (a.p.q : Nat)])
theorem flatP_cons (a : Prm) (ls : List Prm) : flatP (a :: ls) = .int .i64 a.p.f.most :: .string a.p.f.kept :: .string a.p.f.loose :: .int .i64 a.p.n :: .slice a.A a.p.ts.length a.c :: .int .i64 (a.p.q : Nat) :: flatP ls := rfl
theorem flatP_app (ls ms : List Prm) : flatP (ls ++ ms) = flatP ls ++ flatP ms := by unfold flatP; exact List.flatMap_append
theorem flatP_len : ∀ ls : List Prm, (flatP ls).length = ls.length * 6
  | [] => rfl
  | a :: ls => by have := flatP_len ls; rw [flatP_cons]; simp only [List.length_cons, this]; omega
theorem flatP_one (ls : List Prm) : ∀ u ∈ flatP ls, u.oneCell' = true := by
  intro u hu
  simp only [flatP, List.mem_flatMap, List.mem_cons, List.not_mem_nil, or_false] at hu
  obtain ⟨p, _, rfl | rfl | rfl | rfl | rfl | rfl⟩ := hu <;> rfl
theorem flatP_get : ∀ (ls : List Prm) (i : Nat) (h : i < ls.length), (flatP ls)[i * 6]? = some (.int .i64 ls[i].p.f.most) ∧ (flatP ls)[i * 6 + 1]? = some (.string ls[i].p.f.kept) ∧ (flatP ls)[i * 6 + 2]? = some (.string ls[i].p.f.loose) ∧ (flatP ls)[i * 6 + 3]? = some (.int .i64 ls[i].p.n) ∧ (flatP ls)[i * 6 + 4]? = some (.slice ls[i].A ls[i].p.ts.length ls[i].c) ∧ (flatP ls)[i * 6 + 5]? = some (.int .i64 (ls[i].p.q : Nat))
  | a :: ls, 0, _ => ⟨rfl, rfl, rfl, rfl, rfl, rfl⟩
  | a :: ls, i + 1, h => by
    have g := flatP_get ls i (by simpa using h)
    rw [flatP_cons]
    have e1 : (i + 1) * 6 = i * 6 + 1 + 1 + 1 + 1 + 1 + 1 := by omega
    rw [e1]
    refine ⟨?_, ?_, ?_, ?_, ?_, ?_⟩ <;> simp only [List.getElem_cons_succ]
    · simpa using g.1
    · have := g.2.1; simpa [Nat.add_right_comm] using this
    · have := g.2.2.1; simpa [Nat.add_right_comm] using this
    · have := g.2.2.2.1; simpa [Nat.add_right_comm] using this
    · have := g.2.2.2.2.1; simpa [Nat.add_right_comm] using this
    · have := g.2.2.2.2.2; simpa [Nat.add_right_comm] using this
/-- A row of parts of one's own. -/
def OwnP (w : World) (base : Nat) (v : Value) (ls : List Prm) : Prop := w.ownsRow base 49 6 v ls.length (flatP ls)
theorem OwnP.below {w W : World} {base : Nat} {v : Value} {ls : List Prm} (h : OwnP w base v ls) (hb : Below w.heap.size w W) : OwnP W base v ls := owns_below h hb
theorem OwnP.lower {w : World} {base base' : Nat} {v : Value} {ls : List Prm} (h : OwnP w base v ls) (hb : base' ≤ base) : OwnP w base' v ls := owns_lower h hb
theorem OwnP.nil (w : World) (base : Nat) : OwnP w base (.slice none 0 0) [] := World.ownsRow_nil w base 49 6
theorem OwnP.slice {w : World} {base : Nat} {v : Value} {ls : List Prm} (h : OwnP w base v ls) : ∃ A cap, v = .slice A ls.length cap ∧ (A = none → cap = 0) ∧ ls.length ≤ cap := by
  unfold OwnP at h
  rcases h.2 with ⟨hv, h0⟩ | ⟨g, cap, cur, hv, _, hg, hcap, _⟩
  · exact ⟨none, 0, by rw [hv, h0], fun _ => rfl, by omega⟩
  · exact ⟨some ⟨g, 0, none⟩, cap, hv, fun e => (by cases e), hcap⟩
/-- One of them, in its block. -/
theorem OwnP.at {w : World} {base : Nat} {A : Option Addr} {n c : Nat} {ls : List Prm} (h : OwnP w base (.slice A n c) ls) {i : Nat} (hi : i < ls.length) : ∃ g, A = some ⟨g, 0, none⟩ ∧ g < w.heap.size ∧ base ≤ g ∧ Pr6 w g (i * 6) ls[i] := by
  unfold OwnP at h
  rcases h.2 with ⟨hv, h0⟩ | ⟨g, cap, cur, hv, hb, hg, hcap, _⟩
  · omega
  · injection hv with e1 _ _
    subst e1
    have g6 := flatP_get ls i hi
    have hc := fun j u (hu : (flatP ls)[j]? = some u) => (by have := h.cells (g := g) rfl _ _ hu; rw [Go.WideShapes.add_plain, Nat.zero_add] at this; exact this : w.cell? ⟨g, j, none⟩ = some u)
    exact ⟨g, rfl, (Array.getElem?_eq_some_iff.1 hg).1, hb, ⟨hc _ _ g6.1, hc _ _ g6.2.1, hc _ _ g6.2.2.1, hc _ _ g6.2.2.2.1, hc _ _ g6.2.2.2.2.1, hc _ _ g6.2.2.2.2.2⟩⟩
/-- One more part behind. -/
theorem wpList_append_prm {ops : Array Oper} {rest : List Oper} {o : Oper} {a : Act} {w : World} {Q : Exit → Act → World → Prop} (hgd : o.guard = none) (s x : Operand)
    (ho : o.op = .call { callee := .builtin .append, args := #[s, x], argTypes := #[44, 44] })
    (base : Nat) (v : Value) (zs : List Prm) (m : Prm) (hs : a.eval s = v) (hown : OwnP w base v zs)
    (k : Nat) (hx : a.eval x = .slice (some ⟨k, 0, none⟩) 1 1) (hA : Pr6 w k 0 m) (hb : base ≤ w.heap.size) (hl : zs.length ≤ 100000)
    (h : ∀ v' w', OwnP w' base v' (zs ++ [m]) → w.grownBy w' v.ownBlock → (v'.ownBlock = v.ownBlock ∨ v'.ownBlock = some w.heap.size) → wpList Tryz.prog ops Q rest (a.put o.dst v') w') : wpList Tryz.prog ops Q (o :: rest) a w := by
  obtain ⟨i0, hi, hz0, hz1, hz2⟩ := info_parts Tryz.infoPrm
  refine wpList_append_own_at w hgd s x 44 ho base 49 i0 _ 6 80 Tryz.underlying44 hi hz0 hz1 hz2 rfl (by decide) v _ _ hs hown ⟨k, 0, none⟩ 1 1 (flatP [m]) hx (flatP_len [m]) ?_ (flatP_one [m]) (by unfold maxLen; omega) (by omega) hb ?_
  · intro j u hu
    have hj := (List.getElem?_eq_some_iff.1 hu).1
    rw [flatP_len] at hj
    rw [Go.WideShapes.add_plain]
    have g := hA
    have hm : j = 0 ∨ j = 1 ∨ j = 2 ∨ j = 3 ∨ j = 4 ∨ j = 5 := by simp at hj; omega
    have e : flatP [m] = [.int .i64 m.p.f.most, .string m.p.f.kept, .string m.p.f.loose, .int .i64 m.p.n, .slice m.A m.p.ts.length m.c, .int .i64 (m.p.q : Nat)] := rfl
    rw [e] at hu
    rcases hm with rfl | rfl | rfl | rfl | rfl | rfl
    · cases hu; exact g.c0
    · cases hu; exact g.c1
    · cases hu; exact g.c2
    · cases hu; exact g.c3
    · cases hu; exact g.c4
    · cases hu; exact g.c5
  · intro v' w' ho' hg _ hw
    exact h v' w' (by unfold OwnP; rw [List.length_append, flatP_app]; exact ho') hg hw

/-- The parts' texts lie where they say, and in no block of the row's own. -/
def TxtAt (w : World) (r : Option Nat) (ms : List Prm) : Prop := ∀ m ∈ ms, StrsAt w w.heap.size m.A (m.p.ts.map strOf) ∧ (m.A = none → m.c = 0) ∧ m.p.ts.length ≤ m.c ∧ (m.p.ts ≠ [] → ∀ a, m.A = some a → r ≠ some a.block)
theorem strs_grown14 {w w' : World} {r : Option Nat} {A : Option Addr} {ts : List ByteArray} (h : StrsAt w w.heap.size A ts) (hg : w.grownBy w' r) (hr : ts ≠ [] → ∀ a, A = some a → r ≠ some a.block) : StrsAt w' w'.heap.size A ts := fun i hi => by
  obtain ⟨b, off, e, hb, hc⟩ := h i hi
  refine ⟨b, off, e, Nat.lt_of_lt_of_le hb hg.size, ?_⟩
  have h1 := hg.block b hb (fun e2 => hr (by intro e3; rw [e3] at hi; simp at hi) _ e e2.symm)
  simp only [World.cell?, h1] at hc ⊢
  exact hc
theorem TxtAt.on {w w' : World} {r : Option Nat} {ms : List Prm} (h : TxtAt w r ms) (hB : Below w.heap.size w w') : TxtAt w' r ms := fun m hm => by
  obtain ⟨h1, h2⟩ := h m hm
  exact ⟨(h1.below hB (Nat.le_refl _)).more hB.size, h2⟩
theorem TxtAt.nil (w : World) (r : Option Nat) : TxtAt w r [] := fun _ h => by cases h
/-- One part more: its texts are younger than the row, or as old. -/
theorem TxtAt.snoc {w : World} {r : Option Nat} {ms : List Prm} {m : Prm} (h : TxtAt w r ms) (h1 : StrsAt w w.heap.size m.A (m.p.ts.map strOf)) (h2 : m.A = none → m.c = 0) (h3 : m.p.ts.length ≤ m.c) (h4 : ∀ a, m.A = some a → r ≠ some a.block) : TxtAt w r (ms ++ [m]) := fun x hx => by
  rcases List.mem_append.1 hx with hx | hx
  · exact h x hx
  · obtain rfl : x = m := by simpa using hx
    exact ⟨h1, h2, h3, fun _ => h4⟩
theorem TxtAt.grown {w w' : World} {r r' : Option Nat} {ms : List Prm} (h : TxtAt w r ms) (hg : w.grownBy w' r) (hr : r' = r ∨ r' = some w.heap.size) : TxtAt w' r' ms := fun m hm => by
  obtain ⟨h1, h2, h3, h4⟩ := h m hm
  refine ⟨strs_grown14 h1 hg (fun hz => h4 (by intro e; rw [e] at hz; exact hz rfl)), h2, h3, fun hz a ha => ?_⟩
  rcases hr with rfl | rfl
  · exact h4 hz a ha
  · intro e
    have hl : 0 < (m.p.ts.map strOf).length := by rw [List.length_map]; exact List.length_pos_iff.2 hz
    obtain ⟨b, off, e2, hb, _⟩ := h1 0 hl
    rw [ha] at e2; cases e2
    injection e with e; simp only at e; omega
end Go.Proofs.YtlnchfnmpamliaaGreat
