/-
  Layer 7 (rank): the library's sort of a row of alarms by compare.
-/
import Derived.Test.YtpgichlaghhdeaaGreatDoorXJf
import Derived.Test.YtpgichlaghhdeaaGreatDoorShelfS
import Derived.Shelf.SlSortCmp.WholeK
import Derived.Shelf.SlSortCmp.NoneTotal
import Derived.Lib.OwnBridge
namespace Go.Proofs.YtpgichlaghhdeaaGreatDoor
set_option maxRecDepth 10000
open Go.RowKit
open Go.Sort (HoldsK size_flatK get_flatK)

instance : Inhabited Alm := ⟨⟨0, 0, 0, 0, 0, 0⟩⟩

/-- An alarm's cells, as a list. -/
def almV (x : Alm) : List Value := [.int .i64 x.b, .int .i64 x.c, .int .i64 x.ph, .int .i64 x.pr, .int .i64 x.si, .int .i64 x.un]

theorem Tryz.infoRk : (Tryz.prog.info? 79).map (fun i => (i.zero, i.size, i.bytes)) = some (some (.agg #[.int .i64 0, .int .i64 0, .int .i64 0, .int .i64 0, .int .i64 0, .int .i64 0]), 6, 48) := by kernel_rfl

/-- A row of ranked alarms of one's own. -/
def OwnR (w : World) (base : Nat) (v : Value) (ls : List Alm) : Prop := w.ownsRow base 79 6 v ls.length (flat6 ls)
theorem OwnR.nil (w : World) (base : Nat) : OwnR w base (.slice none 0 0) [] := World.ownsRow_nil w base 79 6
theorem OwnR.below {w W : World} {base : Nat} {v : Value} {ls : List Alm} (h : OwnR w base v ls) (hb : Below w.heap.size w W) : OwnR W base v ls := owns_below h hb
theorem OwnR.ge {w : World} {base : Nat} {v : Value} {ls : List Alm} (h : OwnR w base v ls) : ∀ k, v.ownBlock = some k → base ≤ k := fun k hk => (World.ownsRow.lt h k hk).1

theorem flat6_at (ls : List Alm) (j : Nat) (h : j < ls.length * 6) : (flat6 ls)[j]? = some (almV ls.toArray[j / 6]!)[j % 6]! := by
  have hi : j / 6 < ls.length := by omega
  have g := flat6_get ls (j / 6) hi
  have e : ls.toArray[j / 6]! = ls[j / 6] := by simp [getElem!_pos, hi]
  rw [e]
  have hm : j % 6 = 0 ∨ j % 6 = 1 ∨ j % 6 = 2 ∨ j % 6 = 3 ∨ j % 6 = 4 ∨ j % 6 = 5 := by omega
  have fin : ∀ (r : Nat) (v : Value), j % 6 = r → (flat6 ls)[j / 6 * 6 + r]? = some v → (almV ls[j / 6])[r]! = v → (flat6 ls)[j]? = some (almV ls[j / 6])[j % 6]! := by
    intro r v e1 h1 h2
    have e2 : j / 6 * 6 + r = j := by omega
    rw [e2] at h1
    rw [h1, e1, h2]
  rcases hm with hm | hm | hm | hm | hm | hm
  · exact fin 0 _ hm g.1 rfl
  · exact fin 1 _ hm g.2.1 rfl
  · exact fin 2 _ hm g.2.2.1 rfl
  · exact fin 3 _ hm g.2.2.2.1 rfl
  · exact fin 4 _ hm g.2.2.2.2.1 rfl
  · exact fin 5 _ hm g.2.2.2.2.2 rfl

/-- A row of one's own, in the sort's words. -/
theorem OwnR.holds {w : World} {base g n cap : Nat} {ls : List Alm} (h : OwnR w base (.slice (some ⟨g, 0, none⟩) n cap) ls) : HoldsK almV 6 w g 0 ls.toArray := by
  intro j hj
  rw [size_flatK, List.size_toArray] at hj
  rw [get_flatK _ _ _ _ (by rw [List.size_toArray]; exact hj)]
  have hc := World.ownsRow.cells h (g := g) rfl j _ (flat6_at ls j hj)
  rw [Go.WideShapes.add_plain] at hc
  refine ⟨hc, ?_⟩
  rcases h.2 with ⟨e, _⟩ | ⟨g', cap', cur, e, _, hg, _⟩
  · cases e
  · injection e with e1
    injection e1 with e1
    injection e1 with e1
    subst e1
    exact frozen_of_row w g _ _ _ hg

/-- What the sort's words say, cell by cell. -/
theorem alms_of_holds {w : World} {g : Nat} {d : Array Alm} (h : HoldsK almV 6 w g 0 d) (hg : g < w.heap.size) : AlmsAt w w.heap.size (some ⟨g, 0, none⟩) d.toList := fun i hi => by
  have hi' : i < d.size := by simpa using hi
  have e : d[i]! = d.toList[i] := by simp [getElem!_pos, hi']
  have hc := fun c (hc : c < 6) => (h.cell (i := i) (c := c) hi' hc).1
  rw [e] at hc
  exact ⟨g, 0, rfl, hg, ⟨hc 0 (by omega), hc 1 (by omega), hc 2 (by omega), hc 3 (by omega), hc 4 (by omega), hc 5 (by omega)⟩⟩

theorem below_grow {w0 w : World} (h : Below w0.heap.size w0 w) (os : Array Obj) : Below w0.heap.size w0 (Go.Sort.grow w os) :=
  ⟨h.os, h.tape, h.output, by rw [Go.Sort.size_grow]; have := h.size; omega, fun i hi => by
    rw [Go.Sort.heap_grow_old w os (Nat.lt_of_lt_of_le hi h.size)]; exact h.block i hi⟩

theorem lt_cmp (x y : Alm) : Go.Proofs.ltOf Rk.cmp x y = decide (Rk.cmp x y < 0) := rfl
theorem swo_cmp : Go.Sort.SWO (Go.Proofs.ltOf Rk.cmp) := by
  refine ⟨fun x => ?_, fun x y z h1 h2 => ?_, fun x y z h1 h2 => ?_⟩
  · rw [lt_cmp, (Rk.cmp_zero x x).2 rfl]; rfl
  · rw [lt_cmp] at *
    simp only [decide_eq_true_eq] at *
    exact Rk.cmp_trans_lt h1 h2
  · rw [lt_cmp] at *
    simp only [decide_eq_false_iff_not, Int.not_lt] at *
    have e1 := Rk.cmp_swap x y
    have e2 := Rk.cmp_swap y z
    have e3 := Rk.cmp_swap x z
    have := Rk.cmp_trans (a := z) (b := y) (c := x) (by omega) (by omega)
    omega

/-- Sorted, and with the same alarms: Rk.sort. -/
theorem sort_of_array {ls : List Alm} {d' : Array Alm} (hp : Go.Sort.PermIn 0 ls.toArray.size ls.toArray d') (hs : Go.Sort.SortedIn (Go.Proofs.ltOf Rk.cmp) 0 ls.toArray.size d') : d'.toList = Rk.sort ls := by
  obtain ⟨h1, _, h3⟩ := hp
  have e1 : d'.extract 0 ls.toArray.size = d' := by rw [← h1]; simp
  have e2 : ls.toArray.extract 0 ls.toArray.size = ls.toArray := by simp
  rw [e1, e2] at h3
  refine Rk.sort_of ?_ h3
  refine List.pairwise_iff_getElem.2 fun i j hi hj hij => ?_
  have hi' : i < d'.size := by simpa using hi
  have hj' : j < d'.size := by simpa using hj
  have h := hs i j (Nat.zero_le _) hij (by omega)
  have ei : d'[i]! = d'.toList[i] := by simp [getElem!_pos, hi']
  have ej : d'[j]! = d'.toList[j] := by simp [getElem!_pos, hj']
  rw [lt_cmp, ei, ej] at h
  simp only [decide_eq_false_iff_not, Int.not_lt] at h
  have := Rk.cmp_swap d'.toList[i] d'.toList[j]
  unfold Rk.le
  omega

theorem cmpLays (blk off size : Nat) (w : World) : CmpLays Tryz.prog 49 #[] almV 6 Rk.cmp blk off size w :=
  fun _ _ _ _ x y => kcompare_any x.b x.c x.ph x.pr x.si x.un y.b y.c y.ph y.pr y.si y.un _

/-- slices.SortFunc by compare, of a row of one's own. -/
theorem ksort_any (v : Value) (base : Nat) (ls : List Alm) (w : World) (hO : OwnR w base v ls) (hl : ls.length ≤ 1000) :
    Calls Tryz.prog 122 #[v, .func (.func 49) #[] #[]] w fun e w' =>
      e = .returned (.tuple #[]) ∧ (∃ A cap, v = .slice A ls.length cap ∧ AlmsAt w' w'.heap.size A (Rk.sort ls) ∧ (A = none → cap = 0) ∧ ls.length ≤ cap) ∧ ∀ w0, Below w0.heap.size w0 w → w0.heap.size ≤ base → Below w0.heap.size w0 w' := by
  rcases hO.2 with ⟨hv, h0⟩ | ⟨g, cap, cur, hv, hb, hg, hcap, _⟩
  · have hls : ls = [] := List.length_eq_zero_iff.1 h0
    subst hls
    subst hv
    have h := AnyF.slices_SortFunc_none Tryz.sortRk none 0 (.func (.func 49) #[] #[]) w
    refine h.mono ?_
    rintro e w' ⟨rfl, rfl⟩
    exact ⟨rfl, ⟨none, 0, rfl, AlmsAt.nil _ _ _, fun _ => rfl, Nat.le_refl _⟩, fun _ h _ => h⟩
  · subst hv
    have hglt : g < w.heap.size := (Array.getElem?_eq_some_iff.1 hg).1
    have hH := OwnR.holds hO
    have eg : ∀ args w, (callFunc 49 args).run Tryz.prog w = .ok (.enter 49 args) w := enters_of Tryz.func49 (by kernel_rfl) rfl
    have h := AnyQ.slices_SortFunc Tryz.sortRk 6 Tryz.isAgg79 Tryz.sizeOf79 almV (fun _ => rfl) (fun x v hv => by simp [almV] at hv; rcases hv with rfl | rfl | rfl | rfl | rfl | rfl <;> rfl) Rk.cmp swo_cmp 49 #[] g 0 cap ls.toArray w eg (cmpLays g 0 _ w) hH hglt (by rw [List.size_toArray]; omega)
    refine h.mono ?_
    rintro e w' ⟨rfl, d', n, os, hp, hs, rfl⟩
    refine ⟨rfl, ⟨some ⟨g, 0, none⟩, cap, rfl, ?_, (fun e => nomatch e), hcap⟩, fun w0 hB hle => ?_⟩
    · rw [← sort_of_array hp hs]
      exact alms_of_holds (holdsK_sortWorldK_c almV 6 w g 0 ls.toArray d' n os hH hglt hp.1) (Nat.lt_of_lt_of_le hglt (size_sortWorldK_c almV 6 w g 0 n d' os))
    · exact below_grow (Go.Lib.below_putRow hB (Nat.le_trans hle hb)) os

/-- One alarm more behind a row of one's own. -/
theorem wpList_append_ranked {ops : Array Oper} {rest : List Oper} {o : Oper} {a : Act} {w : World} {Q : Exit → Act → World → Prop} (hgd : o.guard = none) (s x : Operand)
    (ho : o.op = .call { callee := .builtin .append, args := #[s, x], argTypes := #[125, 125] })
    (base : Nat) (v : Value) (zs : List Alm) (m : Alm) (hs : a.eval s = v) (hown : OwnR w base v zs)
    (A : Addr) (cap : Nat) (hx : a.eval x = .slice (some A) 1 cap) (hA : AlmsAt w w.heap.size (some A) [m]) (hb : base ≤ w.heap.size) (hl : zs.length ≤ 10000)
    (h : ∀ v' w', OwnR w' base v' (zs ++ [m]) → w.grownBy w' v.ownBlock → wpList Tryz.prog ops Q rest (a.put o.dst v') w') : wpList Tryz.prog ops Q (o :: rest) a w := by
  obtain ⟨i0, hi, hz0, hz1, hz2⟩ := info_parts Tryz.infoRk
  refine wpList_append_own _ hgd s x 125 ho base 79 i0 _ 6 48 Tryz.underlying125 hi hz0 hz1 hz2 rfl (by decide) v _ _ hs hown A 1 cap (flat6 [m]) hx rfl hA.flat_cells (flat6_one [m]) (by unfold maxLen; omega) (by omega) hb ?_
  intro v' w' ho' hg _
  exact h v' w' (by unfold OwnR; rw [List.length_append, flat6_app]; exact ho') hg
end Go.Proofs.YtpgichlaghhdeaaGreatDoor
