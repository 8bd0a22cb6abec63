/-
  Layer 9 (due): the library's sort of a row of turns by compare, and Order.
-/
import Derived.Test.YtplpadblhjdpcaaGreatXDueW2
import Derived.Test.YtplpadblhjdpcaaGreatShelf
import Derived.Shelf.SlSortCmp.WholeK
import Derived.Shelf.SlSortCmp.NoneTotal
import Derived.Lib.OwnBridge
namespace Go.Proofs.YtplpadblhjdpcaaGreat
set_option maxRecDepth 10000
open Go.RowKit
open Go.Sort (HoldsK size_flatK get_flatK)

instance : Inhabited Trn := ⟨⟨0, 0, 0, 0⟩⟩

/-- A turn's cells, as a list. -/
def trnV (x : Trn) : List Value := [.int .i64 x.tm, .int .i64 x.b, .int .i64 x.c, .int .i64 x.ph]

theorem flat4_at (ls : List Trn) (j : Nat) (h : j < ls.length * 4) : (flat4 ls)[j]? = some (trnV ls.toArray[j / 4]!)[j % 4]! := by
  have hi : j / 4 < ls.length := by omega
  have g := flat4_get ls (j / 4) hi
  have e : ls.toArray[j / 4]! = ls[j / 4] := by simp [getElem!_pos, hi]
  rw [e]
  have hm : j % 4 = 0 ∨ j % 4 = 1 ∨ j % 4 = 2 ∨ j % 4 = 3 := by omega
  have fin : ∀ (r : Nat) (v : Value), j % 4 = r → (flat4 ls)[j / 4 * 4 + r]? = some v → (trnV ls[j / 4])[r]! = v → (flat4 ls)[j]? = some (trnV ls[j / 4])[j % 4]! := by
    intro r v e1 h1 h2
    have e2 : j / 4 * 4 + r = j := by omega
    rw [e2] at h1
    rw [h1, e1, h2]
  rcases hm with hm | hm | hm | hm
  · exact fin 0 _ hm g.1 rfl
  · exact fin 1 _ hm g.2.1 rfl
  · exact fin 2 _ hm g.2.2.1 rfl
  · exact fin 3 _ hm g.2.2.2 rfl

/-- A row of one's own, in the sort's words. -/
theorem OwnT.holds {w : World} {base g n cap : Nat} {ls : List Trn} (h : OwnT w base (.slice (some ⟨g, 0, none⟩) n cap) ls) : HoldsK trnV 4 w g 0 ls.toArray := by
  intro j hj
  rw [size_flatK, List.size_toArray] at hj
  rw [get_flatK _ _ _ _ (by rw [List.size_toArray]; exact hj)]
  have hc := World.ownsRow.cells h (g := g) rfl j _ (flat4_at ls j hj)
  rw [Go.WideShapes.add_plain] at hc
  refine ⟨hc, ?_⟩
  rcases h.2 with ⟨e, _⟩ | ⟨g', cap', cur, e, _, hg, _⟩
  · cases e
  · injection e with e1
    injection e1 with e1
    injection e1 with e1
    subst e1
    exact frozen_of_row w g _ _ _ hg

/-- What the sort's words say, as a row of one's own. -/
theorem ownT_of_holds {w : World} {base g cap : Nat} {cur : Array Value} {ls : List Trn} (hb : base ≤ g) (hg : w.heap[g]? = some (.cells cur 55 (0, 0))) (hn : ls.length ≤ cap) (hm : cap ≤ maxLen) (hs : cur.size = cap * 4)
    (h : HoldsK trnV 4 w g 0 ls.toArray) : OwnT w base (.slice (some ⟨g, 0, none⟩) ls.length cap) ls := by
  refine ⟨flat4_len ls, .inr ⟨g, cap, cur, rfl, hb, hg, hn, hm, hs, ?_⟩⟩
  apply List.ext_getElem?
  intro j
  rw [List.getElem?_take, Array.getElem?_toList]
  by_cases hj : j < ls.length * 4
  · rw [if_pos hj, flat4_at ls j hj]
    have hc := (h j (by rw [size_flatK, List.size_toArray]; exact hj)).1
    rw [get_flatK _ _ _ _ (by rw [List.size_toArray]; exact hj)] at hc
    simp only [World.cell?, hg, Nat.zero_add] at hc
    exact hc
  · rw [if_neg hj, List.getElem?_eq_none (by rw [flat4_len]; omega)]

theorem below_grow {w0 w : World} (h : Below w0.heap.size w0 w) (os : Array Obj) : Below w0.heap.size w0 (Go.Sort.grow w os) :=
  ⟨h.os, h.tape, h.output, by rw [Go.Sort.size_grow]; have := h.size; omega, fun i hi => by
    rw [Go.Sort.heap_grow_old w os (Nat.lt_of_lt_of_le hi h.size)]; exact h.block i hi⟩

theorem lt_cmp (x y : Trn) : Go.Proofs.ltOf Du.cmp x y = Du.ahead x y := by
  have e : Go.Proofs.ltOf Du.cmp x y = decide (Du.cmp x y < 0) := rfl
  rw [e]
  have h := Du.cmp_lt x y
  cases ha : Du.ahead x y
  · rw [decide_eq_false_iff_not, h, ha]; simp
  · rw [decide_eq_true_eq, h, ha]
theorem swo_cmp : Go.Sort.SWO (Go.Proofs.ltOf Du.cmp) := by
  refine ⟨fun x => ?_, fun x y z h1 h2 => ?_, fun x y z h1 h2 => ?_⟩
  · rw [lt_cmp]; exact Bool.eq_false_iff.2 (fun h => by rw [Du.ahead_iff] at h; omega)
  · rw [lt_cmp, Du.ahead_iff] at *; omega
  · rw [lt_cmp] at *
    have k1 : ¬ Du.ahead x y = true := by rw [h1]; simp
    have k2 : ¬ Du.ahead y z = true := by rw [h2]; simp
    refine Bool.eq_false_iff.2 (fun h => ?_)
    rw [Du.ahead_iff] at k1 k2 h
    omega

/-- Sorted, and with the same turns: Du.order. -/
theorem order_of_array {ls : List Trn} {d' : Array Trn} (hp : Go.Sort.PermIn 0 ls.toArray.size ls.toArray d') (hs : Go.Sort.SortedIn (Go.Proofs.ltOf Du.cmp) 0 ls.toArray.size d') : d'.toList = Du.order ls := by
  obtain ⟨h1, _, h3⟩ := hp
  have e1 : d'.extract 0 ls.toArray.size = d' := by rw [← h1]; simp
  have e2 : ls.toArray.extract 0 ls.toArray.size = ls.toArray := by simp
  rw [e1, e2] at h3
  have h3' : d'.toList.Perm ls := by first | exact h3 | exact h3.symm | simpa using h3 | simpa using h3.symm
  refine Du.sorted_eq ?_ (Du.order_sorted ls) (h3'.trans (Du.order_perm ls).symm)
  refine List.pairwise_iff_getElem.2 fun i j hi hj hij => ?_
  have hi' : i < d'.size := by simpa using hi
  have hj' : j < d'.size := by simpa using hj
  have h := hs i j (Nat.zero_le _) hij (by omega)
  have ei : d'[i]! = d'.toList[i] := by simp [getElem!_pos, hi']
  have ej : d'[j]! = d'.toList[j] := by simp [getElem!_pos, hj']
  rw [lt_cmp, ei, ej] at h
  unfold Du.le
  rw [h]
  simp

theorem cmpLays (blk off size : Nat) (w : World) : CmpLays Tryz.prog 39 #[] trnV 4 Du.cmp blk off size w :=
  fun _ _ _ _ x y => dcompare_any x.tm x.b x.c x.ph y.tm y.b y.c y.ph _

/-- slices.SortFunc by compare, of a row of one's own. -/
theorem dsort_any (v : Value) (base : Nat) (ls : List Trn) (w : World) (hO : OwnT w base v ls) (hl : ls.length ≤ 1000) :
    Calls Tryz.prog 38 #[v, .func (.func 39) #[] #[]] w fun e w' =>
      e = .returned (.tuple #[]) ∧ OwnT w' base v (Du.order ls) ∧ ∀ w0, Below w0.heap.size w0 w → w0.heap.size ≤ base → Below w0.heap.size w0 w' := by
  rcases hO.2 with ⟨hv, h0⟩ | ⟨g, cap, cur, hv, hb, hg, hcap, hmax, hsz, _⟩
  · have hls : ls = [] := List.length_eq_zero_iff.1 h0
    subst hls
    subst hv
    have h := AnyF.slices_SortFunc_none Tryz.sortDu none 0 (.func (.func 39) #[] #[]) w
    refine h.mono ?_
    rintro e w' ⟨rfl, rfl⟩
    exact ⟨rfl, OwnT.nil _ _, fun _ h _ => h⟩
  · subst hv
    have hglt : g < w.heap.size := (Array.getElem?_eq_some_iff.1 hg).1
    have hH := OwnT.holds hO
    have eg : ∀ args w, (callFunc 39 args).run Tryz.prog w = .ok (.enter 39 args) w := enters_of Tryz.func39 (by kernel_rfl) rfl
    have h := AnyQ.slices_SortFunc Tryz.sortDu 4 Tryz.isAgg55 Tryz.sizeOf55 trnV (fun _ => rfl) (fun x v hv => by simp [trnV] at hv; rcases hv with rfl | rfl | rfl | rfl <;> rfl) Du.cmp swo_cmp 39 #[] g 0 cap ls.toArray w eg (cmpLays g 0 _ w) hH hglt (by rw [List.size_toArray]; omega)
    refine h.mono ?_
    rintro e w' ⟨rfl, d', n, os, hp, hs, rfl⟩
    have el : d'.toList.length = ls.length := by have := hp.1; simpa using this
    refine ⟨rfl, ?_, fun w0 hB hle => ?_⟩
    · have hH' := holdsK_sortWorldK_c trnV 4 w g 0 ls.toArray d' n os hH hglt hp.1
      have hg' : ∃ cur', (Go.Proofs.sortWorldK trnV 4 w g 0 n d' os).heap[g]? = some (.cells cur' 55 (0, 0)) ∧ cur'.size = cur.size := by
        refine ⟨Go.Sort.putCells id 0 (Go.Sort.flatK trnV 4 d') cur, ?_, by simp [Go.Sort.putCells]⟩
        unfold Go.Proofs.sortWorldK Go.Sort.putRowK
        rw [Go.Sort.heap_grow_old _ _ (by simpa [Go.Sort.putRow, Go.Sort.mapBlock, Go.Sort.ahead] using hglt)]
        simp [Go.Sort.putRow, Go.Sort.mapBlock, Go.Sort.ahead, Array.getElem?_modify, hg, Go.Sort.onCells]
      obtain ⟨cur', hg', hs'⟩ := hg'
      rw [← order_of_array hp hs]
      have k := ownT_of_holds (ls := d'.toList) hb hg' (by rw [el]; exact hcap) hmax (by rw [hs', hsz]) (by simpa using hH')
      rw [el] at k
      exact k
    · exact below_grow (Go.Lib.below_putRow hB (Nat.le_trans hle hb)) os

/-- Order. -/
theorem dorder_any (A : Option Addr) (l c : Nat) (ts : List Trn) (w : World) (hl : l = ts.length) (hA : TrnsAt w w.heap.size A ts) (h0 : A = none → c = 0) (hf : l ≤ 1000) :
    Calls Tryz.prog 17 #[.slice A l c] w (OwnedT w l (Du.order ts)) := by
  have HA := Lib.hid hA
  have Hn := Lib.hid h0
  have Hl := Lib.hid hf
  have Hm := Lib.hid hl
  clear hA h0 hf hl
  go_enter Tryz.func17, Tryz.ntmps17
  go_wp2_with (at_builtin; refine wpList_append_trns rfl _ _ 27 rfl Tryz.underlying27 w.heap.size _ [] ts rfl (OwnT.nil _ _) A _ c rfl Hm.out HA.out Hn.out (Nat.le_refl _) (by have := Hl.out; have := Hm.out; simp; omega) ?_; intro v' w1 hown' hgrow; rw [List.nil_append] at hown'; have HO := Lib.hid hown'; have HB1 : Hid (Below w.heap.size w w1) := Lib.hid ((Below.refl _ w).grown hgrow (Nat.le_refl _) (fun k hk => by cases hk)); clear hown' hgrow)
  refine (dsort_any v' w.heap.size ts w1 HO.out (by rw [← Hm.out]; exact Hl.out)).mono ?_
  rintro e w2 ⟨rfl, hO, hB⟩
  have HO2 := Lib.hid hO
  have HB2 := Lib.hid (hB w HB1.out (Nat.le_refl _))
  clear hO hB
  obtain ⟨A2, c2, e2, _⟩ := HO2.out.slice
  rw [Du.order_len, ← Hm.out] at e2
  subst e2
  go_wp2
  go_ret
  exact ⟨_, _, rfl, HO2.out, HB2.out⟩
end Go.Proofs.YtplpadblhjdpcaaGreat
