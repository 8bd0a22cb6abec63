/-
  Layer 10 (mute): the library's sort of windows by compare.
-/
import Derived.Test.YtpgichlaghhdeaaGreatDoorXMuteS0
import Derived.Test.YtpgichlaghhdeaaGreatDoorXJd
import Derived.Test.YtpgichlaghhdeaaGreatDoorShelfS
import Derived.Shelf.SlSortCmp.WholeK
import Derived.Shelf.SlSortCmp.NoneTotal
namespace Go.Proofs.YtpgichlaghhdeaaGreatDoor
set_option maxRecDepth 10000
open Go.RowKit
open Go.Sort (HoldsK size_flatK get_flatK)

instance : Inhabited Win := ⟨⟨0, 0, 0⟩⟩
/-- A window's cells, as a list. -/
def winV (x : Win) : List Value := [.int .i64 x.bed, .int .i64 x.fr, .int .i64 x.to]

theorem flat3_at (ls : List Win) (j : Nat) (h : j < ls.length * 3) : (flat3 ls)[j]? = some (winV ls.toArray[j / 3]!)[j % 3]! := by
  have hi : j / 3 < ls.length := by omega
  have g := flat3_get ls (j / 3) hi
  have e : ls.toArray[j / 3]! = ls[j / 3] := by simp [getElem!_pos, hi]
  rw [e]
  have hm : j % 3 = 0 ∨ j % 3 = 1 ∨ j % 3 = 2 := by omega
  have fin : ∀ (r : Nat) (v : Value), j % 3 = r → (flat3 ls)[j / 3 * 3 + r]? = some v → (winV ls[j / 3])[r]! = v → (flat3 ls)[j]? = some (winV ls[j / 3])[j % 3]! := by
    intro r v e1 h1 h2
    have e2 : j / 3 * 3 + r = j := by omega
    rw [e2] at h1
    rw [h1, e1, h2]
  rcases hm with hm | hm | hm
  · exact fin 0 _ hm g.1 rfl
  · exact fin 1 _ hm g.2.1 rfl
  · exact fin 2 _ hm g.2.2 rfl

/-- A row of one's own, in the sort's words. -/
theorem OwnW.holds {w : World} {base g n cap : Nat} {ls : List Win} (h : OwnW w base (.slice (some ⟨g, 0, none⟩) n cap) ls) : HoldsK winV 3 w g 0 ls.toArray := by
  intro j hj
  rw [size_flatK, List.size_toArray] at hj
  rw [get_flatK _ _ _ _ (by rw [List.size_toArray]; exact hj)]
  have hc := World.ownsRow.cells h (g := g) rfl j _ (flat3_at ls j hj)
  rw [Go.WideShapes.add_plain] at hc
  refine ⟨hc, ?_⟩
  rcases h.2 with ⟨e, _⟩ | ⟨g', cap', cur, e, _, hg, _⟩
  · cases e
  · injection e with e1
    injection e1 with e1
    injection e1 with e1
    subst e1
    exact frozen_of_row w g _ _ _ hg

/-- What the sort's words say, as a row of one's own. -/
theorem ownW_of_holds {w : World} {base g cap : Nat} {cur : Array Value} {ls : List Win} (hb : base ≤ g) (hg : w.heap[g]? = some (.cells cur 56 (0, 0))) (hn : ls.length ≤ cap) (hm : cap ≤ maxLen) (hs : cur.size = cap * 3)
    (h : HoldsK winV 3 w g 0 ls.toArray) : OwnW w base (.slice (some ⟨g, 0, none⟩) ls.length cap) ls := by
  refine ⟨flat3_len ls, .inr ⟨g, cap, cur, rfl, hb, hg, hn, hm, hs, ?_⟩⟩
  apply List.ext_getElem?
  intro j
  rw [List.getElem?_take, Array.getElem?_toList]
  by_cases hj : j < ls.length * 3
  · rw [if_pos hj, flat3_at ls j hj]
    have hc := (h j (by rw [size_flatK, List.size_toArray]; exact hj)).1
    rw [get_flatK _ _ _ _ (by rw [List.size_toArray]; exact hj)] at hc
    simp only [World.cell?, hg, Nat.zero_add] at hc
    exact hc
  · rw [if_neg hj, List.getElem?_eq_none (by rw [flat3_len]; omega)]

theorem below_growM {w0 w : World} (h : Below w0.heap.size w0 w) (os : Array Obj) : Below w0.heap.size w0 (Go.Sort.grow w os) :=
  ⟨h.os, h.tape, h.output, by rw [Go.Sort.size_grow]; have := h.size; omega, fun i hi => by
    rw [Go.Sort.heap_grow_old w os (Nat.lt_of_lt_of_le hi h.size)]; exact h.block i hi⟩

def Mu.aheadB (x y : Win) : Bool := decide (x.bed < y.bed ∨ (x.bed = y.bed ∧ x.fr < y.fr))
theorem Mu.aheadB_iff (x y : Win) : Mu.aheadB x y = true ↔ x.bed < y.bed ∨ (x.bed = y.bed ∧ x.fr < y.fr) := by unfold Mu.aheadB; exact decide_eq_true_iff
theorem lt_cmpW (x y : Win) : Go.Proofs.ltOf Mu.cmp x y = Mu.aheadB x y := by
  have e : Go.Proofs.ltOf Mu.cmp x y = decide (Mu.cmp x y < 0) := rfl
  rw [e]
  have h := Mu.cmp_lt x y
  rw [← Mu.aheadB_iff] at h
  cases ha : Mu.aheadB x y
  · rw [decide_eq_false_iff_not, h, ha]; simp
  · rw [decide_eq_true_eq, h, ha]
theorem swo_cmpW : Go.Sort.SWO (Go.Proofs.ltOf Mu.cmp) := by
  refine ⟨fun x => ?_, fun x y z h1 h2 => ?_, fun x y z h1 h2 => ?_⟩
  · rw [lt_cmpW]; exact Bool.eq_false_iff.2 (fun h => by rw [Mu.aheadB_iff] at h; omega)
  · rw [lt_cmpW, Mu.aheadB_iff] at *; omega
  · rw [lt_cmpW] at *
    have k1 : ¬ Mu.aheadB x y = true := by rw [h1]; simp
    have k2 : ¬ Mu.aheadB y z = true := by rw [h2]; simp
    refine Bool.eq_false_iff.2 (fun h => ?_)
    rw [Mu.aheadB_iff] at k1 k2 h
    omega

theorem sorted_of_array {ls : List Win} {d' : Array Win} (hp : Go.Sort.PermIn 0 ls.toArray.size ls.toArray d') (hs : Go.Sort.SortedIn (Go.Proofs.ltOf Mu.cmp) 0 ls.toArray.size d') : Mu.Sorted ls d'.toList := by
  obtain ⟨h1, _, h3⟩ := hp
  have e1 : d'.extract 0 ls.toArray.size = d' := by rw [← h1]; simp
  have e2 : ls.toArray.extract 0 ls.toArray.size = ls.toArray := by simp
  rw [e1, e2] at h3
  have h3' : d'.toList.Perm ls := by first | exact h3 | exact h3.symm | simpa using h3 | simpa using h3.symm
  refine ⟨h3', ?_⟩
  refine List.pairwise_iff_getElem.2 fun i j hi hj hij => ?_
  have hi' : i < d'.size := by simpa using hi
  have hj' : j < d'.size := by simpa using hj
  have h := hs i j (Nat.zero_le _) hij (by omega)
  have ei : d'[i]! = d'.toList[i] := by simp [getElem!_pos, hi']
  have ej : d'[j]! = d'.toList[j] := by simp [getElem!_pos, hj']
  rw [lt_cmpW, ei, ej] at h
  have k : ¬ Mu.aheadB d'.toList[j] d'.toList[i] = true := by rw [h]; simp
  rw [Mu.aheadB_iff] at k
  unfold Mu.le2
  omega

theorem cmpLaysW (blk off size : Nat) (w : World) : CmpLays Tryz.prog 82 #[] winV 3 Mu.cmp blk off size w :=
  fun _ _ _ _ x y => mcompare_any x.bed x.fr x.to y.bed y.fr y.to _

/-- slices.SortFunc by compare, of a row of one's own. -/
theorem msort_any : MSortK := by
  intro v base ls w hO hl
  rcases hO.2 with ⟨hv, h0⟩ | ⟨g, cap, cur, hv, hb, hg, hcap, hmax, hsz, _⟩
  · have hls : ls = [] := List.length_eq_zero_iff.1 h0
    subst hls
    subst hv
    have h := AnyF.slices_SortFunc_none Tryz.sortMu none 0 (.func (.func 82) #[] #[]) w
    refine h.mono ?_
    rintro e w' ⟨rfl, rfl⟩
    exact ⟨rfl, [], ⟨List.Perm.refl _, List.Pairwise.nil⟩, OwnW.nil _ _, fun _ h _ => h⟩
  · subst hv
    have hglt : g < w.heap.size := (Array.getElem?_eq_some_iff.1 hg).1
    have hH := OwnW.holds hO
    have eg : ∀ args w, (callFunc 82 args).run Tryz.prog w = .ok (.enter 82 args) w := enters_of Tryz.func82 (by kernel_rfl) rfl
    have h := AnyQ.slices_SortFunc Tryz.sortMu 3 Tryz.isAgg56 Tryz.sizeOf56 winV (fun _ => rfl) (fun x v hv => by simp [winV] at hv; rcases hv with rfl | rfl | rfl <;> rfl) Mu.cmp swo_cmpW 82 #[] g 0 cap ls.toArray w eg (cmpLaysW g 0 _ w) hH hglt (by rw [List.size_toArray]; omega)
    refine h.mono ?_
    rintro e w' ⟨rfl, d', n, os, hp, hs, rfl⟩
    have el : d'.toList.length = ls.length := by have := hp.1; simpa using this
    refine ⟨rfl, d'.toList, sorted_of_array hp hs, ?_, fun w0 hB hle => ?_⟩
    · have hH' := holdsK_sortWorldK_c winV 3 w g 0 ls.toArray d' n os hH hglt hp.1
      have hg' : ∃ cur', (Go.Proofs.sortWorldK winV 3 w g 0 n d' os).heap[g]? = some (.cells cur' 56 (0, 0)) ∧ cur'.size = cur.size := by
        refine ⟨Go.Sort.putCells id 0 (Go.Sort.flatK winV 3 d') cur, ?_, by simp [Go.Sort.putCells]⟩
        unfold Go.Proofs.sortWorldK Go.Sort.putRowK
        rw [Go.Sort.heap_grow_old _ _ (by simpa [Go.Sort.putRow, Go.Sort.mapBlock, Go.Sort.ahead] using hglt)]
        simp [Go.Sort.putRow, Go.Sort.mapBlock, Go.Sort.ahead, Array.getElem?_modify, hg, Go.Sort.onCells]
      obtain ⟨cur', hg', hs'⟩ := hg'
      have k := ownW_of_holds (ls := d'.toList) hb hg' (by rw [el]; exact hcap) hmax (by rw [hs', hsz]) (by simpa using hH')
      rw [el] at k
      exact k
    · exact below_growM (Go.Lib.below_putRow hB (Nat.le_trans hle hb)) os
end Go.Proofs.YtpgichlaghhdeaaGreatDoor
