/-
  Layer 3 (frame): the reader's functions, and small ones: isKind, small.
-/
import Derived.Test.YteepemibmjpnfaaWireGet
import Derived.Test.YteepemibmjpnfaaSumRun
import Derived.Test.YteepemibmjpnfaaFrameM
import Derived.Test.YteepemibmjpnfaaAidStrs
namespace Go.Proofs.Yteepemibmjpnfaa
set_option maxRecDepth 10000
open Go.RowKit

namespace Fm
/-- A number read on: nothing more, once there is an error. -/
def rdI (l : List UInt8) (e : Int) : Int × List UInt8 × Int := if e = 0 then Wm.getInt l else (0, l, e)
/-- A text read on: nothing more, once there is an error. -/
def rdT (l : List UInt8) (e : Int) : List UInt8 × List UInt8 × Int := if e = 0 then Wm.getText l else ([], l, e)
theorem rdI_go (l : List UInt8) : rdI l 0 = Wm.getInt l := rfl
theorem rdT_go (l : List UInt8) : rdT l 0 = Wm.getText l := rfl
theorem rdI_stop {l : List UInt8} {e : Int} (h : e ≠ 0) : rdI l e = (0, l, e) := if_neg h
theorem rdT_stop {l : List UInt8} {e : Int} (h : e ≠ 0) : rdT l e = ([], l, e) := if_neg h
theorem rdI_zero {l : List UInt8} {e : Int} {n : Int} {r : List UInt8} (h : rdI l e = (n, r, 0)) : e = 0 ∧ Wm.getInt l = (n, r, 0) := by
  by_cases he : e = 0
  · subst he; exact ⟨rfl, h⟩
  · rw [rdI_stop he] at h; simp at h; exact absurd h.2.2 he
theorem rdT_zero {l : List UInt8} {e : Int} {t r : List UInt8} (h : rdT l e = (t, r, 0)) : e = 0 ∧ Wm.getText l = (t, r, 0) := by
  by_cases he : e = 0
  · subst he; exact ⟨rfl, h⟩
  · rw [rdT_stop he] at h; simp at h; exact absurd h.2.2 he
end Fm

theorem getText_len {l t r : List UInt8} {e : Int} (h : Wm.getText l = (t, r, e)) : t.length ≤ l.length ∧ r.length ≤ l.length := by
  rcases Wm.getText_err l with ⟨t', r', h'⟩ | ⟨e', _, h'⟩
  · rw [h'] at h; simp only [Prod.mk.injEq] at h
    obtain ⟨rfl, rfl, rfl⟩ := h
    have := (Wm.getText_ok h').2
    rw [this]; simp; omega
  · rw [h'] at h; simp only [Prod.mk.injEq] at h
    obtain ⟨rfl, rfl, rfl⟩ := h
    simp
theorem rdI_len {l r : List UInt8} {e n e' : Int} (h : Fm.rdI l e = (n, r, e')) : r.length ≤ l.length := by
  by_cases he : e = 0
  · subst he; exact getInt_len (show Wm.getInt l = _ from h)
  · rw [Fm.rdI_stop he] at h; simp only [Prod.mk.injEq] at h; rw [h.2.1]; exact Nat.le_refl _
theorem rdT_len {l t r : List UInt8} {e e' : Int} (h : Fm.rdT l e = (t, r, e')) : t.length ≤ l.length ∧ r.length ≤ l.length := by
  by_cases he : e = 0
  · subst he; exact getText_len (show Wm.getText l = _ from h)
  · rw [Fm.rdT_stop he] at h; simp only [Prod.mk.injEq] at h; rw [h.2.1, ← h.1]; simp

/-- Where a reader keeps what is left, and its error. -/
structure RdAt (w : World) (bs be : Nat) (s : ByteArray) (e : Int) : Prop where
  cs : w.cell? ⟨bs, 0, none⟩ = some (.string s)
  ce : w.cell? ⟨be, 0, none⟩ = some (.int .i64 e)
  fs : w.frozen? ⟨bs, 0, none⟩ = false
  fe : w.frozen? ⟨be, 0, none⟩ = false
  ne : bs ≠ be

theorem RdAt.set {w : World} {bs be : Nat} {s : ByteArray} {e : Int} (h : RdAt w bs be s e) (s' : ByteArray) (e' : Int) : RdAt ((w.setCell ⟨bs, 0, none⟩ (.string s')).setCell ⟨be, 0, none⟩ (.int .i64 e')) bs be s' e' := by
  have h1 : (⟨bs, 0, none⟩ : Addr) ≠ ⟨be, 0, none⟩ := by intro hh; exact h.ne (by injection hh)
  refine ⟨?_, ?_, by simpa using h.fs, by simpa using h.fe, h.ne⟩
  · exact (World.cell?_setCell_other _ _ _ _ (by first | exact h1 | exact h1.symm)).trans (World.cell?_setCell_same _ _ _ h.cs)
  · exact World.cell?_setCell_same _ _ _ ((World.cell?_setCell_other _ _ _ _ (by first | exact h1 | exact h1.symm)).trans h.ce)
theorem RdAt.drew {w : World} {bs be : Nat} {s : ByteArray} {e : Int} (h : RdAt w bs be s e) (n : Nat) : RdAt (w.drewN n) bs be s e := ⟨h.cs, h.ce, h.fs, h.fe, h.ne⟩

theorem RdAt.setS {w : World} {bs be : Nat} {s : ByteArray} {e : Int} (h : RdAt w bs be s e) (s' : ByteArray) : (w.setCell ⟨bs, 0, none⟩ (.string s')).cell? ⟨be, 0, none⟩ = some (.int .i64 e) := by
  have h1 : (⟨bs, 0, none⟩ : Addr) ≠ ⟨be, 0, none⟩ := by intro hh; exact h.ne (by injection hh)
  exact (World.cell?_setCell_other _ _ _ _ (by first | exact h1 | exact h1.symm)).trans h.ce
theorem RdAt.new (w : World) (s : ByteArray) (e : Int) (T T' : TypeId) : RdAt ((w.alloc (.cells #[.string s] T)).alloc (.cells #[.int .i64 e] T')) w.heap.size (w.heap.size + 1) s e := by
  have hb := World.alloc_heap_new (w.alloc (.cells #[.string s] T)) (.cells #[.int .i64 e] T')
  have hz : (w.alloc (.cells #[.string s] T)).heap.size = w.heap.size + 1 := by simp
  rw [hz] at hb
  have hob : ((w.alloc (.cells #[.string s] T)).alloc (.cells #[.int .i64 e] T')).heap[w.heap.size]? = some (.cells #[.string s] T) :=
    (((Below.refl (w.heap.size + 1) (w.alloc (.cells #[.string s] T))).alloc (by rw [hz]; exact Nat.le_refl _) (.cells #[.int .i64 e] T')).block w.heap.size (Nat.lt_succ_self _)).trans (World.alloc_heap_new w (.cells #[.string s] T))
  constructor
  · simp only [World.cell?, hob]; simp
  · simp only [World.cell?, hb]; simp
  · simp only [World.frozen?, hob]; simp
  · simp only [World.frozen?, hb]; simp
  · omega

theorem RdAt.kept {w w' : World} {bs be : Nat} {s : ByteArray} {e : Int} (h : RdAt w bs be s e) (h1 : w'.heap[bs]? = w.heap[bs]?) (h2 : w'.heap[be]? = w.heap[be]?) : RdAt w' bs be s e :=
  ⟨(World.cell?_of_block h1).trans h.cs, (World.cell?_of_block h2).trans h.ce, (World.frozen?_of_block h1).trans h.fs, (World.frozen?_of_block h2).trans h.fe, h.ne⟩

/-- Rows of one's own in blocks of b and more stay as they were. -/
def RowsStay (b : Nat) (w w' : World) : Prop := ∀ (base : Nat) (e : TypeId) (size : Nat) (v : Value) (n : Nat) (xs : List Value), b ≤ base → w.ownsRow base e size v n xs → w'.ownsRow base e size v n xs
theorem RowsStay.refl (b : Nat) (w : World) : RowsStay b w w := fun _ _ _ _ _ _ _ h => h
theorem rowsStay_set {w : World} {b bs be : Nat} (h1 : bs < b) (h2 : be < b) (n : Nat) (u v : Value) : RowsStay b w (((w.drewN n).setCell ⟨bs, 0, none⟩ u).setCell ⟨be, 0, none⟩ v) := by
  intro base e size x m xs hb h
  have h0 : (w.drewN n).ownsRow base e size x m xs := h
  have k1 := h0.kept (grownBy_setCell' _ bs u) (by
    by_cases ho : x.ownBlock = none
    · exact .inl ho
    · refine .inr fun e => ?_
      have := (h0.lt bs e).1; omega)
  exact k1.kept (grownBy_setCell' _ be v) (by
    by_cases ho : x.ownBlock = none
    · exact .inl ho
    · refine .inr fun e => ?_
      have := (k1.lt be e).1; omega)

theorem RdAt.below {w w' : World} {bs be B : Nat} {s : ByteArray} {e : Int} (h : RdAt w bs be s e) (hb : Below B w w') (h1 : bs < B) (h2 : be < B) : RdAt w' bs be s e :=
  ⟨(hb.cell (p := ⟨bs, 0, none⟩) h1).trans h.cs, (hb.cell (p := ⟨be, 0, none⟩) h2).trans h.ce, by
    have := hb.block bs h1
    have k := h.fs
    simp only [World.frozen?] at k ⊢
    rw [this]; exact k, by
    have := hb.block be h2
    have k := h.fe
    simp only [World.frozen?] at k ⊢
    rw [this]; exact k, h.ne⟩

set_option maxHeartbeats 400000 in
theorem number_any (bs be B : Nat) (s : ByteArray) (e n : Int) (r : List UInt8) (e' : Int) (w : World) (h : RdAt w bs be s e) (hs : s.size ≤ maxLen) (h1 : B ≤ bs) (h2 : B ≤ be) (hr : Fm.rdI (bl s) e = (n, r, e')) :
    Calls Try.prog 76 #[.pointer (some ⟨be, 0, none⟩), .pointer (some ⟨bs, 0, none⟩)] w fun x w' => x = .returned (.int .i64 n) ∧ RdAt w' bs be (strOf r) e' ∧ Below B w w' := by
  have k1 := h.cs
  have k2 := h.ce
  have k3 := h.fs
  have k4 := h.fe
  by_cases he : e = 0
  · subst he
    have Hr := Lib.hid (show Wm.getInt (bl s) = (n, r, e') from hr)
    clear hr
    go_enter Try.func76, Try.ntmps76
    go_wp2_with fail
    refine (GetInt_at s n r e' w hs Hr.out).mono ?_
    rintro x w1 ⟨rfl, k, rfl⟩
    have k5 := (h.drew k).setS (strOf r)
    go_wp2
    go_ret
    exact ⟨rfl, (h.drew k).set _ _, ((below_drew (Below.refl B w) k).setCell h1 _).setCell h2 _⟩
  · rw [Fm.rdI_stop he] at hr
    simp only [Prod.mk.injEq] at hr
    obtain ⟨rfl, rfl, rfl⟩ := hr
    have he' : (e == 0) = false := by simpa using he
    go_enter Try.func76, Try.ntmps76
    go_wp2
    go_ret
    exact ⟨rfl, h, Below.refl _ _⟩

set_option maxHeartbeats 400000 in
theorem text_any (bs be B b : Nat) (s : ByteArray) (e : Int) (t r : List UInt8) (e' : Int) (w : World) (h : RdAt w bs be s e) (hs : s.size ≤ maxLen) (h1 : B ≤ bs) (h2 : B ≤ be) (h3 : bs < b) (h4 : be < b) (hr : Fm.rdT (bl s) e = (t, r, e')) :
    Calls Try.prog 77 #[.pointer (some ⟨be, 0, none⟩), .pointer (some ⟨bs, 0, none⟩)] w fun x w' => x = .returned (.string (strOf t)) ∧ RdAt w' bs be (strOf r) e' ∧ Below B w w' ∧ RowsStay b w w' := by
  have k1 := h.cs
  have k2 := h.ce
  have k3 := h.fs
  have k4 := h.fe
  by_cases he : e = 0
  · subst he
    have Hr := Lib.hid (show Wm.getText (bl s) = (t, r, e') from hr)
    clear hr
    have hg := GetText_any s w hs
    rw [Hr.out] at hg
    go_enter Try.func77, Try.ntmps77
    go_wp2_with fail
    refine hg.mono ?_
    rintro x w1 ⟨rfl, k, rfl⟩
    have k5 := (h.drew k).setS (strOf r)
    go_wp2
    go_ret
    exact ⟨rfl, (h.drew k).set _ _, ((below_drew (Below.refl B w) k).setCell h1 _).setCell h2 _, rowsStay_set h3 h4 k _ _⟩
  · rw [Fm.rdT_stop he] at hr
    simp only [Prod.mk.injEq] at hr
    obtain ⟨rfl, rfl, rfl⟩ := hr
    have he' : (e == 0) = false := by simpa using he
    go_enter Try.func77, Try.ntmps77
    go_wp2
    go_ret
    exact ⟨rfl, h, Below.refl _ _, RowsStay.refl _ _⟩

theorem left_any (bs be : Nat) (s : ByteArray) (e : Int) (w : World) (h : RdAt w bs be s e) :
    Calls Try.prog 79 #[.pointer (some ⟨bs, 0, none⟩), .pointer (some ⟨be, 0, none⟩)] w fun x w' => x = .returned (.tuple #[.string s, .int .i64 e]) ∧ ∃ n, w' = w.drewN n := by
  have k1 := h.cs
  have k2 := h.ce
  go_enter Try.func79, Try.ntmps79
  go_wp2
  go_quiet (fail)
  go_wp2
  go_ret2
  exact ⟨rfl, _, rfl⟩

theorem reader_any (s : ByteArray) (w : World) :
    Calls Try.prog 67 #[.string s] w fun x w' => x = .returned (.tuple #[.func (.func 76) #[] #[.pointer (some ⟨w.heap.size + 1, 0, none⟩), .pointer (some ⟨w.heap.size, 0, none⟩)], .func (.func 77) #[] #[.pointer (some ⟨w.heap.size + 1, 0, none⟩), .pointer (some ⟨w.heap.size, 0, none⟩)], .func (.func 79) #[] #[.pointer (some ⟨w.heap.size, 0, none⟩), .pointer (some ⟨w.heap.size + 1, 0, none⟩)]]) ∧ RdAt w' w.heap.size (w.heap.size + 1) s 0 ∧ Below w.heap.size w w' := by
  go_enter Try.func67, Try.ntmps67
  go_wp2
  go_ret3
  exact ⟨rfl, RdAt.new w s 0 _ _, ((Below.refl _ _).alloc (Nat.le_refl _) _).alloc (by simp) _⟩

theorem isKind_any (k : Int) (w : World) :
    Calls Try.prog 59 #[.int .i64 k] w fun x w' => x = .returned (.bool (Fm.kindOk k)) ∧ w = w' := by
  have hu : Fm.kindOk k = (decide (0 ≤ k) && decide (k ≤ 99)) := rfl
  rw [hu]
  by_cases h0 : 0 ≤ k
  · have h1 : decide (0 ≤ k) = true := decide_eq_true h0
    rw [h1]
    go_enter Try.func59, Try.ntmps59
    go_wp2
    go_ret
    exact ⟨rfl, rfl⟩
  · have h1 : decide (0 ≤ k) = false := decide_eq_false h0
    rw [h1]
    go_enter Try.func59, Try.ntmps59
    go_wp2
    go_ret
    exact ⟨rfl, rfl⟩

theorem small_any (n : Int) (w : World) (h : Wm.fits n = true) :
    Calls Try.prog 61 #[.int .i64 n] w fun x w' => x = .returned (.string (strOf (Wm.lay n))) ∧ Below w.heap.size w w' := by
  have hi := Int_any n w
  rw [intsS_one h, intsE_one h] at hi
  clear h
  go_enter Try.func61, Try.ntmps61
  go_wp2_with fail
  refine hi.mono ?_
  rintro x w1 ⟨rfl, hB⟩
  go_wp2
  go_ret
  exact ⟨rfl, hB⟩

end Go.Proofs.Yteepemibmjpnfaa
