/-
  Layer 10 (mute): windows gone through: mayAllBe.
-/
import Derived.Test.YthbkfjnpdcfepaaMuteW2
namespace Go.Proofs.Ythbkfjnpdcfepaa
set_option maxRecDepth 10000
open Go.RowKit

/-- How many are behind. -/
def behindN (w : World) (g : Nat) : Nat := match w.cell? ⟨g, 3, none⟩ with | some (.slice _ n _) => n | _ => 0
theorem Walk.n {w : World} {g : Nat} {x : Win} {ls : List Win} (h : Walk w g x ls) : behindN w g = ls.length := by
  obtain ⟨A, c, t, h1, _⟩ := h
  have : w.cell? ⟨g, 3, none⟩ = some (.slice A ls.length c) := by simp only [World.cell?, h1]; rfl
  unfold behindN
  rw [this]
theorem Walk.c0 {w : World} {g : Nat} {x : Win} {ls : List Win} (h : Walk w g x ls) : w.cell? ⟨g, 0, none⟩ = some (.int .i64 x.bed) := by obtain ⟨A, c, t, h1, _⟩ := h; simp only [World.cell?, h1]; rfl
theorem Walk.c1 {w : World} {g : Nat} {x : Win} {ls : List Win} (h : Walk w g x ls) : w.cell? ⟨g, 1, none⟩ = some (.int .i64 x.fr) := by obtain ⟨A, c, t, h1, _⟩ := h; simp only [World.cell?, h1]; rfl
theorem Walk.c2 {w : World} {g : Nat} {x : Win} {ls : List Win} (h : Walk w g x ls) : w.cell? ⟨g, 2, none⟩ = some (.int .i64 x.to) := by obtain ⟨A, c, t, h1, _⟩ := h; simp only [World.cell?, h1]; rfl
theorem Walk.on {w w' : World} {g : Nat} {x : Win} {ls : List Win} (h : Walk w g x ls) (hb : Below w.heap.size w w') : Walk w' g x ls := h.kept (hb.mono h.lt)
/-- From one that begins, at the end of memory. -/
structure Going (w : World) (g : Nat) (rest : List Win) (x : Win) (wr : World) : Prop where
  walk : Walk wr g x rest
  below : Below w.heap.size w wr
theorem Going.start {w : World} {A : Option Addr} {l c : Nat} {ls : List Win} (h : ToldW w A l c ls) : Going w w.heap.size ls ⟨0, 0, 0⟩ (w.alloc (.cells #[.int .i64 0, .int .i64 0, .int .i64 0, .slice A l c] 50)) := by
  obtain ⟨rfl, h1, h2, _⟩ := h
  exact ⟨Walk.start h1 h2 _, below_new _ _⟩
theorem Going.on {w wr w' : World} {g : Nat} {rest : List Win} {x : Win} (h : Going w g rest x wr) (hb : Below wr.heap.size wr w') : Going w g rest x w' := ⟨h.walk.on hb, below2 h.below hb⟩
theorem Going.next {w wr w' : World} {g : Nat} {rest : List Win} {x y : Win} {ls : List Win} (h : Going w g ls x wr) (hg : w.heap.size ≤ g) (h1 : Walk w' g y rest) (h2 : wr.grownBy w' (some g)) : Going w g rest y w' :=
  ⟨h1, h.below.trans ((grown_below h2 (Nat.le_of_lt h.walk.lt)).mono hg)⟩

set_option maxHeartbeats 1000000 in
theorem mayAllBe_any (A : Option Addr) (l c : Nat) (ls : List Win) (w : World) (h : ToldW w A l c ls) :
    Calls Try.prog 22 #[.slice A l c] w fun e w' => e = .returned (.bool (ls.all Mu.may)) ∧ Below w.heap.size w w' := by
  have H0 := Lib.hid (Going.start h)
  obtain ⟨r, hr⟩ : ∃ r, r = ls.all Mu.may := ⟨_, rfl⟩
  have Hr := Lib.hid hr
  rw [← hr]
  clear hr h
  obtain ⟨g, hg⟩ : ∃ g, g = w.heap.size := ⟨_, rfl⟩
  have Hg := Lib.hid hg
  have T := through_any A l c w
  rw [← hg] at H0 T
  clear hg
  go_enter Try.func22, Try.ntmps22
  go_wp2_with fail
  refine T.mono ?_
  rintro e w1 ⟨rfl, hw1⟩
  rw [← hw1] at H0
  clear hw1 T
  go_wp2_with fail
  go_loopw [6] (fun _ wr => ∃ rest x, Hid (Going w g rest x wr) ∧ Hid (rest.all Mu.may = r)) (fun _ wr => behindN wr g)
  case atStart => exact ⟨ls, _, H0, Lib.hid Hr.out.symm⟩
  case round =>
    clear H0
    obtain ⟨rest, x, HW, Ha⟩ := hrel
    cases rest with
    | nil =>
      have He : Hid (r = true) := Lib.hid Ha.out.symm
      go_wp2_with fail
      refine (next_end g x wr HW.out.walk).mono ?_
      rintro e w2 ⟨rfl, rfl⟩
      go_wp2
      go_ret
      exact ⟨by rw [He.out]; rfl, HW.out.below⟩
    | cons y rest =>
      go_wp2_with fail
      refine (next_on g x y rest wr HW.out.walk).mono ?_
      rintro e w2 ⟨rfl, hw, hgr⟩
      have HW2 := Lib.hid (HW.out.next (Nat.le_of_eq Hg.out.symm) hw hgr)
      have Hn : Hid (behindN wr g = rest.length + 1) := Lib.hid HW.out.walk.n
      clear hw hgr HW
      obtain ⟨y0, y1, y2⟩ := y
      have c0 := HW2.out.walk.c0
      have c1 := HW2.out.walk.c1
      have c2 := HW2.out.walk.c2
      simp only at c0 c1 c2
      cases hm : Mu.may ⟨y0, y1, y2⟩ with
      | true =>
        have Ha2 : Hid (rest.all Mu.may = r) := Lib.hid (by have := Ha.out; rw [List.all_cons, hm] at this; simpa using this)
        have k := fun W => mayBe_any y0 y1 y2 W
        rw [hm] at k
        clear Ha hm
        go_wp2_with fail
        refine (k _).mono ?_
        rintro e w3 ⟨rfl, hB⟩
        have HW3 := Lib.hid (HW2.out.on hB)
        clear hB HW2 c0 c1 c2
        go_wp2
        go_roundw
        case rel => exact ⟨rest, _, HW3, Ha2⟩
        case measure => rw [Hn.out, HW3.out.walk.n]; omega
      | false =>
        have He : Hid (r = false) := Lib.hid (by have := Ha.out; rw [List.all_cons, hm] at this; simpa using this.symm)
        have k := fun W => mayBe_any y0 y1 y2 W
        rw [hm] at k
        clear Ha hm
        go_wp2_with fail
        refine (k _).mono ?_
        rintro e w3 ⟨rfl, hB⟩
        have HW3 := Lib.hid (HW2.out.on hB)
        clear hB HW2 c0 c1 c2
        go_wp2
        go_ret
        exact ⟨by rw [He.out]; rfl, HW3.out.below⟩
end Go.Proofs.Ythbkfjnpdcfepaa
