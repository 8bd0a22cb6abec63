/-
  Layer 10 (mute): Till, Has.
-/
import Derived.Test.YthbkfjnpdcfepaaMuteW3
namespace Go.Proofs.Ythbkfjnpdcfepaa
set_option maxRecDepth 10000
open Go.RowKit

theorem Mu.tillN_cons (y : Win) (l : List Win) (b t : Int) : Mu.tillN (y :: l) b t = if Mu.hasW y b t then y.to else Mu.tillN l b t := by
  unfold Mu.tillN Mu.tillW
  rw [List.find?_cons]
  cases Mu.hasW y b t <;> rfl

set_option maxHeartbeats 1000000 in
theorem mTill_any (A : Option Addr) (l c : Nat) (ls : List Win) (b t : Int) (w : World) (h : ToldW w A l c ls) :
    Calls Try.prog 12 #[.slice A l c, .int .i64 b, .int .i64 t] w fun e w' => e = .returned (.tuple #[.int .i64 (Mu.tillN ls b t), .bool (Mu.has ls b t)]) ∧ Below w.heap.size w w' := by
  have H0 := Lib.hid (Going.start h)
  obtain ⟨r, hr⟩ : ∃ r, r = Mu.has ls b t := ⟨_, rfl⟩
  have Hr := Lib.hid hr
  obtain ⟨n, hn⟩ : ∃ n, n = Mu.tillN ls b t := ⟨_, rfl⟩
  have Hn0 := Lib.hid hn
  rw [← hr, ← hn]
  clear hr h hn
  obtain ⟨g, hg⟩ : ∃ g, g = w.heap.size := ⟨_, rfl⟩
  have Hg := Lib.hid hg
  have T := through_any A l c w
  rw [← hg] at H0 T
  clear hg
  go_enter Try.func12, Try.ntmps12
  go_wp2_with fail
  refine T.mono ?_
  rintro e w1 ⟨rfl, hw1⟩
  rw [← hw1] at H0
  clear hw1 T
  go_wp2_with fail
  go_loopw [11] (fun _ wr => ∃ rest x, Hid (Going w g rest x wr) ∧ Hid (Mu.has rest b t = r ∧ Mu.tillN rest b t = n)) (fun _ wr => behindN wr g)
  case atStart => exact ⟨ls, _, H0, Lib.hid ⟨Hr.out.symm, Hn0.out.symm⟩⟩
  case round =>
    clear H0
    obtain ⟨rest, x, HW, Ha⟩ := hrel
    cases rest with
    | nil =>
      have He : Hid (r = false ∧ n = 0) := Lib.hid ⟨Ha.out.1.symm, Ha.out.2.symm⟩
      go_wp2_with fail
      refine (next_end g x wr HW.out.walk).mono ?_
      rintro e w2 ⟨rfl, rfl⟩
      go_wp2
      go_ret2
      exact ⟨by rw [He.out.1, He.out.2]; rfl, HW.out.below⟩
    | cons y rest =>
      go_wp2_with fail
      refine (next_on g x y rest wr HW.out.walk).mono ?_
      rintro e w2 ⟨rfl, hw, hgr⟩
      have HW2 := Lib.hid (HW.out.next (Nat.le_of_eq Hg.out.symm) hw hgr)
      have Hn : Hid (behindN wr g = rest.length + 1) := Lib.hid HW.out.walk.n
      clear hw hgr HW
      obtain ⟨y0, y1, y2⟩ := y
      have c0 := HW2.out.walk.c0
      have c1 := HW2.out.walk.c1
      have c2 := HW2.out.walk.c2
      simp only at c0 c1 c2
      cases hm : Mu.hasW ⟨y0, y1, y2⟩ b t with
      | false =>
        have Ha2 : Hid (Mu.has rest b t = r ∧ Mu.tillN rest b t = n) := Lib.hid (by have := Ha.out; rw [Mu.has_cons, Mu.tillN_cons, hm] at this; simpa using this)
        have k := fun W => mhas_any y0 y1 y2 b t W
        rw [hm] at k
        clear Ha hm
        go_wp2_with fail
        refine (k _).mono ?_
        rintro e w3 ⟨rfl, hB⟩
        have HW3 := Lib.hid (HW2.out.on hB)
        clear hB HW2 c0 c1 c2
        go_wp2
        go_roundw
        case rel => exact ⟨rest, _, HW3, Ha2⟩
        case measure => rw [Hn.out, HW3.out.walk.n]; omega
      | true =>
        have He : Hid (r = true ∧ n = y2) := Lib.hid (by have := Ha.out; rw [Mu.has_cons, Mu.tillN_cons, hm] at this; exact ⟨this.1.symm, this.2.symm⟩)
        have k := fun W => mhas_any y0 y1 y2 b t W
        rw [hm] at k
        clear Ha hm
        go_wp2_with fail
        refine (k _).mono ?_
        rintro e w3 ⟨rfl, hB⟩
        have HW3 := Lib.hid (HW2.out.on hB)
        clear hB HW2 c0 c1 c2
        have c2 := HW3.out.walk.c2
        simp only at c2
        go_wp2
        go_ret2
        exact ⟨by rw [He.out.1, He.out.2]; rfl, HW3.out.below⟩

theorem mHas_any (A : Option Addr) (l c : Nat) (ls : List Win) (b t : Int) (w : World) (h : ToldW w A l c ls) :
    Calls Try.prog 18 #[.slice A l c, .int .i64 b, .int .i64 t] w fun e w' => e = .returned (.bool (Mu.has ls b t)) ∧ Below w.heap.size w w' := by
  have K := Lib.hid (mTill_any A l c ls b t w h)
  clear h
  go_enter Try.func18, Try.ntmps18
  go_wp2_with fail
  refine K.out.mono ?_
  rintro e w1 ⟨rfl, hB⟩
  go_wp2
  go_ret
  exact ⟨rfl, hB⟩
end Go.Proofs.Ythbkfjnpdcfepaa
