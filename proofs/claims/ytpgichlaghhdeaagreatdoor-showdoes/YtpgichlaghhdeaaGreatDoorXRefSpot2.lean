/-
  Layer 4 (spot), the reference: Parse.
-/
import Derived.Test.YtpgichlaghhdeaaGreatDoorXRefSpot
namespace Go.Proofs.YtpgichlaghhdeaaGreatDoor
set_option maxRecDepth 10000
open Go.RowKit

/-- No spot of a bed below b has this text. -/
def Sp.noB (l : List UInt8) (b : Int) : Prop := ∀ b' c', Sp.may b' c' = true → b' < b → Sp.txt b' c' ≠ l
def Sp.noC (l : List UInt8) (b c : Int) : Prop := ∀ c', Sp.may b c' = true → c' < c → Sp.txt b c' ≠ l

def ParRelB (w : World) (l : List UInt8) (z : Value) (wr : World) : Prop :=
  ∃ b : Nat, 1 ≤ b ∧ b ≤ 100 ∧ z = .int .i64 (b : Int) ∧ Sp.noB l b ∧ Two wr w.heap.size 0 0 ∧ Below w.heap.size w wr
def ParRelC (w : World) (l : List UInt8) (b : Nat) (z : Value) (wr : World) : Prop :=
  ∃ c : Nat, c ≤ 8 ∧ z = .int .i64 (c : Int) ∧ Sp.noC l b c ∧ Two wr w.heap.size 0 0 ∧ Below w.heap.size w wr

theorem Sp.prn_may {b c : Int} (h : Sp.may b c = true) : Sp.prn b c = Sp.txt b c ∧ Sp.numE b c = 0 := by
  unfold Sp.prn Sp.numE; rw [h]; exact ⟨rfl, rfl⟩

set_option maxRecDepth 10000 in
set_option maxHeartbeats 2000000 in
theorem RParse_any (s : ByteArray) (w : World) :
    Calls Tryz.prog 38 #[.string s] w fun e w' => e = .returned (.tuple #[.agg #[.int .i64 (Sp.parB (bl s)), .int .i64 (Sp.parC (bl s))], .int .i64 (Sp.parE (bl s))]) ∧ Below w.heap.size w w' := by
  by_cases hl : 4 < s.size
  · have hd : decide ((4 : Int) < (s.size : Int)) = true := decide_eq_true (by omega)
    have hno : Sp.ok (bl s) = false := by
      cases h : Sp.ok (bl s)
      · rfl
      · obtain ⟨b, c, hm, he⟩ := Sp.ok_iff.1 h
        have := Sp.txt_len hm
        rw [he, bl_length] at this
        omega
    obtain ⟨e1, e2, e3⟩ := Sp.par_none hno
    rw [e1, e2, e3]
    clear hl hno e1 e2 e3
    go_enter Tryz.func38, Tryz.ntmps38
    go_wp2
    (try simp only [Exit.inBlock, Exit.then]); refine bodyPost_ret (ret_spot rfl rfl (Two.new w 0 0 _)) rfl ?_
    exact ⟨rfl, below_new _ _⟩
  · have hd : decide ((4 : Int) < (s.size : Int)) = false := decide_eq_false (by omega)
    clear hl
    go_enter Tryz.func38, Tryz.ntmps38
    go_wp2
    go_loopw [4] (fun z wr => ParRelB w (bl s) z wr) (fun z _ => 100 - (intOf z).toNat)
    case atStart => exact ⟨1, by omega, by omega, rfl, fun b' c' h1 h2 => by have := Sp.may_iff.1 h1; omega, Two.new w 0 0 _, below_new _ _⟩
    case round =>
      obtain ⟨b, h1, h2, rfl, hno, hz, hB⟩ := hrel
      have Hno := Lib.hid hno
      clear hno
      by_cases hb : b ≤ 99
      · have hd1 : decide ((b : Int) ≤ 99) = true := decide_eq_true (by omega)
        have hw1 : wrap64 ((b : Int) + 1) = (b : Int) + 1 := by unfold wrap64; omega
        go_wp2
        go_loopw [5] (fun z wr => ParRelC w (bl s) b z wr) (fun z _ => 8 - (intOf z).toNat)
        case atStart => exact ⟨0, by omega, rfl, fun c' h1 h2 => by have := Sp.may_iff.1 h1; omega, hz, hB⟩
        case round =>
          clear hz hB
          obtain ⟨c, h3, rfl, hnoc, hz, hB⟩ := hrel
          have Hnoc := Lib.hid hnoc
          clear hnoc
          by_cases hc : c ≤ 7
          · have hd2 : decide ((c : Int) ≤ 7) = true := decide_eq_true (by omega)
            have hw2 : wrap64 ((c : Int) + 1) = (c : Int) + 1 := by unfold wrap64; omega
            have hm : Sp.may (b : Int) (c : Int) = true := Sp.may_iff.2 (by omega)
            have hp := fun W => RPrint_any (b : Int) (c : Int) W
            rw [(Sp.prn_may hm).1, (Sp.prn_may hm).2] at hp
            obtain ⟨t, ht⟩ : ∃ t, t = Sp.txt (b : Int) (c : Int) := ⟨_, rfl⟩
            rw [← ht] at hp
            have Ht := Lib.hid ht
            have Hm := Lib.hid hm
            clear ht hm
            by_cases he : t = bl s
            · have ht2 : strOf t = s := by rw [he, strOf_bl]
              rw [ht2] at hp
              have Hp : Hid (Sp.parB (bl s) = (b : Int) ∧ Sp.parC (bl s) = (c : Int) ∧ Sp.parE (bl s) = 0) := Lib.hid (by rw [← he, Ht.out]; exact Sp.par_txt Hm.out)
              clear he ht2
              go_wp2_with fail
              refine (hp _).mono ?_
              rintro e w1 ⟨rfl, hB1⟩
              have hz1 := (hz.alloc (.cells #[.int .i64 (b : Int), .int .i64 (c : Int)] 23)).below hB1
              have kk := (Two.new wr (b : Int) (c : Int) 23).below hB1
              have hB01 : Below w.heap.size w w1 := (hB.alloc hB.size _).trans (hB1.mono (Nat.le_trans hB.size (by simp)))
              have z0 := hz1.c0
              have z1 := hz1.c1
              have y0 := hz1.f0
              have y1 := hz1.f1
              have k0 := kk.c0
              have k1 := kk.c1
              clear hp hB1 hz hB
              go_wp2
              (try simp only [Exit.inBlock, Exit.then]); refine bodyPost_ret (ret_spot rfl rfl (hz1.set b c)) rfl ?_
              obtain ⟨e1, e2, e3⟩ := Hp.out
              exact ⟨by rw [e1, e2, e3]; rfl, (hB01.setCell (p := ⟨w.heap.size, 0, none⟩) (Nat.le_refl _) _).setCell (p := ⟨w.heap.size, 1, none⟩) (Nat.le_refl _) _⟩
            · have hne1 : ((strOf t).toList == s.toList) = false := by
                rw [beq_eq_false_iff_ne, strOf_toList, ByteArray.toList_eq]
                exact he
              have Hn2 : Hid (Sp.noC (bl s) b ((c : Int) + 1)) := Lib.hid (fun c' g1 g2 => by
                by_cases hcc : c' = (c : Int)
                · rw [hcc, ← Ht.out]; exact he
                · exact Hnoc.out c' g1 (by omega))
              obtain ⟨u, hu⟩ : ∃ u, u = strOf t := ⟨_, rfl⟩
              rw [← hu] at hp hne1
              clear he hu
              go_wp2_with fail
              refine (hp _).mono ?_
              rintro e w1 ⟨rfl, hB1⟩
              have hz1 := (hz.alloc (.cells #[.int .i64 (b : Int), .int .i64 (c : Int)] 23)).below hB1
              have hB01 : Below w.heap.size w w1 := (hB.alloc hB.size _).trans (hB1.mono (Nat.le_trans hB.size (by simp)))
              clear hp hB1 hz hB
              go_wp2
              go_roundw
              case rel => exact ⟨c + 1, by omega, by first | rfl | (rw [hw2]; rfl), Hn2.out, hz1, hB01⟩
              case measure => first | (rw [hw2]; clear hw2; simp [intOf]; omega) | (simp only [intOf]; clear hw2; omega)
          · have hd2 : decide ((c : Int) ≤ 7) = false := decide_eq_false (by omega)
            have Hn2 : Hid (Sp.noB (bl s) ((b : Int) + 1)) := Lib.hid (fun b' c' g1 g2 => by
              have := Sp.may_iff.1 g1
              by_cases hbb : b' = (b : Int)
              · rw [hbb] at g1 ⊢; exact Hnoc.out c' g1 (by omega)
              · exact Hno.out b' c' g1 (by omega))
            clear hc
            go_wp2
            go_roundw
            case rel => exact ⟨b + 1, by omega, by omega, by first | rfl | (rw [hw1]; rfl), Hn2.out, hz, hB⟩
            case measure => first | (rw [hw1]; clear hw1; simp [intOf]; omega) | (simp only [intOf]; clear hw1; omega)
      · have hd1 : decide ((b : Int) ≤ 99) = false := decide_eq_false (by omega)
        have hno : Sp.ok (bl s) = false := by
          cases h : Sp.ok (bl s)
          · rfl
          · obtain ⟨b', c', hm, he⟩ := Sp.ok_iff.1 h
            have := Sp.may_iff.1 hm
            exact absurd he (Hno.out b' c' hm (by omega))
        have Hp := Lib.hid (Sp.par_none hno)
        have z0 := hz.c0
        have z1 := hz.c1
        have y0 := hz.f0
        have y1 := hz.f1
        clear hno hb
        go_wp2
        (try simp only [Exit.inBlock, Exit.then]); refine bodyPost_ret (ret_spot rfl rfl (hz.set 0 0)) rfl ?_
        obtain ⟨e1, e2, e3⟩ := Hp.out
        exact ⟨by rw [e1, e2, e3]; rfl, (hB.setCell (p := ⟨w.heap.size, 0, none⟩) (Nat.le_refl _) _).setCell (p := ⟨w.heap.size, 1, none⟩) (Nat.le_refl _) _⟩

end Go.Proofs.YtpgichlaghhdeaaGreatDoor
