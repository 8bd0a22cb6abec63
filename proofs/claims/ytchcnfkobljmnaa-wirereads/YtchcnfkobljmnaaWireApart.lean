/-
  Layer 1 (wire): the walk of the law WireApart.
-/
import Derived.Test.YtchcnfkobljmnaaWireWired
import Derived.PlainAid
namespace Go.Proofs.Ytchcnfkobljmnaa
open Go.RowKit

theorem lay_front {n m : Int} (hn : Wm.fits n = true) (hm : Wm.fits m = true) (h : (Wm.lay m).take (Wm.lay n).length = Wm.lay n) : n = m := by
  have h1 : Wm.lay m = Wm.lay n ++ (Wm.lay m).drop (Wm.lay n).length := by
    conv => lhs; rw [← List.take_append_drop (Wm.lay n).length (Wm.lay m), h]
  have h2 := Wm.getInt_lay hm []
  rw [List.append_nil, h1, Wm.getInt_lay hn] at h2
  exact congrArg Prod.fst h2

theorem lay_neg_length (n : Int) : (Wm.lay (-n)).length = (Wm.lay n).length := by simp [Wm.lay]

theorem intsE_no {n : Int} (h : Wm.fits n = false) : intsE [n] = 1 := by simp [intsE, h]
theorem intsS_no {n : Int} (h : Wm.fits n = false) : intsS [n] = strOf [] := by simp [intsS, h]

theorem Int_yes (x : Int) (w : World) (h : Wm.fits x = true) :
    Calls Try.prog 9 #[.int .i64 x] w fun e w' => e = .returned (.tuple #[.string (strOf (Wm.lay x)), .int .i64 0]) ∧ Below w.heap.size w w' := by
  have := Int_any x w
  rw [intsS_one h, intsE_one h] at this
  exact this
theorem Int_no (x : Int) (w : World) (h : Wm.fits x = false) :
    Calls Try.prog 9 #[.int .i64 x] w fun e w' => e = .returned (.tuple #[.string (strOf []), .int .i64 1]) ∧ Below w.heap.size w w' := by
  have := Int_any x w
  rw [intsS_no h, intsE_no h] at this
  exact this

set_option maxRecDepth 100000 in
set_option maxHeartbeats 1000000 in
theorem wireApart_walk (n m : Int) (w : World) (_hn : (Lit.int .i64 n).wf = true) (_hm : (Lit.int .i64 m).wf = true) :
    Calls Try.prog 7 #[.int .i64 n, .int .i64 m] w fun e w' => e = .returned (.bool true) ∧ Below w.heap.size w w' := by
  by_cases hfn : Wm.fits n = true
  · have Hfn := Lib.hid hfn
    have hb1 := (Wm.fits_iff.1 hfn).1
    have hb2 := (Wm.fits_iff.1 hfn).2
    clear hfn
    by_cases hfm : Wm.fits m = true
    · have Hfm := Lib.hid hfm
      clear hfm
      have s1 := strOf_size (Wm.lay n)
      have s2 := strOf_size (Wm.lay m)
      have s3 := strOf_size (Wm.lay (-n))
      have s4 := lay_neg_length n
      by_cases hl : (Wm.lay m).length < (Wm.lay n).length
      · have hl' : (strOf (Wm.lay m)).size < (strOf (Wm.lay n)).size := by omega
        clear s1 s2 s3 s4 hl
        go_enter Try.func7, Try.ntmps7
        go_wp2_with fail
        refine (Int_yes n w Hfn.out).mono ?_
        rintro e w1 ⟨rfl, hB1⟩
        go_wp2_with fail
        refine (Int_yes m w1 Hfm.out).mono ?_
        rintro e w2 ⟨rfl, hB2⟩
        go_wp2_with fail
        refine (wired_any w2).mono ?_
        rintro e w3 ⟨rfl, hB3⟩
        go_wp2
        go_ret
        exact ⟨rfl, below2 hB1 (below2 hB2 hB3)⟩
      · have hl' : (strOf (Wm.lay n)).size ≤ (strOf (Wm.lay m)).size := by omega
        have hd : decide ((strOf (Wm.lay m)).size < (strOf (Wm.lay n)).size) = false := decide_eq_false (by omega)
        have hlen : (((strOf (Wm.lay (-n))).size : Int) == ((strOf (Wm.lay n)).size : Int)) = true := by rw [beq_iff_eq]; omega
        have hfneg : Hid (Wm.fits (-n) = true) := Lib.hid (Wm.fits_iff.2 (by omega))
        have hext : bl ((strOf (Wm.lay m)).extract 0 (strOf (Wm.lay n)).size) = (Wm.lay m).take (Wm.lay n).length := by rw [bl_extract_to _ _ hl', bl_strOf, strOf_size]
        have heq : ((((strOf (Wm.lay m)).extract 0 (strOf (Wm.lay n)).size).toList == (strOf (Wm.lay n)).toList) == (n == m)) = true := by
          rw [ByteArray.toList_eq, ByteArray.toList_eq]
          show ((bl _ == bl _) == (n == m)) = true
          rw [hext, bl_strOf, beq_iff_eq, Bool.eq_iff_iff, beq_iff_eq, beq_iff_eq]
          constructor
          · exact lay_front Hfn.out Hfm.out
          · rintro rfl; simp
        clear s1 s2 s3 s4 hl hext
        go_enter Try.func7, Try.ntmps7
        go_wp2_with fail
        refine (Int_yes n w Hfn.out).mono ?_
        rintro e w1 ⟨rfl, hB1⟩
        go_wp2_with fail
        refine (Int_yes m w1 Hfm.out).mono ?_
        rintro e w2 ⟨rfl, hB2⟩
        go_wp2_with fail
        refine (Int_yes (-n) w2 hfneg.out).mono ?_
        rintro e w3 ⟨rfl, hB3⟩
        go_wp2_with fail
        refine (wired_any w3).mono ?_
        rintro e w4 ⟨rfl, hB4⟩
        go_wp2
        go_ret
        exact ⟨rfl, below2 hB1 (below2 hB2 (below2 hB3 hB4))⟩
    · have Hfm : Hid (Wm.fits m = false) := Lib.hid (by simpa using hfm)
      clear hfm
      go_enter Try.func7, Try.ntmps7
      go_wp2_with fail
      refine (Int_yes n w Hfn.out).mono ?_
      rintro e w1 ⟨rfl, hB1⟩
      go_wp2_with fail
      refine (Int_no m w1 Hfm.out).mono ?_
      rintro e w2 ⟨rfl, hB2⟩
      go_wp2_with fail
      refine (wired_any w2).mono ?_
      rintro e w3 ⟨rfl, hB3⟩
      go_wp2
      go_ret
      exact ⟨rfl, below2 hB1 (below2 hB2 hB3)⟩
  · have Hfn : Hid (Wm.fits n = false) := Lib.hid (by simpa using hfn)
    clear hfn
    go_enter Try.func7, Try.ntmps7
    go_wp2_with fail
    refine (Int_no n w Hfn.out).mono ?_
    rintro e w1 ⟨rfl, hB1⟩
    go_wp2_with fail
    refine (Int_any m w1).mono ?_
    rintro e w2 ⟨rfl, hB2⟩
    go_wp2_with fail
    refine (wired_any w2).mono ?_
    rintro e w3 ⟨rfl, hB3⟩
    go_wp2
    go_ret
    exact ⟨rfl, below2 hB1 (below2 hB2 hB3)⟩

end Go.Proofs.Ytchcnfkobljmnaa
