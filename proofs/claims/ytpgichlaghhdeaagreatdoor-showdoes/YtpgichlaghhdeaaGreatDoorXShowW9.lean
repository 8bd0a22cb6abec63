/-
  Layer 11 (show): loose, named; a text cut at its blanks.
-/
import Derived.Test.YtpgichlaghhdeaaGreatDoorXShowW1
import Derived.Test.YtpgichlaghhdeaaGreatDoorXShowW2
import Derived.Test.YtpgichlaghhdeaaGreatDoorXJa
import Derived.Test.YtpgichlaghhdeaaGreatDoorXJh
namespace Go.Proofs.YtpgichlaghhdeaaGreatDoor
set_option maxRecDepth 10000
open Go.RowKit

theorem sloose_any (s : ByteArray) (hs : s.size ≤ 400) (w : World) (hE : Errs w) :
    Calls Tryz.prog 66 #[.string s] w fun e w' => e = .returned (.int .i64 (Sp.loose (bl s))) ∧ Below w.heap.size w w' := by
  have h1 := fun W hW => Atoi_any s hs W hW
  obtain ⟨n, hn⟩ : ∃ n, n = Sp.loose (bl s) := ⟨_, rfl⟩
  rw [← hn] at h1 ⊢
  have HE := Lib.hid hE
  clear hn hs hE
  go_enter Tryz.func66, Tryz.ntmps66
  go_wp2_with fail
  refine (h1 _ HE.out).mono ?_
  rintro e w1 ⟨v, rfl, hB⟩
  clear h1
  go_wp2
  go_ret
  exact ⟨rfl, hB⟩

/-- The phases' names, one by one. -/
def notYet (l : List UInt8) (k : Nat) : Prop := ∀ q : Nat, q < k → ¬ Lf.nameL (q : Int) = l
theorem phI_at {l : List UInt8} {k : Nat} (hk : k < 5) (he : Lf.nameL (k : Int) = l) : Sh.phI l = some (k : Int) := by
  rw [← he]
  exact Sh.phI_name (by omega) (by omega)
theorem phI_none {l : List UInt8} (h : notYet l 5) : Sh.phI l = none := by
  have h0 : ¬ Lf.nameL 0 = l := h 0 (by omega)
  have h1 : ¬ Lf.nameL 1 = l := h 1 (by omega)
  have h2 : ¬ Lf.nameL 2 = l := h 2 (by omega)
  have h3 : ¬ Lf.nameL 3 = l := h 3 (by omega)
  have h4 : ¬ Lf.nameL 4 = l := h 4 (by omega)
  unfold Sh.phI
  rw [if_neg h0, if_neg h1, if_neg h2, if_neg h3, if_neg h4]

/-- What named ends with. -/
def namedS (w : World) (o : Option Int) (e : Ending) (w' : World) : Prop := (match o with | some p => e = .returned (.int .i64 p) | none => e = thr 20) ∧ Below w.heap.size w w'

set_option maxHeartbeats 4000000 in
theorem named_any (s : ByteArray) (w : World) :
    Calls Tryz.prog 65 #[.string s] w (namedS w (Sh.phI (bl s))) := by
  obtain ⟨r, hr⟩ : ∃ r, r = Sh.phI (bl s) := ⟨_, rfl⟩
  rw [← hr]
  have Hr := Lib.hid hr
  have gy := fun W => need_yes 20 W
  have gn := fun W => need_no 20 W
  clear hr
  go_enter Tryz.func65, Tryz.ntmps65
  go_wp2_with fail
  go_loopw [3] (fun i wr => ∃ k : Nat, k ≤ 5 ∧ i = .int .i64 (k : Int) ∧ Hid (notYet (bl s) k) ∧ Hid (Below w.heap.size w wr)) (fun i _ => 6 - (intOf i).toNat)
  case atStart => exact ⟨0, by omega, rfl, Lib.hid (fun q hq => absurd hq (Nat.not_lt_zero _)), Lib.hid (Below.refl _ _)⟩
  case round =>
    obtain ⟨k, hk, rfl, HN, HB⟩ := hrel
    have g := fun W => Name_any (k : Int) W
    by_cases hlt : k < 5
    · have hp : Lf.isP (k : Int) = true := Lf.isP_iff.2 (by omega)
      simp only [hp] at g
      have Ik : Hid (wrap64 ((k : Int) + 1) = ((k + 1 : Nat) : Int)) := Lib.hid (by unfold wrap64; omega)
      have Hk := Lib.hid hlt
      by_cases he : Lf.nameL (k : Int) = bl s
      · have hs : nameS (k : Int) = s := by unfold nameS; rw [he, strOf_bl]
        simp only [hs] at g
        have Ho : Hid (r = some (k : Int)) := Lib.hid (by rw [Hr.out]; exact phI_at hlt he)
        clear hk hlt hp he hs gn HN
        go_wp2_with fail
        refine (g _).mono ?_
        rintro e w1 ⟨rfl, hB⟩
        have HB1 := Lib.hid (below2 HB.out hB)
        clear hB g HB
        go_wp2_with fail
        refine (gy _).mono ?_
        rintro e w2 ⟨rfl, rfl⟩
        clear gy
        go_wp2
        go_ret
        exact ⟨by rw [Ho.out]; first | done | rfl, HB1.out⟩
      · have hne : ¬ nameS (k : Int) = s := fun h => he (by rw [← h]; unfold nameS; rw [bl_strOf])
        have hne1 : ((nameS (k : Int)).toList == s.toList) = false := by
          rw [beq_eq_false_iff_ne]
          unfold nameS
          rw [strOf_toList, ByteArray.toList_eq]
          exact he
        have HN2 : Hid (notYet (bl s) (k + 1)) := Lib.hid (fun q hq => by
          by_cases hqk : q = k
          · rw [hqk]; exact he
          · exact HN.out q (by omega))
        obtain ⟨u, hu⟩ : ∃ u, u = nameS (k : Int) := ⟨_, rfl⟩
        simp only [← hu] at g
        rw [← hu] at hne hne1
        have Hne := Lib.hid hne
        clear hk hlt hp he hu hne gn HN
        go_wp2_with fail
        refine (g _).mono ?_
        rintro e w1 ⟨rfl, hB⟩
        have HB1 := Lib.hid (below2 HB.out hB)
        clear hB g HB
        go_wp2_with fail
        refine (gy _).mono ?_
        rintro e w2 ⟨rfl, rfl⟩
        clear gy
        go_wp2
        go_roundw
        case rel => exact ⟨k + 1, Hk.out, by first | rfl | (rw [Ik.out]), HN2, HB1⟩
        case measure => have := Hk.out; (try rw [Ik.out]); simp [intOf]; omega
    · obtain rfl : k = 5 := by omega
      have hp : Lf.isP ((5 : Nat) : Int) = false := by decide
      simp only [hp] at g
      have Ho : Hid (r = none) := Lib.hid (by rw [Hr.out]; exact phI_none HN.out)
      clear hk hlt hp gy HN
      go_wp2_with fail
      refine (g _).mono ?_
      rintro e w1 ⟨rfl, hB⟩
      have HB1 := Lib.hid (below2 HB.out hB)
      clear hB g HB
      go_wp2_with fail
      refine (gn _).mono ?_
      rintro e w2 ⟨rfl, rfl⟩
      exact ⟨rfl, by rw [Ho.out]; first | done | rfl, HB1.out⟩

/-- A text cut at its blanks: six pieces at most. -/
theorem split_any (s : ByteArray) (hs : s.size ≤ 400) (w : World) (hE : Libs w) :
    Calls Tryz.prog 63 #[.string s, .string ⟨#[32]⟩, .int .i64 6] w fun e w' => ∃ (ps : List ByteArray) (N : Nat), ps.map bl = Lib.splitK [32] 0 (min 6 ((bl s).length + 1) - 1) (bl s) ∧ ps.length ≤ N ∧ e = .returned (.slice (some ⟨w.heap.size, 0, none⟩) ps.length N) ∧ w' = w.alloc (.cells (Lib.cellsOf ps N) 9) := by
  obtain ⟨m, hm⟩ := hE.len
  refine (Tryz.strings_SplitN s ⟨#[32]⟩ 6 m w (by omega) hm (by decide) (by decide) (by decide)).mono ?_
  rintro e w' ⟨rfl, rfl⟩
  refine ⟨_, _, ?_, ?_, rfl, rfl⟩
  · rw [show ((bl s).length) = s.size from bl_length s]
    exact Lib.splitB_data _ _ _ _
  · have := Lib.splitB_length_le ⟨#[32]⟩ 0 (min 6 (s.size + 1) - 1) s
    omega
end Go.Proofs.YtpgichlaghhdeaaGreatDoor
