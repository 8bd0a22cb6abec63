/-
  Layer 2 (sum): the walk of the law SumFinds.
-/
import Derived.Test.YtcldhflicakmaaaSumSummed
namespace Go.Proofs.Ytcldhflicakmaaa
open Go.RowKit

theorem Of_front (s : ByteArray) (k : Nat) (w : World) (hs : (s.size : Int) ≤ 400) (hk : k ≤ s.size) :
    Calls Try.prog 13 #[.string (s.extract 0 k)] w fun e w' => e = .returned (.int .i64 (Sm.ofL ((bl s).take k) : Int)) ∧ Below w.heap.size w w' := by
  have := Of_any (s.extract 0 k) w (by have e := bl_extract_to s k hk; have := congrArg List.length e; rw [bl_length, List.length_take] at this; omega)
  rw [bl_extract_to s k hk] at this
  exact this

/-- What a law knows of a place that Find told. -/
def PlaceOk (l : List UInt8) (c most : Int) (K : Nat) (B : Bool) : Prop :=
  (B = true ∧ K ≤ l.length ∧ (K : Int) ≤ most ∧ (∀ j, j < K → (j : Int) ≤ most → ¬ ((Sm.ofL (l.take j) : Nat) : Int) = c) ∧ ((Sm.ofL (l.take K) : Nat) : Int) = c) ∨
  (B = false ∧ K = 0 ∧ ∀ j, j ≤ l.length → (j : Int) ≤ most → ¬ ((Sm.ofL (l.take j) : Nat) : Int) = c)

theorem isAt_iff {l : List UInt8} {c most : Int} {k : Nat} : Sm.isAt l c most k = true ↔ (k : Int) ≤ most ∧ ((Sm.ofL (l.take k) : Nat) : Int) = c := by
  unfold Sm.isAt; rw [Bool.and_eq_true, decide_eq_true_iff, decide_eq_true_iff]
theorem placeOk (l : List UInt8) (c most : Int) : PlaceOk l c most (Sm.fndK l c most) (Sm.fndB l c most) := by
  rcases Sm.fnd_cases l c most with ⟨h1, h2, h3, h4⟩ | ⟨h1, h2, h3⟩
  · have h5 := isAt_iff.1 h3
    exact .inl ⟨h2, h1, h5.1, (fun j hj hm he => by have := h4 j hj; rw [isAt_iff.2 ⟨hm, he⟩] at this; cases this), h5.2⟩
  · exact .inr ⟨h2, h1, fun j hj hm he => by have := h3 j hj; rw [isAt_iff.2 ⟨hm, he⟩] at this; cases this⟩

theorem Find_place (s : ByteArray) (c most : Int) (w : World) (hs : (s.size : Int) < 1000000000) :
    Calls Try.prog 10 #[.string s, .int .i64 c, .int .i64 most] w fun e w' => ∃ (K : Nat) (B : Bool), e = .returned (.tuple #[.int .i64 (K : Int), .bool B]) ∧ PlaceOk (bl s) c most K B ∧ Below w.heap.size w w' :=
  (Find_any s c most w hs).mono fun _ _ ⟨he, hw⟩ => ⟨_, _, he, placeOk _ _ _, hw⟩

set_option maxRecDepth 10000 in
set_option maxHeartbeats 2000000 in
theorem sumFinds_walk (s : ByteArray) (c most : Int) (w : World) (hs : s.size ≤ maxLen) (_hc : (Lit.int .i64 c).wf = true) (_hm : (Lit.int .i64 most).wf = true) :
    Calls Try.prog 7 #[.string s, .int .i64 c, .int .i64 most] w fun e w' => e = .returned (.bool true) ∧ Below w.heap.size w w' := by
  clear _hc _hm
  unfold maxLen at hs
  by_cases hl : (200 : Int) < s.size
  · go_enter Try.func7, Try.ntmps7
    go_wp2
    go_ret
    exact ⟨rfl, Below.refl _ _⟩
  · have hle : (s.size : Int) ≤ 200 := by omega
    clear hs hl
    go_enter Try.func7, Try.ntmps7
    go_wp2_with fail
    refine (Find_place s c most _ (by omega)).mono ?_
    rintro e w1 ⟨K, B, rfl, hP, hB1⟩
    rcases hP with ⟨rfl, hK1, hK2, hK3, hK4⟩ | ⟨rfl, rfl, hK3⟩
    · have hKs : K ≤ s.size := hK1
      have Hn := Lib.hid hK3
      have He := Lib.hid hK4
      clear hK1 hK3 hK4
      go_wp2
      go_loopw [9] (fun i wr => ∃ k : Nat, k ≤ s.size + 1 ∧ i = .int .i64 (k : Int) ∧ Below w.heap.size w wr) (fun i _ => s.size + 1 - (intOf i).toNat)
      case atStart => exact ⟨0, by omega, rfl, hB1⟩
      case round =>
        obtain ⟨k, hk, rfl, hB⟩ := hrel
        by_cases hks : k ≤ s.size
        · by_cases hm : (k : Int) ≤ most
          · rcases Nat.lt_trichotomy k K with hlt | heq | hgt
            · have hq : (((Sm.ofL ((bl s).take k) : Nat) : Int) == c) = false := by rw [beq_eq_false_iff_ne]; exact Hn.out k hlt hm
              have hne : ((k : Int) == (K : Int)) = false := by rw [beq_eq_false_iff_ne]; omega
              go_wp2_with fail
              refine (Of_front s k _ (by omega) hks).mono ?_
              rintro e w2 ⟨rfl, hB2⟩
              go_wp2
              go_roundw
              case rel => exact ⟨k + 1, by omega, by go_num, below2 hB hB2⟩
              case measure => simp [intOf]; omega
            · subst heq
              have hq : (((Sm.ofL ((bl s).take k) : Nat) : Int) == c) = true := by rw [beq_iff_eq]; exact He.out
              go_wp2_with fail
              refine (Of_front s k _ (by omega) hks).mono ?_
              rintro e w2 ⟨rfl, hB2⟩
              go_wp2
              go_roundw
              case rel => exact ⟨k + 1, by omega, by go_num, below2 hB hB2⟩
              case measure => simp [intOf]; omega
            · have hne : ((k : Int) == (K : Int)) = false := by rw [beq_eq_false_iff_ne]; omega
              have hge : K ≤ k := by omega
              have hnl : decide (k < K) = false := decide_eq_false (by omega)
              go_wp2_with fail
              refine (Of_front s k _ (by omega) hks).mono ?_
              rintro e w2 ⟨rfl, hB2⟩
              generalize (((Sm.ofL ((bl s).take k) : Nat) : Int)) = z
              by_cases hz : z = c
              · have hq : (z == c) = true := by rw [beq_iff_eq]; exact hz
                clear hz
                go_wp2
                go_roundw
                case rel => exact ⟨k + 1, by omega, by go_num, below2 hB hB2⟩
                case measure => simp [intOf]; omega
              · have hq : (z == c) = false := by rw [beq_eq_false_iff_ne]; exact hz
                clear hz
                go_wp2
                go_roundw
                case rel => exact ⟨k + 1, by omega, by go_num, below2 hB hB2⟩
                case measure => simp [intOf]; omega
          · have hm' : most < (k : Int) := by omega
            go_wp2_with fail
            refine (summed_any _).mono ?_
            rintro e w2 ⟨rfl, hB2⟩
            go_wp2
            go_ret
            exact ⟨rfl, below2 hB hB2⟩
        · have hd : decide (k ≤ s.size) = false := decide_eq_false hks
          have hgt : s.size < k := by omega
          go_wp2_with fail
          refine (summed_any _).mono ?_
          rintro e w2 ⟨rfl, hB2⟩
          go_wp2
          go_ret
          exact ⟨rfl, below2 hB hB2⟩
    · have Hn := Lib.hid hK3
      clear hK3
      go_wp2
      go_loopw [9] (fun i wr => ∃ k : Nat, k ≤ s.size + 1 ∧ i = .int .i64 (k : Int) ∧ Below w.heap.size w wr) (fun i _ => s.size + 1 - (intOf i).toNat)
      case atStart => exact ⟨0, by omega, rfl, hB1⟩
      case round =>
        obtain ⟨k, hk, rfl, hB⟩ := hrel
        by_cases hks : k ≤ s.size
        · by_cases hm : (k : Int) ≤ most
          · have hq : (((Sm.ofL ((bl s).take k) : Nat) : Int) == c) = false := by rw [beq_eq_false_iff_ne]; exact Hn.out k hks hm
            go_wp2_with fail
            refine (Of_front s k _ (by omega) hks).mono ?_
            rintro e w2 ⟨rfl, hB2⟩
            go_wp2
            go_roundw
            case rel => exact ⟨k + 1, by omega, by go_num, below2 hB hB2⟩
            case measure => simp [intOf]; omega
          · have hm' : most < (k : Int) := by omega
            go_wp2_with fail
            refine (summed_any _).mono ?_
            rintro e w2 ⟨rfl, hB2⟩
            go_wp2
            go_ret
            exact ⟨rfl, below2 hB hB2⟩
        · have hd : decide (k ≤ s.size) = false := decide_eq_false hks
          have hgt : s.size < k := by omega
          go_wp2_with fail
          refine (summed_any _).mono ?_
          rintro e w2 ⟨rfl, hB2⟩
          go_wp2
          go_ret
          exact ⟨rfl, below2 hB hB2⟩

end Go.Proofs.Ytcldhflicakmaaa
