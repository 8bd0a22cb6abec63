/-
  Layer 2 (sum): Find.
-/
import Derived.Test.YtcldhflicakmaaaSumRun
namespace Go.Proofs.Ytcldhflicakmaaa
open Go.RowKit

theorem isAt_no1 {l : List UInt8} {c most : Int} {k : Nat} (h : most < (k : Int)) : Sm.isAt l c most k = false := by
  unfold Sm.isAt; rw [decide_eq_false (by omega)]; rfl
theorem isAt_no2 {l : List UInt8} {c most : Int} {k : Nat} (h : ¬ ((Sm.ofL (l.take k) : Nat) : Int) = c) : Sm.isAt l c most k = false := by
  unfold Sm.isAt; rw [decide_eq_false h, Bool.and_false]
theorem isAt_yes {l : List UInt8} {c most : Int} {k : Nat} (h : (k : Int) ≤ most) (h2 : ((Sm.ofL (l.take k) : Nat) : Int) = c) : Sm.isAt l c most k = true := by
  unfold Sm.isAt; rw [decide_eq_true h, decide_eq_true h2]; rfl
theorem tup2 {a a' : Int} {b b' : Bool} (h : a = a') (h2 : b = b') : Ending.returned (.tuple #[.int .i64 a, .bool b]) = .returned (.tuple #[.int .i64 a', .bool b']) := by rw [h, h2]

theorem fnd_stop1 {l : List UInt8} {c most : Int} {k : Nat} (h : most < (k : Int)) (hn : ∀ j, j < k → Sm.isAt l c most j = false) : Sm.fndK l c most = 0 ∧ Sm.fndB l c most = false :=
  Sm.fnd_none (fun j _ => by
    by_cases hj : j < k
    · exact hn j hj
    · exact isAt_no1 (by omega))
theorem fnd_stop2 {l : List UInt8} {c most : Int} (hn : ∀ j, j < l.length + 1 → Sm.isAt l c most j = false) : Sm.fndK l c most = 0 ∧ Sm.fndB l c most = false :=
  Sm.fnd_none (fun j hj => hn j (by omega))

set_option maxRecDepth 10000 in
set_option maxHeartbeats 1000000 in
theorem Find_any (s : ByteArray) (c most : Int) (w : World) (hs : (s.size : Int) < 1000000000) :
    Calls Try.prog 10 #[.string s, .int .i64 c, .int .i64 most] w fun e w' => e = .returned (.tuple #[.int .i64 (Sm.fndK (bl s) c most : Int), .bool (Sm.fndB (bl s) c most)]) ∧ Below w.heap.size w w' := by
  go_enter Try.func10, Try.ntmps10
  go_wp2_with fail
  refine (start_any w).mono ?_
  rintro e w1 ⟨rfl, hB1⟩
  have hz := hB1.size
  have hr0 := RunAt.new w1 65535 0 40
  have hB2 : Below w.heap.size w (w1.alloc (.cells #[.int .i64 65535, .int .i64 0] 40)) := hB1.alloc hz _
  go_wp2
  go_loopw [30] (fun _ wr => ∃ k : Nat, k ≤ s.size ∧ RunAt wr w1.heap.size (Sm.ofL ((bl s).take k)) k ∧ Below w.heap.size w wr ∧ Hid (∀ j, j < k → Sm.isAt (bl s) c most j = false)) (fun _ wr => s.size - (intOf ((wr.cell? ⟨w1.heap.size, 1, none⟩).getD (.bool true))).toNat)
  case atStart => exact ⟨0, by omega, hr0, hB2, Lib.hid (fun j hj => absurd hj (Nat.not_lt_zero _))⟩
  case round =>
    obtain ⟨k, hk, hr, hB, Hn⟩ := hrel
    clear hr0 hB2
    have k1 := hr.now
    have k2 := hr.taken
    by_cases hm : (k : Int) ≤ most
    · by_cases hc : ((Sm.ofL ((bl s).take k) : Nat) : Int) = c
      · have Hf := Lib.hid (Sm.fnd_at (by rw [bl_length]; exact hk) (isAt_yes hm hc) Hn.out)
        have hq : (((Sm.ofL ((bl s).take k) : Nat) : Int) == c) = true := by rw [beq_iff_eq]; exact hc
        clear hc
        go_wp2
        go_ret2
        exact ⟨tup2 (by rw [Hf.out.1]) Hf.out.2.symm, hB⟩
      · have hq : (((Sm.ofL ((bl s).take k) : Nat) : Int) == c) = false := by rw [beq_eq_false_iff_ne]; exact hc
        have Hn2 : Hid (∀ j, j < k + 1 → Sm.isAt (bl s) c most j = false) := Lib.hid (fun j hj => by
          by_cases e : j = k
          · subst e; exact isAt_no2 hc
          · exact Hn.out j (by omega))
        clear hc
        by_cases hlt : k < s.size
        · have hne : ((k : Int) == (s.size : Int)) = false := by rw [beq_eq_false_iff_ne]; omega
          have hg : ((Sm.ofL ((bl s).take k) : Nat) : Int) < 65536 := by have := Sm.ofL_lt ((bl s).take k); omega
          have hb : ((s[k].toNat : Nat) : Int) < 256 := by have := s[k].toNat_lt; omega
          have htk : (k : Int) < 1000000000 := by omega
          have Hs := Lib.hid (show Sm.st (Sm.ofL ((bl s).take k)) s[k].toNat = Sm.ofL ((bl s).take (k + 1)) by
            rw [List.take_succ_eq_append_getElem (by rw [bl_length]; exact hlt), Sm.ofL_snoc]; rfl)
          go_wp2_with fail
          refine (take_any w1.heap.size _ k (s[k].toNat) _ hr hg hb htk).mono ?_
          rintro e w2 ⟨rfl, h2, hB3⟩
          rw [Hs.out] at h2
          go_wp2
          go_roundw
          case rel => exact ⟨k + 1, by omega, h2, hB.trans (hB3.mono hz), Hn2⟩
          case measure => rw [h2.taken, k2]; simp [intOf]; omega
        · obtain rfl : k = s.size := by omega
          have Hf := Lib.hid (fnd_stop2 (l := bl s) (c := c) (most := most) (by rw [bl_length]; exact Hn2.out))
          have hne : (((s.size : Nat) : Int) == (s.size : Int)) = true := by simp
          go_wp2
          go_ret2
          exact ⟨tup2 (by rw [Hf.out.1]; rfl) Hf.out.2.symm, hB⟩
    · have hm' : most < (k : Int) := by omega
      have Hf := Lib.hid (fnd_stop1 hm' Hn.out)
      go_wp2
      go_ret2
      exact ⟨tup2 (by rw [Hf.out.1]; rfl) Hf.out.2.symm, hB⟩

end Go.Proofs.Ytcldhflicakmaaa
