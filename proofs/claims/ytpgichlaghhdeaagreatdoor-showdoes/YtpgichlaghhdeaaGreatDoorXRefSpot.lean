/-
  Layer 4 (spot), the reference: digits, Print, Parse.
-/
import Derived.Test.YtpgichlaghhdeaaGreatDoorXSpotText
import Derived.Laws.AppendOwnNone
import Derived.Deep.RegionHeld3
namespace Go.Proofs.YtpgichlaghhdeaaGreatDoor
set_option maxRecDepth 10000
open Go.RowKit

/-- A digit's text. -/
def Sp.dig (n : Nat) : List UInt8 := [UInt8.ofNat (48 + n % 10)]

theorem Sp.dec_dig (n : Nat) (h : n < 100) : Lib.decDigits n = if n < 10 then Sp.dig n else Sp.dig (n / 10) ++ Sp.dig n := by
  have h0 : ∀ n : Fin 100, Lib.decDigits n.val = if n.val < 10 then Sp.dig n.val else Sp.dig (n.val / 10) ++ Sp.dig n.val := by decide +kernel
  exact h0 ⟨n, h⟩

/-- string([]byte{u}), of a slice just made. -/
theorem run_conv_one4 (w : World) (u : UInt8) : (convert 90 9 (.slice (some ⟨w.heap.size, 0, none⟩) 1 1)).run Tryz.prog (w.alloc (.cells #[.int .u8 (u.toNat : Int)] 5)) = .ok (.string (strOf [u])) (w.alloc (.cells #[.int .u8 (u.toNat : Int)] 5)) := by
  have hnew := World.alloc_heap_new w (.cells #[.int .u8 (u.toNat : Int)] 5)
  refine run_convert_bytes_back (P := Tryz.prog) _ 90 9 5 ⟨w.heap.size, 0, none⟩ 1 [u] Tryz.underlying90 Tryz.underlying5 Tryz.underlying9 (fun j hj => ?_)
  obtain rfl : j = 0 := by simpa using hj
  show World.cell? _ ⟨w.heap.size, 0, none⟩ = _
  simp only [World.cell?, hnew]
  simp

theorem conv_dig (w : World) (n : Nat) : (convert 90 9 (.slice (some ⟨w.heap.size, 0, none⟩) 1 1)).run Tryz.prog (w.alloc (.cells #[.int .u8 (48 + (n : Int) % 10)] 5)) = .ok (.string (strOf (Sp.dig n))) (w.alloc (.cells #[.int .u8 (48 + (n : Int) % 10)] 5)) := by
  have h := run_conv_one4 w (UInt8.ofNat (48 + n % 10))
  have e : ((UInt8.ofNat (48 + n % 10)).toNat : Int) = 48 + (n : Int) % 10 := by
    rw [UInt8.toNat_ofNat']; omega
  rw [e] at h
  exact h

/-- What holds ahead of each round of digits. -/
def DigRel (w : World) (n : Nat) (z s : Value) (wr : World) : Prop :=
  Below w.heap.size w wr ∧ ((z = .int .i64 (n : Int) ∧ s = .string (strOf (Sp.dig n))) ∨ (10 ≤ n ∧ z = .int .i64 ((n / 10 : Nat) : Int) ∧ s = .string (strOf (Sp.dig (n / 10) ++ Sp.dig n))))

set_option maxRecDepth 10000 in
set_option maxHeartbeats 400000 in
theorem digits_any (n : Nat) (h : n < 100) (w : World) :
    Calls Tryz.prog 62 #[.int .i64 (n : Int)] w fun e w' => e = .returned (.string (strOf (Lib.decDigits n))) ∧ Below w.heap.size w w' := by
  have c1 := conv_dig w n
  have c2 := fun W => conv_dig W (n / 10)
  have Hn := Lib.hid h
  have Hq : Hid (((n / 10 : Nat) : Int) = (n : Int) / 10) := Lib.hid (by omega)
  clear h
  go_enter Tryz.func62, Tryz.ntmps62
  go_wp2
  go_loopw [0, 3] (fun z s wr => DigRel w n z s wr) (fun z _ _ => (intOf z).toNat)
  case atStart => exact ⟨below_new _ _, .inl ⟨rfl, rfl⟩⟩
  case round =>
    obtain ⟨hB, ⟨rfl, rfl⟩ | ⟨h10, rfl, rfl⟩⟩ := hrel
    · by_cases hlt : n < 10
      · have hd : decide ((10 : Int) ≤ (n : Int)) = false := decide_eq_false (by omega)
        have He : Hid (Lib.decDigits n = Sp.dig n) := Lib.hid (by rw [Sp.dec_dig n Hn.out, if_pos hlt])
        clear hlt c1 c2
        go_wp2
        go_ret
        exact ⟨by rw [He.out]; rfl, hB⟩
      · have hd : decide ((10 : Int) ≤ (n : Int)) = true := decide_eq_true (by omega)
        have hcat : ¬ 9223372036854775807 < (strOf (Sp.dig (n / 10))).size + (strOf (Sp.dig n)).size := by rw [strOf_size, strOf_size]; simp [Sp.dig]
        have hc2 := c2 wr
        rw [show ((n / 10 : Nat) : Int) = (n : Int) / 10 by omega] at hc2
        have hap : strOf (Sp.dig (n / 10)) ++ strOf (Sp.dig n) = strOf (Sp.dig (n / 10) ++ Sp.dig n) := strs_append _ _
        have hq1 : wrap64 ((n : Int) / 10) = (n : Int) / 10 := by have := Hn.out; unfold wrap64; omega
        have h10 : Hid (10 ≤ n) := Lib.hid (by omega)
        clear hlt c1 c2
        go_wp2
        rw [hq1]
        refine ⟨⟨hB.alloc hB.size _, .inr ⟨h10.out, by rw [Hq.out], rfl⟩⟩, ?_⟩
        have := h10.out
        clear hq1 hc2 hap hcat hd
        simp only [intOf]; omega
    · have hd : decide ((10 : Int) ≤ ((n / 10 : Nat) : Int)) = false := decide_eq_false (by have := Hn.out; omega)
      have hd' : decide ((10 : Int) ≤ (n : Int) / 10) = false := decide_eq_false (by have := Hn.out; omega)
      have He : Hid (Lib.decDigits n = Sp.dig (n / 10) ++ Sp.dig n) := Lib.hid (by rw [Sp.dec_dig n Hn.out, if_neg (by omega)])
      clear c1 c2 h10
      go_wp2
      go_ret
      exact ⟨by rw [He.out]; rfl, hB⟩

theorem digits_int (z : Int) (h0 : 0 ≤ z) (h1 : z < 100) (w : World) :
    Calls Tryz.prog 62 #[.int .i64 z] w fun e w' => e = .returned (.string (strOf (Lib.decDigits z.toNat))) ∧ Below w.heap.size w w' := by
  have h := digits_any z.toNat (by omega) w
  rw [show ((z.toNat : Nat) : Int) = z by omega] at h
  exact h

set_option maxRecDepth 10000 in
set_option maxHeartbeats 400000 in
theorem RPrint_any (b c : Int) (w : World) :
    Calls Tryz.prog 32 #[.agg #[.int .i64 b, .int .i64 c]] w fun e w' => e = .returned (.tuple #[.string (strOf (Sp.prn b c)), .int .i64 (Sp.numE b c)]) ∧ Below w.heap.size w w' := by
  cases h : Sp.may b c
  · have e0 : Sp.prn b c = [] := by unfold Sp.prn; rw [h]; rfl
    have e1 : Sp.numE b c = 1 := by unfold Sp.numE; rw [h]; rfl
    rw [e0, e1]; clear e0 e1
    have h1 := fun W => RIs_any b c W
    rw [h] at h1
    clear h
    go_enter Tryz.func32, Tryz.ntmps32
    go_wp2_with fail
    refine (h1 _).mono ?_
    rintro e w1 ⟨rfl, hB⟩
    clear h1
    go_wp2
    go_ret2
    exact ⟨rfl, below2 (below_new _ _) hB⟩
  · have e1 : Sp.numE b c = 0 := by unfold Sp.numE; rw [h]; rfl
    have e0 : Sp.prn b c = Lib.decDigits b.toNat ++ [47] ++ Lib.decDigits c.toNat := by unfold Sp.prn; rw [h]; rfl
    rw [e1, e0]; clear e1 e0
    have h0 := fun W => RIs_any b c W
    have hm := Sp.may_iff.1 h
    have h1 := fun W => digits_int b (by omega) (by omega) W
    have h2 := fun W => digits_int c (by omega) (by omega) W
    have l1 : (Lib.decDigits b.toNat).length ≤ 4 ∧ (Lib.decDigits c.toNat).length ≤ 4 := by
      have := Sp.txt_len h; unfold Sp.txt at this; simp at this; omega
    rw [h] at h0
    have s1 : strOf (Lib.decDigits b.toNat) ++ ⟨#[47]⟩ = strOf (Lib.decDigits b.toNat ++ [47]) := strs_append _ [47]
    have s2 : strOf (Lib.decDigits b.toNat ++ [47]) ++ strOf (Lib.decDigits c.toNat) = strOf (Lib.decDigits b.toNat ++ [47] ++ Lib.decDigits c.toNat) := strs_append _ _
    obtain ⟨l1, l2⟩ := l1
    have n1 : ¬ 9223372036854775807 < (strOf (Lib.decDigits b.toNat)).size + (⟨#[47]⟩ : ByteArray).size := by rw [strOf_size]; show ¬ _ < (Lib.decDigits b.toNat).length + 1; omega
    have n2 : ¬ 9223372036854775807 < (strOf (Lib.decDigits b.toNat ++ [47])).size + (strOf (Lib.decDigits c.toNat)).size := by rw [strOf_size, strOf_size, List.length_append]; show ¬ _ < (Lib.decDigits b.toNat).length + 1 + (Lib.decDigits c.toNat).length; omega
    have n3 : ¬ 9223372036854775807 < (strOf (Lib.decDigits b.toNat)).size + 1 := n1
    have n4 : (strOf (Lib.decDigits b.toNat)).size + 1 ≤ 9223372036854775807 := by omega
    have n5 : (9223372036854775807 < (strOf (Lib.decDigits b.toNat)).size + (⟨#[47]⟩ : ByteArray).size) = False := eq_false n1
    have b0 : 0 ≤ b := by omega
    have b1 : b < 100 := by omega
    have c0 : 0 ≤ c := by omega
    have c1 : c < 100 := by omega
    clear h hm l1 l2 h1 h2
    go_enter Tryz.func32, Tryz.ntmps32
    go_wp2_with fail
    refine (h0 _).mono ?_
    rintro e w1 ⟨rfl, hB⟩
    have hB0 := below2 (below_new _ _) hB
    have kk := (Two.new w b c 23).below hB
    clear h0 hB
    go_wp2_with fail
    go_region_held3 (fun W => W.cell? ⟨w.heap.size, 0, none⟩ = some (.int .i64 b) ∧ W.cell? ⟨w.heap.size, 1, none⟩ = some (.int .i64 c)) (exact ⟨kk.c0, kk.c1⟩) ((go_at_call 62; refine (digits_int _ (by assumption) (by assumption) _).mono ?_; rintro e w' ⟨rfl, hB'⟩; replace kk : Two w' w.heap.size b c := (by first | exact kk.below hB' | exact (kk.drew).below hB'); replace hB0 : Below w.heap.size w w' := (by first | exact below2 hB0 hB' | exact below2 (below_drew hB0 1) hB'); clear hB'))
    all_goals
      go_wp2
      go_ret2
      exact ⟨by first | rfl | (show Ending.returned (.tuple #[.string (strOf (Lib.decDigits b.toNat ++ 47 :: Lib.decDigits c.toNat)), _]) = _; rw [List.append_assoc]; rfl), hB0⟩

end Go.Proofs.YtpgichlaghhdeaaGreatDoor
