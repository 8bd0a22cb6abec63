/-
  Layer 2 (sum): a running sum in memory, Over and Of.
-/
import Derived.Test.YteepemibmjpnfaaSumLow
namespace Go.Proofs.Yteepemibmjpnfaa
set_option maxRecDepth 10000
open Go.RowKit

/-- A running sum at block B: the sum c, of t bytes. -/
structure RunAt (w : World) (B c t : Nat) : Prop where
  now : w.cell? ⟨B, 0, none⟩ = some (.int .i64 (c : Int))
  taken : w.cell? ⟨B, 1, none⟩ = some (.int .i64 (t : Int))
  f0 : w.frozen? ⟨B, 0, none⟩ = false
  f1 : w.frozen? ⟨B, 1, none⟩ = false

theorem RunAt.setNow {w : World} {B c t : Nat} (h : RunAt w B c t) (d : Nat) : RunAt (w.setCell ⟨B, 0, none⟩ (.int .i64 (d : Int))) B d t :=
  ⟨World.cell?_setCell_same _ _ _ h.now, (World.cell?_setCell_other _ _ _ _ (by simp)).trans h.taken, by simpa using h.f0, by simpa using h.f1⟩
theorem RunAt.setTaken {w : World} {B c t : Nat} (h : RunAt w B c t) (d : Nat) : RunAt (w.setCell ⟨B, 1, none⟩ (.int .i64 (d : Int))) B c d :=
  ⟨(World.cell?_setCell_other _ _ _ _ (by simp)).trans h.now, World.cell?_setCell_same _ _ _ h.taken, by simpa using h.f0, by simpa using h.f1⟩
theorem RunAt.new (w : World) (c t : Nat) (T : TypeId) : RunAt (w.alloc (.cells #[.int .i64 (c : Int), .int .i64 (t : Int)] T)) w.heap.size c t := by
  have hb := World.alloc_heap_new w (.cells #[.int .i64 (c : Int), .int .i64 (t : Int)] T)
  constructor <;> simp only [World.cell?, World.frozen?, hb] <;> simp

theorem step_run (B c t b : Nat) (w : World) (h : RunAt w B c t) (hlt : (c : Int) < 65536) (hb : (b : Int) < 256) :
    Calls Try.prog 91 #[.pointer (some ⟨B, 0, none⟩), .int .u8 (b : Int)] w fun e w' => e = .returned (.tuple #[]) ∧ RunAt w' B (Sm.st c b) t ∧ Below B w w' :=
  (step_any B 0 c b w h.now h.f0 hlt hb).mono fun _ _ ⟨he, hw⟩ => ⟨he, by rw [hw]; exact h.setNow _, by rw [hw]; exact (Below.refl B w).setCell (Nat.le_refl B) _⟩

set_option maxRecDepth 10000 in
set_option maxHeartbeats 400000 in
theorem take_any (B c t b : Nat) (w : World) (h : RunAt w B c t) (hlt : (c : Int) < 65536) (hb : (b : Int) < 256) (ht : (t : Int) < 1000000000) :
    Calls Try.prog 88 #[.pointer (some ⟨B, 0, none⟩), .int .u8 (b : Int)] w fun e w' => e = .returned (.tuple #[]) ∧ RunAt w' B (Sm.st c b) (t + 1) ∧ Below B w w' := by
  go_enter Try.func88, Try.ntmps88
  go_wp2_with fail
  refine (step_run B c t b w h hlt hb).mono ?_
  rintro e w1 ⟨rfl, h1, hB1⟩
  have k1 := h1.taken
  have k2 := h1.f1
  go_wp2
  go_end0
  refine ⟨rfl, ?_, hB1.setCell (Nat.le_refl B) _⟩
  have := h1.setTaken (t + 1)
  simpa using this

set_option maxRecDepth 10000 in
set_option maxHeartbeats 400000 in
theorem goOn_any (B c t : Nat) (s : ByteArray) (w : World) (h : RunAt w B c t) (hlt : (c : Int) < 65536) (ht : (t : Int) + (s.size : Int) < 1000000000) :
    Calls Try.prog 82 #[.pointer (some ⟨B, 0, none⟩), .string s] w fun e w' => e = .returned (.tuple #[]) ∧ RunAt w' B (Sm.go c (bl s)) (t + s.size) ∧ Below B w w' := by
  go_enter Try.func82, Try.ntmps82
  go_wp2
  go_loopw [7] (fun i wr => ∃ k : Nat, k ≤ s.size ∧ i = .int .i64 (k : Int) ∧ RunAt wr B (Sm.go c ((bl s).take k)) (t + k) ∧ Below B w wr) (fun i _ => s.size - (intOf i).toNat)
  case atStart => exact ⟨0, by omega, rfl, by simpa [Sm.go_nil] using h, Below.refl _ _⟩
  case round =>
    obtain ⟨k, hk, rfl, hr, hB⟩ := hrel
    by_cases hlt' : k < s.size
    · have hg : ((Sm.go c ((bl s).take k) : Nat) : Int) < 65536 := by have := Sm.go_lt (c := c) (by omega) ((bl s).take k); omega
      have hb : ((s[k].toNat : Nat) : Int) < 256 := by have := s[k].toNat_lt; omega
      have htk : ((t + k : Nat) : Int) < 1000000000 := by omega
      have Hs := Lib.hid (show Sm.st (Sm.go c ((bl s).take k)) s[k].toNat = Sm.go c ((bl s).take (k + 1)) by
        rw [List.take_succ_eq_append_getElem (by rw [bl_length]; exact hlt'), Sm.go_append, Sm.go_one]; rfl)
      go_wp2_with fail
      refine (take_any B _ (t + k) (s[k].toNat) _ hr hg hb htk).mono ?_
      rintro e w1 ⟨rfl, h1, hB1⟩
      rw [Hs.out] at h1
      go_wp2
      go_roundw
      case rel => exact ⟨k + 1, by omega, by go_num, h1, hB.trans hB1⟩
      case measure => simp [intOf]; omega
    · obtain rfl : k = s.size := by omega
      have h2 : RunAt wr B (Sm.go c (bl s)) (t + s.size) := by
        rw [List.take_of_length_le (by rw [bl_length]; exact Nat.le_refl _)] at hr; exact hr
      go_wp2
      go_end0
      exact ⟨rfl, h2, hB⟩

set_option maxRecDepth 10000 in
set_option maxHeartbeats 400000 in
theorem start_any (w : World)  :
    Calls Try.prog 81 #[] w fun e w' => e = .returned (.agg #[.int .i64 65535, .int .i64 0]) ∧ Below w.heap.size w w' := by
  go_enter Try.func81, Try.ntmps81
  go_wp2
  exact bodyPost_ret (v := .agg #[.int .i64 65535, .int .i64 0]) (by simp [results, Try.results81, go_sem]) rfl ⟨rfl, (Below.refl _ _).alloc (Nat.le_refl _) _⟩

theorem tup2 {a a' : Int} {b b' : Bool} (h : a = a') (h2 : b = b') : Ending.returned (.tuple #[.int .i64 a, .bool b]) = .returned (.tuple #[.int .i64 a', .bool b']) := by rw [h, h2]

/-- Texts one behind the other. -/
def cat (ss : List ByteArray) : List UInt8 := ss.flatMap bl
theorem cat_nil : cat [] = [] := rfl
theorem cat_take_succ {ss : List ByteArray} {k : Nat} (h : k < ss.length) : cat (ss.take (k + 1)) = cat (ss.take k) ++ bl ss[k] := by
  unfold cat; rw [List.take_succ_eq_append_getElem h, List.flatMap_append]; simp
theorem cat_take_le (ss : List ByteArray) (k : Nat) : (cat (ss.take k)).length ≤ (cat ss).length := by
  have : cat ss = cat (ss.take k) ++ cat (ss.drop k) := by unfold cat; rw [← List.flatMap_append, List.take_append_drop]
  rw [this, List.length_append]; omega

set_option maxRecDepth 10000 in
set_option maxHeartbeats 400000 in
theorem Over_any (A : Option Addr) (cap : Nat) (ss : List ByteArray) (w : World) (hA : StrsAt w w.heap.size A ss) (hl : (ss.length : Int) < 1000000000) (hs : ((cat ss).length : Int) < 1000000000) :
    Calls Try.prog 73 #[.slice A ss.length cap] w fun e w' => e = .returned (.int .i64 (Sm.ofL (cat ss) : Int)) ∧ Below w.heap.size w w' := by
  go_enter Try.func73, Try.ntmps73
  go_wp2_with fail
  refine (start_any w).mono ?_
  rintro e w1 ⟨rfl, hB1⟩
  have hz := hB1.size
  have hr0 := RunAt.new w1 65535 0 112
  have hB2 : Below w.heap.size w (w1.alloc (.cells #[.int .i64 65535, .int .i64 0] 112)) := hB1.alloc hz _
  go_wp2
  go_loopw [9] (fun i wr => ∃ k : Nat, k ≤ ss.length ∧ i = .int .i64 (k : Int) ∧ RunAt wr w1.heap.size (Sm.ofL (cat (ss.take k))) (cat (ss.take k)).length ∧ Below w.heap.size w wr) (fun i _ => ss.length - (intOf i).toNat)
  case atStart => exact ⟨0, by omega, rfl, hr0, hB2⟩
  case round =>
    obtain ⟨k, hk, rfl, hr, hB⟩ := hrel
    clear hr0 hB2
    by_cases hlt' : k < ss.length
    · obtain ⟨b, off, rfl, hb, hc⟩ := (hA.below hB (Nat.le_refl _)) k hlt'
      have Hs := Lib.hid (show Sm.go (Sm.ofL (cat (ss.take k))) (bl ss[k]) = Sm.ofL (cat (ss.take (k + 1))) by
        rw [cat_take_succ hlt']; unfold Sm.ofL; rw [Sm.go_append])
      have Hn := Lib.hid (show (cat (ss.take k)).length + ss[k].size = (cat (ss.take (k + 1))).length by
        rw [cat_take_succ hlt', List.length_append, bl_length])
      have hg : ((Sm.ofL (cat (ss.take k)) : Nat) : Int) < 65536 := by have := Sm.ofL_lt (cat (ss.take k)); omega
      have ht : (((cat (ss.take k)).length : Nat) : Int) + (ss[k].size : Int) < 1000000000 := by
        have := cat_take_le ss (k + 1); have := Hn.out; omega
      have i1 : (k : Int) < (ss.length : Int) := by omega
      obtain ⟨s, hs'⟩ : ∃ s, s = ss[k] := ⟨_, rfl⟩
      rw [← hs'] at hc Hs Hn ht
      clear hs'
      go_wp2_with fail
      refine (goOn_any w1.heap.size _ _ s _ hr hg ht).mono ?_
      rintro e w2 ⟨rfl, h2, hB3⟩
      rw [Hs.out, Hn.out] at h2
      go_wp2
      go_roundw
      case rel => exact ⟨k + 1, by omega, by go_num, h2, hB.trans (hB3.mono hz)⟩
      case measure => simp [intOf]; omega
    · obtain rfl : k = ss.length := by omega
      have h2 := hr.now
      rw [List.take_length] at h2
      go_wp2
      go_ret
      exact ⟨rfl, hB⟩

set_option maxRecDepth 10000 in
set_option maxHeartbeats 400000 in
theorem Of_any (s : ByteArray) (w : World) (hs : (s.size : Int) < 1000000000) :
    Calls Try.prog 62 #[.string s] w fun e w' => e = .returned (.int .i64 (Sm.ofL (bl s) : Int)) ∧ Below w.heap.size w w' := by
  have hcat : cat [s] = bl s := by simp [cat]
  have hn := StrsAt.new w [s] 9
  go_enter Try.func62, Try.ntmps62
  go_wp2_with fail
  refine (Over_any (some ⟨w.heap.size, 0, none⟩) 1 [s] _ (hn.more (by simp)) (by simp) (by rw [hcat, bl_length]; exact hs)).mono ?_
  rintro e w1 ⟨rfl, hB1⟩
  rw [hcat]
  go_wp2
  go_ret
  exact ⟨rfl, ((Below.refl _ w).alloc (Nat.le_refl _) _).trans (hB1.mono (by simp))⟩

end Go.Proofs.Yteepemibmjpnfaa
