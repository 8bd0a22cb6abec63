/-
  Layer 11 (show): what the library reads (Libs); strconv.Itoa, strings.Join; joined.
-/
import Derived.Test.YtpgichlaghhdeaaGreatDoorXSpotText
import Derived.Test.YtpgichlaghhdeaaGreatDoorXJb
import Derived.Lib.AppendIntMem
namespace Go.Proofs.YtpgichlaghhdeaaGreatDoor
set_option maxRecDepth 10000
open Go.RowKit

/-- What the library reads: strconv's sentinels and its table of powers; bytealg's number. -/
structure Libs (w : World) : Prop where
  errs : Errs w
  pow : Lib.TabIs Tryz.prog w "internal/strconv.uint64pow10" .u64 Lib.pow10Tab
  len : ∃ m, w.cell? ⟨0, 0, none⟩ = some (.int .i64 m)
theorem Libs.below {w w' : World} (h : Libs w) (hB : Below w.heap.size w w') : Libs w' := by
  obtain ⟨h1, h2, m, h3⟩ := h
  exact ⟨h1.below hB, (Lib.tabBelow_of_tabIs h2) _ hB, m, (hB.cell (World.block_lt_of_cell? w _ h3)).trans h3⟩

theorem bx156 : Builder.Extra Tryz.prog Tryz.lays156_ren := by
  refine ⟨⟨by kernel_rfl, by kernel_rfl⟩, Tryz.underlying5, Tryz.isAgg5, Tryz.sizeOf5, Tryz.zeroValue5, by kernel_rfl, by kernel_rfl, by kernel_rfl, by decide⟩

/-- A number from 0 on, as a text. -/
theorem Itoa_any (z : Int) (h0 : 0 ≤ z) (h1 : z ≤ 9223372036854775807) (w : World) (hE : Libs w) :
    Calls Tryz.prog 90 #[.int .i64 z] w fun e w' => e = .returned (.string (strOf (Lib.decDigits z.toNat))) ∧ Below w.heap.size w w' := by
  refine (Tryz.strconv_Itoa z (by omega) h1 w hE.pow).mono ?_
  rintro e w' ⟨rfl, k, os, rfl⟩
  refine ⟨?_, Lib.below_grow _ _ (Nat.le_refl _) k os⟩
  unfold Lib.itoa
  rw [if_neg (by omega)]
  rfl

theorem made5 : madeCells (Value.string ByteArray.empty).cells (Int.toNat 5 * 1) = #[.string ByteArray.empty, .string ByteArray.empty, .string ByteArray.empty, .string ByteArray.empty, .string ByteArray.empty] := by
  apply Array.ext
  · simp [madeCells]
  · intro i h1 h2
    have h : i = 0 ∨ i = 1 ∨ i = 2 ∨ i = 3 ∨ i = 4 := by simp at h2; omega
    rcases h with rfl | rfl | rfl | rfl | rfl <;> simp [madeCells, Value.cells]
theorem run_make5 (w : World) : (Instr.makeSlice 38 (.int .i64 5) (.int .i64 5)).run Tryz.prog w = .ok (.slice (some ⟨w.heap.size, 0, none⟩) 5 5) (w.alloc (.cells #[.string ByteArray.empty, .string ByteArray.empty, .string ByteArray.empty, .string ByteArray.empty, .string ByteArray.empty] 9)) := by
  obtain ⟨i, hi, hz, hs, hb⟩ := info_parts (show (Tryz.prog.info? 9).map (fun i => (i.zero, i.size, i.bytes)) = some (some (.string ByteArray.empty), 1, 16) by kernel_rfl)
  have h := run_make (P := Tryz.prog) w 38 9 i _ Tryz.underlying38 hi hz .i64 .i64 5 5 (by decide) (by decide) (by rw [hb]; decide) (by decide)
  rw [hs, show madeCells (Value.string ByteArray.empty).cells (Int.toNat 5 * 1) = #[.string ByteArray.empty, .string ByteArray.empty, .string ByteArray.empty, .string ByteArray.empty, .string ByteArray.empty] from made5] at h
  exact h

/-- What the library reads, as a fact that lasts. -/
def libF : Fact := ⟨Libs, fun _ _ h hB => h.below hB⟩

/-- Five texts, with blanks between. -/
def five (s t X Y Z : ByteArray) : List UInt8 := bl s ++ 32 :: (bl t ++ 32 :: (bl X ++ 32 :: (bl Y ++ 32 :: bl Z)))
theorem Join_five (s t X Y Z : ByteArray) (hl : s.size + t.size + X.size + Y.size + Z.size ≤ 10000) (k : Nat) (w0 w : World) (L : List (Nat × Array Value)) (M : List Fact) (hk : k < w.heap.size)
    (hS : St w0 w ((k, #[.string s, .string t, .string X, .string Y, .string Z]) :: L) M) :
    Calls Tryz.prog 91 #[.slice (some ⟨k, 0, none⟩) 5 5, .string ⟨#[32]⟩] w fun e w' => e = .returned (.string (strOf (five s t X Y Z))) ∧ Below w.heap.size w w' := by
  refine (Any.strings_Join Tryz.lays156 bx156 k 0 5 [s, t, X, Y, Z] ⟨#[32]⟩ w (fun j x hx => ?_) hk (by simp) (by simp) ?_).mono ?_
  · rcases j with _ | _ | _ | _ | _ | j
    all_goals first
      | (simp at hx; done)
      | (obtain rfl : _ = x := by simpa using hx
         first | exact hS.cell 0 rfl 0 rfl | exact hS.cell 0 rfl 1 rfl | exact hS.cell 0 rfl 2 rfl | exact hS.cell 0 rfl 3 rfl | exact hS.cell 0 rfl 4 rfl)
  · simp [Lib.join]
    have h1 := bl_length s
    have h2 := bl_length t
    have h3 := bl_length X
    have h4 := bl_length Y
    have h5 := bl_length Z
    unfold bl at h1 h2 h3 h4 h5
    simp at h1 h2 h3 h4 h5
    omega
  · rintro e w' ⟨rfl, hB⟩
    refine ⟨?_, hB⟩
    simp [Lib.join, five, strOf, bl]

/-- The texts that are laid after k rounds. -/
def wk (s t X Y Z : ByteArray) : Nat → Array Value
  | 0 => #[.string ByteArray.empty, .string ByteArray.empty, .string ByteArray.empty, .string ByteArray.empty, .string ByteArray.empty]
  | 1 => #[.string s, .string ByteArray.empty, .string ByteArray.empty, .string ByteArray.empty, .string ByteArray.empty]
  | 2 => #[.string s, .string t, .string ByteArray.empty, .string ByteArray.empty, .string ByteArray.empty]
  | 3 => #[.string s, .string t, .string X, .string ByteArray.empty, .string ByteArray.empty]
  | 4 => #[.string s, .string t, .string X, .string Y, .string ByteArray.empty]
  | _ => #[.string s, .string t, .string X, .string Y, .string Z]
def partsV (s t : ByteArray) (x y z : Int) : Array Value := #[.iface 9 (.string s), .iface 9 (.string t), .iface 3 (.int .i64 x), .iface 3 (.int .i64 y), .iface 3 (.int .i64 z)]

set_option maxHeartbeats 4000000 in
theorem joined_five (s t X Y Z : ByteArray) (hl : s.size + t.size + X.size + Y.size + Z.size ≤ 10000) (x y z : Int)
    (gx : ∀ W, Libs W → Calls Tryz.prog 90 #[.int .i64 x] W fun e w' => e = .returned (.string X) ∧ Below W.heap.size W w')
    (gy : ∀ W, Libs W → Calls Tryz.prog 90 #[.int .i64 y] W fun e w' => e = .returned (.string Y) ∧ Below W.heap.size W w')
    (gz : ∀ W, Libs W → Calls Tryz.prog 90 #[.int .i64 z] W fun e w' => e = .returned (.string Z) ∧ Below W.heap.size W w')
    (b : Nat) (w : World) (hb : ∃ t9, w.heap[b]? = some (.cells (partsV s t x y z) t9 (0, 0))) (hE : Libs w) :
    Calls Tryz.prog 59 #[.slice (some ⟨b, 0, none⟩) 5 5] w fun e w' => e = .returned (.string (strOf (five s t X Y Z))) ∧ Below w.heap.size w w' := by
  have hmk := fun W => run_make5 W
  have ta1 : ∀ (v : ByteArray) W, (Instr.typeAssert (.iface 9 (.string v)) 20 9 true).run Tryz.prog W = .ok (.tuple #[.string v, .bool true]) W := fun _ _ => rfl
  have ta2 : ∀ (v : Int) W, (Instr.typeAssert (.iface 3 (.int .i64 v)) 20 9 true).run Tryz.prog W = .ok (.tuple #[.string ByteArray.empty, .bool false]) W := fun _ _ => rfl
  have ta3 : ∀ (v : Int) W, (Instr.typeAssert (.iface 3 (.int .i64 v)) 20 3 true).run Tryz.prog W = .ok (.tuple #[.int .i64 v, .bool true]) W := fun _ _ => rfl
  have S0 := Lib.hid (((St.start w).add hb).more libF hE)
  have Gx := Lib.hid gx
  have Gy := Lib.hid gy
  have Gz := Lib.hid gz
  have Hl := Lib.hid hl
  clear hb hE gx gy gz hl
  go_enter Tryz.func59, Tryz.ntmps59
  go_wp2
  have Ta1 := Lib.hid ta1
  have Ta2 := Lib.hid ta2
  have Ta3 := Lib.hid ta3
  clear hmk ta1 ta2 ta3
  go_loopw [13] (fun i wr => ∃ k : Nat, k ≤ 5 ∧ i = .int .i64 (k : Int) ∧ Hid (St w wr [(w.heap.size, wk s t X Y Z k), (b, partsV s t x y z)] [libF])) (fun i _ => 5 - (intOf i).toNat)
  case atStart => exact ⟨0, by omega, rfl, Lib.hid (S0.out.new _ _)⟩
  case round =>
    obtain ⟨k, hk, rfl, HS⟩ := hrel
    have h6 : k = 0 ∨ k = 1 ∨ k = 2 ∨ k = 3 ∨ k = 4 ∨ k = 5 := by omega
    clear hk
    rcases h6 with rfl | rfl | rfl | rfl | rfl | rfl
    · have p : wr.cell? ⟨b, 0, none⟩ = some (.iface 9 (.string s)) := HS.out.cell 1 rfl 0 rfl
      have c : wr.cell? ⟨w.heap.size, 0, none⟩ = some (.string ByteArray.empty) := HS.out.cell 0 rfl 0 rfl
      have f := HS.out.free 0 rfl 0
      have ta1 := Ta1.out
      go_wp2
      go_roundw
      case rel => exact ⟨1, by omega, rfl, Lib.hid (St.cellSet S0.out HS.out HS.out.below (Nat.le_refl _) 0 _)⟩
      case measure => simp [intOf]
    · have p : wr.cell? ⟨b, 1, none⟩ = some (.iface 9 (.string t)) := HS.out.cell 1 rfl 1 rfl
      have c : wr.cell? ⟨w.heap.size, 1, none⟩ = some (.string ByteArray.empty) := HS.out.cell 0 rfl 1 rfl
      have f := HS.out.free 0 rfl 1
      have ta1 := Ta1.out
      go_wp2
      go_roundw
      case rel => exact ⟨2, by omega, rfl, Lib.hid (St.cellSet S0.out HS.out HS.out.below (Nat.le_refl _) 1 _)⟩
      case measure => simp [intOf]
    · have p : wr.cell? ⟨b, 2, none⟩ = some (.iface 3 (.int .i64 x)) := HS.out.cell 1 rfl 2 rfl
      have c : wr.cell? ⟨w.heap.size, 2, none⟩ = some (.string ByteArray.empty) := HS.out.cell 0 rfl 2 rfl
      have f := HS.out.free 0 rfl 2
      have ta2 := Ta2.out
      have ta3 := Ta3.out
      go_wp2_with fail
      refine (Gx.out _ (HS.out.fact 0 rfl)).mono ?_
      rintro e w1 ⟨rfl, hB⟩
      have HT := Lib.hid (HS.out.on hB)
      clear hB p c f HS ta2 ta3
      have c : w1.cell? ⟨w.heap.size, 2, none⟩ = some (.string ByteArray.empty) := HT.out.cell 0 rfl 2 rfl
      have f := HT.out.free 0 rfl 2
      go_wp2
      go_roundw
      case rel => exact ⟨3, by omega, rfl, Lib.hid (St.cellSet S0.out HT.out HT.out.below (Nat.le_refl _) 2 _)⟩
      case measure => simp [intOf]
    · have p : wr.cell? ⟨b, 3, none⟩ = some (.iface 3 (.int .i64 y)) := HS.out.cell 1 rfl 3 rfl
      have c : wr.cell? ⟨w.heap.size, 3, none⟩ = some (.string ByteArray.empty) := HS.out.cell 0 rfl 3 rfl
      have f := HS.out.free 0 rfl 3
      have ta2 := Ta2.out
      have ta3 := Ta3.out
      go_wp2_with fail
      refine (Gy.out _ (HS.out.fact 0 rfl)).mono ?_
      rintro e w1 ⟨rfl, hB⟩
      have HT := Lib.hid (HS.out.on hB)
      clear hB p c f HS ta2 ta3
      have c : w1.cell? ⟨w.heap.size, 3, none⟩ = some (.string ByteArray.empty) := HT.out.cell 0 rfl 3 rfl
      have f := HT.out.free 0 rfl 3
      go_wp2
      go_roundw
      case rel => exact ⟨4, by omega, rfl, Lib.hid (St.cellSet S0.out HT.out HT.out.below (Nat.le_refl _) 3 _)⟩
      case measure => simp [intOf]
    · have p : wr.cell? ⟨b, 4, none⟩ = some (.iface 3 (.int .i64 z)) := HS.out.cell 1 rfl 4 rfl
      have c : wr.cell? ⟨w.heap.size, 4, none⟩ = some (.string ByteArray.empty) := HS.out.cell 0 rfl 4 rfl
      have f := HS.out.free 0 rfl 4
      have ta2 := Ta2.out
      have ta3 := Ta3.out
      go_wp2_with fail
      refine (Gz.out _ (HS.out.fact 0 rfl)).mono ?_
      rintro e w1 ⟨rfl, hB⟩
      have HT := Lib.hid (HS.out.on hB)
      clear hB p c f HS ta2 ta3
      have c : w1.cell? ⟨w.heap.size, 4, none⟩ = some (.string ByteArray.empty) := HT.out.cell 0 rfl 4 rfl
      have f := HT.out.free 0 rfl 4
      go_wp2
      go_roundw
      case rel => exact ⟨5, by omega, rfl, Lib.hid (St.cellSet S0.out HT.out HT.out.below (Nat.le_refl _) 4 _)⟩
      case measure => simp [intOf]
    · have hk : w.heap.size < wr.heap.size := by
        obtain ⟨t8, h8⟩ := HS.out.live _ (List.mem_cons_self ..)
        exact (Array.getElem?_eq_some_iff.1 h8).1
      have HJ := Lib.hid (Join_five s t X Y Z Hl.out w.heap.size w wr _ _ hk HS.out)
      clear hk
      go_wp2_with fail
      refine HJ.out.mono ?_
      rintro e w1 ⟨rfl, hB⟩
      have HB := Lib.hid (HS.out.on hB).below
      clear hB HJ HS
      go_wp2
      go_ret
      exact ⟨rfl, HB.out⟩
end Go.Proofs.YtpgichlaghhdeaaGreatDoor
