/-
  Layer 2 (sum): the walk of the law SumSees.
-/
import Derived.Test.YtcldhflicakmaaaSumOn
import Derived.IntWalk
import Derived.Deep.RegionHeld3
import Derived.Deep.DeepCutAuto
namespace Go.Proofs.Ytcldhflicakmaaa
open Go.RowKit

/-- string([]byte{u}), of a slice just made, behind a draw. -/
theorem run_conv_oneD (w : World) (u : UInt8) : Sem.run Try.prog (convert 31 9 (.slice (some ⟨w.heap.size, 0, none⟩) 1 1)) (w.alloc (.cells #[.int .u8 (u.toNat : Int)] 5)).drew = .ok (.string (strOf [u])) (w.alloc (.cells #[.int .u8 (u.toNat : Int)] 5)).drew := by
  have hnew := World.alloc_heap_new w (.cells #[.int .u8 (u.toNat : Int)] 5)
  refine run_convert_bytes_back (P := Try.prog) _ 31 9 5 ⟨w.heap.size, 0, none⟩ 1 [u] Try.underlying31 Try.underlying5 Try.underlying9 (fun j hj => ?_)
  obtain rfl : j = 0 := by simpa using hj
  show World.cell? _ ⟨w.heap.size, 0, none⟩ = _
  simp only [World.cell?]
  show (match (w.alloc _).heap[w.heap.size]? with | some (Obj.cells c elem frozen) => _ | x => _) = _
  simp only [hnew]
  simp

theorem Of_400 (s : ByteArray) (w : World) (hs : (s.size : Int) ≤ 400) :
    Calls Try.prog 13 #[.string s] w fun e w' => e = .returned (.int .i64 (Sm.ofL (bl s) : Int)) ∧ Below w.heap.size w w' := Of_any s w (by omega)

theorem bl_part (s : ByteArray) (k : Nat) (x : List UInt8) (m : Nat) (hk : k ≤ s.size) : bl (s.extract 0 k ++ strOf x ++ s.extract m s.size) = (bl s).take k ++ x ++ (bl s).drop m := by
  rw [bl_append, bl_append, bl_extract_to _ _ hk, bl_strOf, bl_extract_from]

theorem u8_eq (x y : UInt8) : ((x.toNat : Int) == (y.toNat : Int)) = (x == y) := by
  rw [Bool.eq_iff_iff, beq_iff_eq, beq_iff_eq, Int.ofNat_inj]; exact UInt8.toNat_inj
theorem sees_test (l : List UInt8) (k : Nat) (hk : k < l.length) (u : UInt8) : ((((Sm.ofL (l.take k ++ [u] ++ l.drop (k + 1)) : Nat) : Int) == ((Sm.ofL l : Nat) : Int)) == ((l[k].toNat : Int) == (u.toNat : Int))) = true := by
  have e : l = l.take k ++ l[k] :: l.drop (k + 1) := by
    conv => lhs; rw [← List.take_append_drop k l, List.drop_eq_getElem_cons hk]
  rw [u8_eq, beq_iff_eq, Bool.eq_iff_iff, beq_iff_eq, beq_iff_eq, Int.ofNat_inj]
  conv => lhs; rhs; rw [e]
  rw [List.append_assoc, List.singleton_append, Sm.sees]
  exact eq_comm
theorem sees_swap (l : List UInt8) (k : Nat) (hk : k < l.length) (hk2 : k + 1 < l.length) : ((((Sm.ofL (l.take k ++ [l[k + 1], l[k]] ++ l.drop (k + 2)) : Nat) : Int) == ((Sm.ofL l : Nat) : Int)) == ((l[k].toNat : Int) == (l[k + 1].toNat : Int))) = true := by
  have e : l = l.take k ++ l[k] :: l[k + 1] :: l.drop (k + 2) := by
    conv => lhs; rw [← List.take_append_drop k l, List.drop_eq_getElem_cons hk, List.drop_eq_getElem_cons hk2]
  rw [u8_eq, beq_iff_eq, Bool.eq_iff_iff, beq_iff_eq, beq_iff_eq, Int.ofNat_inj]
  conv => lhs; rhs; rw [e]
  rw [List.append_assoc]
  exact Sm.sees2 _ _ _ _

/-- string([]byte{x, y}), of a slice just made, behind a draw. -/
theorem run_conv_twoD (w : World) (x y : UInt8) : Sem.run Try.prog (convert 31 9 (.slice (some ⟨w.heap.size, 0, none⟩) 2 2)) (w.alloc (.cells #[.int .u8 (x.toNat : Int), .int .u8 (y.toNat : Int)] 5)).drew = .ok (.string (strOf [x, y])) (w.alloc (.cells #[.int .u8 (x.toNat : Int), .int .u8 (y.toNat : Int)] 5)).drew := by
  have hnew := World.alloc_heap_new w (.cells #[.int .u8 (x.toNat : Int), .int .u8 (y.toNat : Int)] 5)
  refine run_convert_bytes_back (P := Try.prog) _ 31 9 5 ⟨w.heap.size, 0, none⟩ 2 [x, y] Try.underlying31 Try.underlying5 Try.underlying9 (fun j hj => ?_)
  rw [Go.WideShapes.add_plain]
  simp only [World.cell?]
  show (match (w.alloc _).heap[w.heap.size]? with | some (Obj.cells c elem frozen) => _ | x => _) = _
  simp only [hnew]
  match j, hj with
  | 0, _ => rfl
  | 1, _ => rfl

set_option maxRecDepth 10000 in
set_option maxHeartbeats 2000000 in
theorem sumSees_last (s : ByteArray) (k : Nat) (u : UInt8) (w : World) (hle : (s.size : Int) ≤ 400) (hk : k < s.size) (hlast : (s.size : Int) ≤ (k : Int) + 1) :
    Calls Try.prog 5 #[.string s, .int .i64 (k : Int), .int .u8 (u.toNat : Int)] w fun e w' => e = .returned (.bool true) ∧ Below w.heap.size w w' := by
  have h0 : (0 : Int) ≤ k := by omega
  have h1 : (k : Int) < s.size := by omega
  have h2 : (k : Int) ≤ s.size := by omega
  have h3 : (k : Int) + 1 ≤ s.size := by omega
  have h4 : (0 : Int) ≤ (k : Int) + 1 := by omega
  have h5 : IntKind.i64.wrap ((k : Int) + 1) = (k : Int) + 1 := IntWalk.i64_in _ (by omega)
  have h6 : ((k : Int) + 1).toNat = k + 1 := by omega
  have h7 : k ≤ s.size := by omega
  have h8 : k + 1 ≤ s.size := by omega
  have hconv := run_conv_oneD w u
  have e1 : (s.extract 0 k).size = k := by rw [← bl_length, bl_extract_to _ _ h7, List.length_take, bl_length]; omega
  have e2 : (s.extract (k + 1) s.size).size = s.size - (k + 1) := by rw [← bl_length, bl_extract_from, List.length_drop, bl_length]
  have e3 : (s.extract 0 k ++ strOf [u]).size = k + 1 := by rw [← bl_length, bl_append, List.length_append, bl_length, e1]; rfl
  have hcat1 : ¬ 9223372036854775807 < (s.extract 0 k).size + (strOf [u]).size := by rw [e1, strOf_size]; simp; omega
  have hcat2 : ¬ 9223372036854775807 < (s.extract 0 k ++ strOf [u]).size + (s.extract (k + 1) s.size).size := by rw [e2, e3]; omega
  have hts : (((s.extract 0 k ++ strOf [u] ++ s.extract (k + 1) s.size).size : Nat) : Int) ≤ 400 := by
    rw [← bl_length, bl_append, List.length_append, bl_length, bl_length, e3, e2]; omega
  have Hb := Lib.hid (bl_part s k [u] (k + 1) h7)
  clear e1 e2 e3
  have hq : ((((Sm.ofL (bl (s.extract 0 k ++ strOf [u] ++ s.extract (k + 1) s.size)) : Nat) : Int) == ((Sm.ofL (bl s) : Nat) : Int)) == ((s[k].toNat : Int) == (u.toNat : Int))) = true := by
    rw [Hb.out]; exact sees_test (bl s) k hk u
  clear Hb
  go_enter Try.func5, Try.ntmps5
  go_wp2
  go_region
  generalize (s.extract 0 k ++ strOf [u] ++ s.extract (k + 1) s.size) = t at *
  have hB0 : Below w.heap.size w (w.alloc (.cells #[.int .u8 (u.toNat : Int)] 5)).drew := below_drew ((Below.refl _ w).alloc (Nat.le_refl _) _) 1
  revert hB0
  generalize (w.alloc (.cells #[.int .u8 (u.toNat : Int)] 5)).drew = w1
  intro hB0
  clear hconv hcat1 hcat2
  go_wp2
  go_region_held3 (fun _ => True) (go_keep) ((go_at_call 13; refine (Of_400 _ _ (by assumption)).mono ?_; rintro e w' ⟨rfl, hB'⟩; replace hB0 : Below w.heap.size w w' := (by first | exact below2 hB0 hB' | exact below2 (below_drew hB0 1) hB'); clear hB'))
  all_goals
    go_wp2_with fail
    refine (summed_any _).mono ?_
    rintro e w5 ⟨rfl, hB5⟩
    go_wp2
    go_ret
    exact ⟨rfl, below2 hB0 hB5⟩

set_option maxRecDepth 10000 in
set_option maxHeartbeats 2000000 in
theorem sumSees_more (s : ByteArray) (k : Nat) (u : UInt8) (w : World) (hle : (s.size : Int) ≤ 400) (hk : k < s.size) (hmore : (k : Int) + 1 < s.size) :
    Calls Try.prog 5 #[.string s, .int .i64 (k : Int), .int .u8 (u.toNat : Int)] w fun e w' => e = .returned (.bool true) ∧ Below w.heap.size w w' := by
  have h0 : (0 : Int) ≤ k := by omega
  have h1 : (k : Int) < s.size := by omega
  have h2 : (k : Int) ≤ s.size := by omega
  have h3 : (k : Int) + 1 ≤ s.size := by omega
  have h4 : (0 : Int) ≤ (k : Int) + 1 := by omega
  have h5 : IntKind.i64.wrap ((k : Int) + 1) = (k : Int) + 1 := IntWalk.i64_in _ (by omega)
  have h6 : ((k : Int) + 1).toNat = k + 1 := by omega
  have h7 : k ≤ s.size := by omega
  have h8 : k + 1 ≤ s.size := by omega
  have hconv := run_conv_oneD w u
  have e1 : (s.extract 0 k).size = k := by rw [← bl_length, bl_extract_to _ _ h7, List.length_take, bl_length]; omega
  have e2 : (s.extract (k + 1) s.size).size = s.size - (k + 1) := by rw [← bl_length, bl_extract_from, List.length_drop, bl_length]
  have e3 : (s.extract 0 k ++ strOf [u]).size = k + 1 := by rw [← bl_length, bl_append, List.length_append, bl_length, e1]; rfl
  have hcat1 : ¬ 9223372036854775807 < (s.extract 0 k).size + (strOf [u]).size := by rw [e1, strOf_size]; simp; omega
  have hcat2 : ¬ 9223372036854775807 < (s.extract 0 k ++ strOf [u]).size + (s.extract (k + 1) s.size).size := by rw [e2, e3]; omega
  have hts : (((s.extract 0 k ++ strOf [u] ++ s.extract (k + 1) s.size).size : Nat) : Int) ≤ 400 := by
    rw [← bl_length, bl_append, List.length_append, bl_length, bl_length, e3, e2]; omega
  have Hb := Lib.hid (bl_part s k [u] (k + 1) h7)
  clear e1 e2 e3
  have hq : ((((Sm.ofL (bl (s.extract 0 k ++ strOf [u] ++ s.extract (k + 1) s.size)) : Nat) : Int) == ((Sm.ofL (bl s) : Nat) : Int)) == ((s[k].toNat : Int) == (u.toNat : Int))) = true := by
    rw [Hb.out]; exact sees_test (bl s) k hk u
  clear Hb
  go_enter Try.func5, Try.ntmps5
  go_wp2
  go_region
  generalize (s.extract 0 k ++ strOf [u] ++ s.extract (k + 1) s.size) = t at *
  have hB0 : Below w.heap.size w (w.alloc (.cells #[.int .u8 (u.toNat : Int)] 5)).drew := below_drew ((Below.refl _ w).alloc (Nat.le_refl _) _) 1
  revert hB0
  generalize (w.alloc (.cells #[.int .u8 (u.toNat : Int)] 5)).drew = w1
  intro hB0
  clear hconv hcat1 hcat2
  go_wp2
  go_cut [45] (fun v wx => v = .bool false ∧ Below w.heap.size w wx)
  case first =>
    go_region_held3 (fun _ => True) (go_keep) ((go_at_call 13; refine (Of_400 _ _ (by assumption)).mono ?_; rintro e w' ⟨rfl, hB'⟩; replace hB0 : Below w.heap.size w w' := (by first | exact below2 hB0 hB' | exact below2 (below_drew hB0 1) hB'); clear hB'))
    all_goals
      go_wp2_with fail
      go_meet
      exact ⟨rfl, hB0⟩
  case rest =>
    obtain ⟨rfl, hB0⟩ := hcut
    clear hq
    have i1 : (k : Int) + 2 ≤ s.size := by omega
    have i2 : (0 : Int) ≤ (k : Int) + 2 := by omega
    have i3 : IntKind.i64.wrap ((k : Int) + 2) = (k : Int) + 2 := IntWalk.i64_in _ (by omega)
    have i4 : ((k : Int) + 2).toNat = k + 2 := by omega
    have i5 : k + 2 ≤ s.size := by omega
    have i6 : k + 1 < s.size := by omega
    have hconv := run_conv_twoD wc (s[k + 1]'i6) (s[k]'hk)
    have e1 : (s.extract 0 k).size = k := by rw [← bl_length, bl_extract_to _ _ h7, List.length_take, bl_length]; omega
    have e2 : (s.extract (k + 2) s.size).size = s.size - (k + 2) := by rw [← bl_length, bl_extract_from, List.length_drop, bl_length]
    have e3 : (s.extract 0 k ++ strOf [s[k + 1]'i6, s[k]'hk]).size = k + 2 := by rw [← bl_length, bl_append, List.length_append, bl_length, e1]; rfl
    have hcat1 : ¬ 9223372036854775807 < (s.extract 0 k).size + (strOf [s[k + 1]'i6, s[k]'hk]).size := by rw [e1, strOf_size]; simp; omega
    have hcat2 : ¬ 9223372036854775807 < (s.extract 0 k ++ strOf [s[k + 1]'i6, s[k]'hk]).size + (s.extract (k + 2) s.size).size := by rw [e2, e3]; omega
    have hus : (((s.extract 0 k ++ strOf [s[k + 1]'i6, s[k]'hk] ++ s.extract (k + 2) s.size).size : Nat) : Int) ≤ 400 := by
      rw [← bl_length, bl_append, List.length_append, bl_length, bl_length, e3, e2]; omega
    have hq2 : ((((Sm.ofL (bl (s.extract 0 k ++ strOf [s[k + 1]'i6, s[k]'hk] ++ s.extract (k + 2) s.size)) : Nat) : Int) == ((Sm.ofL (bl s) : Nat) : Int)) == (((s[k]'hk).toNat : Int) == ((s[k + 1]'i6).toNat : Int))) = true := by
      rw [bl_part s k _ (k + 2) h7]; exact sees_swap (bl s) k hk i6
    clear e1 e2 e3
    go_wp2
    go_region
    generalize (s.extract 0 k ++ strOf [s[k + 1]'i6, s[k]'hk] ++ s.extract (k + 2) s.size) = t2 at *
    replace hB0 : Below w.heap.size w (wc.alloc (.cells #[.int .u8 ((s[k + 1]'i6).toNat : Int), .int .u8 ((s[k]'hk).toNat : Int)] 5)).drew := below_drew (hB0.alloc hB0.size _) 1
    revert hB0
    generalize (wc.alloc (.cells #[.int .u8 ((s[k + 1]'i6).toNat : Int), .int .u8 ((s[k]'hk).toNat : Int)] 5)).drew = w6
    intro hB0
    clear hconv hcat1 hcat2
    go_wp2
    go_region_held3 (fun _ => True) (go_keep) ((first
      | (go_at_call 12; refine (summed_any _).mono ?_; rintro e w' ⟨rfl, hB'⟩; replace hB0 : Below w.heap.size w w' := (by first | exact below2 hB0 hB' | exact below2 (below_drew hB0 1) hB'); clear hB')
      | (go_at_call 13; refine (Of_400 _ _ (by assumption)).mono ?_; rintro e w' ⟨rfl, hB'⟩; replace hB0 : Below w.heap.size w w' := (by first | exact below2 hB0 hB' | exact below2 (below_drew hB0 1) hB'); clear hB')))
    all_goals
      go_wp2
      go_ret
      exact ⟨rfl, hB0⟩

end Go.Proofs.Ytcldhflicakmaaa
