/-
  Layer 4 (spot): the walk of the law SpotBeds.
-/
import Derived.Test.YtndpcnimebedcaaDoorSpotDoes1
namespace Go.Proofs.YtndpcnimebedcaaDoor
open Go.RowKit

/-- Is x among them? -/
def Sp.inZ (zs : List Int) (x : Int) : Bool := zs.any (fun z => z == x)
theorem Sp.inZ_take {zs : List Int} {i : Nat} {x : Int} (h : i < zs.length) : Sp.inZ (zs.take (i + 1)) x = (Sp.inZ (zs.take i) x || zs[i] == x) := by
  unfold Sp.inZ
  rw [List.take_succ_eq_append_getElem h, List.any_append]
  simp
theorem Sp.inZ_mem {zs : List Int} {x : Int} (h : x ∈ zs) : Sp.inZ zs x = true := by
  unfold Sp.inZ; rw [List.any_eq_true]; exact ⟨x, h, by simp⟩

/-- What is known of the beds. -/
structure BedsOk (ls : List (Int × Int)) (zs : List Int) : Prop where
  len : zs.length ≤ 99
  has : ∀ i (h : i < zs.length), Sp.has ls zs[i] = true
  up : ∀ i (h : i + 1 < zs.length), zs[i] < zs[i + 1]
  all : ∀ k (h : k < ls.length), Sp.may ls[k].1 ls[k].2 = true → Sp.inZ zs ls[k].1 = true
theorem beds_ok (ls : List (Int × Int)) : BedsOk ls (Sp.beds ls) := by
  refine ⟨beds_len ls, fun i h => ?_, fun i h => ?_, fun k h hm => ?_⟩
  · have : (Sp.beds ls)[i] ∈ Sp.upTo ls 99 := by rw [← Sp.beds_eq]; exact List.getElem_mem h
    exact (Sp.mem_upTo.1 this).2.2
  · have hp := Sp.upTo_rises ls 99
    rw [← Sp.beds_eq, List.pairwise_iff_getElem] at hp
    exact hp i (i + 1) (by omega) h (by omega)
  · refine Sp.inZ_mem ?_
    rw [Sp.beds_eq, Sp.mem_upTo]
    have h1 := Sp.may_iff.1 hm
    refine ⟨by omega, by omega, Sp.has_iff.2 ?_⟩
    unfold Sp.vb
    exact List.mem_map.2 ⟨ls[k], List.mem_filter.2 ⟨List.getElem_mem h, hm⟩, rfl⟩

set_option maxRecDepth 10000 in
set_option maxHeartbeats 8000000 in
theorem beds_go (A : Option Addr) (cap : Nat) (ls : List (Int × Int)) (w : World) (HE : Hid (Errs w)) (HA : Hid (SpotsAt w w.heap.size A ls)) (Hl : Hid (ls.length ≤ 1000)) (d2 : decide ((100 : Int) < (ls.length : Int)) = false) :
    Calls Tryd.prog 6 #[.slice A ls.length cap] w fun e w' => e = .returned (.bool true) ∧ Below w.heap.size w w' := by
  have p1 := Beds_i A cap ls w HA.out Hl.out
  have HO := Lib.hid (beds_ok ls)
  obtain ⟨zs, hzs⟩ : ∃ zs, zs = Sp.beds ls := ⟨_, rfl⟩
  rw [← hzs] at p1 HO
  clear hzs
  go_enter Tryd.func6, Tryd.ntmps6
  go_wp2_with fail
  refine p1.mono ?_
  rintro x w1 ⟨Am, cm, rfl, hM, hB0⟩
  have HM := Lib.hid hM
  have HA1 := Lib.hid (HA.out.on hB0)
  clear p1 hM HA
  go_wp2_with fail
  go_loopw [4] (fun z wr => ∃ i : Nat, i ≤ zs.length ∧ z = .int .i64 (i : Int) ∧ Below w1.heap.size w1 wr) (fun z _ => zs.length - (intOf z).toNat)
  case atStart => exact ⟨0, Nat.zero_le _, rfl, Below.refl _ _⟩
  case round =>
    obtain ⟨i, hi, rfl, hB⟩ := hrel
    by_cases hlt : i < zs.length
    · have j1 : (i : Int) < (zs.length : Int) := by omega
      have j3 : (0 : Int) ≤ (i : Int) := by omega
      have j5 : wrap64 ((i : Int) + 1) = (i : Int) + 1 := by have := HO.out.len; unfold wrap64; omega
      obtain ⟨bm, om, rfl, hbm, hcm⟩ := HM.out i hlt
      obtain ⟨zi, hzi⟩ : ∃ z, z = zs[i] := ⟨_, rfl⟩
      rw [← hzi] at hcm
      have Hz : Hid (Sp.has ls zi = true) := Lib.hid (by rw [hzi]; exact HO.out.has i hlt)
      have Hzi := Lib.hid hzi
      clear hzi
      have Hcm := Lib.hid hcm
      clear hcm
      go_wp2_with fail
      go_loopw [5, 6] (fun x z wr => ∃ k : Nat, k ≤ ls.length ∧ z = .int .i64 (k : Int) ∧ x = .bool (Sp.has (ls.take k) zi) ∧ Below w1.heap.size w1 wr) (fun _ z _ => ls.length - (intOf z).toNat)
      case atStart => exact ⟨0, Nat.zero_le _, rfl, rfl, hB⟩
      case round =>
        clear hB
        obtain ⟨k, hk, rfl, rfl, hB⟩ := hrel
        have hcm : wr.cell? ⟨bm, om + i, none⟩ = some (.int .i64 zi) := (hB.cell (p := ⟨bm, om + i, none⟩) hbm).trans Hcm.out
        by_cases hlk : k < ls.length
        · obtain ⟨bk, off, rfl, hbk, hc0, hc1⟩ := (HA1.out.below hB (Nat.le_refl _)) k hlk
          have k1 : (k : Int) < (ls.length : Int) := by omega
          have k3 : (0 : Int) ≤ (k : Int) := by omega
          have k5 : wrap64 ((k : Int) + 1) = (k : Int) + 1 := by have := Hl.out; unfold wrap64; omega
          obtain ⟨x, hx⟩ : ∃ x, x = ls[k].1 := ⟨_, rfl⟩
          obtain ⟨y, hy⟩ : ∃ y, y = ls[k].2 := ⟨_, rfl⟩
          rw [← hx] at hc0
          rw [← hy] at hc1
          have h1 := fun W => Is_any x y W
          have HX : Hid (Sp.has (ls.take (k + 1)) zi = (Sp.has (ls.take k) zi || (Sp.may x y && x == zi))) := Lib.hid (by rw [hx, hy]; exact Sp.has_take hlk)
          clear hx hy
          obtain ⟨f, hf⟩ : ∃ f, f = Sp.has (ls.take k) zi := ⟨_, rfl⟩
          rw [← hf] at HX ⊢
          clear hf
          cases f
          · cases hm : Sp.may x y
            · rw [hm] at h1 HX
              simp only [Bool.false_or, Bool.false_and] at HX
              clear hm
              go_wp2_with fail
              refine wp_region_held_drew (S := (fun W : World => W.cell? ⟨bk, off + k * 2, none⟩ = some (.int .i64 x) ∧ W.cell? ⟨bk, off + k * 2 + 1, none⟩ = some (.int .i64 y) ∧ W.cell? ⟨bm, om + i, none⟩ = some (.int .i64 zi))) (by kernel_rfl) ⟨hc0, hc1, hcm⟩ (fun hHeld => ?_)
              refine wpAnyH_take (i := 0) (oi := { dst := some 27, op := Op.move (Operand.tmp 5), type := 4, pos := "law.go:82", after := #[], guard := none }) (v := ?_) rfl (by kernel_rfl) (by kernel_rfl) (by kernel_rfl) (fun _ _ _ h => h) (Or.inl ⟨by rfl, ?hy⟩) hHeld ?_
              case hy => intro w0 hSw; (try dsimp only at hSw); go_simp; (try with_reducible rfl)
              (try simp only [Act.put, List.setIfInBounds_toArray, List.set_cons_zero, List.set_cons_succ])
              refine wpAnyH_take (i := 1) (oi := { dst := some 28, op := Op.move (Operand.tmp 27), type := 4, pos := "law.go:82", after := #[{ on := 0, ground := Ground.data }], guard := none }) (v := ?_) rfl (by kernel_rfl) (by kernel_rfl) (by kernel_rfl) (fun _ _ _ h => h) (Or.inl ⟨by rfl, ?hy⟩) hHeld ?_
              case hy => intro w0 hSw; (try dsimp only at hSw); go_simp; (try with_reducible rfl)
              (try simp only [Act.put, List.setIfInBounds_toArray, List.set_cons_zero, List.set_cons_succ])
              refine wpAnyH_take (i := 2) (oi := { dst := some 29, op := Op.move (Operand.tmp 0), type := 24, pos := "law.go:82", after := #[{ on := 1, ground := Ground.guard }], guard := some (1, false) }) (v := ?_) rfl (by kernel_rfl) (by kernel_rfl) (by kernel_rfl) (fun _ _ _ h => h) (Or.inl ⟨by rfl, ?hy⟩) hHeld ?_
              case hy => intro w0 hSw; (try dsimp only at hSw); go_simp; (try with_reducible rfl)
              (try simp only [Act.put, List.setIfInBounds_toArray, List.set_cons_zero, List.set_cons_succ])
              refine wpAnyH_take (i := 3) (oi := { dst := some 30, op := Op.move (Operand.tmp 6), type := 3, pos := "law.go:82", after := #[{ on := 1, ground := Ground.guard }], guard := some (1, false) }) (v := ?_) rfl (by kernel_rfl) (by kernel_rfl) (by kernel_rfl) (fun _ _ _ h => h) (Or.inl ⟨by rfl, ?hy⟩) hHeld ?_
              case hy => intro w0 hSw; (try dsimp only at hSw); go_simp; (try with_reducible rfl)
              (try simp only [Act.put, List.setIfInBounds_toArray, List.set_cons_zero, List.set_cons_succ])
              refine wpAnyH_take (i := 4) (oi := { dst := some 31, op := Op.indexAddr 24 (Operand.tmp 29) (Operand.tmp 30), type := 0, pos := "law.go:82", after := #[{ on := 2, ground := Ground.data }, { on := 3, ground := Ground.data }, { on := 1, ground := Ground.guard }], guard := some (1, false) }) (v := ?_) rfl (by kernel_rfl) (by kernel_rfl) (by kernel_rfl) (fun _ _ _ h => h) (Or.inl ⟨by rfl, ?hy⟩) hHeld ?_
              case hy => intro w0 hSw; (try dsimp only at hSw); go_simp; (try with_reducible rfl)
              (try simp only [Act.put, List.setIfInBounds_toArray, List.set_cons_zero, List.set_cons_succ])
              refine wpAnyH_take (i := 5) (oi := { dst := some 32, op := Op.load 23 (Operand.tmp 31), type := 23, pos := "law.go:82", after := #[{ on := 4, ground := Ground.data }, { on := 1, ground := Ground.guard }], guard := some (1, false) }) (v := ?_) rfl (by kernel_rfl) (by kernel_rfl) (by kernel_rfl) (fun _ _ _ h => h) (Or.inl ⟨by rfl, ?hy⟩) hHeld ?_
              case hy => intro w0 hSw; (try dsimp only at hSw); go_simp; (try with_reducible rfl)
              (try simp only [Act.put, List.setIfInBounds_toArray, List.set_cons_zero, List.set_cons_succ])
              refine wpAnyH_ready (rs := [6]) (by kernel_rfl) (by simp) ?_
              refine AllReadyH.cons (o := { dst := some 33, op := Op.call { callee := Callee.value (Operand.func 18), args := #[Operand.tmp 32], argTypes := #[23] }, type := 4, pos := "law.go:82", after := #[{ on := 5, ground := Ground.data }, { on := 1, ground := Ground.chain }, { on := 1, ground := Ground.guard }], guard := some (1, false) }) rfl (fun K hK => ?_) AllReadyH.nil
              go_simp
              refine (h1 _).mono ?_
              rintro e w' ⟨rfl, hB'⟩
              have hB2 := below_undrew hB'
              clear hB'
              replace hc0 := (hB2.cell (p := ⟨bk, off + k * 2, none⟩) (Nat.lt_of_lt_of_le hbk hB.size)).trans hc0
              replace hc1 := (hB2.cell (p := ⟨bk, off + k * 2 + 1, none⟩) (Nat.lt_of_lt_of_le hbk hB.size)).trans hc1
              replace hcm := (hB2.cell (p := ⟨bm, om + i, none⟩) (Nat.lt_of_lt_of_le hbm hB.size)).trans hcm
              replace hB := below2 hB hB2
              clear hB2
              go_wp2_with fail
              refine hK.out _ _ ⟨hc0, hc1, hcm⟩ (fun hHeld => ?_)
              clear hK K
              (try simp only [Act.put, List.setIfInBounds_toArray, List.set_cons_zero, List.set_cons_succ])
              refine wpAnyH_take (i := 7) (oi := { dst := some 34, op := Op.move (Operand.tmp 33), type := 4, pos := "law.go:82", after := #[{ on := 6, ground := Ground.data }, { on := 6, ground := Ground.chain }, { on := 1, ground := Ground.guard }], guard := some (1, false) }) (v := ?_) rfl (by kernel_rfl) (by kernel_rfl) (by kernel_rfl) (fun _ _ _ h => h) (Or.inl ⟨by rfl, ?hy⟩) hHeld ?_
              case hy => intro w0 hSw; (try dsimp only at hSw); go_simp; (try with_reducible rfl)
              (try simp only [Act.put, List.setIfInBounds_toArray, List.set_cons_zero, List.set_cons_succ])
              refine wpAnyH_take (i := 8) (oi := { dst := some 35, op := Op.move (Operand.tmp 0), type := 24, pos := "law.go:82", after := #[{ on := 7, ground := Ground.guard }], guard := some (7, true) }) (v := undef) rfl (by kernel_rfl) (by kernel_rfl) (by kernel_rfl) (fun _ _ _ h => h) (Or.inr ⟨by rfl, rfl⟩) hHeld ?_
              (try simp only [Act.put, List.setIfInBounds_toArray, List.set_cons_zero, List.set_cons_succ])
              refine wpAnyH_take (i := 9) (oi := { dst := some 36, op := Op.move (Operand.tmp 6), type := 3, pos := "law.go:82", after := #[{ on := 7, ground := Ground.guard }], guard := some (7, true) }) (v := undef) rfl (by kernel_rfl) (by kernel_rfl) (by kernel_rfl) (fun _ _ _ h => h) (Or.inr ⟨by rfl, rfl⟩) hHeld ?_
              (try simp only [Act.put, List.setIfInBounds_toArray, List.set_cons_zero, List.set_cons_succ])
              refine wpAnyH_take (i := 10) (oi := { dst := some 37, op := Op.indexAddr 24 (Operand.tmp 35) (Operand.tmp 36), type := 0, pos := "law.go:82", after := #[{ on := 8, ground := Ground.data }, { on := 9, ground := Ground.data }, { on := 7, ground := Ground.guard }], guard := some (7, true) }) (v := undef) rfl (by kernel_rfl) (by kernel_rfl) (by kernel_rfl) (fun _ _ _ h => h) (Or.inr ⟨by rfl, rfl⟩) hHeld ?_
              (try simp only [Act.put, List.setIfInBounds_toArray, List.set_cons_zero, List.set_cons_succ])
              refine wpAnyH_take (i := 11) (oi := { dst := some 38, op := Op.fieldAddr 23 (Operand.tmp 37) 0, type := 0, pos := "law.go:82", after := #[{ on := 10, ground := Ground.data }, { on := 7, ground := Ground.guard }], guard := some (7, true) }) (v := undef) rfl (by kernel_rfl) (by kernel_rfl) (by kernel_rfl) (fun _ _ _ h => h) (Or.inr ⟨by rfl, rfl⟩) hHeld ?_
              (try simp only [Act.put, List.setIfInBounds_toArray, List.set_cons_zero, List.set_cons_succ])
              refine wpAnyH_take (i := 12) (oi := { dst := some 39, op := Op.load 3 (Operand.tmp 38), type := 3, pos := "law.go:82", after := #[{ on := 11, ground := Ground.data }, { on := 7, ground := Ground.guard }], guard := some (7, true) }) (v := undef) rfl (by kernel_rfl) (by kernel_rfl) (by kernel_rfl) (fun _ _ _ h => h) (Or.inr ⟨by rfl, rfl⟩) hHeld ?_
              (try simp only [Act.put, List.setIfInBounds_toArray, List.set_cons_zero, List.set_cons_succ])
              refine wpAnyH_take (i := 13) (oi := { dst := some 40, op := Op.move (Operand.tmp 3), type := 38, pos := "law.go:82", after := #[{ on := 7, ground := Ground.guard }], guard := some (7, true) }) (v := undef) rfl (by kernel_rfl) (by kernel_rfl) (by kernel_rfl) (fun _ _ _ h => h) (Or.inr ⟨by rfl, rfl⟩) hHeld ?_
              (try simp only [Act.put, List.setIfInBounds_toArray, List.set_cons_zero, List.set_cons_succ])
              refine wpAnyH_take (i := 14) (oi := { dst := some 41, op := Op.move (Operand.tmp 4), type := 3, pos := "law.go:82", after := #[{ on := 7, ground := Ground.guard }], guard := some (7, true) }) (v := undef) rfl (by kernel_rfl) (by kernel_rfl) (by kernel_rfl) (fun _ _ _ h => h) (Or.inr ⟨by rfl, rfl⟩) hHeld ?_
              (try simp only [Act.put, List.setIfInBounds_toArray, List.set_cons_zero, List.set_cons_succ])
              refine wpAnyH_take (i := 15) (oi := { dst := some 42, op := Op.indexAddr 38 (Operand.tmp 40) (Operand.tmp 41), type := 0, pos := "law.go:82", after := #[{ on := 13, ground := Ground.data }, { on := 14, ground := Ground.data }, { on := 7, ground := Ground.guard }], guard := some (7, true) }) (v := undef) rfl (by kernel_rfl) (by kernel_rfl) (by kernel_rfl) (fun _ _ _ h => h) (Or.inr ⟨by rfl, rfl⟩) hHeld ?_
              (try simp only [Act.put, List.setIfInBounds_toArray, List.set_cons_zero, List.set_cons_succ])
              refine wpAnyH_take (i := 16) (oi := { dst := some 43, op := Op.load 3 (Operand.tmp 42), type := 3, pos := "law.go:82", after := #[{ on := 15, ground := Ground.data }, { on := 7, ground := Ground.guard }], guard := some (7, true) }) (v := undef) rfl (by kernel_rfl) (by kernel_rfl) (by kernel_rfl) (fun _ _ _ h => h) (Or.inr ⟨by rfl, rfl⟩) hHeld ?_
              (try simp only [Act.put, List.setIfInBounds_toArray, List.set_cons_zero, List.set_cons_succ])
              refine wpAnyH_take (i := 17) (oi := { dst := some 44, op := Op.binOp BinOp.eql 3 (Operand.tmp 39) (Operand.tmp 43) 3, type := 4, pos := "law.go:82", after := #[{ on := 12, ground := Ground.data }, { on := 16, ground := Ground.data }, { on := 7, ground := Ground.guard }], guard := some (7, true) }) (v := undef) rfl (by kernel_rfl) (by kernel_rfl) (by kernel_rfl) (fun _ _ _ h => h) (Or.inr ⟨by rfl, rfl⟩) hHeld ?_
              (try simp only [Act.put, List.setIfInBounds_toArray, List.set_cons_zero, List.set_cons_succ])
              refine wpAnyH_take (i := 18) (oi := { dst := some 45, op := Op.pick (Operand.tmp 34) (Operand.tmp 44) (Operand.const (Value.bool false)), type := 4, pos := "law.go:82", after := #[{ on := 7, ground := Ground.data }, { on := 17, ground := Ground.data }, { on := 1, ground := Ground.guard }], guard := some (1, false) }) (v := ?_) rfl (by kernel_rfl) (by kernel_rfl) (by kernel_rfl) (fun _ _ _ h => h) (Or.inl ⟨by rfl, ?hy⟩) hHeld ?_
              case hy => intro w0 hSw; (try dsimp only at hSw); go_simp; (try with_reducible rfl)
              (try simp only [Act.put, List.setIfInBounds_toArray, List.set_cons_zero, List.set_cons_succ])
              refine wpAnyH_take (i := 19) (oi := { dst := some 46, op := Op.pick (Operand.tmp 28) (Operand.const (Value.bool true)) (Operand.tmp 45), type := 4, pos := "law.go:82", after := #[{ on := 1, ground := Ground.data }, { on := 18, ground := Ground.data }], guard := none }) (v := ?_) rfl (by kernel_rfl) (by kernel_rfl) (by kernel_rfl) (fun _ _ _ h => h) (Or.inl ⟨by rfl, ?hy⟩) hHeld ?_
              case hy => intro w0 hSw; (try dsimp only at hSw); go_simp; (try with_reducible rfl)
              (try simp only [Act.put, List.setIfInBounds_toArray, List.set_cons_zero, List.set_cons_succ])
              refine wpAnyH_take (i := 20) (oi := { dst := some 5, op := Op.assign (Operand.tmp 46), type := 4, pos := "law.go:82", after := #[{ on := 19, ground := Ground.data }, { on := 7, ground := Ground.chain }, { on := 0, ground := Ground.phase }, { on := 1, ground := Ground.phase }, { on := 2, ground := Ground.phase }, { on := 3, ground := Ground.phase }, { on := 4, ground := Ground.phase }, { on := 5, ground := Ground.phase }, { on := 6, ground := Ground.phase }, { on := 7, ground := Ground.phase }, { on := 8, ground := Ground.phase }, { on := 9, ground := Ground.phase }, { on := 10, ground := Ground.phase }, { on := 11, ground := Ground.phase }, { on := 12, ground := Ground.phase }, { on := 13, ground := Ground.phase }, { on := 14, ground := Ground.phase }, { on := 15, ground := Ground.phase }, { on := 16, ground := Ground.phase }, { on := 17, ground := Ground.phase }, { on := 18, ground := Ground.phase }, { on := 19, ground := Ground.phase }], guard := none }) (v := ?_) rfl (by kernel_rfl) (by kernel_rfl) (by kernel_rfl) (fun _ _ _ h => h) (Or.inl ⟨by rfl, ?hy⟩) hHeld ?_
              case hy => intro w0 hSw; (try dsimp only at hSw); go_simp; (try with_reducible rfl)
              (try simp only [Act.put, List.setIfInBounds_toArray, List.set_cons_zero, List.set_cons_succ])
              refine wpAnyH_done (by kernel_rfl) ?_ _
              go_wp2
              go_roundw
              case rel => exact ⟨k + 1, by omega, by first | rfl | (rw [k5]; rfl), by rw [HX.out], hB⟩
              case measure => first | (rw [k5]; clear k5 j5; simp [intOf]; omega) | (simp only [intOf]; clear k5 j5; omega)
            · rw [hm] at h1 HX
              simp only [Bool.false_or, Bool.true_and] at HX
              clear hm
              go_wp2_with fail
              go_region_held3 (fun W => W.cell? ⟨bk, off + k * 2, none⟩ = some (.int .i64 x) ∧ W.cell? ⟨bk, off + k * 2 + 1, none⟩ = some (.int .i64 y) ∧ W.cell? ⟨bm, om + i, none⟩ = some (.int .i64 zi)) (exact ⟨hc0, hc1, hcm⟩) ((go_at_call 18; refine (h1 _).mono ?_; rintro e w' ⟨rfl, hB'⟩; first | (have hB2 := below_undrew hB'; clear hB'; replace hc0 := (hB2.cell (p := ⟨bk, off + k * 2, none⟩) (Nat.lt_of_lt_of_le hbk hB.size)).trans hc0; replace hc1 := (hB2.cell (p := ⟨bk, off + k * 2 + 1, none⟩) (Nat.lt_of_lt_of_le hbk hB.size)).trans hc1; replace hcm := (hB2.cell (p := ⟨bm, om + i, none⟩) (Nat.lt_of_lt_of_le hbm hB.size)).trans hcm; replace hB := below2 hB hB2; clear hB2) | (have hB2 := hB'; clear hB'; replace hc0 := (hB2.cell (p := ⟨bk, off + k * 2, none⟩) (Nat.lt_of_lt_of_le hbk hB.size)).trans hc0; replace hc1 := (hB2.cell (p := ⟨bk, off + k * 2 + 1, none⟩) (Nat.lt_of_lt_of_le hbk hB.size)).trans hc1; replace hcm := (hB2.cell (p := ⟨bm, om + i, none⟩) (Nat.lt_of_lt_of_le hbm hB.size)).trans hcm; replace hB := below2 hB hB2; clear hB2)))
              all_goals
                go_wp2
                go_roundw
                case rel => exact ⟨k + 1, by omega, by first | rfl | (rw [k5]; rfl), by rw [HX.out], hB⟩
                case measure => first | (rw [k5]; clear k5 j5; simp [intOf]; omega) | (simp only [intOf]; clear k5 j5; omega)
          · simp only [Bool.true_or] at HX
            clear h1
            go_wp2_with fail
            go_quiet (fail)
            go_wp2
            go_roundw
            case rel => exact ⟨k + 1, by omega, by first | rfl | (rw [k5]; rfl), by rw [HX.out], below_drew hB _⟩
            case measure => first | (rw [k5]; clear k5 j5; simp [intOf]; omega) | (simp only [intOf]; clear k5 j5; omega)
        · obtain rfl : k = ls.length := by omega
          rw [List.take_length]
          rw [Hz.out]
          clear hlk
          have hnext : ∀ q, Below w1.heap.size w1 (wr.drewN q) := fun q => below_drew hB q
          cases i with
          | zero =>
            have e1 : decide ((0 : Int) < ((0 : Nat) : Int)) = false := by decide
            have e2 : decide ((0 : Int) < 0) = false := by decide
            go_wp2_with fail
            go_quiet (fail)
            go_wp2
            go_roundw
            case rel => exact ⟨1, by omega, by first | rfl | (rw [j5]; rfl), hnext _⟩
            case measure => first | (rw [j5]; clear j5; simp [intOf]; omega) | (clear j5; simp [intOf]; omega)
          | succ j =>
            have hjl : j < zs.length := by omega
            obtain ⟨bm', om', heq, hbm', hcm'⟩ := HM.out j hjl
            have hsame : bm' = bm ∧ om' = om := by cases heq; exact ⟨rfl, rfl⟩
            obtain ⟨rfl, rfl⟩ := hsame
            obtain ⟨zj, hzj⟩ : ∃ z, z = zs[j] := ⟨_, rfl⟩
            rw [← hzj] at hcm'
            have hcj : wr.cell? ⟨bm', om' + j, none⟩ = some (.int .i64 zj) := (hB.cell (p := ⟨bm', om' + j, none⟩) hbm').trans hcm'
            have e1 : decide ((0 : Int) < ((j + 1 : Nat) : Int)) = true := decide_eq_true (by omega)
            have e2 : decide ((0 : Int) < (j : Int) + 1) = true := decide_eq_true (by omega)
            have e3 : decide (zi ≤ zj) = false := decide_eq_false (by have := HO.out.up j hlt; rw [← hzj, ← Hzi.out] at this; omega)
            have e4 : wrap64 (j : Int) = (j : Int) := by have := HO.out.len; clear j5; unfold wrap64; omega
            have e5 : wrap64 ((j : Int) + 1 - 1) = (j : Int) := by have := HO.out.len; clear j5 e4; unfold wrap64; omega
            have J6 : Hid (wrap64 ((j : Int) + 1 + 1) = (j : Int) + 1 + 1) := Lib.hid (by have := HO.out.len; clear j5 e4 e5; unfold wrap64; omega)
            have e6 : (0 : Int) ≤ (j : Int) := by omega
            have e7 : (j : Int) < (zs.length : Int) := by omega
            have e8 : (j : Int) + 1 < (zs.length : Int) := by omega
            have e9 : (0 : Int) ≤ (j : Int) + 1 := by omega
            have e10 : ((j : Int) + 1).toNat = j + 1 := by omega
            clear hzj hcm' heq
            go_wp2_with fail
            go_quiet (fail)
            go_wp2
            go_roundw
            case rel => exact ⟨j + 1 + 1, by omega, by rw [J6.out]; rfl, hnext _⟩
            case measure => rw [J6.out]; clear j5 J6 e4 e5; simp [intOf]; omega
    · have j0 : ¬ ((i : Int) < (zs.length : Int)) := by omega
      clear hlt hi
      go_wp2_with fail
      go_loopw [7] (fun z wr => ∃ k : Nat, k ≤ ls.length ∧ z = .int .i64 (k : Int) ∧ Below w1.heap.size w1 wr) (fun z _ => ls.length - (intOf z).toNat)
      case atStart => exact ⟨0, Nat.zero_le _, rfl, hB⟩
      case round =>
        clear hB
        obtain ⟨k, hk, rfl, hB⟩ := hrel
        by_cases hlk : k < ls.length
        · obtain ⟨bk, off, rfl, hbk, hc0, hc1⟩ := (HA1.out.below hB (Nat.le_refl _)) k hlk
          have k1 : (k : Int) < (ls.length : Int) := by omega
          have k3 : (0 : Int) ≤ (k : Int) := by omega
          have k5 : wrap64 ((k : Int) + 1) = (k : Int) + 1 := by have := Hl.out; unfold wrap64; omega
          obtain ⟨x, hx⟩ : ∃ x, x = ls[k].1 := ⟨_, rfl⟩
          obtain ⟨y, hy⟩ : ∃ y, y = ls[k].2 := ⟨_, rfl⟩
          rw [← hx] at hc0
          rw [← hy] at hc1
          have h1 := fun W => Is_any x y W
          have HX : Hid ((!Sp.may x y || Sp.inZ zs x) = true) := Lib.hid (by
            cases hm : Sp.may x y
            · rfl
            · rw [hx, HO.out.all k hlk (by rw [← hx, ← hy]; exact hm)]; rfl)
          clear hx hy
          obtain ⟨f, hf⟩ : ∃ f, f = Sp.may x y := ⟨_, rfl⟩
          rw [← hf] at HX h1
          clear hf
          go_wp2_with fail
          refine (h1 _).mono ?_
          rintro e w3 ⟨rfl, hB1⟩
          have hc2 : w3.cell? ⟨bk, off + k * 2, none⟩ = some (.int .i64 x) := (hB1.cell (p := ⟨bk, off + k * 2, none⟩) (Nat.lt_of_lt_of_le hbk hB.size)).trans hc0
          replace hB := below2 hB hB1
          clear h1 hB1 hc0 hc1
          go_wp2_with fail
          go_loopw [8, 9] (fun v z wr => ∃ (i q : Nat), i ≤ zs.length ∧ z = .int .i64 (i : Int) ∧ v = .bool (!f || Sp.inZ (zs.take i) x) ∧ wr = w3.drewN q) (fun _ z _ => zs.length - (intOf z).toNat)
          case atStart => exact ⟨0, 0, Nat.zero_le _, rfl, by simp [Sp.inZ], rfl⟩
          case round =>
            obtain ⟨i, q, hi, rfl, rfl, rfl⟩ := hrel
            by_cases hlt : i < zs.length
            · have j1 : (i : Int) < (zs.length : Int) := by omega
              have j3 : (0 : Int) ≤ (i : Int) := by omega
              have j5 : wrap64 ((i : Int) + 1) = (i : Int) + 1 := by have := HO.out.len; clear k5; unfold wrap64; omega
              obtain ⟨bm, om, rfl, hbm, hcm0⟩ := HM.out i hlt
              have hcm : w3.cell? ⟨bm, om + i, none⟩ = some (.int .i64 zs[i]) := (hB.cell (p := ⟨bm, om + i, none⟩) hbm).trans hcm0
              have HT : Hid ((!f || Sp.inZ (zs.take (i + 1)) x) = ((!f || Sp.inZ (zs.take i) x) || zs[i] == x)) := Lib.hid (by rw [Sp.inZ_take hlt, Bool.or_assoc])
              obtain ⟨zi, hzi⟩ : ∃ z, z = zs[i] := ⟨_, rfl⟩
              rw [← hzi] at hcm HT
              clear hzi hcm0
              obtain ⟨g, hg⟩ : ∃ g, g = (!f || Sp.inZ (zs.take i) x) := ⟨_, rfl⟩
              rw [← hg] at HT ⊢
              clear hg
              cases g
              · simp only [Bool.false_or] at HT
                go_wp2_with fail
                go_quiet (fail)
                go_wp2
                go_roundw
                case rel => exact ⟨i + 1, _, by omega, by first | rfl | (rw [j5]; rfl), by rw [HT.out], rfl⟩
                case measure => first | (rw [j5]; clear j5 k5; simp [intOf]; omega) | (clear j5 k5; simp [intOf]; omega)
              · simp only [Bool.true_or] at HT
                go_wp2_with fail
                go_quiet (fail)
                go_wp2
                go_roundw
                case rel => exact ⟨i + 1, _, by omega, by first | rfl | (rw [j5]; rfl), by rw [HT.out], rfl⟩
                case measure => first | (rw [j5]; clear j5 k5; simp [intOf]; omega) | (clear j5 k5; simp [intOf]; omega)
            · obtain rfl : i = zs.length := by omega
              rw [List.take_length, HX.out]
              clear hlt
              go_wp2
              go_roundw
              case rel => exact ⟨k + 1, by omega, by first | rfl | (rw [k5]; rfl), below_drew hB _⟩
              case measure => first | (rw [k5]; clear k5; simp [intOf]; omega) | (clear k5; simp [intOf]; omega)
        · have k0 : ¬ ((k : Int) < (ls.length : Int)) := by omega
          have hB9 := below2 hB0 hB
          have hS := spots_any wr (HE.out.below hB9)
          go_wp2_with fail
          refine hS.mono ?_
          rintro e w5 ⟨rfl, hB5⟩
          go_wp2
          go_ret
          exact ⟨rfl, below2 hB9 hB5⟩

theorem spotBeds_walk (A : Option Addr) (cap : Nat) (ls : List (Int × Int)) (w : World) (hE : Errs w) (hA : SpotsAt w w.heap.size A ls) (_hN : A = none → cap = 0) :
    Calls Tryd.prog 6 #[.slice A ls.length cap] w fun e w' => e = .returned (.bool true) ∧ Below w.heap.size w w' := by
  by_cases h2 : 100 < ls.length
  · have d2 : decide ((100 : Int) < (ls.length : Int)) = true := decide_eq_true (by omega)
    clear hA _hN h2 hE
    go_enter Tryd.func6, Tryd.ntmps6
    go_wp2
    go_ret
    exact ⟨rfl, Below.refl _ _⟩
  have d2 : decide ((100 : Int) < (ls.length : Int)) = false := decide_eq_false (by omega)
  exact beds_go A cap ls w (Lib.hid hE) (Lib.hid hA) (Lib.hid (by omega)) d2

end Go.Proofs.YtndpcnimebedcaaDoor
