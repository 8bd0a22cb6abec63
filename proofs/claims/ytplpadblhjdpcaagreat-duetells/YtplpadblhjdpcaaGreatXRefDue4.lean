/-
  Layer 9 (due), the reference: Order (printed by tools/gen-refdue4.py).
-/
import Derived.Test.YtplpadblhjdpcaaGreatXRefDue2
import Derived.Test.YtplpadblhjdpcaaGreatXDueSlice
import Derived.Deep.RegionHeld3
namespace Go.Proofs.YtplpadblhjdpcaaGreat
set_option maxRecDepth 10000
open Go.RowKit

theorem TrnsAt.one9 (w : World) (a0 a1 a2 a3 : Int) (t : TypeId) : TrnsAt (w.alloc (.cells #[.int .i64 a0, .int .i64 a1, .int .i64 a2, .int .i64 a3] t)) (w.alloc (.cells #[.int .i64 a0, .int .i64 a1, .int .i64 a2, .int .i64 a3] t)).heap.size (some ⟨w.heap.size, 0, none⟩) [⟨a0, a1, a2, a3⟩] := fun i hi => by
  obtain rfl : i = 0 := by simpa using hi
  have h : ∀ j v, (#[.int .i64 a0, .int .i64 a1, .int .i64 a2, .int .i64 a3] : Array Value)[j]? = some v → (w.alloc (.cells #[.int .i64 a0, .int .i64 a1, .int .i64 a2, .int .i64 a3] t)).cell? ⟨w.heap.size, j, none⟩ = some v := fun j v hj => by
    rw [cell_of_row _ w.heap.size j _ t (0, 0) (heap_alloc_new w _)]; exact hj
  exact ⟨w.heap.size, 0, rfl, by simp, ⟨h 0 _ rfl, h 1 _ rfl, h 2 _ rfl, h 3 _ rfl⟩⟩

/-- What holds ahead of each round of Sort. -/
def OrderRel (w : World) (ls : List Trn) (out i : Value) (wr : World) : Prop :=
  ∃ k : Nat, k ≤ ls.length ∧ i = .int .i64 (k : Int) ∧ OwnT wr w.heap.size out (Du.order (ls.take k)) ∧ Below w.heap.size w wr
/-- What holds ahead of each round of its inner loop. -/
def InsRel9 (w : World) (o : List Trn) (a : Trn) (i : Value) (wr : World) : Prop :=
  ∃ j : Nat, j ≤ o.length ∧ i = .int .i64 (j : Int) ∧ Below w.heap.size w wr ∧ ∀ n (h : n < o.length), n < j → Du.ahead a o[n] = false

set_option maxRecDepth 10000 in
set_option maxHeartbeats 4000000 in
theorem RTOrder_any (A : Option Addr) (cap : Nat) (ls : List Trn) (w : World) (hA : TrnsAt w w.heap.size A ls) (hl : ls.length ≤ 1000) :
    Calls Tryz.prog 18 #[.slice A ls.length cap] w (OwnedT w ls.length (Du.order ls)) := by
  have HA := Lib.hid hA
  have Hl := Lib.hid hl
  obtain ⟨m, hm⟩ : ∃ m, m = ls.length := ⟨_, rfl⟩
  have Hm := Lib.hid hm
  have i2 : (m : Int) ≤ 1000 := by omega
  rw [← hm]
  clear hA hl hm
  go_enter Tryz.func18, Tryz.ntmps18
  go_wp2_with fail
  go_loopw [3, 4] (fun out i wr => OrderRel w ls out i wr) (fun _ i _ => m - (intOf i).toNat)
  case atStart => exact ⟨0, Nat.zero_le _, rfl, OwnT.nil _ _, Below.refl _ _⟩
  case round =>
    obtain ⟨k, hk, rfl, hown, hB⟩ := hrel
    obtain ⟨wo, hwo⟩ : ∃ W, W = wr := ⟨_, rfl⟩
    subst hwo
    have HB := Lib.hid hB
    have HO := Lib.hid hown
    obtain ⟨A1, cap1, rfl, hA1, hn1, hc1⟩ := hown.slice
    obtain ⟨o, ho⟩ : ∃ o, o = Du.order (ls.take k) := ⟨_, rfl⟩
    have Ho := Lib.hid ho
    have Hol : Hid (o.length = k) := Lib.hid (by rw [ho, Du.order_len, List.length_take]; omega)
    rw [← ho] at HO hA1 hc1
    have Lo : Hid (k = o.length) := Lib.hid (by rw [ho, Du.order_len, List.length_take]; omega)
    rw [Du.order_len, List.length_take, Nat.min_eq_left hk] at *
    have HA1 := Lib.hid hA1
    have Hn1 := Lib.hid hn1
    have Hc1 : Hid (k ≤ cap1) := Lib.hid (by have := Lo.out; omega)
    clear hown hA1 hn1 hc1 ho hB
    by_cases hlt : k < m
    · have Hk := Lib.hid hlt
      have kl : k < ls.length := by rw [← Hm.out]; exact hlt
      obtain ⟨a, ha⟩ : ∃ a, a = ls[k] := ⟨_, rfl⟩
      have Hins : Hid (Du.order (ls.take (k + 1)) = Du.ins a o) := Lib.hid (by rw [Du.order_take_succ ls k kl, ← ha, ← Ho.out])
      obtain ⟨b0, o0, rfl, hb0, h6⟩ := HA.out k kl
      rw [← ha] at h6
      have H6 := Lib.hid (h6.below HB.out hb0)
      have Hb0 : Hid (b0 < wo.heap.size) := Lib.hid (Nat.lt_of_lt_of_le hb0 HB.out.size)
      have i1 : (k : Int) < (m : Int) := by omega
      have i0 : (0 : Int) ≤ (k : Int) := by omega
      have Iw : Hid (wrap64 ((k : Int) + 1) = (k : Int) + 1) := Lib.hid (by unfold wrap64; omega)
      clear ha h6 hb0 kl hk hlt
      go_wp2_with fail
      go_loopw [5] (fun i w' => InsRel9 wo o a i w') (fun i _ => o.length - (intOf i).toNat)
      case atStart => exact ⟨0, Nat.zero_le _, rfl, Below.refl _ _, fun _ _ h => absurd h (Nat.not_lt_zero _)⟩
      case round =>
        obtain ⟨j, hj, rfl, hBi, hle⟩ := hrel
        have HBi := Lib.hid hBi
        have Hle := Lib.hid hle
        have Hj := Lib.hid hj
        have H6i := Lib.hid (H6.out.below hBi Hb0.out)
        have HA1i := Lib.hid (HA1.out.below hBi (Nat.le_refl _))
        clear hBi hle
        by_cases hjl : j < o.length
        · obtain ⟨g, og, hg1, hg2, hg6⟩ := HA1i.out j hjl
          obtain ⟨y, hy⟩ : ∃ y, y = o[j] := ⟨_, rfl⟩
          rw [← hy] at hg6
          have Hy : Hid (∀ h : j < o.length, o[j] = y) := Lib.hid (fun _ => hy.symm)
          obtain ⟨y0, y1, y2, y3⟩ := y
          obtain ⟨x0, x1, x2, x3⟩ := a
          have gC := fun W => rtAhead x0 x1 x2 x3 y0 y1 y2 y3 W
          obtain ⟨z, hz⟩ : ∃ z, z = Du.ahead ⟨x0, x1, x2, x3⟩ ⟨y0, y1, y2, y3⟩ := ⟨_, rfl⟩
          have Hz := Lib.hid hz
          rw [← hz] at gC
          clear hz hy
          have Hjl := Lib.hid hjl
          have ij : (j : Int) < (k : Int) := by have := Lo.out; omega
          have ij0 : (0 : Int) ≤ (j : Int) := by omega
          have Ij : Hid (wrap64 ((j : Int) + 1) = (j : Int) + 1) := Lib.hid (by have := Lo.out; have := Hk.out; unfold wrap64; omega)
          have hyx := hg6
          have hxx := H6i.out
          have Hgl := Lib.hid hg2
          subst hg1
          clear hj hjl
          go_wp2_with fail
          refine wp_region_held_drew (S := (fun W : World => Tu4 W g (og + j * 4) ⟨y0, y1, y2, y3⟩ ∧ Tu4 W b0 (o0 + k * 4) ⟨x0, x1, x2, x3⟩)) (by kernel_rfl) ⟨⟨hyx.c0, hyx.c1, hyx.c2, hyx.c3⟩, ⟨hxx.c0, hxx.c1, hxx.c2, hxx.c3⟩⟩ (fun hHeld => ?_)
          refine wpAnyH_take (i := 0) (oi := { dst := some 13, op := Op.move (Operand.tmp 5), type := 3, pos := _, after := #[], guard := none }) (v := ?_) rfl (by kernel_rfl) (by kernel_rfl) (by kernel_rfl) (fun _ _ _ h => h) (Or.inl ⟨by rfl, ?hy⟩) hHeld ?_
          case hy => intro w0 hSw; (try dsimp only at hSw); go_simp; (try with_reducible rfl)
          (try simp only [Act.put, List.setIfInBounds_toArray, List.set_cons_zero, List.set_cons_succ])
          refine wpAnyH_take (i := 1) (oi := { dst := some 14, op := Op.move (Operand.tmp 3), type := 27, pos := _, after := #[], guard := none }) (v := ?_) rfl (by kernel_rfl) (by kernel_rfl) (by kernel_rfl) (fun _ _ _ h => h) (Or.inl ⟨by rfl, ?hy⟩) hHeld ?_
          case hy => intro w0 hSw; (try dsimp only at hSw); go_simp; (try with_reducible rfl)
          (try simp only [Act.put, List.setIfInBounds_toArray, List.set_cons_zero, List.set_cons_succ])
          refine wpAnyH_take (i := 2) (oi := { dst := some 15, op := Op.call { callee := Callee.builtin Builtin.len, args := #[Operand.tmp 14], argTypes := #[27] }, type := 3, pos := _, after := #[{ on := 1, ground := Ground.data }], guard := none }) (v := ?_) rfl (by kernel_rfl) (by kernel_rfl) (by kernel_rfl) (fun _ _ _ h => h) (Or.inl ⟨by rfl, ?hy⟩) hHeld ?_
          case hy => intro w0 hSw; (try dsimp only at hSw); go_simp; (try with_reducible rfl)
          (try simp only [Act.put, List.setIfInBounds_toArray, List.set_cons_zero, List.set_cons_succ])
          refine wpAnyH_take (i := 3) (oi := { dst := some 16, op := Op.binOp BinOp.lss 3 (Operand.tmp 13) (Operand.tmp 15) 3, type := 4, pos := _, after := #[{ on := 0, ground := Ground.data }, { on := 2, ground := Ground.data }], guard := none }) (v := ?_) rfl (by kernel_rfl) (by kernel_rfl) (by kernel_rfl) (fun _ _ _ h => h) (Or.inl ⟨by rfl, ?hy⟩) hHeld ?_
          case hy => intro w0 hSw; (try dsimp only at hSw); go_simp; (try with_reducible rfl)
          (try simp only [Act.put, List.setIfInBounds_toArray, List.set_cons_zero, List.set_cons_succ])
          refine wpAnyH_take (i := 4) (oi := { dst := some 17, op := Op.move (Operand.tmp 16), type := 4, pos := _, after := #[{ on := 3, ground := Ground.data }], guard := none }) (v := ?_) rfl (by kernel_rfl) (by kernel_rfl) (by kernel_rfl) (fun _ _ _ h => h) (Or.inl ⟨by rfl, ?hy⟩) hHeld ?_
          case hy => intro w0 hSw; (try dsimp only at hSw); go_simp; (try with_reducible rfl)
          (try simp only [Act.put, List.setIfInBounds_toArray, List.set_cons_zero, List.set_cons_succ])
          refine wpAnyH_take (i := 5) (oi := { dst := some 18, op := Op.move (Operand.tmp 0), type := 27, pos := _, after := #[{ on := 4, ground := Ground.guard }], guard := some (4, true) }) (v := ?_) rfl (by kernel_rfl) (by kernel_rfl) (by kernel_rfl) (fun _ _ _ h => h) (Or.inl ⟨by rfl, ?hy⟩) hHeld ?_
          case hy => intro w0 hSw; (try dsimp only at hSw); go_simp; (try with_reducible rfl)
          (try simp only [Act.put, List.setIfInBounds_toArray, List.set_cons_zero, List.set_cons_succ])
          refine wpAnyH_take (i := 6) (oi := { dst := some 19, op := Op.move (Operand.tmp 4), type := 3, pos := _, after := #[{ on := 4, ground := Ground.guard }], guard := some (4, true) }) (v := ?_) rfl (by kernel_rfl) (by kernel_rfl) (by kernel_rfl) (fun _ _ _ h => h) (Or.inl ⟨by rfl, ?hy⟩) hHeld ?_
          case hy => intro w0 hSw; (try dsimp only at hSw); go_simp; (try with_reducible rfl)
          (try simp only [Act.put, List.setIfInBounds_toArray, List.set_cons_zero, List.set_cons_succ])
          refine wpAnyH_take (i := 7) (oi := { dst := some 20, op := Op.indexAddr 27 (Operand.tmp 18) (Operand.tmp 19), type := 0, pos := _, after := #[{ on := 5, ground := Ground.data }, { on := 6, ground := Ground.data }, { on := 4, ground := Ground.guard }], guard := some (4, true) }) (v := ?_) rfl (by kernel_rfl) (by kernel_rfl) (by kernel_rfl) (fun _ _ _ h => h) (Or.inl ⟨by rfl, ?hy⟩) hHeld ?_
          case hy => intro w0 hSw; (try dsimp only at hSw); go_simp; (try with_reducible rfl)
          (try simp only [Act.put, List.setIfInBounds_toArray, List.set_cons_zero, List.set_cons_succ])
          refine wpAnyH_take (i := 8) (oi := { dst := some 21, op := Op.load 55 (Operand.tmp 20), type := 55, pos := _, after := #[{ on := 7, ground := Ground.data }, { on := 4, ground := Ground.guard }], guard := some (4, true) }) (v := ?_) rfl (by kernel_rfl) (by kernel_rfl) (by kernel_rfl) (fun _ _ _ h => h) (Or.inl ⟨by rfl, ?hy⟩) hHeld ?_
          case hy => intro w0 hSw; have q0 := hSw.2.c0; have q1 := hSw.2.c1; have q2 := hSw.2.c2; have q3 := hSw.2.c3; (try simp only at q0 q1 q2 q3); clear hSw; go_simp; (try with_reducible rfl)
          (try simp only [Act.put, List.setIfInBounds_toArray, List.set_cons_zero, List.set_cons_succ])
          refine wpAnyH_take (i := 9) (oi := { dst := some 22, op := Op.move (Operand.tmp 3), type := 27, pos := _, after := #[{ on := 4, ground := Ground.guard }], guard := some (4, true) }) (v := ?_) rfl (by kernel_rfl) (by kernel_rfl) (by kernel_rfl) (fun _ _ _ h => h) (Or.inl ⟨by rfl, ?hy⟩) hHeld ?_
          case hy => intro w0 hSw; (try dsimp only at hSw); go_simp; (try with_reducible rfl)
          (try simp only [Act.put, List.setIfInBounds_toArray, List.set_cons_zero, List.set_cons_succ])
          refine wpAnyH_take (i := 10) (oi := { dst := some 23, op := Op.move (Operand.tmp 5), type := 3, pos := _, after := #[{ on := 4, ground := Ground.guard }], guard := some (4, true) }) (v := ?_) rfl (by kernel_rfl) (by kernel_rfl) (by kernel_rfl) (fun _ _ _ h => h) (Or.inl ⟨by rfl, ?hy⟩) hHeld ?_
          case hy => intro w0 hSw; (try dsimp only at hSw); go_simp; (try with_reducible rfl)
          (try simp only [Act.put, List.setIfInBounds_toArray, List.set_cons_zero, List.set_cons_succ])
          refine wpAnyH_take (i := 11) (oi := { dst := some 24, op := Op.indexAddr 27 (Operand.tmp 22) (Operand.tmp 23), type := 0, pos := _, after := #[{ on := 9, ground := Ground.data }, { on := 10, ground := Ground.data }, { on := 4, ground := Ground.guard }], guard := some (4, true) }) (v := ?_) rfl (by kernel_rfl) (by kernel_rfl) (by kernel_rfl) (fun _ _ _ h => h) (Or.inl ⟨by rfl, ?hy⟩) hHeld ?_
          case hy => intro w0 hSw; (try dsimp only at hSw); go_simp; (try with_reducible rfl)
          (try simp only [Act.put, List.setIfInBounds_toArray, List.set_cons_zero, List.set_cons_succ])
          refine wpAnyH_take (i := 12) (oi := { dst := some 25, op := Op.load 55 (Operand.tmp 24), type := 55, pos := _, after := #[{ on := 11, ground := Ground.data }, { on := 4, ground := Ground.guard }], guard := some (4, true) }) (v := ?_) rfl (by kernel_rfl) (by kernel_rfl) (by kernel_rfl) (fun _ _ _ h => h) (Or.inl ⟨by rfl, ?hy⟩) hHeld ?_
          case hy => intro w0 hSw; have q0 := hSw.1.c0; have q1 := hSw.1.c1; have q2 := hSw.1.c2; have q3 := hSw.1.c3; (try simp only at q0 q1 q2 q3); clear hSw; go_simp; (try with_reducible rfl)
          (try simp only [Act.put, List.setIfInBounds_toArray, List.set_cons_zero, List.set_cons_succ])
          refine wpAnyH_ready (rs := [13]) (by kernel_rfl) (by simp) ?_
          refine AllReadyH.cons (o := { dst := some 26, op := Op.call { callee := Callee.value (Operand.func 40), args := #[Operand.tmp 21, Operand.tmp 25], argTypes := #[55, 55] }, type := 4, pos := _, after := #[{ on := 8, ground := Ground.data }, { on := 12, ground := Ground.data }, { on := 4, ground := Ground.chain }, { on := 4, ground := Ground.guard }], guard := some (4, true) }) rfl (fun K hK => ?_) AllReadyH.nil
          go_simp
          refine (gC _).mono ?_
          rintro e wx ⟨rfl, hB'⟩
          replace hyx := hyx.below (by first | exact below_undrew hB' | exact hB') (Nat.lt_of_lt_of_le Hgl.out HBi.out.size)
          replace hxx := hxx.below (by first | exact below_undrew hB' | exact hB') (Nat.lt_of_lt_of_le Hb0.out HBi.out.size)
          have hBx : Below wo.heap.size wo wx := below2 HBi.out (by first | exact below_undrew hB' | exact hB')
          clear hB' gC
          go_wp2_with fail
          refine hK.out _ _ ⟨⟨hyx.c0, hyx.c1, hyx.c2, hyx.c3⟩, ⟨hxx.c0, hxx.c1, hxx.c2, hxx.c3⟩⟩ (fun hHeld => ?_)
          clear hK K
          (try simp only [Act.put, List.setIfInBounds_toArray, List.set_cons_zero, List.set_cons_succ])
          refine wpAnyH_take (i := 14) (oi := { dst := some 27, op := Op.unOp UnOp.not 4 (Operand.tmp 26), type := 4, pos := _, after := #[{ on := 13, ground := Ground.data }, { on := 4, ground := Ground.guard }], guard := some (4, true) }) (v := ?_) rfl (by kernel_rfl) (by kernel_rfl) (by kernel_rfl) (fun _ _ _ h => h) (Or.inl ⟨by rfl, ?hy⟩) hHeld ?_
          case hy => intro w0 hSw; (try dsimp only at hSw); go_simp; (try with_reducible rfl)
          (try simp only [Act.put, List.setIfInBounds_toArray, List.set_cons_zero, List.set_cons_succ])
          refine wpAnyH_take (i := 15) (oi := { dst := some 28, op := Op.pick (Operand.tmp 17) (Operand.tmp 27) (Operand.const (Value.bool false)), type := 4, pos := _, after := #[{ on := 4, ground := Ground.data }, { on := 14, ground := Ground.data }], guard := none }) (v := ?_) rfl (by kernel_rfl) (by kernel_rfl) (by kernel_rfl) (fun _ _ _ h => h) (Or.inl ⟨by rfl, ?hy⟩) hHeld ?_
          case hy => intro w0 hSw; (try dsimp only at hSw); go_simp; (try with_reducible rfl)
          (try simp only [Act.put, List.setIfInBounds_toArray, List.set_cons_zero, List.set_cons_succ])
          refine wpAnyH_done (by kernel_rfl) ?_ _
          clear hHeld
          have HBw0 := Lib.hid hBx
          clear hyx hxx hBx
          cases z
          · (try simp only [Bool.not_false])
            have Hc : Hid (Du.ahead ⟨x0, x1, x2, x3⟩ ⟨y0, y1, y2, y3⟩ = false) := Lib.hid Hz.out.symm
            go_wp2
            go_roundw
            case rel =>
              refine ⟨j + 1, Hjl.out, by first | rfl | (rw [Ij.out]; rfl), HBw0.out, fun n hn hnj => ?_⟩
              rcases Nat.lt_or_ge n j with h1 | h1
              · exact Hle.out n hn h1
              · obtain rfl : n = j := by omega
                rw [Hy.out hn]
                exact Hc.out
            case measure => have := Hjl.out; (try rw [Ij.out]); simp [intOf]; omega
          · (try simp only [Bool.not_true])
            have HI : Hid (Du.ins ⟨x0, x1, x2, x3⟩ o = o.take j ++ [⟨x0, x1, x2, x3⟩] ++ o.drop j) := Lib.hid (Du.ins_at _ o j Hj.out Hle.out (fun h => by rw [Hy.out h, ← Hz.out]))
            obtain ⟨wi, hwi⟩ : ∃ W, W = wx := ⟨_, rfl⟩
            subst hwi
            have HBw := Lib.hid HBw0.out
            have Hsz : Hid (wo.heap.size ≤ wi.heap.size) := Lib.hid HBw.out.size
            have HAw := Lib.hid ((HA1.out.below HBw.out (Nat.le_refl _)).more Hsz.out)
            have H6w := Lib.hid (H6.out.below HBw.out Hb0.out)
            have Hb0w : Hid (b0 < wi.heap.size) := Lib.hid (Nat.lt_of_lt_of_le Hb0.out Hsz.out)
            have Hok : Hid (o.length ≤ 1000) := Lib.hid (by have := Lo.out; have := Hk.out; have := Hm.out; have := Hl.out; omega)
            clear HBw0
            go_wp2_with (first
              | (refine wpList_slice_to4 rfl _ _ rfl _ _ _ j wi.heap.size o rfl rfl HAw.out Hn1.out Hc1.out Lo.out (by have := Hj.out; have := Lo.out; omega) ?_; intro A2 hA2 hn2; have HA2 := Lib.hid hA2; have Hn2 := Lib.hid hn2; clear hA2 hn2)
              | (refine wpList_slice_from4 rfl _ _ rfl _ _ _ j wi.heap.size o rfl rfl HAw2.out Hn1.out Hc1.out Lo.out (by have := Hj.out; have := Lo.out; omega) ?_; intro A3 hA3 hn3; have HA3 := Lib.hid hA3; have Hn3 := Lib.hid hn3; clear hA3 hn3)
              | (at_builtin; refine wpList_append_trns rfl _ _ 27 rfl Tryz.underlying27 wi.heap.size _ _ (o.drop j) rfl Own2.out A3 _ _ rfl (by rw [List.length_drop, ← Lo.out]) (HA3.out.more HB2.out.size) Hn3.out HB2.out.size (by have := Hok.out; simp; omega) ?_; intro v3 w3 hown3 hgrow3; have Own3 := Lib.hid hown3; have HB3 : Hid (Below wi.heap.size wi w3) := Lib.hid (HB2.out.grown hgrow3 HB2.out.size Own2.out.ge); clear hown3 hgrow3)
              | (at_builtin; refine wpList_append_trns rfl _ _ 27 rfl Tryz.underlying27 wi.heap.size _ (o.take j) [(⟨x0, x1, x2, x3⟩ : Trn)] rfl OwN.out (some ⟨w1.heap.size, 0, none⟩) 1 _ rfl rfl ON.out (fun e => nomatch e) HBN.out.size (by have := Hok.out; simp; omega) ?_; intro v2 w2 hown2 hgrow2; have Own2 := Lib.hid hown2; have HB2 : Hid (Below wi.heap.size wi w2) := Lib.hid (HBN.out.grown hgrow2 HBN.out.size OwN.out.ge); have HAw2 := Lib.hid (HAw.out.below HB2.out (Nat.le_refl _)); clear hown2 hgrow2 q0 q1 q2 q3)
              | (at_builtin; refine wpList_append_trns rfl _ _ 27 rfl Tryz.underlying27 wi.heap.size _ [] (o.take j) rfl (OwnT.nil _ _) A2 _ _ rfl (by have := Hj.out; rw [List.length_take]; omega) HA2.out Hn2.out (Nat.le_refl _) (by have := Hok.out; simp; omega) ?_; intro v1 w1 hown1 hgrow1; rw [List.nil_append] at hown1; have Own1 := Lib.hid hown1; have HB1 : Hid (Below wi.heap.size wi w1) := Lib.hid ((Below.refl _ wi).grown hgrow1 (Nat.le_refl _) (fun k hk => by cases hk)); have h6w := H6w.out.below HB1.out Hb0w.out; have q0 := h6w.c0; have q1 := h6w.c1; have q2 := h6w.c2; have q3 := h6w.c3; (try simp only at q0 q1 q2 q3); have HN := Lib.hid (below_new w1 (.cells #[.int .i64 x0, .int .i64 x1, .int .i64 x2, .int .i64 x3] 55)); have OwN := Lib.hid (Own1.out.below HN.out); have ON := Lib.hid (TrnsAt.one9 w1 x0 x1 x2 x3 55); have HBN := Lib.hid (below2 HB1.out HN.out); clear hown1 hgrow1 h6w))
            go_roundw
            case rel => exact ⟨k + 1, by have := Hk.out; have := Hm.out; omega, by first | rfl | (rw [Iw.out]; rfl), by rw [Hins.out, HI.out]; exact Own3.out.lower (Nat.le_trans HB.out.size Hsz.out), below2 HB.out (below2 HBw.out HB3.out)⟩
            case measure => have := Hk.out; (try rw [Iw.out]); simp [intOf]; omega
        · have hjk : j = k := by have := Lo.out; omega
          have HI : Hid (Du.ins a o = o.take j ++ [a] ++ o.drop j) := Lib.hid (Du.ins_at _ o j Hj.out Hle.out (fun h => absurd h hjl))
          obtain ⟨x0, x1, x2, x3⟩ := a
          have ij : ((j : Int) < (k : Int)) = False := eq_false (by omega)
          have Hwr := HBi
          clear hj hjl hjk
          go_wp2_with fail
          refine wp_region_held_drew (S := (fun _ : World => True)) (by kernel_rfl) trivial (fun hHeld => ?_)
          refine wpAnyH_take (i := 0) (oi := { dst := some 13, op := Op.move (Operand.tmp 5), type := 3, pos := _, after := #[], guard := none }) (v := ?_) rfl (by kernel_rfl) (by kernel_rfl) (by kernel_rfl) (fun _ _ _ h => h) (Or.inl ⟨by rfl, ?hy⟩) hHeld ?_
          case hy => intro w0 hSw; (try dsimp only at hSw); go_simp; (try with_reducible rfl)
          (try simp only [Act.put, List.setIfInBounds_toArray, List.set_cons_zero, List.set_cons_succ])
          refine wpAnyH_take (i := 1) (oi := { dst := some 14, op := Op.move (Operand.tmp 3), type := 27, pos := _, after := #[], guard := none }) (v := ?_) rfl (by kernel_rfl) (by kernel_rfl) (by kernel_rfl) (fun _ _ _ h => h) (Or.inl ⟨by rfl, ?hy⟩) hHeld ?_
          case hy => intro w0 hSw; (try dsimp only at hSw); go_simp; (try with_reducible rfl)
          (try simp only [Act.put, List.setIfInBounds_toArray, List.set_cons_zero, List.set_cons_succ])
          refine wpAnyH_take (i := 2) (oi := { dst := some 15, op := Op.call { callee := Callee.builtin Builtin.len, args := #[Operand.tmp 14], argTypes := #[27] }, type := 3, pos := _, after := #[{ on := 1, ground := Ground.data }], guard := none }) (v := ?_) rfl (by kernel_rfl) (by kernel_rfl) (by kernel_rfl) (fun _ _ _ h => h) (Or.inl ⟨by rfl, ?hy⟩) hHeld ?_
          case hy => intro w0 hSw; (try dsimp only at hSw); go_simp; (try with_reducible rfl)
          (try simp only [Act.put, List.setIfInBounds_toArray, List.set_cons_zero, List.set_cons_succ])
          refine wpAnyH_take (i := 3) (oi := { dst := some 16, op := Op.binOp BinOp.lss 3 (Operand.tmp 13) (Operand.tmp 15) 3, type := 4, pos := _, after := #[{ on := 0, ground := Ground.data }, { on := 2, ground := Ground.data }], guard := none }) (v := ?_) rfl (by kernel_rfl) (by kernel_rfl) (by kernel_rfl) (fun _ _ _ h => h) (Or.inl ⟨by rfl, ?hy⟩) hHeld ?_
          case hy => intro w0 hSw; (try dsimp only at hSw); go_simp; (try with_reducible rfl)
          (try simp only [Act.put, List.setIfInBounds_toArray, List.set_cons_zero, List.set_cons_succ])
          refine wpAnyH_take (i := 4) (oi := { dst := some 17, op := Op.move (Operand.tmp 16), type := 4, pos := _, after := #[{ on := 3, ground := Ground.data }], guard := none }) (v := ?_) rfl (by kernel_rfl) (by kernel_rfl) (by kernel_rfl) (fun _ _ _ h => h) (Or.inl ⟨by rfl, ?hy⟩) hHeld ?_
          case hy => intro w0 hSw; (try dsimp only at hSw); go_simp; (try with_reducible rfl)
          (try simp only [Act.put, List.setIfInBounds_toArray, List.set_cons_zero, List.set_cons_succ])
          refine wpAnyH_take (i := 5) (oi := { dst := some 18, op := Op.move (Operand.tmp 0), type := 27, pos := _, after := #[{ on := 4, ground := Ground.guard }], guard := some (4, true) }) (v := undef) rfl (by kernel_rfl) (by kernel_rfl) (by kernel_rfl) (fun _ _ _ h => h) (Or.inr ⟨by rfl, rfl⟩) hHeld ?_
          (try simp only [Act.put, List.setIfInBounds_toArray, List.set_cons_zero, List.set_cons_succ])
          refine wpAnyH_take (i := 6) (oi := { dst := some 19, op := Op.move (Operand.tmp 4), type := 3, pos := _, after := #[{ on := 4, ground := Ground.guard }], guard := some (4, true) }) (v := undef) rfl (by kernel_rfl) (by kernel_rfl) (by kernel_rfl) (fun _ _ _ h => h) (Or.inr ⟨by rfl, rfl⟩) hHeld ?_
          (try simp only [Act.put, List.setIfInBounds_toArray, List.set_cons_zero, List.set_cons_succ])
          refine wpAnyH_take (i := 7) (oi := { dst := some 20, op := Op.indexAddr 27 (Operand.tmp 18) (Operand.tmp 19), type := 0, pos := _, after := #[{ on := 5, ground := Ground.data }, { on := 6, ground := Ground.data }, { on := 4, ground := Ground.guard }], guard := some (4, true) }) (v := undef) rfl (by kernel_rfl) (by kernel_rfl) (by kernel_rfl) (fun _ _ _ h => h) (Or.inr ⟨by rfl, rfl⟩) hHeld ?_
          (try simp only [Act.put, List.setIfInBounds_toArray, List.set_cons_zero, List.set_cons_succ])
          refine wpAnyH_take (i := 8) (oi := { dst := some 21, op := Op.load 55 (Operand.tmp 20), type := 55, pos := _, after := #[{ on := 7, ground := Ground.data }, { on := 4, ground := Ground.guard }], guard := some (4, true) }) (v := undef) rfl (by kernel_rfl) (by kernel_rfl) (by kernel_rfl) (fun _ _ _ h => h) (Or.inr ⟨by rfl, rfl⟩) hHeld ?_
          (try simp only [Act.put, List.setIfInBounds_toArray, List.set_cons_zero, List.set_cons_succ])
          refine wpAnyH_take (i := 9) (oi := { dst := some 22, op := Op.move (Operand.tmp 3), type := 27, pos := _, after := #[{ on := 4, ground := Ground.guard }], guard := some (4, true) }) (v := undef) rfl (by kernel_rfl) (by kernel_rfl) (by kernel_rfl) (fun _ _ _ h => h) (Or.inr ⟨by rfl, rfl⟩) hHeld ?_
          (try simp only [Act.put, List.setIfInBounds_toArray, List.set_cons_zero, List.set_cons_succ])
          refine wpAnyH_take (i := 10) (oi := { dst := some 23, op := Op.move (Operand.tmp 5), type := 3, pos := _, after := #[{ on := 4, ground := Ground.guard }], guard := some (4, true) }) (v := undef) rfl (by kernel_rfl) (by kernel_rfl) (by kernel_rfl) (fun _ _ _ h => h) (Or.inr ⟨by rfl, rfl⟩) hHeld ?_
          (try simp only [Act.put, List.setIfInBounds_toArray, List.set_cons_zero, List.set_cons_succ])
          refine wpAnyH_take (i := 11) (oi := { dst := some 24, op := Op.indexAddr 27 (Operand.tmp 22) (Operand.tmp 23), type := 0, pos := _, after := #[{ on := 9, ground := Ground.data }, { on := 10, ground := Ground.data }, { on := 4, ground := Ground.guard }], guard := some (4, true) }) (v := undef) rfl (by kernel_rfl) (by kernel_rfl) (by kernel_rfl) (fun _ _ _ h => h) (Or.inr ⟨by rfl, rfl⟩) hHeld ?_
          (try simp only [Act.put, List.setIfInBounds_toArray, List.set_cons_zero, List.set_cons_succ])
          refine wpAnyH_take (i := 12) (oi := { dst := some 25, op := Op.load 55 (Operand.tmp 24), type := 55, pos := _, after := #[{ on := 11, ground := Ground.data }, { on := 4, ground := Ground.guard }], guard := some (4, true) }) (v := undef) rfl (by kernel_rfl) (by kernel_rfl) (by kernel_rfl) (fun _ _ _ h => h) (Or.inr ⟨by rfl, rfl⟩) hHeld ?_
          (try simp only [Act.put, List.setIfInBounds_toArray, List.set_cons_zero, List.set_cons_succ])
          refine wpAnyH_take (i := 13) (oi := { dst := some 26, op := Op.call { callee := Callee.value (Operand.func 40), args := #[Operand.tmp 21, Operand.tmp 25], argTypes := #[55, 55] }, type := 4, pos := _, after := #[{ on := 8, ground := Ground.data }, { on := 12, ground := Ground.data }, { on := 4, ground := Ground.chain }, { on := 4, ground := Ground.guard }], guard := some (4, true) }) (v := undef) rfl (by kernel_rfl) (by kernel_rfl) (by kernel_rfl) (fun _ _ _ h => h) (Or.inr ⟨by rfl, rfl⟩) hHeld ?_
          (try simp only [Act.put, List.setIfInBounds_toArray, List.set_cons_zero, List.set_cons_succ])
          refine wpAnyH_take (i := 14) (oi := { dst := some 27, op := Op.unOp UnOp.not 4 (Operand.tmp 26), type := 4, pos := _, after := #[{ on := 13, ground := Ground.data }, { on := 4, ground := Ground.guard }], guard := some (4, true) }) (v := undef) rfl (by kernel_rfl) (by kernel_rfl) (by kernel_rfl) (fun _ _ _ h => h) (Or.inr ⟨by rfl, rfl⟩) hHeld ?_
          (try simp only [Act.put, List.setIfInBounds_toArray, List.set_cons_zero, List.set_cons_succ])
          refine wpAnyH_take (i := 15) (oi := { dst := some 28, op := Op.pick (Operand.tmp 17) (Operand.tmp 27) (Operand.const (Value.bool false)), type := 4, pos := _, after := #[{ on := 4, ground := Ground.data }, { on := 14, ground := Ground.data }], guard := none }) (v := ?_) rfl (by kernel_rfl) (by kernel_rfl) (by kernel_rfl) (fun _ _ _ h => h) (Or.inl ⟨by rfl, ?hy⟩) hHeld ?_
          case hy => intro w0 hSw; (try dsimp only at hSw); go_simp; (try with_reducible rfl)
          (try simp only [Act.put, List.setIfInBounds_toArray, List.set_cons_zero, List.set_cons_succ])
          refine wpAnyH_done (by kernel_rfl) ?_ _
          clear hHeld
          obtain ⟨wi, hwi⟩ : ∃ W, W = wr.drew := ⟨_, rfl⟩
          have hBx : Below wo.heap.size wo wi := by rw [hwi]; have h := Hwr.out; exact ⟨h.os, h.tape, h.output, h.size, h.block⟩
          rw [← hwi]
          clear hwi
          have HBw := Lib.hid hBx
          have Hsz : Hid (wo.heap.size ≤ wi.heap.size) := Lib.hid HBw.out.size
          have HAw := Lib.hid ((HA1.out.below HBw.out (Nat.le_refl _)).more Hsz.out)
          have H6w := Lib.hid (H6.out.below HBw.out Hb0.out)
          have Hb0w : Hid (b0 < wi.heap.size) := Lib.hid (Nat.lt_of_lt_of_le Hb0.out Hsz.out)
          have Hok : Hid (o.length ≤ 1000) := Lib.hid (by have := Lo.out; have := Hk.out; have := Hm.out; have := Hl.out; omega)
          clear hBx
          go_wp2_with (first
            | (refine wpList_slice_to4 rfl _ _ rfl _ _ _ j wi.heap.size o rfl rfl HAw.out Hn1.out Hc1.out Lo.out (by have := Hj.out; have := Lo.out; omega) ?_; intro A2 hA2 hn2; have HA2 := Lib.hid hA2; have Hn2 := Lib.hid hn2; clear hA2 hn2)
            | (refine wpList_slice_from4 rfl _ _ rfl _ _ _ j wi.heap.size o rfl rfl HAw2.out Hn1.out Hc1.out Lo.out (by have := Hj.out; have := Lo.out; omega) ?_; intro A3 hA3 hn3; have HA3 := Lib.hid hA3; have Hn3 := Lib.hid hn3; clear hA3 hn3)
            | (at_builtin; refine wpList_append_trns rfl _ _ 27 rfl Tryz.underlying27 wi.heap.size _ _ (o.drop j) rfl Own2.out A3 _ _ rfl (by rw [List.length_drop, ← Lo.out]) (HA3.out.more HB2.out.size) Hn3.out HB2.out.size (by have := Hok.out; simp; omega) ?_; intro v3 w3 hown3 hgrow3; have Own3 := Lib.hid hown3; have HB3 : Hid (Below wi.heap.size wi w3) := Lib.hid (HB2.out.grown hgrow3 HB2.out.size Own2.out.ge); clear hown3 hgrow3)
            | (at_builtin; refine wpList_append_trns rfl _ _ 27 rfl Tryz.underlying27 wi.heap.size _ (o.take j) [(⟨x0, x1, x2, x3⟩ : Trn)] rfl OwN.out (some ⟨w1.heap.size, 0, none⟩) 1 _ rfl rfl ON.out (fun e => nomatch e) HBN.out.size (by have := Hok.out; simp; omega) ?_; intro v2 w2 hown2 hgrow2; have Own2 := Lib.hid hown2; have HB2 : Hid (Below wi.heap.size wi w2) := Lib.hid (HBN.out.grown hgrow2 HBN.out.size OwN.out.ge); have HAw2 := Lib.hid (HAw.out.below HB2.out (Nat.le_refl _)); clear hown2 hgrow2 q0 q1 q2 q3)
            | (at_builtin; refine wpList_append_trns rfl _ _ 27 rfl Tryz.underlying27 wi.heap.size _ [] (o.take j) rfl (OwnT.nil _ _) A2 _ _ rfl (by have := Hj.out; rw [List.length_take]; omega) HA2.out Hn2.out (Nat.le_refl _) (by have := Hok.out; simp; omega) ?_; intro v1 w1 hown1 hgrow1; rw [List.nil_append] at hown1; have Own1 := Lib.hid hown1; have HB1 : Hid (Below wi.heap.size wi w1) := Lib.hid ((Below.refl _ wi).grown hgrow1 (Nat.le_refl _) (fun k hk => by cases hk)); have h6w := H6w.out.below HB1.out Hb0w.out; have q0 := h6w.c0; have q1 := h6w.c1; have q2 := h6w.c2; have q3 := h6w.c3; (try simp only at q0 q1 q2 q3); have HN := Lib.hid (below_new w1 (.cells #[.int .i64 x0, .int .i64 x1, .int .i64 x2, .int .i64 x3] 55)); have OwN := Lib.hid (Own1.out.below HN.out); have ON := Lib.hid (TrnsAt.one9 w1 x0 x1 x2 x3 55); have HBN := Lib.hid (below2 HB1.out HN.out); clear hown1 hgrow1 h6w))
          go_roundw
          case rel => exact ⟨k + 1, by have := Hk.out; have := Hm.out; omega, by first | rfl | (rw [Iw.out]; rfl), by rw [Hins.out, HI.out]; exact Own3.out.lower (Nat.le_trans HB.out.size Hsz.out), below2 HB.out (below2 HBw.out HB3.out)⟩
          case measure => have := Hk.out; (try rw [Iw.out]); simp [intOf]; omega
    · have Hkm : Hid (k = ls.length) := Lib.hid (by have := Hm.out; omega)
      have ik : ((k : Int) < (m : Int)) = False := eq_false (by omega)
      clear hk hlt
      go_wp2
      go_ret
      have hkm : m = k := by have := Hkm.out; have := Hm.out; omega
      subst hkm
      refine ⟨_, _, rfl, ?_, HB.out⟩
      have h := HO.out
      rw [← Lo.out] at h
      have e : o = Du.order ls := by rw [Ho.out, Hkm.out, List.take_length]
      rw [← e]
      exact h
end Go.Proofs.YtplpadblhjdpcaaGreat
