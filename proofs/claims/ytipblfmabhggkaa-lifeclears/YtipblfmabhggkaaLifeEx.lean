/-
  Layer 5 (life): the walk of explore.
-/
import Derived.Test.YtipblfmabhggkaaLifeExM
import Derived.Test.YtipblfmabhggkaaShelf
import Derived.Deep.RegionHeld3
import Derived.Deep.Cut
import Derived.BigQuiet
import Derived.IntWalk
import Derived.Deep.QuietTactic
namespace Go.Proofs.Ytipblfmabhggkaa
open Go.RowKit

theorem exec_load_row {P : Program} {o : Oper} {a : Act} {w : World} (ty : TypeId) (x : Operand) (ho : o.op = .load ty x)
    (g : Nat) (hx : a.eval x = .pointer (some ⟨g, 0, none⟩)) (t : TypeId) (cs : Array Value) (fr : Nat × Nat) (d : TypeDesc) (hg : w.heap[g]? = some (.cells cs t fr))
    (hu : P.underlying ty = some d) (hd : (match d with | .struct _ | .array _ _ => true | _ => false) = true) (hi : (P.info? ty).map (·.size) = some cs.size) :
    (execOp a.eval o).run P w = .ok (.value (.agg cs)) w := by
  unfold execOp
  simp only [ho, hx, Instr.loadAt, Instr.sureAddr, Sem.run_bind, Sem.run_pure, Result.andThen_ok, run_loadVar_row w g t ty cs fr d hg hu hd hi]

/-- One round of explore's inner loop: the numbers. -/
theorem know_turn {f : Int} {k j : Nat} (hj : j < 6) {q d p : Int} (hq : q = (Lf.know f (6 * k + j)).1.getD k 0) (hd : d = (j : Int) + 1) (hp : p = Lf.nx q d) :
    (Lf.ok q d = true → (Lf.know f (6 * k + j)).1.contains p = false → Lf.know f (6 * k + (j + 1)) = ((Lf.know f (6 * k + j)).1 ++ [p], (Lf.know f (6 * k + j)).2.set p.toNat (q, d))) ∧
    (Lf.ok q d = false → Lf.know f (6 * k + (j + 1)) = Lf.know f (6 * k + j)) ∧
    ((Lf.know f (6 * k + j)).1.contains p = true → Lf.know f (6 * k + (j + 1)) = Lf.know f (6 * k + j)) := by
  subst hq hd hp
  rw [Lf.know_step hj]
  unfold Lf.tryD
  refine ⟨fun h1 h2 => ?_, fun h1 => ?_, fun h1 => ?_⟩
  · rw [h1, h2]; rfl
  · rw [h1]; rfl
  · rw [h1]; simp

theorem holds_row {w : World} {base : Nat} {v : Value} {zs : List Int} {g cap : Nat} (ho : w.ownsRow base 3 1 v zs.length (zs.map (Value.int .i64))) (hv : v = .slice (some ⟨g, 0, none⟩) zs.length cap) : ∀ j, j < zs.length → w.cell? ⟨g, 0 + j, none⟩ = some (.int .i64 (zs.getD j 0)) := by
  subst hv
  intro j hj
  obtain ⟨b, off, e, _, hc⟩ := IntsAt.of_own ho j hj
  cases e
  rw [hc]; simp [List.getD, List.getElem?_eq_getElem hj]

theorem ownsRow_some {w : World} {base n : Nat} {e : TypeId} {size : Nat} {v : Value} {xs : List Value} (h : w.ownsRow base e size v n xs) (hn : 1 ≤ n) : ∃ g cap, v = .slice (some ⟨g, 0, none⟩) n cap := by
  rcases h.2 with ⟨_, h0⟩ | ⟨g, cap, cur, hv, _⟩
  · omega
  · exact ⟨g, cap, hv⟩

theorem Try.infoI3 : (Try.prog.info? 3).map (fun i => (i.zero, i.size, i.bytes)) = some (some (.int .i64 0), 1, 8) := by kernel_rfl

set_option maxRecDepth 10000 in
set_option maxHeartbeats 4000000 in
theorem explore_any (f : Int) (hf : Lf.isP f = true) (w : World) :
    Calls Try.prog 24 #[.int .i64 f] w fun e w' => ∃ v, e = .returned (.agg (trV f v (Lf.know f 30).2)) ∧ w'.ownsRow w.heap.size 3 1 v 5 ((Lf.know f 30).1.map (Value.int .i64)) ∧ Below w.heap.size w w' := by
  have H0 := Lib.hid (ex0_rel w f)
  have HS := Lib.hid (ex0_size w f)
  have HF := Lib.hid hf
  clear hf
  go_enter Try.func24, Try.ntmps24
  go_wp2_with fail
  refine (all_any (ex0 w f)).mono ?_
  rintro e w1 ⟨rfl, rfl⟩
  obtain ⟨W3, hW3⟩ : ∃ W, W = ex0 w f := ⟨_, rfl⟩
  rw [← hW3] at H0 HS ⊢
  clear hW3
  go_wp2_with (refine wpList_store_row rfl 43 _ _ rfl (W3.heap.size + 1) tabV rfl rfl 43 _ (heap_alloc2_new _ _ _) (by kernel_rfl) (by kernel_rfl) (by kernel_rfl) ?_; rw [setRow_alloc2_new])
  obtain ⟨W5, hW5⟩ : ∃ W, W = (W3.alloc (.cells tabV 43)).alloc (.cells tabV 43) := ⟨_, rfl⟩
  rw [← hW5] at H0 ⊢
  clear hW5
  obtain ⟨T, hT⟩ : ∃ T, T = W3.heap.size + 1 := ⟨_, rfl⟩
  rw [← hT] at H0 ⊢
  have HT : Hid (T = w.heap.size + 4) := Lib.hid (by rw [hT, HS.out])
  obtain ⟨B, hB2⟩ : ∃ B, B = w.heap.size + 1 + 1 := ⟨_, rfl⟩
  rw [show w.heap.size + 2 = w.heap.size + 1 + 1 by omega, ← hB2] at H0
  rw [← hB2]
  have HBT : Hid (B = w.heap.size + 2) := Lib.hid (by omega)
  clear hT HS hB2
  obtain ⟨i0, hi, hz0, hz1, hz2⟩ := info_parts Try.infoI3
  go_loopw [5] (fun i wr => ∃ k : Nat, k ≤ 5 ∧ i = .int .i64 (k : Int) ∧ ExRel w f w.heap.size B T (6 * k) wr) (fun i _ => 5 - (intOf i).toNat)
  case atStart => exact ⟨0, by omega, rfl, H0.out⟩
  case round =>
    obtain ⟨k, hk, rfl, hrel⟩ := hrel
    have Hfact := Lib.hid (Lf.know_facts HF.out (n := 6 * k) (by omega))
    have HR := Lib.hid hrel
    clear H0
    obtain ⟨v, hF⟩ := hrel
    have k1 := hF.tr.c1
    obtain ⟨g, cap, rfl⟩ := ownsRow_some hF.own Hfact.out.1
    by_cases hlt : k < 5
    · have i1 : (k : Int) < ((Lf.know f (6 * k)).1.length : Int) := by have := Hfact.out.2.2.2.1 (by omega); omega
      have Hlt := Lib.hid hlt
      clear hF hlt hk
      go_wp2_with fail
      clear k1 i1
      go_loopw [6] (fun d wr => ∃ j : Nat, j ≤ 6 ∧ d = .int .i64 ((j : Int) + 1) ∧ ExRel w f w.heap.size B T (6 * k + j) wr) (fun d _ => 7 - (intOf d).toNat)
      case atStart => exact ⟨0, by omega, rfl, HR.out⟩
      case round =>
        obtain ⟨j, hj, rfl, hrel⟩ := hrel
        clear HR Hfact
        by_cases hlt : j < 6
        · have Hj := Lib.hid hlt
          have Hfact := Lib.hid (Lf.know_facts HF.out (n := 6 * k + j) (by have := Hlt.out; omega))
          obtain ⟨v, hF⟩ := hrel
          have HK := fun q d p hq hd hp => Lib.hid (know_turn (f := f) (k := k) (j := j) Hj.out (q := q) (d := d) (p := p) hq hd hp)
          have Hkl : Hid (k < (Lf.know f (6 * k + j)).1.length) := Lib.hid (by have := Hfact.out.2.2.2.1 (by have := Hlt.out; omega); omega)
          obtain ⟨zs, hzs⟩ : ∃ zs, zs = (Lf.know f (6 * k + j)).1 := ⟨_, rfl⟩
          obtain ⟨ss, hss⟩ : ∃ ss, ss = (Lf.know f (6 * k + j)).2 := ⟨_, rfl⟩
          have Hzs := Lib.hid hzs
          have Hss := Lib.hid hss
          rw [← hzs] at hF Hfact Hkl HK
          rw [← hss] at hF Hfact HK
          obtain ⟨g, cap, rfl⟩ := ownsRow_some hF.own Hfact.out.1
          obtain ⟨q, hq⟩ : ∃ q, q = zs.getD k 0 := ⟨_, rfl⟩
          obtain ⟨d, hd⟩ : ∃ d, d = (j : Int) + 1 := ⟨_, rfl⟩
          obtain ⟨p, hp⟩ : ∃ p, p = Lf.nx q d := ⟨_, rfl⟩
          have HK2 := HK q d p hq hd hp
          clear HK
          rw [← hd]
          have i6 : d ≤ 6 := by omega
          have Hd := Lib.hid hd
          have Hq := Lib.hid hq
          have i1 : (k : Int) < (zs.length : Int) := by have := Hkl.out; omega
          have iw : wrap64 (d + 1) = d + 1 := by unfold wrap64; omega
          have Iw := Lib.hid iw
          have h1 := fun W => next_any q d W
          rw [← hp] at h1
          obtain ⟨b, hb⟩ : ∃ b, b = Lf.ok q d := ⟨_, rfl⟩
          rw [← hb] at h1
          have HPp : Hid (b = true → Lf.isP p = true) := Lib.hid (fun h => by rw [hp]; rw [hb] at h; exact Lf.nx_isP h)
          have hn30 : (30 : Nat) = 30 := rfl
          rw [← hb] at HK2
          clear hzs hss hq hd hp hb hlt hj iw hn30
          go_wp2_with fail
          refine wp_region_held_drew (S := (fun W : World => W.cell? ⟨B, 1, none⟩ = some (.slice (some ⟨g, 0, none⟩) zs.length cap) ∧ W.cell? ⟨g, k, none⟩ = some (.int .i64 q) ∧ TabAt W T)) (by kernel_rfl) ⟨hF.tr.c1, hF.cq Hkl.out Hq.out, hF.tab⟩ (fun hHeld => ?_)
          refine wpAnyH_take (i := 0) (oi := { dst := some 26, op := Op.load 43 (Operand.tmp 4), type := 43, pos := _, after := #[], guard := none }) (v := ?_) rfl (by kernel_rfl) (by kernel_rfl) (by kernel_rfl) (fun _ _ _ h => h) (Or.inl ⟨by rfl, ?hy⟩) hHeld ?_
          case hy => (intro w0 hSw; refine exec_load_row 43 (Operand.tmp 4) ?_ T ?_ 43 tabV (0, 0) _ hSw.2.2 Try.underlying43 rfl (by kernel_rfl) <;> rfl)
          (try simp only [Act.put, List.setIfInBounds_toArray, List.set_cons_zero, List.set_cons_succ])
          refine wpAnyH_take (i := 1) (oi := { dst := some 27, op := Op.fieldAddr 50 (Operand.tmp 3) 1, type := 0, pos := _, after := #[], guard := none }) (v := ?_) rfl (by kernel_rfl) (by kernel_rfl) (by kernel_rfl) (fun _ _ _ h => h) (Or.inl ⟨by rfl, ?hy⟩) hHeld ?_
          case hy => intro w0 hSw; (try dsimp only at hSw); go_simp; (try with_reducible rfl)
          (try simp only [Act.put, List.setIfInBounds_toArray, List.set_cons_zero, List.set_cons_succ])
          refine wpAnyH_take (i := 2) (oi := { dst := some 28, op := Op.load 22 (Operand.tmp 27), type := 22, pos := _, after := #[{ on := 1, ground := Ground.data }], guard := none }) (v := ?_) rfl (by kernel_rfl) (by kernel_rfl) (by kernel_rfl) (fun _ _ _ h => h) (Or.inl ⟨by rfl, ?hy⟩) hHeld ?_
          case hy => intro w0 hSw; (try dsimp only at hSw); go_simp; (try with_reducible rfl)
          (try simp only [Act.put, List.setIfInBounds_toArray, List.set_cons_zero, List.set_cons_succ])
          refine wpAnyH_take (i := 3) (oi := { dst := some 29, op := Op.move (Operand.tmp 5), type := 3, pos := _, after := #[], guard := none }) (v := ?_) rfl (by kernel_rfl) (by kernel_rfl) (by kernel_rfl) (fun _ _ _ h => h) (Or.inl ⟨by rfl, ?hy⟩) hHeld ?_
          case hy => intro w0 hSw; (try dsimp only at hSw); go_simp; (try with_reducible rfl)
          (try simp only [Act.put, List.setIfInBounds_toArray, List.set_cons_zero, List.set_cons_succ])
          refine wpAnyH_take (i := 4) (oi := { dst := some 30, op := Op.indexAddr 22 (Operand.tmp 28) (Operand.tmp 29), type := 0, pos := _, after := #[{ on := 2, ground := Ground.data }, { on := 3, ground := Ground.data }], guard := none }) (v := ?_) rfl (by kernel_rfl) (by kernel_rfl) (by kernel_rfl) (fun _ _ _ h => h) (Or.inl ⟨by rfl, ?hy⟩) hHeld ?_
          case hy => intro w0 hSw; (try dsimp only at hSw); go_simp; (try with_reducible rfl)
          (try simp only [Act.put, List.setIfInBounds_toArray, List.set_cons_zero, List.set_cons_succ])
          refine wpAnyH_take (i := 5) (oi := { dst := some 31, op := Op.load 3 (Operand.tmp 30), type := 3, pos := _, after := #[{ on := 4, ground := Ground.data }], guard := none }) (v := ?_) rfl (by kernel_rfl) (by kernel_rfl) (by kernel_rfl) (fun _ _ _ h => h) (Or.inl ⟨by rfl, ?hy⟩) hHeld ?_
          case hy => intro w0 hSw; (try dsimp only at hSw); go_simp; (try with_reducible rfl)
          (try simp only [Act.put, List.setIfInBounds_toArray, List.set_cons_zero, List.set_cons_succ])
          refine wpAnyH_take (i := 6) (oi := { dst := some 32, op := Op.move (Operand.tmp 6), type := 3, pos := _, after := #[], guard := none }) (v := ?_) rfl (by kernel_rfl) (by kernel_rfl) (by kernel_rfl) (fun _ _ _ h => h) (Or.inl ⟨by rfl, ?hy⟩) hHeld ?_
          case hy => intro w0 hSw; (try dsimp only at hSw); go_simp; (try with_reducible rfl)
          (try simp only [Act.put, List.setIfInBounds_toArray, List.set_cons_zero, List.set_cons_succ])
          refine wpAnyH_ready (rs := [7]) (by kernel_rfl) (by simp) ?_
          refine AllReadyH.cons (o := { dst := some 33, op := Op.call { callee := Callee.value (Operand.func 22), args := #[Operand.tmp 26, Operand.tmp 31, Operand.tmp 32], argTypes := #[43, 3, 3] }, type := 24, pos := _, after := #[{ on := 0, ground := Ground.data }, { on := 5, ground := Ground.data }, { on := 6, ground := Ground.data }], guard := none }) rfl (fun K hK => ?_) AllReadyH.nil
          go_simp
          refine (h1 _).mono ?_
          rintro e w3 ⟨rfl, hB'⟩
          replace hF := hF.below (by first | exact below_undrew hB' | exact hB')
          clear hB'
          go_wp2_with fail
          refine hK.out _ _ ⟨hF.tr.c1, hF.cq Hkl.out Hq.out, hF.tab⟩ (fun hHeld => ?_)
          clear hK K
          (try simp only [Act.put, List.setIfInBounds_toArray, List.set_cons_zero, List.set_cons_succ])
          refine wpAnyH_take (i := 8) (oi := { dst := some 25, op := Op.move (Operand.tmp 33), type := 24, pos := _, after := #[{ on := 7, ground := Ground.data }], guard := none }) (v := ?_) rfl (by kernel_rfl) (by kernel_rfl) (by kernel_rfl) (fun _ _ _ h => h) (Or.inl ⟨by rfl, ?hy⟩) hHeld ?_
          case hy => intro w0 hSw; (try dsimp only at hSw); go_simp; (try with_reducible rfl)
          (try simp only [Act.put, List.setIfInBounds_toArray, List.set_cons_zero, List.set_cons_succ])
          refine wpAnyH_take (i := 9) (oi := { dst := some 34, op := Op.extract (Operand.tmp 25) 0, type := 3, pos := _, after := #[{ on := 8, ground := Ground.data }], guard := none }) (v := ?_) rfl (by kernel_rfl) (by kernel_rfl) (by kernel_rfl) (fun _ _ _ h => h) (Or.inl ⟨by rfl, ?hy⟩) hHeld ?_
          case hy => intro w0 hSw; (try dsimp only at hSw); go_simp; (try with_reducible rfl)
          (try simp only [Act.put, List.setIfInBounds_toArray, List.set_cons_zero, List.set_cons_succ])
          refine wpAnyH_take (i := 10) (oi := { dst := some 35, op := Op.extract (Operand.tmp 25) 1, type := 4, pos := _, after := #[{ on := 8, ground := Ground.data }, { on := 11, ground := Ground.gcOnly Departure.lateStores }], guard := none }) (v := ?_) rfl (by kernel_rfl) (by kernel_rfl) (by kernel_rfl) (fun _ _ _ h => h) (Or.inl ⟨by rfl, ?hy⟩) hHeld ?_
          case hy => intro w0 hSw; (try dsimp only at hSw); go_simp; (try with_reducible rfl)
          (try simp only [Act.put, List.setIfInBounds_toArray, List.set_cons_zero, List.set_cons_succ])
          refine wpAnyH_take (i := 11) (oi := { dst := some 7, op := Op.assign (Operand.tmp 34), type := 3, pos := _, after := #[{ on := 9, ground := Ground.data }, { on := 7, ground := Ground.chain }, { on := 0, ground := Ground.phase }, { on := 1, ground := Ground.phase }, { on := 2, ground := Ground.phase }, { on := 3, ground := Ground.phase }, { on := 4, ground := Ground.phase }, { on := 5, ground := Ground.phase }, { on := 6, ground := Ground.phase }, { on := 7, ground := Ground.phase }, { on := 8, ground := Ground.phase }, { on := 9, ground := Ground.phase }, { on := 10, ground := Ground.textOnly Departure.lateStores }], guard := none }) (v := ?_) rfl (by kernel_rfl) (by kernel_rfl) (by kernel_rfl) (fun _ _ _ h => h) (Or.inl ⟨by rfl, ?hy⟩) hHeld ?_
          case hy => intro w0 hSw; (try dsimp only at hSw); go_simp; (try with_reducible rfl)
          (try simp only [Act.put, List.setIfInBounds_toArray, List.set_cons_zero, List.set_cons_succ])
          refine wpAnyH_take (i := 12) (oi := { dst := some 8, op := Op.assign (Operand.tmp 35), type := 4, pos := _, after := #[{ on := 10, ground := Ground.data }, { on := 11, ground := Ground.chain }, { on := 0, ground := Ground.phase }, { on := 1, ground := Ground.phase }, { on := 2, ground := Ground.phase }, { on := 3, ground := Ground.phase }, { on := 4, ground := Ground.phase }, { on := 5, ground := Ground.phase }, { on := 6, ground := Ground.phase }, { on := 7, ground := Ground.phase }, { on := 8, ground := Ground.phase }, { on := 9, ground := Ground.phase }, { on := 10, ground := Ground.phase }, { on := 11, ground := Ground.phase }], guard := none }) (v := ?_) rfl (by kernel_rfl) (by kernel_rfl) (by kernel_rfl) (fun _ _ _ h => h) (Or.inl ⟨by rfl, ?hy⟩) hHeld ?_
          case hy => intro w0 hSw; (try dsimp only at hSw); go_simp; (try with_reducible rfl)
          (try simp only [Act.put, List.setIfInBounds_toArray, List.set_cons_zero, List.set_cons_succ])
          refine wpAnyH_done (by kernel_rfl) ?_ _
          clear hHeld h1
          cases b
          · have HE : Hid (Lf.know f (6 * k + (j + 1)) = Lf.know f (6 * k + j)) := Lib.hid (HK2.out.2.1 (by simp))
            clear HK2 HPp
            go_wp2
            go_roundw
            case rel => exact ⟨j + 1, Hj.out, by first | (rw [Iw.out, Hd.out]; rfl) | (rw [Hd.out]; rfl), _, by rw [HE.out, ← Hzs.out, ← Hss.out]; exact hF⟩
            case measure => have := Hd.out; have := Hj.out; (try rw [Iw.out]); simp [intOf]; omega
          · have hC := Try.slices_Contains_int g 0 zs.length cap zs p w3 (Nat.le_refl _) (by have := Hfact.out.2.1; omega) hF.cells
            rw [List.take_length] at hC
            obtain ⟨c, hc⟩ : ∃ c, c = zs.contains p := ⟨_, rfl⟩
            rw [← hc] at hC HK2
            clear hc
            have k1 := hF.tr.c1
            go_wp2_with fail
            refine hC.mono ?_
            rintro e w4 ⟨rfl, rfl⟩
            clear hC k1
            cases c
            · obtain ⟨m, rfl⟩ : ∃ m : Nat, p = (m : Int) := ⟨p.toNat, by have := Lf.isP_iff.1 (HPp.out (by simp)); omega⟩
              have Hm5 : Hid (m < 5) := Lib.hid (by have := Lf.isP_iff.1 (HPp.out (by simp)); omega)
              have HE : Hid (Lf.know f (6 * k + (j + 1)) = (zs ++ [(m : Int)], ss.set m (q, d))) := Lib.hid (by have := HK2.out.1 (by simp) (by simp); simpa using this)
              have m0 : (0 : Int) ≤ (m : Int) := by omega
              have m5 : (m : Int) < 5 := by have := Hm5.out; omega
              clear HK2 HPp
              have Hll : Hid (zs.length ≤ 5) := Lib.hid Hfact.out.2.1
              have k1 := hF.tr.c1
              have hF1 := Lib.hid (hF.below (below_new w4 (.cells #[.int .i64 (m : Int)] 3)))
              have HX := Lib.hid (fun (v' : Value) (w5 : World) (ho : w5.ownsRow w.heap.size 3 1 v' (zs.length + 1) (zs.map (Value.int .i64) ++ [.int .i64 (m : Int)])) (hg : (w4.alloc (.cells #[.int .i64 (m : Int)] 3)).grownBy w5 (Value.slice (some ⟨g, 0, none⟩) zs.length cap).ownBlock) => ex_app hF1.out (by have := HBT.out; omega) (by have := HBT.out; omega) (by have := HBT.out; have := HT.out; omega) ho hg)
              have i2 : (k : Int) < (zs.length : Int) + 1 := by omega
              have Hss5 : Hid (ss.length = 5) := Lib.hid Hfact.out.2.2.1
              have Hkq : Hid (k < (zs ++ [(m : Int)]).length ∧ q = (zs ++ [(m : Int)]).getD k 0) := Lib.hid (by
                have h1 := Hkl.out
                refine ⟨by simp; omega, ?_⟩
                rw [Hq.out]; simp [List.getD, List.getElem?_append_left h1])
              go_wp2_with (at_builtin; refine wpList_append_own _ rfl _ _ 22 rfl w.heap.size 3 i0 (.int .i64 0) 1 8 Try.underlying22 hi hz0 hz1 hz2 rfl (by decide) _ _ _ rfl hF1.out.own ⟨w4.heap.size, 0, none⟩ 1 1 [.int .i64 (m : Int)] rfl rfl (cell_one_new _ _ _) (by simp [Value.oneCell']) (by have := Hll.out; unfold maxLen; omega) (by have := Hll.out; omega) (by have := hF.bel.size; simp; omega) ?_; intro v' w5 hown' hgrow _; obtain ⟨g', cap', rfl⟩ := ownsRow_some hown' (by omega); obtain ⟨hT5, hF5⟩ := HX.out _ _ hown' hgrow; have q1 := hT5.c1; have q2 := hT5.fro 1; have q3 := hF5.tr.c1; have q4 := hF5.cq' (by simp) Hkq.out.1 Hkq.out.2; have q5 := hF5.tr.ca Hss5.out Hm5.out; have q6 := hF5.tr.fro (2 + m * 2); have q7 := hF5.tr.cb Hss5.out Hm5.out; have q8 := hF5.tr.fro (2 + m * 2 + 1); have H5 := Lib.hid hF5; clear hF5 hT5 hown' hgrow HX k1)
              go_roundw
              case rel => exact ⟨j + 1, Hj.out, by first | (rw [Iw.out, Hd.out]; rfl) | (rw [Hd.out]; rfl), _, by rw [HE.out]; exact ex_step H5.out (by have := HBT.out; omega) (by have := HBT.out; omega) (by have := HBT.out; have := HT.out; omega) Hss5.out Hm5.out⟩
              case measure => have := Hd.out; have := Hj.out; (try rw [Iw.out]); simp [intOf]; omega
            · have HE : Hid (Lf.know f (6 * k + (j + 1)) = Lf.know f (6 * k + j)) := Lib.hid (HK2.out.2.2 (by simp))
              clear HK2 HPp
              go_wp2
              go_roundw
              case rel => exact ⟨j + 1, Hj.out, by first | (rw [Iw.out, Hd.out]; rfl) | (rw [Hd.out]; rfl), _, by rw [HE.out, ← Hzs.out, ← Hss.out]; exact hF⟩
              case measure => have := Hd.out; have := Hj.out; (try rw [Iw.out]); simp [intOf]; omega
        · obtain rfl : j = 6 := by omega
          have Ik : Hid (wrap64 ((k : Int) + 1) = (k : Int) + 1) := Lib.hid (by have := Hlt.out; unfold wrap64; omega)
          go_wp2
          go_roundw
          case rel => exact ⟨k + 1, Hlt.out, by first | rfl | (rw [Ik.out]; rfl), by rw [show 6 * (k + 1) = 6 * k + 6 by omega]; exact hrel⟩
          case measure => have := Hlt.out; (try rw [Ik.out]); simp [intOf]; omega
    · obtain rfl : k = 5 := by omega
      rw [show 6 * 5 = 30 from rfl] at hF k1 Hfact
      have hl := Hfact.out.2.2.2.2 rfl
      have Hl2 := Lib.hid Hfact.out.2.2.1
      rw [hl] at hF k1
      obtain ⟨zs, hzs⟩ : ∃ zs, zs = (Lf.know f 30).1 := ⟨_, rfl⟩
      obtain ⟨ss, hss⟩ : ∃ ss, ss = (Lf.know f 30).2 := ⟨_, rfl⟩
      rw [← hzs, ← hss] at hF
      rw [← hss] at Hl2
      have Hzs := Lib.hid hzs
      have Hss := Lib.hid hss
      have Hl5 : Hid (zs.length = 5) := Lib.hid (by rw [hzs]; exact hl)
      have hF' := Lib.hid hF
      clear hzs hss hl Hfact HR hF hk hlt
      go_wp2_with (first
        | (refine wpList_load_row rfl 50 _ rfl B rfl 50 (trV f (.slice (some ⟨g, 0, none⟩) 5 cap) ss) (0, 0) _ hF'.out.tr Try.underlying50 rfl (by rw [trV_size Hl2.out]; kernel_rfl) ?_)
        | (refine wpList_store_row rfl 50 _ _ rfl w.heap.size (trV f (.slice (some ⟨g, 0, none⟩) 5 cap) ss) rfl rfl 50 _ hF'.out.tr0 (by rw [trV_size Hl2.out]; kernel_rfl) (by rw [trV_size Hl2.out]; rfl) (trV_one Hl2.out) ?_))
      refine bodyPost_ret (results_cell_row rfl _ _ w.heap.size 50 (trV f (.slice (some ⟨g, 0, none⟩) 5 cap) ss) (0, 0) _ (by rfl) (setRow_heap _ _ _ _ _ _ hF'.out.tr0) Try.underlying50 rfl (by rw [trV_size Hl2.out]; kernel_rfl)) rfl ?_
      refine ⟨_, by rw [Hss.out], ?_, below_setRow hF'.out.bel (Nat.le_refl _) _⟩
      have ho := hF'.out.own.kept (grown_setRow wr w.heap.size (trV f (.slice (some ⟨g, 0, none⟩) 5 cap) ss)) (row_no_trail hF'.out.tr0 hF'.out.own)
      rw [Hl5.out] at ho
      rw [← Hzs.out]; exact ho
end Go.Proofs.Ytipblfmabhggkaa
