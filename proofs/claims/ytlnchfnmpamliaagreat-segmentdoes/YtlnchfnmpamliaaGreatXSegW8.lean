/-
  Layer 14 (segment): the landed code: withOneMore.
-/
import Derived.Test.YtlnchfnmpamliaaGreatXSegW7
import Derived.Test.YtlnchfnmpamliaaGreatXFileW2
import Derived.Deep.DeepCutAuto
namespace Go.Proofs.YtlnchfnmpamliaaGreat
set_option maxRecDepth 10000
open Go.RowKit

/-- Files of one's own, with those of whatever slice behind them: the operation itself. -/
theorem wp_append_fils {o : Oper} {a : Act} {w : World} {K : Act → World → Prop} {Q : Exit → Act → World → Prop} (s x : Operand) (t1 : TypeId)
    (ho : o.op = .call { callee := .builtin .append, args := #[s, x], argTypes := #[t1, t1] }) (hu : Tryz.prog.underlying t1 = some (.slice 47))
    (base : Nat) (v : Value) (zs ms : List Fil) (hs : a.eval s = v) (hown : OwnF w base v zs)
    (ad : Addr) (cap : Nat) (hx : a.eval x = .slice (some ad) ms.length cap) (hA : FilsAt w w.heap.size (some ad) ms) (hb : base ≤ w.heap.size) (hl : zs.length + ms.length ≤ 100000)
    (h : ∀ v' w', OwnF w' base v' (zs ++ ms) → w.grownBy w' v.ownBlock → K (a.put o.dst v') w') : o.wp Tryz.prog a w K Q := by
  obtain ⟨i0, hi, hz0, hz1, hz2⟩ := info_parts Tryz.infoFi14
  refine wp_append_own w s x t1 ho base 47 i0 _ 3 40 hu hi hz0 hz1 hz2 rfl (by decide) v _ _ hs hown ad ms.length cap (flatF ms) hx (flatF_len ms) hA.flat_cells (flatF_one ms) (by unfold maxLen; omega) (by omega) hb ?_
  intro v' w' ho' hg _
  exact h v' w' (by unfold OwnF; rw [List.length_append, flatF_app]; exact ho') hg

/-- Two files in a block of their own. -/
theorem fils_two14 {w : World} {k : Nat} {a b : Fil} (h : ∃ t, w.heap[k]? = some (.cells #[.int .i64 a.most, .string a.kept, .string a.loose, .int .i64 b.most, .string b.kept, .string b.loose] t (0, 0))) : FilsAt w w.heap.size (some ⟨k, 0, none⟩) [a, b] := fun i hi => by
  have hc := fun j => cells14 h j
  have hl := lt14 h
  have hi2 : i = 0 ∨ i = 1 := by simp at hi; omega
  rcases hi2 with rfl | rfl
  · exact ⟨k, 0, rfl, hl, ⟨hc 0, hc 1, hc 2⟩⟩
  · exact ⟨k, 0, rfl, hl, ⟨hc 3, hc 4, hc 5⟩⟩

set_option maxRecDepth 10000 in
set_option maxHeartbeats 2000000 in
theorem oneMore_any (sz : Int) (A : Option Addr) (n c : Nat) (pre : List Fil) (f : Fil) (w : World) (hA : FilsAt w w.heap.size A (pre ++ [f])) (hn : n = pre.length + 1) (hl : n ≤ 100) (hcap : n ≤ c) (hfi : Fi.is f = true) (hm : f.most = sz) :
    Calls Tryz.prog 51 #[.slice A n c] w fun e w' => ∃ A' c', e = .returned (.tuple #[.slice A' (n + 1) c', .int .i64 0]) ∧ OwnF w' w.heap.size (.slice A' (n + 1) c') (pre ++ [Fi.sync f] ++ [⟨sz, ⟨#[]⟩, ⟨#[]⟩⟩]) ∧ Below w.heap.size w w' := by
  obtain ⟨B, off, rfl⟩ : ∃ B off, A = some ⟨B, off, none⟩ := by
    obtain ⟨b, off, e, _⟩ := hA 0 (by simp)
    exact ⟨b, off, e⟩
  have hz := Rc.is_small9 hfi
  have hb := Fi.is_small hfi
  have p1 := fun W => fsync_any f.most f.kept f.loose hz W
  have p2 := fun W => fnew_any sz W
  have e3 : (⟨f.most, f.kept, f.loose⟩ : Fil) = f := rfl
  have e4 : Fi.badE f = 0 := by unfold Fi.badE; rw [hfi]; rfl
  rw [e3, e4, Sg.fsync_yes hfi, hm] at p1
  unfold Fi.new Fi.newE at p2
  rw [if_pos (by omega), if_pos (by omega)] at p2
  rw [Sg.fsync_yes hfi, hm]
  obtain ⟨r, hr⟩ : ∃ r, r = Fi.read f := ⟨_, rfl⟩
  rw [← hr] at p1 ⊢
  unfold Fil.v filV at p1 p2
  simp only at p1 p2
  obtain ⟨k, hk⟩ : ∃ k, k = pre.length := ⟨_, rfl⟩
  rw [← hk] at hn
  have wk : wrap64 ((n : Int) - 1) = (k : Int) := by unfold wrap64; omega
  have hpre : FilsAt w w.heap.size (some ⟨B, off, none⟩) pre := by
    have h := hA.take k
    rw [hk, List.take_left] at h; exact h
  have p3 := fun W c' (h : FilsAt W W.heap.size (some ⟨B, off, none⟩) pre) => clone_any (some ⟨B, off, none⟩) k c' pre W h hk (fun e => nomatch e) (by omega)
  obtain ⟨b2, off2, e2, hb2, h3⟩ := hA k (by simp; omega)
  cases e2
  have hf : (pre ++ [f])[k]'(by simp; omega) = f := by
    have e : (pre ++ [f])[k]? = some f := by rw [hk]; simp
    rw [List.getElem?_eq_getElem (by simp; omega)] at e; exact Option.some.inj e
  rw [hf] at h3
  have c0 := h3.c0
  have c1 := h3.c1
  have c2 := h3.c2
  obtain ⟨fm, fk, fl⟩ := f
  simp only at c0 c1 c2 hm
  subst hm
  have Hpre := Lib.hid hpre
  have Hk := Lib.hid hk
  have Hn := Lib.hid hn
  have Hl := Lib.hid hl
  have i1 : (k : Int) < (n : Int) := by omega
  have i0 : (0 : Int) ≤ (k : Int) := by omega
  have i2 : k ≤ c := by omega
  have i3 : (k : Int) ≤ (c : Int) := by omega
  have S0 := Lib.hid ((St.start w).more (filF14 (some ⟨B, off, none⟩) w.heap.size pre) ⟨hpre, Nat.le_refl _⟩)
  clear hA hn hl hcap hfi hz hb e3 e4 hr hk hpre hb2 h3 hf
  go_enter Tryz.func51, Tryz.ntmps51
  go_wp2_with fail
  refine (p1 _).mono ?_
  rintro e w1 ⟨rfl, hB⟩
  have S1 := Lib.hid ((S0.out.on hB).new #[.int .i64 fm, .string r, .string ⟨#[]⟩] 47)
  clear p1 hB S0 c0 c1 c2
  have d0 := S1.out.cell 0 rfl 0 rfl
  go_wp2_with fail
  obtain ⟨w2, hw2⟩ : ∃ x, x = w1.alloc (.cells #[.int .i64 fm, .string r, .string ⟨#[]⟩] 47) := ⟨_, rfl⟩
  obtain ⟨q1, hq1⟩ : ∃ q, q = w1.heap.size := ⟨_, rfl⟩
  rw [← hw2] at S1 d0 ⊢
  rw [← hq1] at S1 d0 ⊢
  clear hw2 hq1
  refine (p2 _).mono ?_
  rintro e w3 ⟨rfl, hB⟩
  have S3 := Lib.hid ((S1.out.on hB).new #[.int .i64 fm, .string ⟨#[]⟩, .string ⟨#[]⟩] 47)
  clear p2 hB S1 d0
  go_wp2_with fail
  -- REGION
  have hw4 : True := trivial
  clear hw4
  have i2 : k ≤ c := i2
  obtain ⟨q2, hq2⟩ : ∃ q, q = w3.heap.size := ⟨_, rfl⟩
  obtain ⟨w4, hw4⟩ : ∃ x, x = w3.alloc (.cells #[.int .i64 fm, .string ⟨#[]⟩, .string ⟨#[]⟩] 47) := ⟨_, rfl⟩
  have S4 := S3
  rw [← hw4, ← hq2] at S4
  clear S3
  rw [← hw4, ← hq2]
  clear hw4 hq2
  have hS0 := S4.out.drew
  have HBr := Lib.hid (Below.refl w4.drew.heap.size w4.drew)
  have hS := hS0
  refine wp_region_held_drew (S := (fun W : World => St w W [(q2, #[.int .i64 fm, .string ⟨#[]⟩, .string ⟨#[]⟩]), (q1, #[.int .i64 fm, .string r, .string ⟨#[]⟩])] [filF14 (some ⟨B, off, none⟩) w.heap.size pre])) (by kernel_rfl) hS (fun hHeld => ?_)
  generalize hWd : w4.drew = Wd at hS hS0 HBr hHeld ⊢
  clear hWd
  have HS0 := Lib.hid hS0
  clear hS0
  refine wpAnyH_take (i := 0) (oi := { dst := some 31, op := Op.move (Operand.tmp 0), type := 22, pos := _, after := #[], guard := none }) (v := ?_) rfl (by kernel_rfl) (by kernel_rfl) (by kernel_rfl) (fun _ _ _ h => h) (Or.inl ⟨by rfl, ?hy⟩) hHeld ?_
  case hy => intro w0 hSw; (try dsimp only at hSw); go_simp; (try with_reducible rfl)
  (try simp only [Act.put, List.setIfInBounds_toArray, List.set_cons_zero, List.set_cons_succ])
  refine wpAnyH_take (i := 1) (oi := { dst := some 32, op := Op.move (Operand.tmp 4), type := 3, pos := _, after := #[], guard := none }) (v := ?_) rfl (by kernel_rfl) (by kernel_rfl) (by kernel_rfl) (fun _ _ _ h => h) (Or.inl ⟨by rfl, ?hy⟩) hHeld ?_
  case hy => intro w0 hSw; (try dsimp only at hSw); go_simp; (try with_reducible rfl)
  (try simp only [Act.put, List.setIfInBounds_toArray, List.set_cons_zero, List.set_cons_succ])
  refine wpAnyH_take (i := 2) (oi := { dst := some 33, op := Op.slice 22 (Operand.tmp 31) none (some (Operand.tmp 32)) none, type := 22, pos := _, after := #[{ on := 0, ground := Ground.data }, { on := 1, ground := Ground.data }], guard := none }) (v := ?_) rfl (by kernel_rfl) (by kernel_rfl) (by kernel_rfl) (fun _ _ _ h => h) (Or.inl ⟨by rfl, ?hy⟩) hHeld ?_
  case hy => intro w0 hSw; (try dsimp only at hSw); go_simp; (try with_reducible rfl)
  (try simp only [Act.put, List.setIfInBounds_toArray, List.set_cons_zero, List.set_cons_succ])
  refine wpAnyH_take (i := 4) (oi := { dst := some 35, op := Op.load 47 (Operand.tmp 5), type := 47, pos := _, after := #[], guard := none }) (v := ?_) rfl (by kernel_rfl) (by kernel_rfl) (by kernel_rfl) (fun _ _ _ h => h) (Or.inl ⟨by rfl, ?hy⟩) hHeld ?_
  case hy => intro w0 hSw; have d0 := hSw.cell 1 rfl 0 rfl; have d1 := hSw.cell 1 rfl 1 rfl; have d2 := hSw.cell 1 rfl 2 rfl; clear hSw; go_simp; (try with_reducible rfl)
  (try simp only [Act.put, List.setIfInBounds_toArray, List.set_cons_zero, List.set_cons_succ])
  refine wpAnyH_take (i := 5) (oi := { dst := some 36, op := Op.load 47 (Operand.tmp 7), type := 47, pos := _, after := #[], guard := none }) (v := ?_) rfl (by kernel_rfl) (by kernel_rfl) (by kernel_rfl) (fun _ _ _ h => h) (Or.inl ⟨by rfl, ?hy⟩) hHeld ?_
  case hy => intro w0 hSw; have d0 := hSw.cell 0 rfl 0 rfl; have d1 := hSw.cell 0 rfl 1 rfl; have d2 := hSw.cell 0 rfl 2 rfl; clear hSw; go_simp; (try with_reducible rfl)
  (try simp only [Act.put, List.setIfInBounds_toArray, List.set_cons_zero, List.set_cons_succ])
  refine wpAnyH_ready (rs := [3, 6]) (by kernel_rfl) (by simp) ?_
  refine AllReadyH.cons (o := { dst := some 34, op := Op.call { callee := Callee.value (Operand.func 41), args := #[Operand.tmp 33], argTypes := #[22] }, type := 22, pos := _, after := #[{ on := 2, ground := Ground.data }], guard := none }) rfl (fun K hK => ?_) (AllReadyH.cons (o := { dst := some 37, op := Op.buildSlice 22 2 #[(0, Operand.tmp 35), (1, Operand.tmp 36)], type := 22, pos := _, after := #[{ on := 4, ground := Ground.data }, { on := 5, ground := Ground.data }], guard := none }) rfl (fun K hK => ?_) AllReadyH.nil)
  · go_simp
    refine (p3 _ _ ((hS.fact 0 rfl).1.more (hS.fact 0 rfl).2)).mono ?_
    rintro e y1 ⟨A9, c9, rfl, hO, hB'⟩
    have HO := Lib.hid (hO.lower HBr.out.size)
    clear hO
    replace hS := hS.on hB'
    replace HBr := Lib.hid (below2 HBr.out hB')
    clear hB'
    go_wp2_with fail
    refine hK.out _ _ hS (fun hHeld => ?_)
    clear hK K
    (try simp only [Act.put, List.setIfInBounds_toArray, List.set_cons_zero, List.set_cons_succ])
    refine wpAnyH_ready (rs := [6]) (by kernel_rfl) (by simp) ?_
    refine AllReadyH.cons (o := { dst := some 37, op := Op.buildSlice 22 2 #[(0, Operand.tmp 35), (1, Operand.tmp 36)], type := 22, pos := _, after := #[{ on := 4, ground := Ground.data }, { on := 5, ground := Ground.data }], guard := none }) rfl (fun K hK => ?_) AllReadyH.nil
    go_simp
    have hN := (St.start y1).new #[.int .i64 fm, .string r, .string ⟨#[]⟩, .int .i64 fm, .string ⟨#[]⟩, .string ⟨#[]⟩] 47
    replace hS := hS.on (below_new y1 (.cells #[.int .i64 fm, .string r, .string ⟨#[]⟩, .int .i64 fm, .string ⟨#[]⟩, .string ⟨#[]⟩] 47))
    obtain ⟨pc, hpc⟩ : ∃ x, x = y1.heap.size := ⟨_, rfl⟩
    replace HBr := Lib.hid (below2 HBr.out (below_new y1 (.cells #[.int .i64 fm, .string r, .string ⟨#[]⟩, .int .i64 fm, .string ⟨#[]⟩, .string ⟨#[]⟩] 47)))
    replace HO := Lib.hid (HO.out.below (below_new y1 (.cells #[.int .i64 fm, .string r, .string ⟨#[]⟩, .int .i64 fm, .string ⟨#[]⟩, .string ⟨#[]⟩] 47)))
    rw [← hpc] at hN ⊢
    clear hpc
    generalize hWa : y1.alloc (.cells #[.int .i64 fm, .string r, .string ⟨#[]⟩, .int .i64 fm, .string ⟨#[]⟩, .string ⟨#[]⟩] 47) = Va at hS HBr hN HO ⊢
    clear hWa
    go_wp2_with fail
    refine hK.out _ _ hS (fun hHeld => ?_)
    clear hK K
    (try simp only [Act.put, List.setIfInBounds_toArray, List.set_cons_zero, List.set_cons_succ])
    refine wpAnyH_ready (rs := [7]) (by kernel_rfl) (by simp) ?_
    refine AllReadyH.cons (o := { dst := some 38, op := Op.call { callee := Callee.builtin Builtin.append, args := #[Operand.tmp 34, Operand.tmp 37], argTypes := #[22, 22] }, type := 22, pos := _, after := #[{ on := 3, ground := Ground.data }, { on := 6, ground := Ground.data }, { on := 3, ground := Ground.chain }], guard := none }) rfl (fun K hK => ?_) AllReadyH.nil
    rw [if_pos (by rfl)]
    refine wp_append_fils _ _ 22 rfl Tryz.underlying22 Wd.heap.size _ pre [⟨fm, r, ⟨#[]⟩⟩, ⟨fm, ⟨#[]⟩, ⟨#[]⟩⟩] rfl HO.out ⟨pc, 0, none⟩ 2 rfl (fils_two14 (hN.blk14 0 rfl)) HBr.out.size (by have := Hk.out; have := Hn.out; have := Hl.out; simp; omega) ?_
    intro v' w6 hO6 hg
    have HB6 := Lib.hid (HBr.out.grown hg HBr.out.size (fun k hk => (World.ownsRow.lt HO.out k hk).1))
    clear hS hN hg HO
    have hS := HS0.out.on HB6.out
    refine hK.out _ _ hS (fun hHeld => ?_)
    clear hK K
    (try simp only [Act.put, List.setIfInBounds_toArray, List.set_cons_zero, List.set_cons_succ])
    refine wpAnyH_take (i := 8) (oi := { dst := some 2, op := Op.assign (Operand.tmp 38), type := 22, pos := _, after := #[{ on := 7, ground := Ground.data }, { on := 7, ground := Ground.chain }, { on := 0, ground := Ground.phase }, { on := 1, ground := Ground.phase }, { on := 2, ground := Ground.phase }, { on := 3, ground := Ground.phase }, { on := 4, ground := Ground.phase }, { on := 5, ground := Ground.phase }, { on := 6, ground := Ground.phase }, { on := 7, ground := Ground.phase }], guard := none }) (v := ?_) rfl (by kernel_rfl) (by kernel_rfl) (by kernel_rfl) (fun _ _ _ h => h) (Or.inl ⟨by rfl, ?hy⟩) hHeld ?_
    case hy => intro w0 hSw; (try dsimp only at hSw); go_simp; (try with_reducible rfl)
    (try simp only [Act.put, List.setIfInBounds_toArray, List.set_cons_zero, List.set_cons_succ])
    refine wpAnyH_take (i := 9) (oi := { dst := some 3, op := Op.assign (Operand.const (Value.int IntKind.i64 0)), type := 28, pos := _, after := #[{ on := 8, ground := Ground.chain }, { on := 0, ground := Ground.phase }, { on := 1, ground := Ground.phase }, { on := 2, ground := Ground.phase }, { on := 3, ground := Ground.phase }, { on := 4, ground := Ground.phase }, { on := 5, ground := Ground.phase }, { on := 6, ground := Ground.phase }, { on := 7, ground := Ground.phase }, { on := 8, ground := Ground.phase }], guard := none }) (v := ?_) rfl (by kernel_rfl) (by kernel_rfl) (by kernel_rfl) (fun _ _ _ h => h) (Or.inl ⟨by rfl, ?hy⟩) hHeld ?_
    case hy => intro w0 hSw; (try dsimp only at hSw); go_simp; (try with_reducible rfl)
    (try simp only [Act.put, List.setIfInBounds_toArray, List.set_cons_zero, List.set_cons_succ])
    refine wpAnyH_done (by kernel_rfl) ?_ _
    clear hHeld
    go_wp2_with fail
    go_ret2
    obtain ⟨A7, c7, rfl, _, _, _⟩ := hO6.slice
    have e : (pre ++ [(⟨fm, r, ⟨#[]⟩⟩ : Fil), ⟨fm, ⟨#[]⟩, ⟨#[]⟩⟩]).length = n + 1 := by rw [List.length_append, Hn.out, ← Hk.out]; rfl
    rw [e] at hO6 ⊢
    refine ⟨A7, c7, rfl, ?_, hS.below⟩
    rw [List.append_assoc]
    exact hO6.lower HS0.out.below.size
  · go_simp
    have hN := (St.start Wd).new #[.int .i64 fm, .string r, .string ⟨#[]⟩, .int .i64 fm, .string ⟨#[]⟩, .string ⟨#[]⟩] 47
    replace hS := hS.on (below_new Wd (.cells #[.int .i64 fm, .string r, .string ⟨#[]⟩, .int .i64 fm, .string ⟨#[]⟩, .string ⟨#[]⟩] 47))
    obtain ⟨pc, hpc⟩ : ∃ x, x = Wd.heap.size := ⟨_, rfl⟩
    replace HBr := Lib.hid (below2 HBr.out (below_new Wd (.cells #[.int .i64 fm, .string r, .string ⟨#[]⟩, .int .i64 fm, .string ⟨#[]⟩, .string ⟨#[]⟩] 47)))
    rw [← hpc] at hN ⊢
    clear hpc
    generalize hWa : Wd.alloc (.cells #[.int .i64 fm, .string r, .string ⟨#[]⟩, .int .i64 fm, .string ⟨#[]⟩, .string ⟨#[]⟩] 47) = Va at hS HBr hN ⊢
    clear hWa
    go_wp2_with fail
    refine hK.out _ _ hS (fun hHeld => ?_)
    clear hK K
    (try simp only [Act.put, List.setIfInBounds_toArray, List.set_cons_zero, List.set_cons_succ])
    refine wpAnyH_ready (rs := [3]) (by kernel_rfl) (by simp) ?_
    refine AllReadyH.cons (o := { dst := some 34, op := Op.call { callee := Callee.value (Operand.func 41), args := #[Operand.tmp 33], argTypes := #[22] }, type := 22, pos := _, after := #[{ on := 2, ground := Ground.data }], guard := none }) rfl (fun K hK => ?_) AllReadyH.nil
    go_simp
    refine (p3 _ _ ((hS.fact 0 rfl).1.more (hS.fact 0 rfl).2)).mono ?_
    rintro e y1 ⟨A9, c9, rfl, hO, hB'⟩
    have HO := Lib.hid (hO.lower HBr.out.size)
    clear hO
    replace hS := hS.on hB'
    replace HBr := Lib.hid (below2 HBr.out hB')
    replace hN := hN.on hB'
    clear hB'
    go_wp2_with fail
    refine hK.out _ _ hS (fun hHeld => ?_)
    clear hK K
    (try simp only [Act.put, List.setIfInBounds_toArray, List.set_cons_zero, List.set_cons_succ])
    refine wpAnyH_ready (rs := [7]) (by kernel_rfl) (by simp) ?_
    refine AllReadyH.cons (o := { dst := some 38, op := Op.call { callee := Callee.builtin Builtin.append, args := #[Operand.tmp 34, Operand.tmp 37], argTypes := #[22, 22] }, type := 22, pos := _, after := #[{ on := 3, ground := Ground.data }, { on := 6, ground := Ground.data }, { on := 3, ground := Ground.chain }], guard := none }) rfl (fun K hK => ?_) AllReadyH.nil
    rw [if_pos (by rfl)]
    refine wp_append_fils _ _ 22 rfl Tryz.underlying22 Wd.heap.size _ pre [⟨fm, r, ⟨#[]⟩⟩, ⟨fm, ⟨#[]⟩, ⟨#[]⟩⟩] rfl HO.out ⟨pc, 0, none⟩ 2 rfl (fils_two14 (hN.blk14 0 rfl)) HBr.out.size (by have := Hk.out; have := Hn.out; have := Hl.out; simp; omega) ?_
    intro v' w6 hO6 hg
    have HB6 := Lib.hid (HBr.out.grown hg HBr.out.size (fun k hk => (World.ownsRow.lt HO.out k hk).1))
    clear hS hN hg HO
    have hS := HS0.out.on HB6.out
    refine hK.out _ _ hS (fun hHeld => ?_)
    clear hK K
    (try simp only [Act.put, List.setIfInBounds_toArray, List.set_cons_zero, List.set_cons_succ])
    refine wpAnyH_take (i := 8) (oi := { dst := some 2, op := Op.assign (Operand.tmp 38), type := 22, pos := _, after := #[{ on := 7, ground := Ground.data }, { on := 7, ground := Ground.chain }, { on := 0, ground := Ground.phase }, { on := 1, ground := Ground.phase }, { on := 2, ground := Ground.phase }, { on := 3, ground := Ground.phase }, { on := 4, ground := Ground.phase }, { on := 5, ground := Ground.phase }, { on := 6, ground := Ground.phase }, { on := 7, ground := Ground.phase }], guard := none }) (v := ?_) rfl (by kernel_rfl) (by kernel_rfl) (by kernel_rfl) (fun _ _ _ h => h) (Or.inl ⟨by rfl, ?hy⟩) hHeld ?_
    case hy => intro w0 hSw; (try dsimp only at hSw); go_simp; (try with_reducible rfl)
    (try simp only [Act.put, List.setIfInBounds_toArray, List.set_cons_zero, List.set_cons_succ])
    refine wpAnyH_take (i := 9) (oi := { dst := some 3, op := Op.assign (Operand.const (Value.int IntKind.i64 0)), type := 28, pos := _, after := #[{ on := 8, ground := Ground.chain }, { on := 0, ground := Ground.phase }, { on := 1, ground := Ground.phase }, { on := 2, ground := Ground.phase }, { on := 3, ground := Ground.phase }, { on := 4, ground := Ground.phase }, { on := 5, ground := Ground.phase }, { on := 6, ground := Ground.phase }, { on := 7, ground := Ground.phase }, { on := 8, ground := Ground.phase }], guard := none }) (v := ?_) rfl (by kernel_rfl) (by kernel_rfl) (by kernel_rfl) (fun _ _ _ h => h) (Or.inl ⟨by rfl, ?hy⟩) hHeld ?_
    case hy => intro w0 hSw; (try dsimp only at hSw); go_simp; (try with_reducible rfl)
    (try simp only [Act.put, List.setIfInBounds_toArray, List.set_cons_zero, List.set_cons_succ])
    refine wpAnyH_done (by kernel_rfl) ?_ _
    clear hHeld
    go_wp2_with fail
    go_ret2
    obtain ⟨A7, c7, rfl, _, _, _⟩ := hO6.slice
    have e : (pre ++ [(⟨fm, r, ⟨#[]⟩⟩ : Fil), ⟨fm, ⟨#[]⟩, ⟨#[]⟩⟩]).length = n + 1 := by rw [List.length_append, Hn.out, ← Hk.out]; rfl
    rw [e] at hO6 ⊢
    refine ⟨A7, c7, rfl, ?_, hS.below⟩
    rw [List.append_assoc]
    exact hO6.lower HS0.out.below.size
  -- END
end Go.Proofs.YtlnchfnmpamliaaGreat
