/-
  Layer 14 (segment): the landed code: Add; the structure of segment's functions (printed by tools/gen-segw10.py).
-/
import Derived.Test.YtlnchfnmpamliaaGreatXSegW9
namespace Go.Proofs.YtlnchfnmpamliaaGreat
set_option maxRecDepth 10000
open Go.RowKit

set_option maxRecDepth 10000 in
set_option maxHeartbeats 4000000 in
theorem sadd_any (sz fi : Int) (A : Option Addr) (n c : Nat) (fs : List Fil) (A2 : Option Addr) (l c2 : Nat) (ss : List ByteArray) (w : World) (hA : FilsAt w w.heap.size A fs) (hs : Sg.small ⟨sz, fi, fs⟩) (hn : n = fs.length)
    (hA2 : StrsAt w w.heap.size A2 ss) (hl : l = ss.length) (hl2 : l ≤ 1000) (hc2 : l ≤ c2) (hz : ∀ s ∈ ss, s.size ≤ 9000) :
    Calls Tryz.prog 8 #[.agg #[.int .i64 sz, .int .i64 fi, .slice A n c], .slice A2 l c2] w (GivesS w (Sg.add ⟨sz, fi, fs⟩ ss) (Sg.addE ⟨sz, fi, fs⟩ ss)) := by
  have p1 := fun W (h : FilsAt W W.heap.size A fs) => sgis_any sz fi A n c fs W h hs hn
  have S0 := Lib.hid ((((St.start w).more (filF14 A w.heap.size fs) ⟨hA, Nat.le_refl _⟩).more (strsF14 A2 w.heap.size ss) ⟨hA2, Nat.le_refl _⟩).box2 #[.int .i64 sz, .int .i64 fi, .slice A n c] #[.int .i64 0, .int .i64 0, .slice none 0 0] 24 24)
  by_cases hi : Sg.is ⟨sz, fi, fs⟩ = true
  case neg =>
    have e2 : Sg.addE ⟨sz, fi, fs⟩ ss = 1 := by unfold Sg.addE; rw [if_neg hi]
    have e1 : Sg.add ⟨sz, fi, fs⟩ ss = Sg.no := Sg.add_bad (by rw [e2]; decide)
    rw [e1, e2]
    rw [Bool.not_eq_true] at hi
    simp only [hi] at p1
    clear e1 e2 hi hA hs hn hA2 hl hl2 hc2 hz
    go_enter Tryz.func8, Tryz.ntmps8
    go_wp2_with fail
    refine (p1 _ ((S0.out.fact 1 rfl).1.more (S0.out.fact 1 rfl).2)).mono ?_
    rintro e w1 ⟨rfl, hB⟩
    have S1 := Lib.hid (S0.out.on hB)
    clear p1 hB S0
    have a0 := S1.out.free 0 rfl 0
    have a1 := S1.out.free 0 rfl 1
    have a2 := S1.out.free 0 rfl 2
    have b0 := S1.out.cell 0 rfl 0 rfl
    have b1 := S1.out.cell 0 rfl 1 rfl
    have b2 := S1.out.cell 0 rfl 2 rfl
    go_wp2_with fail
    obtain ⟨t, ht⟩ := S1.out.blk14 0 rfl
    (try simp only [Exit.inBlock, Exit.then]); refine bodyPost_ret (ret_segs2bw rfl rfl ht) rfl ?_
    exact givesS_now (below_set3 S1.out.below (Nat.le_succ _) _ _ _)
  case pos =>
    rw [hi] at p1
    have hb := (Sg.is_iff.1 hi).1
    simp only at hb
    have hne : fs ≠ [] := fun e => by rw [e] at hb; simp at hb
    obtain ⟨ps, f, m, hps, hfm, hpl, hwx, hyes, hno, hat⟩ := Sg.last_part fs fi hne
    have hfi := Sg.files_is hi f hfm
    have hzf := Rc.is_small9 hfi
    have p2 := fun W (h : FilsAt W W.heap.size A fs) => lastPart_any sz fi A n c fs W h hi hn ps (Sg.prt f m) hps
    have p3 := fun W A3 c3 => whole_any ⟨Sg.prt f m, A3, c3⟩ hzf W
    have e4 : (Sg.prt f m).whole = Sg.whole f m := rfl
    simp only [e4] at p3
    obtain ⟨bb, hbb⟩ : ∃ x, x = Sg.whole f m := ⟨_, rfl⟩
    rw [← hbb] at p3 hyes hwx
    have hcnt := Sg.rd_cnt (Sg.files_is hi) fi
    simp only at hcnt
    cases bb
    · have e2 : Sg.addE ⟨sz, fi, fs⟩ ss = 1 := by unfold Sg.addE; rw [if_pos hi, if_neg (by simp only; rw [hwx]; decide)]
      have e1 : Sg.add ⟨sz, fi, fs⟩ ss = Sg.no := Sg.add_bad (by rw [e2]; decide)
      rw [e1, e2]
      obtain ⟨us, q, hus⟩ : ∃ us q, Sg.prt f m = ⟨f, m, us, q⟩ := ⟨_, _, rfl⟩
      rw [hus] at p2 p3
      obtain ⟨xm, xk, xl⟩ := f
      unfold prmV at p2 p3
      simp only at p2 p3
      obtain ⟨Lt, hLt⟩ : ∃ L, L = us.length := ⟨_, rfl⟩
      rw [← hLt] at p2 p3
      clear e1 e2 hi hA hs hn hA2 hl hl2 hc2 hz hb hne hps hfm hpl hwx hyes hno hat hfi hzf e4 hbb hcnt hus hLt
      go_enter Tryz.func8, Tryz.ntmps8
      go_wp2_with fail
      refine (p1 _ ((S0.out.fact 1 rfl).1.more (S0.out.fact 1 rfl).2)).mono ?_
      rintro e w1 ⟨rfl, hB⟩
      have S1 := Lib.hid (S0.out.on hB)
      clear p1 hB S0
      have c0 := S1.out.cell 1 rfl 0 rfl
      have c1 := S1.out.cell 1 rfl 1 rfl
      have c2' := S1.out.cell 1 rfl 2 rfl
      go_wp2_with fail
      refine (p2 _ ((S1.out.fact 1 rfl).1.more (S1.out.fact 1 rfl).2)).mono ?_
      rintro e w2 ⟨A3, c3, rfl, hB⟩
      have S2 := Lib.hid ((S1.out.on hB).new #[.int .i64 xm, .string xk, .string xl, .int .i64 m, .slice A3 Lt c3, .int .i64 (q : Nat)] 49)
      clear p2 hB S1 c0 c1 c2'
      go_wp2_with fail
      refine (p3 _ _ _).mono ?_
      rintro e w3 ⟨rfl, hB⟩
      have S3 := Lib.hid (S2.out.on hB)
      clear p3 hB S2
      have a0 := S3.out.free 1 rfl 0
      have a1 := S3.out.free 1 rfl 1
      have a2 := S3.out.free 1 rfl 2
      have b0 := S3.out.cell 1 rfl 0 rfl
      have b1 := S3.out.cell 1 rfl 1 rfl
      have b2 := S3.out.cell 1 rfl 2 rfl
      go_wp2_with fail
      obtain ⟨t, ht⟩ := S3.out.blk14 1 rfl
      (try simp only [Exit.inBlock, Exit.then]); refine bodyPost_ret (ret_segs2bw rfl rfl ht) rfl ?_
      exact givesS_now (below_set3 S3.out.below (Nat.le_succ _) _ _ _)
    · obtain ⟨hnx, hlen, _⟩ := hyes rfl
      have p4 := fun W A3 c3 => next_any ⟨Sg.prt f m, A3, c3⟩ (by show 0 ≤ (Sg.prt f m).next ∧ (Sg.prt f m).next ≤ 4000000000; rw [← hnx]; omega) W
      have p5 := fun W (h : FilsAt W W.heap.size A fs) (h2 : StrsAt W W.heap.size A2 ss) => filled_any sz fi (Sg.prt f m).next A n c fs A2 l c2 ss W h hn h2 hl hl2 hc2 hz hi hwx (by rw [← hnx]; omega)
      simp only at p4
      unfold FilledS at p5
      obtain ⟨nx, hnx2⟩ : ∃ x, x = (Sg.prt f m).next := ⟨_, rfl⟩
      rw [← hnx2] at p4 p5
      have hE : Sg.addE ⟨sz, fi, fs⟩ ss = (Sg.go ⟨sz, fi, fs⟩ (ss.map bl)).2 := by unfold Sg.addE; rw [if_pos hi, if_pos hwx]
      have hgo := Sg.go_ok (s := ⟨sz, fi, fs⟩) (l := ss.map bl) hi hwx
      have hadd : Sg.add ⟨sz, fi, fs⟩ ss = if (Sg.go ⟨sz, fi, fs⟩ (ss.map bl)).2 = 0 then (Sg.go ⟨sz, fi, fs⟩ (ss.map bl)).1 else Sg.no := by unfold Sg.add; rw [hE]
      rw [hE, hadd]
      obtain ⟨⟨⟨gz, gf, gs⟩, E⟩, hx⟩ : ∃ x, x = Sg.go ⟨sz, fi, fs⟩ (ss.map bl) := ⟨_, rfl⟩
      rw [← hx] at p5 hgo ⊢
      simp only at p5 hgo ⊢
      have Hgo := Lib.hid hgo
      obtain ⟨us, q, hus⟩ : ∃ us q, Sg.prt f m = ⟨f, m, us, q⟩ := ⟨_, _, rfl⟩
      rw [hus] at p2 p3 p4
      obtain ⟨xm, xk, xl⟩ := f
      unfold prmV at p2 p3 p4
      simp only at p2 p3 p4
      obtain ⟨Lt, hLt⟩ : ∃ L, L = us.length := ⟨_, rfl⟩
      rw [← hLt] at p2 p3 p4
      clear hi hA hs hn hA2 hl hl2 hc2 hz hb hne hps hfm hpl hwx hyes hno hat hfi hzf e4 hbb hcnt hus hLt hnx hlen hnx2 hE hgo hadd hx
      by_cases hE : E = 0
      · subst hE
        rw [if_pos rfl]
        go_enter Tryz.func8, Tryz.ntmps8
        go_wp2_with fail
        refine (p1 _ ((S0.out.fact 1 rfl).1.more (S0.out.fact 1 rfl).2)).mono ?_
        rintro e w1 ⟨rfl, hB⟩
        have S1 := Lib.hid (S0.out.on hB)
        clear p1 hB S0
        have c0 := S1.out.cell 1 rfl 0 rfl
        have c1 := S1.out.cell 1 rfl 1 rfl
        have c2' := S1.out.cell 1 rfl 2 rfl
        go_wp2_with fail
        refine (p2 _ ((S1.out.fact 1 rfl).1.more (S1.out.fact 1 rfl).2)).mono ?_
        rintro e w2 ⟨A3, c3, rfl, hB⟩
        have S2 := Lib.hid ((S1.out.on hB).new #[.int .i64 xm, .string xk, .string xl, .int .i64 m, .slice A3 Lt c3, .int .i64 (q : Nat)] 49)
        clear p2 hB S1 c0 c1 c2'
        go_wp2_with fail
        obtain ⟨q6, hq6⟩ : ∃ q, q = w2.heap.size := ⟨_, rfl⟩
        rw [← hq6] at S2 ⊢
        refine (p3 _ _ _).mono ?_
        rintro e w3 ⟨rfl, hB⟩
        have S3 := Lib.hid (S2.out.on hB)
        clear p3 hB S2 hq6
        go_wp2_with fail
        have hS : St w w3.drew [(q6, #[.int .i64 xm, .string xk, .string xl, .int .i64 m, .slice A3 Lt c3, .int .i64 (q : Nat)]), (w.heap.size + 1, #[.int .i64 0, .int .i64 0, .slice none 0 0]), (w.heap.size, #[.int .i64 sz, .int .i64 fi, .slice A n c])] [strsF14 A2 w.heap.size ss, filF14 A w.heap.size fs] := S3.out.drew
        refine wp_region_held_drew (S := (fun W : World => St w W [(q6, #[.int .i64 xm, .string xk, .string xl, .int .i64 m, .slice A3 Lt c3, .int .i64 (q : Nat)]), (w.heap.size + 1, #[.int .i64 0, .int .i64 0, .slice none 0 0]), (w.heap.size, #[.int .i64 sz, .int .i64 fi, .slice A n c])] [strsF14 A2 w.heap.size ss, filF14 A w.heap.size fs])) (by kernel_rfl) hS (fun hHeld => ?_)
        refine wpAnyH_take (i := 0) (oi := { dst := some 20, op := Op.fieldAddr 24 (Operand.tmp 2) 2, type := 0, pos := _, after := #[], guard := none }) (v := ?_) rfl (by kernel_rfl) (by kernel_rfl) (by kernel_rfl) (fun _ _ _ h => h) (Or.inl ⟨by rfl, ?hy⟩) hHeld ?_
        case hy => intro w0 hSw; (try dsimp only at hSw); go_simp; (try with_reducible rfl)
        (try simp only [Act.put, List.setIfInBounds_toArray, List.set_cons_zero, List.set_cons_succ])
        refine wpAnyH_take (i := 1) (oi := { dst := some 21, op := Op.load 22 (Operand.tmp 20), type := 22, pos := _, after := #[{ on := 0, ground := Ground.data }], guard := none }) (v := ?_) rfl (by kernel_rfl) (by kernel_rfl) (by kernel_rfl) (fun _ _ _ h => h) (Or.inl ⟨by rfl, ?hy⟩) hHeld ?_
        case hy => intro w0 hSw; have d2 := hSw.cell 2 rfl 2 rfl; clear hSw; go_simp; (try with_reducible rfl)
        (try simp only [Act.put, List.setIfInBounds_toArray, List.set_cons_zero, List.set_cons_succ])
        refine wpAnyH_take (i := 2) (oi := { dst := some 22, op := Op.load 49 (Operand.tmp 6), type := 49, pos := _, after := #[], guard := none }) (v := ?_) rfl (by kernel_rfl) (by kernel_rfl) (by kernel_rfl) (fun _ _ _ h => h) (Or.inl ⟨by rfl, ?hy⟩) hHeld ?_
        case hy => intro w0 hSw; have d0 := hSw.cell 0 rfl 0 rfl; have d1 := hSw.cell 0 rfl 1 rfl; have d2 := hSw.cell 0 rfl 2 rfl; have d3 := hSw.cell 0 rfl 3 rfl; have d4 := hSw.cell 0 rfl 4 rfl; have d5 := hSw.cell 0 rfl 5 rfl; clear hSw; go_simp; (try with_reducible rfl)
        (try simp only [Act.put, List.setIfInBounds_toArray, List.set_cons_zero, List.set_cons_succ])
        refine wpAnyH_take (i := 4) (oi := { dst := some 24, op := Op.move (Operand.tmp 1), type := 25, pos := _, after := #[], guard := none }) (v := ?_) rfl (by kernel_rfl) (by kernel_rfl) (by kernel_rfl) (fun _ _ _ h => h) (Or.inl ⟨by rfl, ?hy⟩) hHeld ?_
        case hy => intro w0 hSw; (try dsimp only at hSw); go_simp; (try with_reducible rfl)
        (try simp only [Act.put, List.setIfInBounds_toArray, List.set_cons_zero, List.set_cons_succ])
        refine wpAnyH_ready (rs := [3]) (by kernel_rfl) (by simp) ?_
        refine AllReadyH.cons (o := { dst := some 23, op := Op.call { callee := Callee.value (Operand.func 33), args := #[Operand.tmp 22], argTypes := #[49] }, type := 3, pos := _, after := #[{ on := 2, ground := Ground.data }], guard := none }) rfl (fun K hK => ?_) AllReadyH.nil
        go_simp
        refine (p4 _ _ _).mono ?_
        rintro e y1 ⟨rfl, hB'⟩
        replace hS := hS.on hB'
        clear hB'
        go_wp2_with fail
        refine hK.out _ _ hS (fun hHeld => ?_)
        clear hK K
        (try simp only [Act.put, List.setIfInBounds_toArray, List.set_cons_zero, List.set_cons_succ])
        refine wpAnyH_ready (rs := [5]) (by kernel_rfl) (by simp) ?_
        refine AllReadyH.cons (o := { dst := some 25, op := Op.call { callee := Callee.value (Operand.func 32), args := #[Operand.tmp 21, Operand.tmp 23, Operand.tmp 24], argTypes := #[22, 3, 25] }, type := 53, pos := _, after := #[{ on := 1, ground := Ground.data }, { on := 3, ground := Ground.data }, { on := 4, ground := Ground.data }, { on := 3, ground := Ground.chain }], guard := none }) rfl (fun K hK => ?_) AllReadyH.nil
        go_simp
        refine (p5 _ ((hS.fact 1 rfl).1.more (hS.fact 1 rfl).2) ((hS.fact 0 rfl).1.more (hS.fact 0 rfl).2)).mono ?_
        rintro e y2 ⟨A9, n9, c9, rfl, hB', hO9⟩
        have HS9 := Lib.hid hS
        have HB9 := Lib.hid hB'
        have HO9 := Lib.hid hO9
        replace hS := hS.on hB'
        clear hB' hO9
        go_wp2_with fail
        refine hK.out _ _ hS (fun hHeld => ?_)
        clear hK K
        (try simp only [Act.put, List.setIfInBounds_toArray, List.set_cons_zero, List.set_cons_succ])
        refine wpAnyH_take (i := 6) (oi := { dst := some 19, op := Op.move (Operand.tmp 25), type := 53, pos := _, after := #[{ on := 5, ground := Ground.data }], guard := none }) (v := ?_) rfl (by kernel_rfl) (by kernel_rfl) (by kernel_rfl) (fun _ _ _ h => h) (Or.inl ⟨by rfl, ?hy⟩) hHeld ?_
        case hy => intro w0 hSw; (try dsimp only at hSw); go_simp; (try with_reducible rfl)
        (try simp only [Act.put, List.setIfInBounds_toArray, List.set_cons_zero, List.set_cons_succ])
        refine wpAnyH_take (i := 7) (oi := { dst := some 26, op := Op.extract (Operand.tmp 19) 0, type := 22, pos := _, after := #[{ on := 6, ground := Ground.data }], guard := none }) (v := ?_) rfl (by kernel_rfl) (by kernel_rfl) (by kernel_rfl) (fun _ _ _ h => h) (Or.inl ⟨by rfl, ?hy⟩) hHeld ?_
        case hy => intro w0 hSw; (try dsimp only at hSw); go_simp; (try with_reducible rfl)
        (try simp only [Act.put, List.setIfInBounds_toArray, List.set_cons_zero, List.set_cons_succ])
        refine wpAnyH_take (i := 8) (oi := { dst := some 27, op := Op.extract (Operand.tmp 19) 1, type := 28, pos := _, after := #[{ on := 6, ground := Ground.data }, { on := 9, ground := Ground.gcOnly Departure.lateStores }], guard := none }) (v := ?_) rfl (by kernel_rfl) (by kernel_rfl) (by kernel_rfl) (fun _ _ _ h => h) (Or.inl ⟨by rfl, ?hy⟩) hHeld ?_
        case hy => intro w0 hSw; (try dsimp only at hSw); go_simp; (try with_reducible rfl)
        (try simp only [Act.put, List.setIfInBounds_toArray, List.set_cons_zero, List.set_cons_succ])
        refine wpAnyH_take (i := 9) (oi := { dst := some 7, op := Op.assign (Operand.tmp 26), type := 22, pos := _, after := #[{ on := 7, ground := Ground.data }, { on := 5, ground := Ground.chain }, { on := 0, ground := Ground.phase }, { on := 1, ground := Ground.phase }, { on := 2, ground := Ground.phase }, { on := 3, ground := Ground.phase }, { on := 4, ground := Ground.phase }, { on := 5, ground := Ground.phase }, { on := 6, ground := Ground.phase }, { on := 7, ground := Ground.phase }, { on := 8, ground := Ground.textOnly Departure.lateStores }], guard := none }) (v := ?_) rfl (by kernel_rfl) (by kernel_rfl) (by kernel_rfl) (fun _ _ _ h => h) (Or.inl ⟨by rfl, ?hy⟩) hHeld ?_
        case hy => intro w0 hSw; (try dsimp only at hSw); go_simp; (try with_reducible rfl)
        (try simp only [Act.put, List.setIfInBounds_toArray, List.set_cons_zero, List.set_cons_succ])
        refine wpAnyH_take (i := 10) (oi := { dst := some 8, op := Op.assign (Operand.tmp 27), type := 28, pos := _, after := #[{ on := 8, ground := Ground.data }, { on := 9, ground := Ground.chain }, { on := 0, ground := Ground.phase }, { on := 1, ground := Ground.phase }, { on := 2, ground := Ground.phase }, { on := 3, ground := Ground.phase }, { on := 4, ground := Ground.phase }, { on := 5, ground := Ground.phase }, { on := 6, ground := Ground.phase }, { on := 7, ground := Ground.phase }, { on := 8, ground := Ground.phase }, { on := 9, ground := Ground.phase }], guard := none }) (v := ?_) rfl (by kernel_rfl) (by kernel_rfl) (by kernel_rfl) (fun _ _ _ h => h) (Or.inl ⟨by rfl, ?hy⟩) hHeld ?_
        case hy => intro w0 hSw; (try dsimp only at hSw); go_simp; (try with_reducible rfl)
        (try simp only [Act.put, List.setIfInBounds_toArray, List.set_cons_zero, List.set_cons_succ])
        refine wpAnyH_done (by kernel_rfl) ?_ _
        clear hHeld p4 p5
        have S9 := Lib.hid hS
        clear hS
        obtain ⟨rfl, hO⟩ := HO9.out (by first | rfl | trivial)
        obtain ⟨_, _, g1, g2⟩ := Hgo.out (by first | rfl | trivial)
        have X9 := Lib.hid (XAt.cloned HS9.out (List.mem_of_getElem? (i := 1) rfl) (List.mem_of_getElem? (i := 2) rfl) HB9.out hO)
        have Hbs := Lib.hid HS9.out.below.size
        clear hO S3
        have c2' := S9.out.cell 2 rfl 2 rfl
        have a2' := S9.out.free 2 rfl 2
        have x0 := X9.out.x0
        have x1 := X9.out.x1
        have x2 := X9.out.x2
        have a0 := X9.out.rf 0
        have a1 := X9.out.rf 1
        have a2 := X9.out.rf 2
        have b0 := X9.out.r0
        have b1 := X9.out.r1
        have b2 := X9.out.r2
        go_wp2_with fail
        obtain ⟨t, ht⟩ := X9.out.res
        (try simp only [Exit.inBlock, Exit.then]); refine bodyPost_ret (ret_segs2bw rfl rfl ht) rfl ?_
        obtain ⟨hO, hg⟩ := X9.out.done (.int .i64 sz) (.int .i64 fi) (.slice A9 gs.length c9) X9.out.own rfl
        refine ⟨A9, c9, ?_, OwnS.of (hO.lower Hbs.out), grown_below14 hg⟩
        rfl
      · have j1 : (E != 0) = true := by rw [bne_iff_ne]; exact hE
        rw [if_neg hE]
        clear hE
        go_enter Tryz.func8, Tryz.ntmps8
        go_wp2_with fail
        refine (p1 _ ((S0.out.fact 1 rfl).1.more (S0.out.fact 1 rfl).2)).mono ?_
        rintro e w1 ⟨rfl, hB⟩
        have S1 := Lib.hid (S0.out.on hB)
        clear p1 hB S0
        have c0 := S1.out.cell 1 rfl 0 rfl
        have c1 := S1.out.cell 1 rfl 1 rfl
        have c2' := S1.out.cell 1 rfl 2 rfl
        go_wp2_with fail
        refine (p2 _ ((S1.out.fact 1 rfl).1.more (S1.out.fact 1 rfl).2)).mono ?_
        rintro e w2 ⟨A3, c3, rfl, hB⟩
        have S2 := Lib.hid ((S1.out.on hB).new #[.int .i64 xm, .string xk, .string xl, .int .i64 m, .slice A3 Lt c3, .int .i64 (q : Nat)] 49)
        clear p2 hB S1 c0 c1 c2'
        go_wp2_with fail
        obtain ⟨q6, hq6⟩ : ∃ q, q = w2.heap.size := ⟨_, rfl⟩
        rw [← hq6] at S2 ⊢
        refine (p3 _ _ _).mono ?_
        rintro e w3 ⟨rfl, hB⟩
        have S3 := Lib.hid (S2.out.on hB)
        clear p3 hB S2 hq6
        go_wp2_with fail
        have hS : St w w3.drew [(q6, #[.int .i64 xm, .string xk, .string xl, .int .i64 m, .slice A3 Lt c3, .int .i64 (q : Nat)]), (w.heap.size + 1, #[.int .i64 0, .int .i64 0, .slice none 0 0]), (w.heap.size, #[.int .i64 sz, .int .i64 fi, .slice A n c])] [strsF14 A2 w.heap.size ss, filF14 A w.heap.size fs] := S3.out.drew
        refine wp_region_held_drew (S := (fun W : World => St w W [(q6, #[.int .i64 xm, .string xk, .string xl, .int .i64 m, .slice A3 Lt c3, .int .i64 (q : Nat)]), (w.heap.size + 1, #[.int .i64 0, .int .i64 0, .slice none 0 0]), (w.heap.size, #[.int .i64 sz, .int .i64 fi, .slice A n c])] [strsF14 A2 w.heap.size ss, filF14 A w.heap.size fs])) (by kernel_rfl) hS (fun hHeld => ?_)
        refine wpAnyH_take (i := 0) (oi := { dst := some 20, op := Op.fieldAddr 24 (Operand.tmp 2) 2, type := 0, pos := _, after := #[], guard := none }) (v := ?_) rfl (by kernel_rfl) (by kernel_rfl) (by kernel_rfl) (fun _ _ _ h => h) (Or.inl ⟨by rfl, ?hy⟩) hHeld ?_
        case hy => intro w0 hSw; (try dsimp only at hSw); go_simp; (try with_reducible rfl)
        (try simp only [Act.put, List.setIfInBounds_toArray, List.set_cons_zero, List.set_cons_succ])
        refine wpAnyH_take (i := 1) (oi := { dst := some 21, op := Op.load 22 (Operand.tmp 20), type := 22, pos := _, after := #[{ on := 0, ground := Ground.data }], guard := none }) (v := ?_) rfl (by kernel_rfl) (by kernel_rfl) (by kernel_rfl) (fun _ _ _ h => h) (Or.inl ⟨by rfl, ?hy⟩) hHeld ?_
        case hy => intro w0 hSw; have d2 := hSw.cell 2 rfl 2 rfl; clear hSw; go_simp; (try with_reducible rfl)
        (try simp only [Act.put, List.setIfInBounds_toArray, List.set_cons_zero, List.set_cons_succ])
        refine wpAnyH_take (i := 2) (oi := { dst := some 22, op := Op.load 49 (Operand.tmp 6), type := 49, pos := _, after := #[], guard := none }) (v := ?_) rfl (by kernel_rfl) (by kernel_rfl) (by kernel_rfl) (fun _ _ _ h => h) (Or.inl ⟨by rfl, ?hy⟩) hHeld ?_
        case hy => intro w0 hSw; have d0 := hSw.cell 0 rfl 0 rfl; have d1 := hSw.cell 0 rfl 1 rfl; have d2 := hSw.cell 0 rfl 2 rfl; have d3 := hSw.cell 0 rfl 3 rfl; have d4 := hSw.cell 0 rfl 4 rfl; have d5 := hSw.cell 0 rfl 5 rfl; clear hSw; go_simp; (try with_reducible rfl)
        (try simp only [Act.put, List.setIfInBounds_toArray, List.set_cons_zero, List.set_cons_succ])
        refine wpAnyH_take (i := 4) (oi := { dst := some 24, op := Op.move (Operand.tmp 1), type := 25, pos := _, after := #[], guard := none }) (v := ?_) rfl (by kernel_rfl) (by kernel_rfl) (by kernel_rfl) (fun _ _ _ h => h) (Or.inl ⟨by rfl, ?hy⟩) hHeld ?_
        case hy => intro w0 hSw; (try dsimp only at hSw); go_simp; (try with_reducible rfl)
        (try simp only [Act.put, List.setIfInBounds_toArray, List.set_cons_zero, List.set_cons_succ])
        refine wpAnyH_ready (rs := [3]) (by kernel_rfl) (by simp) ?_
        refine AllReadyH.cons (o := { dst := some 23, op := Op.call { callee := Callee.value (Operand.func 33), args := #[Operand.tmp 22], argTypes := #[49] }, type := 3, pos := _, after := #[{ on := 2, ground := Ground.data }], guard := none }) rfl (fun K hK => ?_) AllReadyH.nil
        go_simp
        refine (p4 _ _ _).mono ?_
        rintro e y1 ⟨rfl, hB'⟩
        replace hS := hS.on hB'
        clear hB'
        go_wp2_with fail
        refine hK.out _ _ hS (fun hHeld => ?_)
        clear hK K
        (try simp only [Act.put, List.setIfInBounds_toArray, List.set_cons_zero, List.set_cons_succ])
        refine wpAnyH_ready (rs := [5]) (by kernel_rfl) (by simp) ?_
        refine AllReadyH.cons (o := { dst := some 25, op := Op.call { callee := Callee.value (Operand.func 32), args := #[Operand.tmp 21, Operand.tmp 23, Operand.tmp 24], argTypes := #[22, 3, 25] }, type := 53, pos := _, after := #[{ on := 1, ground := Ground.data }, { on := 3, ground := Ground.data }, { on := 4, ground := Ground.data }, { on := 3, ground := Ground.chain }], guard := none }) rfl (fun K hK => ?_) AllReadyH.nil
        go_simp
        refine (p5 _ ((hS.fact 1 rfl).1.more (hS.fact 1 rfl).2) ((hS.fact 0 rfl).1.more (hS.fact 0 rfl).2)).mono ?_
        rintro e y2 ⟨A9, n9, c9, rfl, hB', hO9⟩
        have HS9 := Lib.hid hS
        have HB9 := Lib.hid hB'
        have HO9 := Lib.hid hO9
        replace hS := hS.on hB'
        clear hB' hO9
        go_wp2_with fail
        refine hK.out _ _ hS (fun hHeld => ?_)
        clear hK K
        (try simp only [Act.put, List.setIfInBounds_toArray, List.set_cons_zero, List.set_cons_succ])
        refine wpAnyH_take (i := 6) (oi := { dst := some 19, op := Op.move (Operand.tmp 25), type := 53, pos := _, after := #[{ on := 5, ground := Ground.data }], guard := none }) (v := ?_) rfl (by kernel_rfl) (by kernel_rfl) (by kernel_rfl) (fun _ _ _ h => h) (Or.inl ⟨by rfl, ?hy⟩) hHeld ?_
        case hy => intro w0 hSw; (try dsimp only at hSw); go_simp; (try with_reducible rfl)
        (try simp only [Act.put, List.setIfInBounds_toArray, List.set_cons_zero, List.set_cons_succ])
        refine wpAnyH_take (i := 7) (oi := { dst := some 26, op := Op.extract (Operand.tmp 19) 0, type := 22, pos := _, after := #[{ on := 6, ground := Ground.data }], guard := none }) (v := ?_) rfl (by kernel_rfl) (by kernel_rfl) (by kernel_rfl) (fun _ _ _ h => h) (Or.inl ⟨by rfl, ?hy⟩) hHeld ?_
        case hy => intro w0 hSw; (try dsimp only at hSw); go_simp; (try with_reducible rfl)
        (try simp only [Act.put, List.setIfInBounds_toArray, List.set_cons_zero, List.set_cons_succ])
        refine wpAnyH_take (i := 8) (oi := { dst := some 27, op := Op.extract (Operand.tmp 19) 1, type := 28, pos := _, after := #[{ on := 6, ground := Ground.data }, { on := 9, ground := Ground.gcOnly Departure.lateStores }], guard := none }) (v := ?_) rfl (by kernel_rfl) (by kernel_rfl) (by kernel_rfl) (fun _ _ _ h => h) (Or.inl ⟨by rfl, ?hy⟩) hHeld ?_
        case hy => intro w0 hSw; (try dsimp only at hSw); go_simp; (try with_reducible rfl)
        (try simp only [Act.put, List.setIfInBounds_toArray, List.set_cons_zero, List.set_cons_succ])
        refine wpAnyH_take (i := 9) (oi := { dst := some 7, op := Op.assign (Operand.tmp 26), type := 22, pos := _, after := #[{ on := 7, ground := Ground.data }, { on := 5, ground := Ground.chain }, { on := 0, ground := Ground.phase }, { on := 1, ground := Ground.phase }, { on := 2, ground := Ground.phase }, { on := 3, ground := Ground.phase }, { on := 4, ground := Ground.phase }, { on := 5, ground := Ground.phase }, { on := 6, ground := Ground.phase }, { on := 7, ground := Ground.phase }, { on := 8, ground := Ground.textOnly Departure.lateStores }], guard := none }) (v := ?_) rfl (by kernel_rfl) (by kernel_rfl) (by kernel_rfl) (fun _ _ _ h => h) (Or.inl ⟨by rfl, ?hy⟩) hHeld ?_
        case hy => intro w0 hSw; (try dsimp only at hSw); go_simp; (try with_reducible rfl)
        (try simp only [Act.put, List.setIfInBounds_toArray, List.set_cons_zero, List.set_cons_succ])
        refine wpAnyH_take (i := 10) (oi := { dst := some 8, op := Op.assign (Operand.tmp 27), type := 28, pos := _, after := #[{ on := 8, ground := Ground.data }, { on := 9, ground := Ground.chain }, { on := 0, ground := Ground.phase }, { on := 1, ground := Ground.phase }, { on := 2, ground := Ground.phase }, { on := 3, ground := Ground.phase }, { on := 4, ground := Ground.phase }, { on := 5, ground := Ground.phase }, { on := 6, ground := Ground.phase }, { on := 7, ground := Ground.phase }, { on := 8, ground := Ground.phase }, { on := 9, ground := Ground.phase }], guard := none }) (v := ?_) rfl (by kernel_rfl) (by kernel_rfl) (by kernel_rfl) (fun _ _ _ h => h) (Or.inl ⟨by rfl, ?hy⟩) hHeld ?_
        case hy => intro w0 hSw; (try dsimp only at hSw); go_simp; (try with_reducible rfl)
        (try simp only [Act.put, List.setIfInBounds_toArray, List.set_cons_zero, List.set_cons_succ])
        refine wpAnyH_done (by kernel_rfl) ?_ _
        clear hHeld p4 p5
        have S9 := Lib.hid hS
        clear hS
        clear S3
        have a0 := S9.out.free 1 rfl 0
        have a1 := S9.out.free 1 rfl 1
        have a2 := S9.out.free 1 rfl 2
        have b0 := S9.out.cell 1 rfl 0 rfl
        have b1 := S9.out.cell 1 rfl 1 rfl
        have b2 := S9.out.cell 1 rfl 2 rfl
        go_wp2_with fail
        obtain ⟨t, ht⟩ := S9.out.blk14 1 rfl
        (try simp only [Exit.inBlock, Exit.then]); refine bodyPost_ret (ret_segs2bw rfl rfl ht) rfl ?_
        exact givesS_now (below_set3 S9.out.below (Nat.le_succ _) _ _ _)

/-- All eight. -/
theorem segK : SegK (fun _ => True) :=
  ⟨fun _ _ _ _ => trivial,
   fun sz n w _ => snew_any sz n w,
   fun s A n c w _ hs hA hn => sgis_any s.sz s.fi A n c s.fs w hA hs hn,
   fun s A n c w _ hs hA hn => sread_any s.sz s.fi A n c s.fs w hA hs hn,
   fun s A n c A2 l c2 ss w _ hs hA hn _ hA2 hl hl2 hc2 hz => sadd_any s.sz s.fi A n c s.fs A2 l c2 ss w hA hs hn hA2 hl hl2 hc2 hz,
   fun s A n c w _ hs hA hn hc => ssync_any s.sz s.fi A n c s.fs w hA hs hn hc.1,
   fun s A n c k w _ hs hA hn hc => scrash_any s.sz s.fi A n c s.fs k w hA hs hn hc.1,
   fun s A n c w _ hs hA hn hc => smend_any s.sz s.fi A n c s.fs w hA hs hn hc.1 (by rw [hn]; exact hc.2),
   fun s A n c k w _ hs hA hn hc => sdrop_any s.sz s.fi A n c k s.fs w hA hs hn (by rw [hn]; exact hc.2)⟩
end Go.Proofs.YtlnchfnmpamliaaGreat
