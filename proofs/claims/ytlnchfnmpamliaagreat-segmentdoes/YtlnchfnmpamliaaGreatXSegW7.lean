/-
  Layer 14 (segment): the landed code: Drop (printed by tools/gen-segw7.py).
-/
import Derived.Test.YtlnchfnmpamliaaGreatXSegW6
namespace Go.Proofs.YtlnchfnmpamliaaGreat
set_option maxRecDepth 10000
open Go.RowKit

/-- Along Drop: the result's block, the log's, the parts. -/
structure DrAt (w wr : World) (base : Nat) (sz m : Int) (old V : Value) (ms : List Prm) : Prop where
  res : ∃ t, wr.heap[w.heap.size + 1]? = some (.cells #[.int .i64 0, .int .i64 0, .slice none 0 0] t (0, 0))
  cur : ∃ t, wr.heap[w.heap.size]? = some (.cells #[.int .i64 sz, .int .i64 m, old] t (0, 0))
  own : OwnP wr base V ms
  hb : w.heap.size + 1 < base
  below : Below w.heap.size w wr
section
variable {w wr wr' : World} {base : Nat} {sz m : Int} {old V : Value} {ms : List Prm}
theorem DrAt.on (h : DrAt w wr base sz m old V ms) (hB : Below wr.heap.size wr wr') : DrAt w wr' base sz m old V ms :=
  ⟨kept14 h.res (below_grown14 hB none) (fun e => nomatch e), kept14 h.cur (below_grown14 hB none) (fun e => nomatch e), h.own.below hB, h.hb, below2 h.below hB⟩
theorem DrAt.next (h : DrAt w wr base sz m old V ms) (m' : Int) : DrAt w (wr.setCell ⟨w.heap.size, 1, none⟩ (.int .i64 m')) base sz m' old V ms :=
  ⟨kept14 h.res (grown_cell14 wr w.heap.size 1 _) (fun e => by injection e with e; omega), set14 h.cur 1 _,
    World.ownsRow.kept (row := some w.heap.size) h.own (grown_cell14 wr w.heap.size 1 _) (Or.inr (fun e => by have := (World.ownsRow.lt h.own _ e).1; have := h.hb; omega)), h.hb, below_setCell h.below (Nat.le_refl _) 1 _⟩
theorem DrAt.st (h : DrAt w wr base sz m old V ms) : St w wr [(w.heap.size + 1, #[.int .i64 0, .int .i64 0, .slice none 0 0]), (w.heap.size, #[.int .i64 sz, .int .i64 m, old])] [] :=
  ⟨fun x hx => by
    rcases List.mem_cons.1 hx with rfl | hx
    · exact h.res
    · obtain rfl := List.mem_singleton.1 hx
      exact h.cur, (fun _ h => nomatch h), h.below⟩
end

set_option maxRecDepth 10000 in
set_option maxHeartbeats 4000000 in
theorem sdrop_any (sz fi : Int) (A : Option Addr) (n c : Nat) (u : Int) (fs : List Fil) (w : World) (hA : FilsAt w w.heap.size A fs) (hs : Sg.small ⟨sz, fi, fs⟩) (hn : n = fs.length) (hcap : n ≤ c) :
    Calls Tryz.prog 17 #[.agg #[.int .i64 sz, .int .i64 fi, .slice A n c], .int .i64 u] w (GivesS w (Sg.drop ⟨sz, fi, fs⟩ u) (Sg.badE ⟨sz, fi, fs⟩)) := by
  have p1 := fun W (h : FilsAt W W.heap.size A fs) => sgis_any sz fi A n c fs W h hs hn
  have S0 := Lib.hid (((St.start w).more (filF14 A w.heap.size fs) ⟨hA, Nat.le_refl _⟩).box2 #[.int .i64 sz, .int .i64 fi, .slice A n c] #[.int .i64 0, .int .i64 0, .slice none 0 0] 24 24)
  by_cases hi : Sg.is ⟨sz, fi, fs⟩ = true
  · rw [hi] at p1
    have e1 : Sg.drop ⟨sz, fi, fs⟩ u = ⟨sz, (Sg.dropL u fs fi).1, (Sg.dropL u fs fi).2⟩ := by unfold Sg.drop; rw [if_pos hi]
    have e2 : Sg.badE ⟨sz, fi, fs⟩ = 0 := by unfold Sg.badE; rw [if_pos hi]
    rw [e1, e2]
    have hb := (Sg.is_iff.1 hi).1
    simp only at hb
    obtain ⟨B, off, rfl⟩ : ∃ B off, A = some ⟨B, off, none⟩ := by
      obtain ⟨b, off, e, _⟩ := hA 0 (by omega)
      exact ⟨b, off, e⟩
    have p2 := fun W (h : FilsAt W W.heap.size (some ⟨B, off, none⟩) fs) => parts_any sz fi (some ⟨B, off, none⟩) n c fs W h (Sg.files_is hi) (by omega) hb.2.1 hn
    unfold PartsS at p2
    obtain ⟨ps, hps⟩ : ∃ ps, ps = Sg.partsL fs fi := ⟨_, rfl⟩
    rw [← hps] at p2
    obtain ⟨N, hN⟩ : ∃ N, N = ps.length := ⟨_, rfl⟩
    rw [← hN] at p2
    have p3 := fun W (j n' c' : Nat) (hj : j < n) (hn' : n' = n - j) (hl : n - j ≤ 1000) (h : FilsAt W W.heap.size (some ⟨B, off, none⟩) fs) => clone_any (some ⟨B, off + j * 3, none⟩) n' c' (fs.drop j) W (h.drop j) (by rw [List.length_drop, hn', hn]) (fun e => nomatch e) (by omega)
    have Hfl := Lib.hid hA
    have Hi := Lib.hid (Sg.files_is hi)
    have Hn := Lib.hid hn
    have HN := Lib.hid hN
    have Hps := Lib.hid hps
    have Hcap := Lib.hid hcap
    have Hlen : Hid (1 ≤ n ∧ n ≤ 20) := Lib.hid (by omega)
    have Hfi : Hid (0 ≤ fi ∧ fi ≤ 900000000) := Lib.hid hb.2.1
    obtain ⟨n1, hn1⟩ : ∃ n1, n1 + 1 = n := ⟨n - 1, by omega⟩
    have Hn1 := Lib.hid hn1
    have wk : wrap64 ((n : Int) - 1) = (n1 : Int) := by unfold wrap64; omega
    have Hwk := Lib.hid wk
    obtain ⟨mn, hmn⟩ : ∃ mn, mn = min u 900000000 := ⟨_, rfl⟩
    have Hmn := Lib.hid hmn
    clear hA hs hi e1 e2 hb hn hN hps hcap hn1 wk hmn
    go_enter Tryz.func17, Tryz.ntmps17
    go_wp2_with fail
    refine (p1 _ ((S0.out.fact 0 rfl).1.more (S0.out.fact 0 rfl).2)).mono ?_
    rintro e w1 ⟨rfl, hB⟩
    have S1 := Lib.hid (S0.out.on hB)
    clear p1 hB S0
    have c0 := S1.out.cell 1 rfl 0 rfl
    have c1 := S1.out.cell 1 rfl 1 rfl
    have c2 := S1.out.cell 1 rfl 2 rfl
    go_wp2_with fail
    refine (p2 _ ((S1.out.fact 0 rfl).1.more (S1.out.fact 0 rfl).2)).mono ?_
    rintro e w2 ⟨ms, A2, c2', rfl, hms, hO, hT, hB⟩
    have S2 := S1.out.on hB
    have D2 : Hid (DrAt w w2 w1.heap.size sz fi (.slice (some ⟨B, off, none⟩) n c) (.slice A2 N c2') ms) := Lib.hid ⟨S2.blk14 0 rfl, S2.blk14 1 rfl, hO, lt14 (S1.out.blk14 0 rfl), S2.below⟩
    have Hms := Lib.hid hms
    clear p2 hB S1 S2 c0 c1 c2 hms hO hT
    go_wp2_with fail
    go_loopw [6, 16] (fun gn i wr => ∃ (j : Nat) (m : Int), j < n ∧ gn = .int .i64 (j : Int) ∧ i = .int .i64 (j : Int) ∧ Hid (0 ≤ m ∧ m ≤ 900000000) ∧ Hid ((ms.drop j).map Prm.p = Sg.partsL (fs.drop j) m) ∧ Hid (Sg.dropL u fs fi = Sg.dropL u (fs.drop j) m) ∧ Hid (DrAt w wr w1.heap.size sz m (.slice (some ⟨B, off, none⟩) n c) (.slice A2 N c2') ms)) (fun _ i _ => n - (intOf i).toNat)
    case atStart => exact ⟨0, fi, by have := Hlen.out; omega, rfl, rfl, Hfi, Lib.hid (by rw [List.drop_zero, List.drop_zero, Hms.out, Hps.out]), Lib.hid rfl, D2⟩
    case round =>
      obtain ⟨j, m, hj, rfl, rfl, Hm, HP, HL, HD⟩ := hrel
      clear D2
      have hj' : j < fs.length := by have := Hn.out; omega
      have hpa := Sg.partsL_at hj' m
      rw [← HP.out] at hpa
      have hjm : j < ms.length := by
        rcases Nat.lt_or_ge j ms.length with h | h
        · exact h
        · rw [List.drop_eq_nil_of_le h] at hpa; cases hpa
      rw [List.drop_eq_getElem_cons hjm, List.map_cons] at hpa
      obtain ⟨hpj, hpt⟩ := List.cons.inj hpa
      have hjN : j < N := by
        have h1 := congrArg List.length Hms.out
        rw [List.length_map, ← HN.out] at h1
        omega
      obtain ⟨g, rfl, hg, _, h6⟩ := HD.out.own.at hjm
      obtain ⟨⟨p, A3, c3⟩, hx⟩ : ∃ x, x = ms[j] := ⟨_, rfl⟩
      rw [← hx] at h6 hpj
      simp only at hpj
      obtain ⟨⟨xm, xk, xl⟩, hf⟩ : ∃ x, x = fs[j] := ⟨_, rfl⟩
      have hfi : Fi.is ⟨xm, xk, xl⟩ = true := by rw [hf]; exact Hi.out _ (List.getElem_mem hj')
      have hz := Rc.is_small9 hfi
      have hcnt := Sg.sc_cnt ⟨xm, xk, xl⟩ m
      have hrs : (Fi.read ⟨xm, xk, xl⟩).size ≤ 4000 := by
        have h := Fi.is_small hfi
        rw [Fi.read_size]; omega
      rw [← hf] at hpj hpt
      obtain ⟨us, q, hus⟩ : ∃ us q, Sg.prt ⟨xm, xk, xl⟩ m = ⟨⟨xm, xk, xl⟩, m, us, q⟩ := ⟨_, _, rfl⟩
      have hus1 : (Sg.sc ⟨xm, xk, xl⟩ m).1 = us := congrArg Prt.ts hus
      rw [hus1] at hcnt hpt
      have hw2 : Sg.whole ⟨xm, xk, xl⟩ m = (Sg.prt ⟨xm, xk, xl⟩ m).whole := rfl
      rw [hus] at hpj hw2
      subst hpj
      obtain ⟨bb, hbb⟩ : ∃ x, x = Sg.whole ⟨xm, xk, xl⟩ m := ⟨_, rfl⟩
      obtain ⟨nx, hnx⟩ : ∃ x : Int, x = m + (us.length : Int) := ⟨_, rfl⟩
      have p4 := fun W A3 c3 => whole_any ⟨⟨⟨xm, xk, xl⟩, m, us, q⟩, A3, c3⟩ hz W
      have p5 := fun W A3 c3 => next_any ⟨⟨⟨xm, xk, xl⟩, m, us, q⟩, A3, c3⟩ (by show 0 ≤ m + (us.length : Int) ∧ m + (us.length : Int) ≤ 4000000000; have := Hm.out; omega) W
      have e4 : Prt.whole ⟨⟨xm, xk, xl⟩, m, us, q⟩ = bb := by rw [hbb, hw2]
      have e5 : Prt.next ⟨⟨xm, xk, xl⟩, m, us, q⟩ = nx := hnx.symm
      simp only [e4] at p4
      simp only [e5] at p5
      unfold prmV at p4 p5
      simp only at p4 p5
      have e0 := h6.c0
      have e1 := h6.c1
      have e2 := h6.c2
      have e3 := h6.c3
      have e4 := h6.c4
      have e5 := h6.c5
      simp only at e0 e1 e2 e3 e4 e5
      obtain ⟨L, hL⟩ : ∃ L, L = us.length := ⟨_, rfl⟩
      rw [← hL] at e4 p4 p5
      have Hst : Hid (j + 1 < n → Sg.dropL u fs fi = if bb = true ∧ nx ≤ u ∧ nx ≤ 900000000 then Sg.dropL u (fs.drop (j + 1)) nx else (m, fs.drop j)) := Lib.hid (fun h => by
        rw [HL.out, Sg.dropL_step (by have := Hn.out; omega) u m, ← hf, ← hbb, hus1, ← hnx])
      have Hen : Hid (j + 1 = n → Sg.dropL u fs fi = (m, fs.drop j)) := Lib.hid (fun h => by rw [HL.out, Sg.dropL_end (by have := Hn.out; omega)])
      have Hpt : Hid ((ms.drop (j + 1)).map Prm.p = if bb = true then Sg.partsL (fs.drop (j + 1)) nx else []) := Lib.hid (by rw [hpt, ← hbb, ← hnx])
      have Hnx0 : Hid (0 ≤ nx) := Lib.hid (by have := Hm.out; omega)
      have c0 := cells14 HD.out.cur 0
      have c2 := cells14 HD.out.cur 2
      simp only [List.getElem?_toArray] at c0 c2
      have S3 := Lib.hid ((St.start wr).new #[.int .i64 xm, .string xk, .string xl, .int .i64 m, .slice A3 L c3, .int .i64 (q : Nat)] 49)
      have D3 := Lib.hid (HD.out.on (below_new wr (.cells #[.int .i64 xm, .string xk, .string xl, .int .i64 m, .slice A3 L c3, .int .i64 (q : Nat)] 49)))
      have d0 := S3.out.cell 0 rfl 0 rfl
      have d1 := S3.out.cell 0 rfl 1 rfl
      have d2 := S3.out.cell 0 rfl 2 rfl
      have d3 := S3.out.cell 0 rfl 3 rfl
      have d4 := S3.out.cell 0 rfl 4 rfl
      have d5 := S3.out.cell 0 rfl 5 rfl
      have c2' := cells14 D3.out.cur 2
      simp only [List.getElem?_toArray] at c2'
      have i4 : (j : Int) < (N : Int) := by omega
      have i5 : j ≤ n := by omega
      have i6 : (j : Int) ≤ (n : Int) := by omega
      have i7 : n ≤ c := Hcap.out
      have i8 : (n : Int) ≤ (c : Int) := by have := Hcap.out; omega
      have i9 : (c = j) = False := eq_false (by have := Hcap.out; omega)
      have HV : Hid (Value.int .i64 ((j : Int) + 1) = Value.int .i64 ((j + 1 : Nat) : Int)) := Lib.hid (by rw [Int.natCast_succ])
      have HMe : Hid (n - (intOf (Value.int .i64 ((j : Int) + 1))).toNat < n - (intOf (Value.int .i64 (j : Int))).toNat) := Lib.hid (by simp only [intOf]; omega)
      have Hiw : Hid (wrap64 ((j : Int) + 1) = (j : Int) + 1) := Lib.hid (by have := Hlen.out; unfold wrap64; omega)
      have wk := Hwk.out
      clear hpa hpt hx hf hfi hz hcnt hrs hus hus1 hw2 hbb hnx hL hg h6 hj' hjm HP HL
      by_cases hl : j + 1 = n
      · have HR := Lib.hid (Hen.out hl)
        have j1 : ((j : Int) == (n1 : Int)) = true := by have := Hn1.out; rw [beq_iff_eq]; omega
        clear Hst Hen hl p4 p5
        have HS := Lib.hid D3.out.st
        go_wp2_with fail
        refine (p3 _ j (n - j) (c - j) (by omega) rfl (by have := Hlen.out; omega) ((Hfl.out.below D3.out.below (Nat.le_refl _)).more D3.out.below.size)).mono ?_
        rintro e w9 ⟨A9, c9, rfl, hO, hB⟩
        have X9 := Lib.hid (XAt.cloned HS.out (List.mem_of_getElem? (i := 0) rfl) (List.mem_of_getElem? (i := 1) rfl) hB hO)
        have S9 := Lib.hid (HS.out.on hB)
        have Hle := Lib.hid HS.out.below.size
        have HA9 : Hid (A9.isSome = true) := Lib.hid (by
          obtain ⟨g9, e9⟩ := hO.some14w (by rw [List.length_drop]; have := Hn.out; omega)
          rw [e9]; rfl)
        clear hO hB c2 c0 i4 i5 i6 i7 i8 i9
        have c2 := S9.out.cell 1 rfl 2 rfl
        have a2 := S9.out.free 1 rfl 2
        have x0 := X9.out.x0
        have x1 := X9.out.x1
        have x2 := X9.out.x2
        have a0 := X9.out.rf 0
        have a1 := X9.out.rf 1
        have a3 := X9.out.rf 2
        have b0 := X9.out.r0
        have b1 := X9.out.r1
        have b2 := X9.out.r2
        go_wp2_with fail
        obtain ⟨t, ht⟩ := X9.out.res
        (try simp only [Exit.inBlock, Exit.then]); refine bodyPost_ret (ret_segs2bw rfl rfl ht) rfl ?_
        obtain ⟨hO, hg⟩ := X9.out.done (.int .i64 sz) (.int .i64 m) (.slice A9 (n - j) c9) X9.out.own rfl
        rw [HR.out]
        refine ⟨A9, c9, ?_, OwnS.of (hO.lower Hle.out), grown_below14 hg⟩
        have : n - j = (fs.drop j).length := by rw [List.length_drop, Hn.out]
        rw [this]; rfl
      have hlt : j + 1 < n := by omega
      have j1 : ((j : Int) == (n1 : Int)) = false := by have := Hn1.out; rw [beq_eq_false_iff_ne]; omega
      have Hlt := Lib.hid hlt
      have hst := Hst.out hlt
      clear Hst Hen hl hlt
      obtain ⟨w3, hw3⟩ : ∃ x, x = wr.alloc (.cells #[.int .i64 xm, .string xk, .string xl, .int .i64 m, .slice A3 L c3, .int .i64 (q : Nat)] 49) := ⟨_, rfl⟩
      have Hw3 := Lib.hid hw3
      cases bb
      · have HR : Hid (Sg.dropL u fs fi = (m, fs.drop j)) := Lib.hid (by rw [hst, if_neg (by intro h; exact absurd h.1 (by decide))])
        clear hst p5 hw3
        go_wp2_with fail
        rw [← Hw3.out]
        refine (p4 _ _ _).mono ?_
        rintro e w4 ⟨rfl, hB⟩
        have D4 := Lib.hid (D3.out.on (by rw [← Hw3.out]; exact hB))
        have c0 := cells14 D4.out.cur 0
        have c2 := cells14 D4.out.cur 2
        simp only [List.getElem?_toArray] at c0 c2
        clear hB p4 D3 S3 d0 d1 d2 d3 d4 d5 e0 e1 e2 e3 e4 e5 c2'
        have HS := Lib.hid D4.out.st
        go_wp2_with fail
        refine (p3 _ j (n - j) (c - j) (by omega) rfl (by have := Hlen.out; omega) ((Hfl.out.below D4.out.below (Nat.le_refl _)).more D4.out.below.size)).mono ?_
        rintro e w9 ⟨A9, c9, rfl, hO, hB⟩
        have X9 := Lib.hid (XAt.cloned HS.out (List.mem_of_getElem? (i := 0) rfl) (List.mem_of_getElem? (i := 1) rfl) hB hO)
        have S9 := Lib.hid (HS.out.on hB)
        have Hle := Lib.hid HS.out.below.size
        have HA9 : Hid (A9.isSome = true) := Lib.hid (by
          obtain ⟨g9, e9⟩ := hO.some14w (by rw [List.length_drop]; have := Hn.out; omega)
          rw [e9]; rfl)
        clear hO hB c2 c0 i4 i5 i6 i7 i8 i9
        have c2 := S9.out.cell 1 rfl 2 rfl
        have a2 := S9.out.free 1 rfl 2
        have x0 := X9.out.x0
        have x1 := X9.out.x1
        have x2 := X9.out.x2
        have a0 := X9.out.rf 0
        have a1 := X9.out.rf 1
        have a3 := X9.out.rf 2
        have b0 := X9.out.r0
        have b1 := X9.out.r1
        have b2 := X9.out.r2
        go_wp2_with fail
        obtain ⟨t, ht⟩ := X9.out.res
        (try simp only [Exit.inBlock, Exit.then]); refine bodyPost_ret (ret_segs2bw rfl rfl ht) rfl ?_
        obtain ⟨hO, hg⟩ := X9.out.done (.int .i64 sz) (.int .i64 m) (.slice A9 (n - j) c9) X9.out.own rfl
        rw [HR.out]
        refine ⟨A9, c9, ?_, OwnS.of (hO.lower Hle.out), grown_below14 hg⟩
        have : n - j = (fs.drop j).length := by rw [List.length_drop, Hn.out]
        rw [this]; rfl
      · have Hst := Lib.hid hst
        clear hst hw3
        go_wp2_with fail
        rw [← Hw3.out]
        refine (p4 _ _ _).mono ?_
        rintro e w4 ⟨rfl, hB⟩
        have D4 := Lib.hid (D3.out.on (by rw [← Hw3.out]; exact hB))
        have S4 := Lib.hid (S3.out.on (by rw [← Hw3.out]; exact hB))
        clear hB p4 D3 S3 d0 d1 d2 d3 d4 d5 e0 e1 e2 e3 e4 e5 c2' c0 c2
        have d0 := S4.out.cell 0 rfl 0 rfl
        have d1 := S4.out.cell 0 rfl 1 rfl
        have d2 := S4.out.cell 0 rfl 2 rfl
        have d3 := S4.out.cell 0 rfl 3 rfl
        have d4 := S4.out.cell 0 rfl 4 rfl
        have d5 := S4.out.cell 0 rfl 5 rfl
        go_wp2_with fail
        refine (p5 _ _ _).mono ?_
        rintro e w5 ⟨rfl, hB⟩
        have D5 := Lib.hid (D4.out.on hB)
        have S5 := Lib.hid (S4.out.on hB)
        clear hB D4 S4 d0 d1 d2 d3 d4 d5
        by_cases hu9 : u ≤ 900000000
        · have j3 : (900000000 < u) = False := eq_false (by omega)
          by_cases hu : u < nx
          · have HR : Hid (Sg.dropL u fs fi = (m, fs.drop j)) := Lib.hid (by rw [Hst.out, if_neg (by intro h; omega)])
            have j2 : (u < nx) = True := eq_true hu
            have c0 := cells14 D5.out.cur 0
            have c2 := cells14 D5.out.cur 2
            simp only [List.getElem?_toArray] at c0 c2
            clear Hst hu p5 S5 hu9
            have HS := Lib.hid D5.out.st
            go_wp2_with fail
            refine (p3 _ j (n - j) (c - j) (by omega) rfl (by have := Hlen.out; omega) ((Hfl.out.below D5.out.below (Nat.le_refl _)).more D5.out.below.size)).mono ?_
            rintro e w9 ⟨A9, c9, rfl, hO, hB⟩
            have X9 := Lib.hid (XAt.cloned HS.out (List.mem_of_getElem? (i := 0) rfl) (List.mem_of_getElem? (i := 1) rfl) hB hO)
            have S9 := Lib.hid (HS.out.on hB)
            have Hle := Lib.hid HS.out.below.size
            have HA9 : Hid (A9.isSome = true) := Lib.hid (by
              obtain ⟨g9, e9⟩ := hO.some14w (by rw [List.length_drop]; have := Hn.out; omega)
              rw [e9]; rfl)
            clear hO hB c2 c0 i4 i5 i6 i7 i8 i9
            have c2 := S9.out.cell 1 rfl 2 rfl
            have a2 := S9.out.free 1 rfl 2
            have x0 := X9.out.x0
            have x1 := X9.out.x1
            have x2 := X9.out.x2
            have a0 := X9.out.rf 0
            have a1 := X9.out.rf 1
            have a3 := X9.out.rf 2
            have b0 := X9.out.r0
            have b1 := X9.out.r1
            have b2 := X9.out.r2
            go_wp2_with fail
            obtain ⟨t, ht⟩ := X9.out.res
            (try simp only [Exit.inBlock, Exit.then]); refine bodyPost_ret (ret_segs2bw rfl rfl ht) rfl ?_
            obtain ⟨hO, hg⟩ := X9.out.done (.int .i64 sz) (.int .i64 m) (.slice A9 (n - j) c9) X9.out.own rfl
            rw [HR.out]
            refine ⟨A9, c9, ?_, OwnS.of (hO.lower Hle.out), grown_below14 hg⟩
            have : n - j = (fs.drop j).length := by rw [List.length_drop, Hn.out]
            rw [this]; rfl
          · have hle : nx ≤ u ∧ nx ≤ 900000000 := by omega
            have HL2 : Hid (Sg.dropL u fs fi = Sg.dropL u (fs.drop (j + 1)) nx) := Lib.hid (by rw [Hst.out]; exact if_pos ⟨by first | rfl | trivial, hle⟩)
            have HP2 : Hid ((ms.drop (j + 1)).map Prm.p = Sg.partsL (fs.drop (j + 1)) nx) := Lib.hid (by rw [Hpt.out]; exact if_pos (by first | rfl | trivial))
            have Hm2 : Hid (0 ≤ nx ∧ nx ≤ 900000000) := Lib.hid ⟨Hnx0.out, hle.2⟩
            have j2 : (u < nx) = False := eq_false hu
            have d0 := S5.out.cell 0 rfl 0 rfl
            have d1 := S5.out.cell 0 rfl 1 rfl
            have d2 := S5.out.cell 0 rfl 2 rfl
            have d3 := S5.out.cell 0 rfl 3 rfl
            have d4 := S5.out.cell 0 rfl 4 rfl
            have d5 := S5.out.cell 0 rfl 5 rfl
            clear Hst hu hle Hpt hu9
            go_wp2_with fail
            refine (p5 _ _ _).mono ?_
            rintro e w6 ⟨rfl, hB⟩
            have D6 := Lib.hid (D5.out.on hB)
            clear hB D5 S5 p5 d0 d1 d2 d3 d4 d5
            have hcur := D6.out.cur
            have c1 := cells14 hcur 1
            have f1 := free14 hcur 1
            simp only [List.getElem?_toArray] at c1
            have D7 := Lib.hid (D6.out.next nx)
            clear hcur
            go_wp2_with fail
            go_roundw
            case rel => exact ⟨j + 1, nx, Hlt.out, by rw [Hiw.out]; exact HV.out, by rw [Hiw.out]; exact HV.out, Hm2, HP2, HL2, D7⟩
            case measure => rw [Hiw.out]; exact HMe.out
        · have j3 : (900000000 < u) = True := eq_true (by omega)
          by_cases hu : 900000000 < nx
          · have HR : Hid (Sg.dropL u fs fi = (m, fs.drop j)) := Lib.hid (by rw [Hst.out, if_neg (by intro h; omega)])
            have j2 : (900000000 < nx) = True := eq_true hu
            have c0 := cells14 D5.out.cur 0
            have c2 := cells14 D5.out.cur 2
            simp only [List.getElem?_toArray] at c0 c2
            clear Hst hu p5 S5 hu9
            have HS := Lib.hid D5.out.st
            go_wp2_with fail
            refine (p3 _ j (n - j) (c - j) (by omega) rfl (by have := Hlen.out; omega) ((Hfl.out.below D5.out.below (Nat.le_refl _)).more D5.out.below.size)).mono ?_
            rintro e w9 ⟨A9, c9, rfl, hO, hB⟩
            have X9 := Lib.hid (XAt.cloned HS.out (List.mem_of_getElem? (i := 0) rfl) (List.mem_of_getElem? (i := 1) rfl) hB hO)
            have S9 := Lib.hid (HS.out.on hB)
            have Hle := Lib.hid HS.out.below.size
            have HA9 : Hid (A9.isSome = true) := Lib.hid (by
              obtain ⟨g9, e9⟩ := hO.some14w (by rw [List.length_drop]; have := Hn.out; omega)
              rw [e9]; rfl)
            clear hO hB c2 c0 i4 i5 i6 i7 i8 i9
            have c2 := S9.out.cell 1 rfl 2 rfl
            have a2 := S9.out.free 1 rfl 2
            have x0 := X9.out.x0
            have x1 := X9.out.x1
            have x2 := X9.out.x2
            have a0 := X9.out.rf 0
            have a1 := X9.out.rf 1
            have a3 := X9.out.rf 2
            have b0 := X9.out.r0
            have b1 := X9.out.r1
            have b2 := X9.out.r2
            go_wp2_with fail
            obtain ⟨t, ht⟩ := X9.out.res
            (try simp only [Exit.inBlock, Exit.then]); refine bodyPost_ret (ret_segs2bw rfl rfl ht) rfl ?_
            obtain ⟨hO, hg⟩ := X9.out.done (.int .i64 sz) (.int .i64 m) (.slice A9 (n - j) c9) X9.out.own rfl
            rw [HR.out]
            refine ⟨A9, c9, ?_, OwnS.of (hO.lower Hle.out), grown_below14 hg⟩
            have : n - j = (fs.drop j).length := by rw [List.length_drop, Hn.out]
            rw [this]; rfl
          · have hle : nx ≤ u ∧ nx ≤ 900000000 := by omega
            have HL2 : Hid (Sg.dropL u fs fi = Sg.dropL u (fs.drop (j + 1)) nx) := Lib.hid (by rw [Hst.out]; exact if_pos ⟨by first | rfl | trivial, hle⟩)
            have HP2 : Hid ((ms.drop (j + 1)).map Prm.p = Sg.partsL (fs.drop (j + 1)) nx) := Lib.hid (by rw [Hpt.out]; exact if_pos (by first | rfl | trivial))
            have Hm2 : Hid (0 ≤ nx ∧ nx ≤ 900000000) := Lib.hid ⟨Hnx0.out, hle.2⟩
            have j2 : (900000000 < nx) = False := eq_false hu
            have d0 := S5.out.cell 0 rfl 0 rfl
            have d1 := S5.out.cell 0 rfl 1 rfl
            have d2 := S5.out.cell 0 rfl 2 rfl
            have d3 := S5.out.cell 0 rfl 3 rfl
            have d4 := S5.out.cell 0 rfl 4 rfl
            have d5 := S5.out.cell 0 rfl 5 rfl
            clear Hst hu hle Hpt hu9
            go_wp2_with fail
            refine (p5 _ _ _).mono ?_
            rintro e w6 ⟨rfl, hB⟩
            have D6 := Lib.hid (D5.out.on hB)
            clear hB D5 S5 p5 d0 d1 d2 d3 d4 d5
            have hcur := D6.out.cur
            have c1 := cells14 hcur 1
            have f1 := free14 hcur 1
            simp only [List.getElem?_toArray] at c1
            have D7 := Lib.hid (D6.out.next nx)
            clear hcur
            go_wp2_with fail
            go_roundw
            case rel => exact ⟨j + 1, nx, Hlt.out, by rw [Hiw.out]; exact HV.out, by rw [Hiw.out]; exact HV.out, Hm2, HP2, HL2, D7⟩
            case measure => rw [Hiw.out]; exact HMe.out
  · rw [Bool.not_eq_true] at hi
    have e1 : Sg.drop ⟨sz, fi, fs⟩ u = Sg.no := by unfold Sg.drop; rw [hi]; rfl
    have e2 : Sg.badE ⟨sz, fi, fs⟩ = 1 := by unfold Sg.badE; rw [hi]; rfl
    rw [e1, e2]
    simp only [hi] at p1
    clear e1 e2 hi hA hs hn
    go_enter Tryz.func17, Tryz.ntmps17
    go_wp2_with fail
    refine (p1 _ ((S0.out.fact 0 rfl).1.more (S0.out.fact 0 rfl).2)).mono ?_
    rintro e w1 ⟨rfl, hB⟩
    have S1 := Lib.hid (S0.out.on hB)
    clear p1 hB S0
    have a0 := S1.out.free 0 rfl 0
    have a1 := S1.out.free 0 rfl 1
    have a2 := S1.out.free 0 rfl 2
    have b0 := S1.out.cell 0 rfl 0 rfl
    have b1 := S1.out.cell 0 rfl 1 rfl
    have b2 := S1.out.cell 0 rfl 2 rfl
    go_wp2_with fail
    obtain ⟨t, ht⟩ := S1.out.blk14 0 rfl
    (try simp only [Exit.inBlock, Exit.then]); refine bodyPost_ret (ret_segs2bw rfl rfl ht) rfl ?_
    exact givesS_now (below_set3 S1.out.below (Nat.le_succ _) _ _ _)
end Go.Proofs.YtlnchfnmpamliaaGreat
