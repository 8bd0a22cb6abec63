/-
  Layer 10 (mute), the reference: windows.
-/
import Derived.Test.YthbkfjnpdcfepaaRefMute5
import Derived.Test.YthbkfjnpdcfepaaMuteE
namespace Go.Proofs.Ythbkfjnpdcfepaa
set_option maxRecDepth 10000
open Go.RowKit

/-- A row of numbers is no row of windows. -/
theorem own_apartN {w : World} {b1 b2 : Nat} {v u : Value} {zs : List Int} {ls : List Win} (h1 : OwnN w b1 v zs) (h2 : OwnW w b2 u ls) : v.ownBlock = none ∨ v.ownBlock ≠ u.ownBlock := by
  rcases h1.2 with ⟨rfl, _⟩ | ⟨g, cap, cur, rfl, _, hg, _⟩
  · exact Or.inl rfl
  · refine Or.inr (fun e => ?_)
    rcases h2.2 with ⟨rfl, _⟩ | ⟨g2, cap2, cur2, rfl, _, hg2, _⟩
    · cases e
    · have e2 : g = g2 := by simpa [Value.ownBlock] using e
      subst e2
      rw [hg] at hg2
      injection hg2 with h
      injection h with _ h
      exact absurd h (by decide)
theorem OwnN.besides {w w' : World} {base : Nat} {v : Value} {zs : List Int} {ob : Option Nat} (h : OwnN w base v zs) (hg : w.grownBy w' ob) (ha : v.ownBlock = none ∨ v.ownBlock ≠ ob) : OwnN w' base v zs := by
  obtain ⟨h0, h1⟩ := h
  refine ⟨h0, ?_⟩
  rcases h1 with h1 | ⟨g', cap, cur, rfl, hb', hgg, h2⟩
  · exact Or.inl h1
  · refine Or.inr ⟨g', cap, cur, rfl, hb', (hg.block g' (Array.getElem?_eq_some_iff.1 hgg).1 (fun e => ?_)).trans hgg, h2⟩
    rcases ha with ha | ha
    · cases ha
    · exact ha e
theorem OwnN.lt {w : World} {base n c g o : Nat} {zs : List Int} (h : OwnN w base (.slice (some ⟨g, o, none⟩) n c) zs) : g < w.heap.size := (World.ownsRow.lt h g rfl).2
/-- Two of its numbers, side by side. -/
theorem OwnN.pair {w : World} {base n c g i : Nat} {zs : List Int} (h : OwnN w base (.slice (some ⟨g, 0, none⟩) n c) zs) (hi : i + 1 < zs.length) :
    w.cell? ⟨g, i, none⟩ = some (.int .i64 (zs.getD i 0)) ∧ w.cell? ⟨g, i + 1, none⟩ = some (.int .i64 (zs.getD (i + 1) 0)) := by
  have k : ∀ j, j < zs.length → w.cell? ⟨g, j, none⟩ = some (.int .i64 (zs.getD j 0)) := fun j hj => by
    have hc := World.ownsRow.cells h (g := g) rfl j (.int .i64 zs[j]) (by simp [List.getElem?_eq_getElem hj])
    rw [Go.WideShapes.add_plain, Nat.zero_add] at hc
    rw [List.getD_eq_getElem?_getD, List.getElem?_eq_getElem hj]
    exact hc
  exact ⟨k i (by omega), k (i + 1) hi⟩
theorem Mu.joinW_nil (bed k0 k1 : Int) : Mu.joinW bed k0 k1 [] = [⟨bed, k0, k1⟩] := rfl
theorem Mu.joinW_on {bed k0 k1 v1 : Int} (pre : List Win) : Mu.joinW bed k0 k1 (pre ++ [⟨bed, v1, k0⟩]) = pre ++ [⟨bed, v1, k1⟩] := by
  unfold Mu.joinW
  rw [List.getLast?_append]
  simp
theorem Mu.joinW_new {bed k0 k1 : Int} {v : Win} (pre : List Win) (h : ¬ (v.bed = bed ∧ v.to = k0)) : Mu.joinW bed k0 k1 (pre ++ [v]) = (pre ++ [v]) ++ [⟨bed, k0, k1⟩] := by
  unfold Mu.joinW
  rw [List.getLast?_append]
  simp [h]
theorem Mu.joinW_len (bed k0 k1 : Int) (out : List Win) : (Mu.joinW bed k0 k1 out).length ≤ out.length + 1 := by
  unfold Mu.joinW
  split
  · split
    · simp only [List.length_append, List.length_dropLast, List.length_cons, List.length_nil]; omega
    · simp
  · simp
theorem Mu.marks_len (b : Int) : ∀ (ls : List Win) (out : List Int), (ls.foldl (Mu.mark b) out).length ≤ out.length + ls.length * 2
  | [], out => by simp
  | x :: ls, out => by
    have := Mu.marks_len b ls (Mu.mark b out x)
    have := Mu.mark_len b out x
    rw [List.foldl_cons, List.length_cons]
    omega
/-- What windows ends with. -/
def WinsS (w : World) (ls : List Win) (e : Ending) (w' : World) : Prop := ∃ A c m, m = ls.length ∧ e = .returned (.slice A m c) ∧ OwnW w' w.heap.size (.slice A m c) ls ∧ Below w.heap.size w w'

set_option maxHeartbeats 8000000 in
theorem RWindows_any (A0 : Option Addr) (l c : Nat) (ls : List Win) (B0 : Option Addr) (k d : Nat) (ms : List Win) (both : Bool) (w : World) (h1 : ToldW w A0 l c ls) (h2 : ToldW w B0 k d ms) (hl : l ≤ 200) (hk : k ≤ 200) :
    Calls Try.prog 37 #[.slice A0 l c, .slice B0 k d, .bool both] w (WinsS w (Mu.wins ls ms both)) := by
  have H1 := Lib.hid h1
  have H2 := Lib.hid h2
  have Hll : Hid (ls.length + ms.length ≤ 400) := Lib.hid (by have := h1.1; have := h2.1; omega)
  obtain ⟨r, hr⟩ : ∃ r, r = Mu.wins ls ms both := ⟨_, rfl⟩
  have Hr := Lib.hid hr
  rw [← hr]
  clear h1 h2 hl hk hr
  go_enter Try.func37, Try.ntmps37
  go_wp2_with (first
    | (at_builtin; refine wpList_append_wins rfl _ _ 22 rfl Try.underlying22 w.heap.size _ ls ms rfl HA1.out B0 _ d rfl H2.out.1 (H2.out.on HBa.out).2.1 H2.out.2.2.1.1 HBa.out.size (by have := Hll.out; omega) ?_; intro v' w2 hown' hgrow; have HA2 := Lib.hid hown'; have HBb : Hid (Below w.heap.size w w2) := Lib.hid (HBa.out.grown hgrow HBa.out.size (fun k hk => HA1.out.ge k hk)); clear hown' hgrow)
    | (at_builtin; refine wpList_append_wins rfl _ _ 22 rfl Try.underlying22 w.heap.size _ [] ls rfl (OwnW.nil _ _) A0 _ c rfl H1.out.1 H1.out.2.1 H1.out.2.2.1.1 (Nat.le_refl _) (by have := Hll.out; simp only [List.length_nil]; omega) ?_; intro v' w1 hown' hgrow; rw [List.nil_append] at hown'; have HA1 := Lib.hid hown'; have HBa : Hid (Below w.heap.size w w1) := Lib.hid ((Below.refl _ w).grown hgrow (Nat.le_refl _) (fun _ e => nomatch e)); clear hown' hgrow))
  obtain ⟨AA, ca, rfl, hAA, _⟩ := HA2.out.slice
  obtain ⟨qa, hqa⟩ : ∃ qa, qa = (ls ++ ms).length := ⟨_, rfl⟩
  rw [← hqa] at HA2 ⊢
  have Hqa := Lib.hid hqa
  have Hqa4 : Hid (qa ≤ 400) := Lib.hid (by rw [hqa, List.length_append]; exact Hll.out)
  obtain ⟨G, hG⟩ : ∃ G, G = w2 := ⟨_, rfl⟩
  rw [← hG] at HA2 HBb hAA ⊢
  have HAA := Lib.hid hAA
  have G1 := Lib.hid (H1.out.on HBb.out)
  have G2 := Lib.hid (H2.out.on HBb.out)
  clear hG hAA hqa HA1 HBa HA2 H1 H2
  go_wp2_with fail
  go_loopw [8, 9] (fun z b wr => ∃ (n : Nat) (out : List Win) (A : Option Addr) (m c' : Nat), z = .slice A m c' ∧ b = .int .i64 ((n : Int) + 1) ∧ n ≤ 99 ∧ Hid (m = out.length) ∧ Hid (OwnW wr G.heap.size (.slice A m c') out) ∧ Hid (Below G.heap.size G wr) ∧ Hid (Mu.bedsN (Mu.F2 ls ms both) (ls ++ ms) n = out) ∧ Hid (out.length ≤ n * 800)) (fun _ b _ => 100 - (intOf b).toNat)
  case atStart => exact ⟨0, [], none, 0, 0, rfl, rfl, by omega, Lib.hid rfl, Lib.hid (OwnW.nil _ _), Lib.hid (Below.refl _ _), Lib.hid rfl, Lib.hid (Nat.zero_le _)⟩
  case round =>
    obtain ⟨n, out, A, m, c', rfl, rfl, hn, Hm, HO, HB, Hf, Hlen0⟩ := hrel
    by_cases hlt : n < 99
    · have Hn := Lib.hid hlt
      obtain ⟨bed, hbed⟩ : ∃ bed : Int, bed = (n : Int) + 1 := ⟨_, rfl⟩
      have i1 : (bed ≤ 99) = True := eq_true (by omega)
      have Ib : Hid (wrap64 (bed + 1) = ((n + 1 : Nat) : Int) + 1) := Lib.hid (by unfold wrap64; omega)
      have Hbed := Lib.hid hbed
      rw [← hbed]
      clear hn hlt hbed
      have kM := RMarks_any AA qa ca (ls ++ ms) bed wr Hqa.out ((HAA.out.below HB.out (Nat.le_refl _)).more HB.out.size) (by have := Hqa4.out; omega)
      go_wp2_with fail
      refine kM.mono ?_
      rintro e w5 ⟨A5, c5, nk, hnk, rfl, hK, hB5⟩
      have HK := Lib.hid hK
      have Hnk := Lib.hid hnk
      have HB5 := Lib.hid (below2 HB.out hB5)
      have HO5 := Lib.hid (HO.out.below hB5)
      obtain ⟨kk, hkk⟩ : ∃ kk, kk = Mu.marks (ls ++ ms) bed := ⟨_, rfl⟩
      have Hkk := Lib.hid hkk
      rw [← hkk] at HK Hnk
      have Hnk8 : Hid (nk ≤ 800) := Lib.hid (by
        have h := Mu.marks_len bed (ls ++ ms) []
        have e : nk = (Mu.marks (ls ++ ms) bed).length := by rw [Hnk.out, hkk]
        have := Hqa4.out
        have := Hqa.out
        unfold Mu.marks at e
        simp only [List.length_nil] at h
        omega)
      obtain ⟨base, hbase⟩ : ∃ base, base = wr.heap.size := ⟨_, rfl⟩
      rw [← hbase] at HK
      clear hK hnk hB5 hkk hbase kM HB HO
      go_wp2_with fail
      obtain ⟨wo, hwo⟩ : ∃ W, W = wr := ⟨_, rfl⟩
      subst hwo
      go_loopw [8, 11] (fun z iv wr => ∃ (i : Nat) (out' : List Win) (A : Option Addr) (m c' : Nat), z = .slice A m c' ∧ iv = .int .i64 (i : Int) ∧ i ≤ nk - 1 ∧ Hid (m = out'.length) ∧ Hid (OwnW wr G.heap.size (.slice A m c') out') ∧ Hid (OwnN wr base (.slice A5 nk c5) kk) ∧ Hid (Below G.heap.size G wr) ∧ Hid (Mu.segN (Mu.F2 ls ms both bed) bed kk i out = out') ∧ Hid (out'.length ≤ n * 800 + i)) (fun _ iv _ => nk - (intOf iv).toNat)
      case atStart => exact ⟨0, out, A, m, c', rfl, rfl, Nat.zero_le _, Hm, HO5, HK, HB5, Lib.hid rfl, Lib.hid (by have := Hlen0.out; omega)⟩
      case round =>
        clear HO5 HK HB5 Hm
        obtain ⟨i, out', A, m, c', rfl, rfl, hi, Hm, HO1, HN1, HB1, Hs, Hlen⟩ := hrel
        obtain ⟨w1, hw1⟩ : ∃ W, W = wr := ⟨_, rfl⟩
        rw [← hw1] at HO1 HN1 HB1 ⊢
        clear hw1
        have hnk8 := Hnk8.out
        have Hn99 := Hn
        have Hlen99 : Hid (out'.length ≤ 90000) := Lib.hid (by have := Hlen.out; have := Hn.out; omega)
        by_cases hlt : i + 1 < nk
        · have hlk : i + 1 < kk.length := by rw [← Hnk.out]; exact hlt
          obtain ⟨gk, rfl⟩ : ∃ gk, A5 = some ⟨gk, 0, none⟩ := by
            rcases HN1.out.2 with ⟨e, h0⟩ | ⟨g, cap, cur, e, _⟩
            · omega
            · cases e; exact ⟨g, rfl⟩
          have HX : Hid (∀ W, OwnN W base (.slice (some ⟨gk, 0, none⟩) nk c5) kk → W.cell? ⟨gk, i, none⟩ = some (.int .i64 (kk.getD i 0)) ∧ W.cell? ⟨gk, i + 1, none⟩ = some (.int .i64 (kk.getD (i + 1) 0))) := Lib.hid (fun W h => h.pair hlk)
          have Hstep : Hid (Mu.segN (Mu.F2 ls ms both bed) bed kk (i + 1) out = if Mu.F2 ls ms both bed (kk.getD i 0) then Mu.joinW bed (kk.getD i 0) (kk.getD (i + 1) 0) out' else out') := Lib.hid (by rw [Mu.segN_succ, Hs.out]; rfl)
          obtain ⟨x0, hx0⟩ : ∃ x, x = kk.getD i 0 := ⟨_, rfl⟩
          obtain ⟨x1, hx1⟩ : ∃ x, x = kk.getD (i + 1) 0 := ⟨_, rfl⟩
          rw [← hx0, ← hx1] at HX Hstep
          have e0 := (HX.out w1 HN1.out).1
          have e1 := (HX.out w1 HN1.out).2
          have hi2 : i + 1 ≤ nk - 1 := by omega
          have j1 : ((i : Int) + 1 < (nk : Int)) = True := eq_true (by omega)
          have j2 : (i : Int) < (nk : Int) := by omega
          have j3 : (0 : Int) ≤ (i : Int) := by omega
          have j4 : (0 : Int) ≤ (i : Int) + 1 := by omega
          have j5 : (i : Int) + 1 < (nk : Int) := by omega
          have kH1 := RHas_any A0 l c ls bed x0 w1 G1.out.1 (G1.out.on HB1.out).2.1 G1.out.2.2.2
          have kH2 := RHas_any B0 k d ms bed x0 w1 G2.out.1 (G2.out.on HB1.out).2.1 G2.out.2.2.2
          obtain ⟨t1, ht1⟩ : ∃ t, t = Mu.has ls bed x0 := ⟨_, rfl⟩
          obtain ⟨t2, ht2⟩ : ∃ t, t = Mu.has ms bed x0 := ⟨_, rfl⟩
          have HF : Hid (Mu.F2 ls ms both bed x0 = if both then t1 || t2 else t1 && !t2) := Lib.hid (by unfold Mu.F2; rw [ht1, ht2])
          rw [← ht1] at kH1
          rw [← ht2] at kH2
          have hi8 : i ≤ 1000 := by omega
          clear hx0 hx1 ht1 ht2 hlk Hs hlt hi hnk8
          have Hi2 := Lib.hid hi2
          clear hi2
          have Iw : Hid (wrap64 ((i : Int) + 1) = (i : Int) + 1) := Lib.hid (by unfold wrap64; omega)
          have Jw : Hid (IntKind.i64.wrap ((i : Int) + 1) = (i : Int) + 1) := Lib.hid (by rw [IntKind.wrap_i64]; omega)
          have iw := Iw.out
          have Tj : Hid (((i : Int) + 1).toNat = i + 1) := Lib.hid (Int.toNat_natCast (i + 1))
          go_wp2_with fail
          refine kH1.mono ?_
          rintro e w6 ⟨rfl, rfl⟩
          go_wp2_with fail
          refine kH2.mono ?_
          rintro e w7 ⟨rfl, rfl⟩
          clear kH1 kH2
          obtain ⟨w1, hw1⟩ : ∃ W, W = w7 := ⟨_, rfl⟩
          rw [← hw1] at HO1 HN1 HB1 e0 e1 ⊢
          clear hw1
          cases hin : (if both then t1 || t2 else t1 && !t2 : Bool) with
          | false =>
            have Hd : Hid (Mu.segN (Mu.F2 ls ms both bed) bed kk (i + 1) out = out') := Lib.hid (by rw [Hstep.out, HF.out, hin]; rfl)
            clear HF Hstep
            cases both <;> cases t1 <;> cases t2 <;> first | (exact absurd hin (by decide)) | skip
            all_goals clear hin
            all_goals go_wp2
            all_goals go_roundw
            all_goals first
              | (case rel => exact ⟨i + 1, out', A, m, c', rfl, by first | rfl | (rw [Iw.out]; rfl), Hi2.out, Hm, HO1, HN1, HB1, Hd, Lib.hid (by have := Hlen.out; omega)⟩)
              | skip
            all_goals ((try rw [Iw.out]); simp [intOf]; omega)
          | true =>
            have Hd0 : Hid (Mu.segN (Mu.F2 ls ms both bed) bed kk (i + 1) out = Mu.joinW bed x0 x1 out') := Lib.hid (by rw [Hstep.out, HF.out, hin]; rfl)
            clear HF Hstep
            by_cases hout : out' = []
            · subst hout
              obtain rfl : m = 0 := Hm.out
              have Hd : Hid (Mu.segN (Mu.F2 ls ms both bed) bed kk (i + 1) out = [] ++ [⟨bed, x0, x1⟩]) := Lib.hid Hd0.out
              clear Hd0 Hm
              cases both <;> cases t1 <;> cases t2 <;> first | (exact absurd hin (by decide)) | skip
              all_goals
                clear hin
                go_wp2_with fail
                go_quiet (fail)
                clear e0 e1
                obtain ⟨W8, hW8⟩ : ∃ W, W = w1.drewN nq := ⟨_, rfl⟩
                have HBq : Hid (Below w1.heap.size w1 W8) := Lib.hid (by rw [hW8]; exact below_drew (Below.refl _ _) nq)
                rw [← hW8]
                clear hW8
                have HO8 := Lib.hid (HO1.out.below HBq.out)
                have HN8 := Lib.hid (HN1.out.below HBq.out)
                have HB8 := Lib.hid (below2 HB1.out HBq.out)
                have HC8 := Lib.hid (HX.out W8 HN8.out)
                have HK8 : Hid (True ∧ gk < W8.heap.size) := Lib.hid ⟨trivial, HN8.out.lt⟩
                have hS : W8.drew.cell? ⟨gk, i, none⟩ = some (.int .i64 x0) ∧ W8.drew.cell? ⟨gk, i + 1, none⟩ = some (.int .i64 x1) := HC8.out
                clear HO1 HN1 HB1
                go_wp2_with fail
                refine wp_region_held_drew (S := (fun W : World => W.cell? ⟨gk, i, none⟩ = some (.int .i64 x0) ∧ W.cell? ⟨gk, i + 1, none⟩ = some (.int .i64 x1))) (by kernel_rfl) hS (fun hHeld => ?_)
                refine wpAnyH_take (i := 0) (oi := { dst := some 100, op := Op.move (Operand.tmp 8), type := 22, pos := _, after := #[], guard := none }) (v := ?_) rfl (by kernel_rfl) (by kernel_rfl) (by kernel_rfl) (fun _ _ _ h => h) (Or.inl ⟨by rfl, ?hy⟩) hHeld ?_
                case hy => intro w0 hSw; (try dsimp only at hSw); go_simp; (try with_reducible rfl)
                (try simp only [Act.put, List.setIfInBounds_toArray, List.set_cons_zero, List.set_cons_succ])
                refine wpAnyH_take (i := 1) (oi := { dst := some 101, op := Op.move (Operand.tmp 9), type := 3, pos := _, after := #[], guard := none }) (v := ?_) rfl (by kernel_rfl) (by kernel_rfl) (by kernel_rfl) (fun _ _ _ h => h) (Or.inl ⟨by rfl, ?hy⟩) hHeld ?_
                case hy => intro w0 hSw; (try dsimp only at hSw); go_simp; (try with_reducible rfl)
                (try simp only [Act.put, List.setIfInBounds_toArray, List.set_cons_zero, List.set_cons_succ])
                refine wpAnyH_take (i := 2) (oi := { dst := some 102, op := Op.move (Operand.tmp 10), type := 64, pos := _, after := #[], guard := none }) (v := ?_) rfl (by kernel_rfl) (by kernel_rfl) (by kernel_rfl) (fun _ _ _ h => h) (Or.inl ⟨by rfl, ?hy⟩) hHeld ?_
                case hy => intro w0 hSw; (try dsimp only at hSw); go_simp; (try with_reducible rfl)
                (try simp only [Act.put, List.setIfInBounds_toArray, List.set_cons_zero, List.set_cons_succ])
                refine wpAnyH_take (i := 3) (oi := { dst := some 103, op := Op.move (Operand.tmp 11), type := 3, pos := _, after := #[], guard := none }) (v := ?_) rfl (by kernel_rfl) (by kernel_rfl) (by kernel_rfl) (fun _ _ _ h => h) (Or.inl ⟨by rfl, ?hy⟩) hHeld ?_
                case hy => intro w0 hSw; (try dsimp only at hSw); go_simp; (try with_reducible rfl)
                (try simp only [Act.put, List.setIfInBounds_toArray, List.set_cons_zero, List.set_cons_succ])
                refine wpAnyH_take (i := 4) (oi := { dst := some 104, op := Op.indexAddr 64 (Operand.tmp 102) (Operand.tmp 103), type := 0, pos := _, after := #[{ on := 2, ground := Ground.data }, { on := 3, ground := Ground.data }], guard := none }) (v := ?_) rfl (by kernel_rfl) (by kernel_rfl) (by kernel_rfl) (fun _ _ _ h => h) (Or.inl ⟨by rfl, ?hy⟩) hHeld ?_
                case hy => intro w0 hSw; (try dsimp only at hSw); go_simp; (try with_reducible rfl)
                (try simp only [Act.put, List.setIfInBounds_toArray, List.set_cons_zero, List.set_cons_succ])
                refine wpAnyH_take (i := 5) (oi := { dst := some 105, op := Op.load 3 (Operand.tmp 104), type := 3, pos := _, after := #[{ on := 4, ground := Ground.data }], guard := none }) (v := ?_) rfl (by kernel_rfl) (by kernel_rfl) (by kernel_rfl) (fun _ _ _ h => h) (Or.inl ⟨by rfl, ?hy⟩) hHeld ?_
                case hy => intro w0 hSw; have d0 := hSw.1; clear hSw; go_simp; (try with_reducible rfl)
                (try simp only [Act.put, List.setIfInBounds_toArray, List.set_cons_zero, List.set_cons_succ])
                refine wpAnyH_take (i := 6) (oi := { dst := some 106, op := Op.move (Operand.tmp 10), type := 64, pos := _, after := #[], guard := none }) (v := ?_) rfl (by kernel_rfl) (by kernel_rfl) (by kernel_rfl) (fun _ _ _ h => h) (Or.inl ⟨by rfl, ?hy⟩) hHeld ?_
                case hy => intro w0 hSw; (try dsimp only at hSw); go_simp; (try with_reducible rfl)
                (try simp only [Act.put, List.setIfInBounds_toArray, List.set_cons_zero, List.set_cons_succ])
                refine wpAnyH_take (i := 7) (oi := { dst := some 107, op := Op.move (Operand.tmp 11), type := 3, pos := _, after := #[], guard := none }) (v := ?_) rfl (by kernel_rfl) (by kernel_rfl) (by kernel_rfl) (fun _ _ _ h => h) (Or.inl ⟨by rfl, ?hy⟩) hHeld ?_
                case hy => intro w0 hSw; (try dsimp only at hSw); go_simp; (try with_reducible rfl)
                (try simp only [Act.put, List.setIfInBounds_toArray, List.set_cons_zero, List.set_cons_succ])
                refine wpAnyH_take (i := 8) (oi := { dst := some 108, op := Op.binOp BinOp.add 3 (Operand.tmp 107) (Operand.const (Value.int IntKind.i64 1)) 3, type := 3, pos := _, after := #[{ on := 7, ground := Ground.data }], guard := none }) (v := ?_) rfl (by kernel_rfl) (by kernel_rfl) (by kernel_rfl) (fun _ _ _ h => h) (Or.inl ⟨by rfl, ?hy⟩) hHeld ?_
                case hy => intro w0 hSw; clear hSw; go_simp; rw [Jw.out]; (try with_reducible rfl)
                (try simp only [Act.put, List.setIfInBounds_toArray, List.set_cons_zero, List.set_cons_succ])
                refine wpAnyH_take (i := 9) (oi := { dst := some 109, op := Op.indexAddr 64 (Operand.tmp 106) (Operand.tmp 108), type := 0, pos := _, after := #[{ on := 6, ground := Ground.data }, { on := 8, ground := Ground.data }], guard := none }) (v := ?_) rfl (by kernel_rfl) (by kernel_rfl) (by kernel_rfl) (fun _ _ _ h => h) (Or.inl ⟨by rfl, ?hy⟩) hHeld ?_
                case hy => intro w0 hSw; clear hSw; go_simp; (try rw [Tj.out]); (try with_reducible rfl)
                (try simp only [Act.put, List.setIfInBounds_toArray, List.set_cons_zero, List.set_cons_succ])
                refine wpAnyH_take (i := 10) (oi := { dst := some 110, op := Op.load 3 (Operand.tmp 109), type := 3, pos := _, after := #[{ on := 9, ground := Ground.data }], guard := none }) (v := ?_) rfl (by kernel_rfl) (by kernel_rfl) (by kernel_rfl) (fun _ _ _ h => h) (Or.inl ⟨by rfl, ?hy⟩) hHeld ?_
                case hy => intro w0 hSw; have d0 := hSw.2; clear hSw; go_simp; (try with_reducible rfl)
                (try simp only [Act.put, List.setIfInBounds_toArray, List.set_cons_zero, List.set_cons_succ])
                refine wpAnyH_take (i := 11) (oi := { dst := some 111, op := Op.build 32 #[(0, Operand.tmp 101), (1, Operand.tmp 105), (2, Operand.tmp 110)], type := 32, pos := _, after := #[{ on := 1, ground := Ground.data }, { on := 5, ground := Ground.data }, { on := 10, ground := Ground.data }], guard := none }) (v := ?_) rfl (by kernel_rfl) (by kernel_rfl) (by kernel_rfl) (fun _ _ _ h => h) (Or.inl ⟨by rfl, ?hy⟩) hHeld ?_
                case hy => intro w0 hSw; (try dsimp only at hSw); go_simp; (try with_reducible rfl)
                (try simp only [Act.put, List.setIfInBounds_toArray, List.set_cons_zero, List.set_cons_succ])
                refine wpAnyH_ready (rs := [12]) (by kernel_rfl) (by simp) ?_
                refine AllReadyH.cons (o := { dst := some 112, op := Op.buildSlice 22 1 #[(0, Operand.tmp 111)], type := 22, pos := _, after := #[{ on := 11, ground := Ground.data }], guard := none }) rfl (fun K hK => ?_) AllReadyH.nil
                go_simp
                have hT := WinsAt.one W8.drew bed x0 x1 32
                have HBn : Hid (Below W8.heap.size W8 (W8.drew.alloc (.cells #[.int .i64 bed, .int .i64 x0, .int .i64 x1] 32))) := Lib.hid (below2 (below_drew (Below.refl _ _) 1) (below_new W8.drew (.cells #[.int .i64 bed, .int .i64 x0, .int .i64 x1] 32)))
                replace hS : (W8.drew.alloc (.cells #[.int .i64 bed, .int .i64 x0, .int .i64 x1] 32)).cell? ⟨gk, i, none⟩ = some (.int .i64 x0) ∧ (W8.drew.alloc (.cells #[.int .i64 bed, .int .i64 x0, .int .i64 x1] 32)).cell? ⟨gk, i + 1, none⟩ = some (.int .i64 x1) := ⟨(HBn.out.cell (p := ⟨gk, i, none⟩) HK8.out.2).trans HC8.out.1, (HBn.out.cell (p := ⟨gk, i + 1, none⟩) HK8.out.2).trans HC8.out.2⟩
                have hOw := HO8.out.below HBn.out
                have hKw := HN8.out.below HBn.out
                go_wp2_with fail
                refine hK.out _ _ hS (fun hHeld => ?_)
                clear hK K
                (try simp only [Act.put, List.setIfInBounds_toArray, List.set_cons_zero, List.set_cons_succ])
                refine wpAnyH_ready (rs := [13]) (by kernel_rfl) (by simp) ?_
                refine AllReadyH.cons (o := { dst := some 113, op := Op.call { callee := Callee.builtin Builtin.append, args := #[Operand.tmp 100, Operand.tmp 112], argTypes := #[22, 22] }, type := 22, pos := _, after := #[{ on := 0, ground := Ground.data }, { on := 12, ground := Ground.data }], guard := none }) rfl (fun K hK => ?_) AllReadyH.nil
                rw [if_pos (by rfl)]
                refine wp_append_wins _ _ 22 rfl Try.underlying22 G.heap.size _ [] [(⟨bed, x0, x1⟩ : Win)] rfl hOw ⟨W8.drew.heap.size, 0, none⟩ 1 rfl hT (Nat.le_trans HB8.out.size HBn.out.size) (by simp) ?_
                intro v' w9 hown' hgrow
                have HB9 : Hid (Below G.heap.size G w9) := Lib.hid ((below2 HB8.out HBn.out).grown hgrow (Nat.le_trans HB8.out.size HBn.out.size) (fun k hk => hOw.ge k hk))
                have hap := own_apartN hKw hOw
                have HN9 := Lib.hid (hKw.besides hgrow hap)
                obtain ⟨A9, c9, rfl, _⟩ := hown'.slice
                obtain ⟨m9, hm9⟩ : ∃ m9, m9 = ([] ++ [(⟨bed, x0, x1⟩ : Win)]).length := ⟨_, rfl⟩
                rw [← hm9] at hown' ⊢
                have HO9 := Lib.hid hown'
                replace hS : w9.cell? ⟨gk, i, none⟩ = some (.int .i64 x0) ∧ w9.cell? ⟨gk, i + 1, none⟩ = some (.int .i64 x1) := HX.out w9 HN9.out
                have Hm9 := Lib.hid hm9
                clear hm9 hown' hgrow hOw hT hap hKw
                refine hK.out _ _ hS (fun hHeld => ?_)
                clear hK K
                (try simp only [Act.put, List.setIfInBounds_toArray, List.set_cons_zero, List.set_cons_succ])
                refine wpAnyH_take (i := 14) (oi := { dst := some 8, op := Op.assign (Operand.tmp 113), type := 22, pos := _, after := #[{ on := 13, ground := Ground.data }, { on := 13, ground := Ground.chain }, { on := 0, ground := Ground.phase }, { on := 1, ground := Ground.phase }, { on := 2, ground := Ground.phase }, { on := 3, ground := Ground.phase }, { on := 4, ground := Ground.phase }, { on := 5, ground := Ground.phase }, { on := 6, ground := Ground.phase }, { on := 7, ground := Ground.phase }, { on := 8, ground := Ground.phase }, { on := 9, ground := Ground.phase }, { on := 10, ground := Ground.phase }, { on := 11, ground := Ground.phase }, { on := 12, ground := Ground.phase }, { on := 13, ground := Ground.phase }], guard := none }) (v := ?_) rfl (by kernel_rfl) (by kernel_rfl) (by kernel_rfl) (fun _ _ _ h => h) (Or.inl ⟨by rfl, ?hy⟩) hHeld ?_
                case hy => intro w0 hSw; (try dsimp only at hSw); go_simp; (try with_reducible rfl)
                (try simp only [Act.put, List.setIfInBounds_toArray, List.set_cons_zero, List.set_cons_succ])
                refine wpAnyH_done (by kernel_rfl) ?_ _
                clear hHeld hS
                go_wp2
                go_roundw
                case rel => exact ⟨i + 1, [] ++ [⟨bed, x0, x1⟩], A9, m9, c9, rfl, by first | rfl | (rw [Iw.out]; rfl), Hi2.out, Hm9, HO9, HN9, HB9, Hd, Lib.hid (by have h := Hlen.out; rw [List.length_append]; simp only [List.length_cons, List.length_nil] at h ⊢; omega)⟩
                case measure => (try rw [Iw.out]); simp [intOf]; omega
            · obtain ⟨pre, v, rfl⟩ : ∃ pre v, out' = pre ++ [v] := ⟨out'.dropLast, out'.getLast hout, (List.dropLast_concat_getLast hout).symm⟩
              clear hout
              obtain ⟨v0, v1, v2⟩ := v
              obtain ⟨g2, rfl, hm2, hb2, hlt2, h3, hf⟩ := HO1.out.last
              obtain ⟨kp, hkp⟩ : ∃ kp, kp = pre.length := ⟨_, rfl⟩
              have Hkp := Lib.hid hkp
              rw [← hkp] at hm2 h3 hf
              subst hm2
              have q0 := h3.c0
              have q2 := h3.c2
              have Hq2 : Hid (G.heap.size ≤ g2) := Lib.hid hb2
              simp only at q0 q2
              have p1 : ((kp : Int) + 1 > 0) = True := eq_true (by omega)
              have p2 : (kp : Int) < (kp : Int) + 1 := by omega
              have p3 : (0 : Int) ≤ (kp : Int) := by omega
              have p5 : kp < kp + 1 := by omega
              have hkp9 : kp ≤ 90000 := by have h := Hlen99.out; rw [List.length_append, ← hkp] at h; omega
              have Pw : Hid (wrap64 ((kp : Int) + 1 - 1) = (kp : Int) ∧ wrap64 (kp : Int) = (kp : Int)) := Lib.hid ⟨by unfold wrap64; omega, by unfold wrap64; omega⟩
              have p7 := Pw.out.1
              have p8 := Pw.out.2
              have Hln9 : Hid ((pre ++ [(⟨v0, v1, v2⟩ : Win)]).length ≤ 90000) := Hlen99
              clear hkp h3 hb2 hlt2 hkp9 hf Hm Hlen99
              by_cases hv : v0 = bed
              · have b0 : (v0 == bed) = true := beq_iff_eq.2 hv
                have b0' : (v0 = bed) = True := eq_true hv
                by_cases hv2 : v2 = x0
                · have b2 : (v2 == x0) = true := beq_iff_eq.2 hv2
                  have b2' : (v2 = x0) = True := eq_true hv2
                  have Hd : Hid (Mu.segN (Mu.F2 ls ms both bed) bed kk (i + 1) out = pre ++ [⟨v0, v1, x1⟩]) := Lib.hid (by
                    rw [Hd0.out, hv, hv2]
                    exact Mu.joinW_on pre)
                  have Hln3 : Hid ((pre ++ [(⟨v0, v1, x1⟩ : Win)]).length ≤ n * 800 + (i + 1)) := Lib.hid (by have h := Hlen.out; simp at h ⊢; omega)
                  clear hv hv2 Hd0
                  cases both <;> cases t1 <;> cases t2 <;> first | (exact absurd hin (by decide)) | skip
                  all_goals
                    clear hin
                    go_wp2_with fail
                    go_quiet (fail)
                    clear e0 e1 q0 q2
                    obtain ⟨W8, hW8⟩ : ∃ W, W = w1.drewN nq := ⟨_, rfl⟩
                    have HBq : Hid (Below w1.heap.size w1 W8) := Lib.hid (by rw [hW8]; exact below_drew (Below.refl _ _) nq)
                    rw [← hW8]
                    clear hW8
                    have HO8 := Lib.hid (HO1.out.below HBq.out)
                    have HN8 := Lib.hid (HN1.out.below HBq.out)
                    have HB8 := Lib.hid (below2 HB1.out HBq.out)
                    have e0 := (HX.out W8 HN8.out).1
                    have e1 := (HX.out W8 HN8.out).2
                    obtain ⟨g3, eg3, _, _, _, h3, hf⟩ := HO8.out.last
                    cases eg3
                    rw [← Hkp.out] at h3 hf
                    have q2 := h3.c2
                    simp only at q2
                    have HO9 : Hid (OwnW (W8.setCell ⟨g2, kp * 3 + 2, none⟩ (.int .i64 x1)) G.heap.size (.slice (some ⟨g2, 0, none⟩) (kp + 1) c') (pre ++ [⟨v0, v1, x1⟩])) := Lib.hid (by have h := HO8.out.setTo x1; rw [← Hkp.out] at h; exact h)
                    have HN9 : Hid (OwnN (W8.setCell ⟨g2, kp * 3 + 2, none⟩ (.int .i64 x1)) base (.slice (some ⟨gk, 0, none⟩) nk c5) kk) := Lib.hid (HN8.out.besides (grown_setCell (grown_refl W8 (some g2)) (kp * 3 + 2) (.int .i64 x1)) (own_apartN HN8.out HO8.out))
                    have HB9 : Hid (Below G.heap.size G (W8.setCell ⟨g2, kp * 3 + 2, none⟩ (.int .i64 x1))) := Lib.hid (HB8.out.trans (below_setCell9 W8 Hq2.out))
                    clear HO1 HN1 HB1 HO8 HN8 h3
                    go_wp2
                    go_roundw
                    case rel => exact ⟨i + 1, pre ++ [⟨v0, v1, x1⟩], some ⟨g2, 0, none⟩, kp + 1, c', rfl, by first | rfl | (rw [Iw.out]; rfl), Hi2.out, Lib.hid (by rw [Hkp.out]; simp), HO9, HN9, HB9, Hd, Hln3⟩
                    case measure => (try rw [Iw.out]); have := Hi2.out; simp [intOf]; omega
                · have b2 : (v2 == x0) = false := by rw [beq_eq_false_iff_ne]; exact hv2
                  have b2' : (v2 = x0) = False := eq_false hv2
                  have Hd : Hid (Mu.segN (Mu.F2 ls ms both bed) bed kk (i + 1) out = (pre ++ [⟨v0, v1, v2⟩]) ++ [⟨bed, x0, x1⟩]) := Lib.hid (by
                    rw [Hd0.out]
                    exact Mu.joinW_new pre (fun h => hv2 h.2))
                  clear hv hv2 Hd0
                  cases both <;> cases t1 <;> cases t2 <;> first | (exact absurd hin (by decide)) | skip
                  all_goals
                    clear hin
                    go_wp2_with fail
                    go_quiet (fail)
                    clear e0 e1 q0 q2
                    obtain ⟨W8, hW8⟩ : ∃ W, W = w1.drewN nq := ⟨_, rfl⟩
                    have HBq : Hid (Below w1.heap.size w1 W8) := Lib.hid (by rw [hW8]; exact below_drew (Below.refl _ _) nq)
                    rw [← hW8]
                    clear hW8
                    have HO8 := Lib.hid (HO1.out.below HBq.out)
                    have HN8 := Lib.hid (HN1.out.below HBq.out)
                    have HB8 := Lib.hid (below2 HB1.out HBq.out)
                    have HC8 := Lib.hid (HX.out W8 HN8.out)
                    have HK8 : Hid (True ∧ gk < W8.heap.size) := Lib.hid ⟨trivial, HN8.out.lt⟩
                    have hS : W8.drew.cell? ⟨gk, i, none⟩ = some (.int .i64 x0) ∧ W8.drew.cell? ⟨gk, i + 1, none⟩ = some (.int .i64 x1) := HC8.out
                    clear HO1 HN1 HB1
                    go_wp2_with fail
                    refine wp_region_held_drew (S := (fun W : World => W.cell? ⟨gk, i, none⟩ = some (.int .i64 x0) ∧ W.cell? ⟨gk, i + 1, none⟩ = some (.int .i64 x1))) (by kernel_rfl) hS (fun hHeld => ?_)
                    refine wpAnyH_take (i := 0) (oi := { dst := some 100, op := Op.move (Operand.tmp 8), type := 22, pos := _, after := #[], guard := none }) (v := ?_) rfl (by kernel_rfl) (by kernel_rfl) (by kernel_rfl) (fun _ _ _ h => h) (Or.inl ⟨by rfl, ?hy⟩) hHeld ?_
                    case hy => intro w0 hSw; (try dsimp only at hSw); go_simp; (try with_reducible rfl)
                    (try simp only [Act.put, List.setIfInBounds_toArray, List.set_cons_zero, List.set_cons_succ])
                    refine wpAnyH_take (i := 1) (oi := { dst := some 101, op := Op.move (Operand.tmp 9), type := 3, pos := _, after := #[], guard := none }) (v := ?_) rfl (by kernel_rfl) (by kernel_rfl) (by kernel_rfl) (fun _ _ _ h => h) (Or.inl ⟨by rfl, ?hy⟩) hHeld ?_
                    case hy => intro w0 hSw; (try dsimp only at hSw); go_simp; (try with_reducible rfl)
                    (try simp only [Act.put, List.setIfInBounds_toArray, List.set_cons_zero, List.set_cons_succ])
                    refine wpAnyH_take (i := 2) (oi := { dst := some 102, op := Op.move (Operand.tmp 10), type := 64, pos := _, after := #[], guard := none }) (v := ?_) rfl (by kernel_rfl) (by kernel_rfl) (by kernel_rfl) (fun _ _ _ h => h) (Or.inl ⟨by rfl, ?hy⟩) hHeld ?_
                    case hy => intro w0 hSw; (try dsimp only at hSw); go_simp; (try with_reducible rfl)
                    (try simp only [Act.put, List.setIfInBounds_toArray, List.set_cons_zero, List.set_cons_succ])
                    refine wpAnyH_take (i := 3) (oi := { dst := some 103, op := Op.move (Operand.tmp 11), type := 3, pos := _, after := #[], guard := none }) (v := ?_) rfl (by kernel_rfl) (by kernel_rfl) (by kernel_rfl) (fun _ _ _ h => h) (Or.inl ⟨by rfl, ?hy⟩) hHeld ?_
                    case hy => intro w0 hSw; (try dsimp only at hSw); go_simp; (try with_reducible rfl)
                    (try simp only [Act.put, List.setIfInBounds_toArray, List.set_cons_zero, List.set_cons_succ])
                    refine wpAnyH_take (i := 4) (oi := { dst := some 104, op := Op.indexAddr 64 (Operand.tmp 102) (Operand.tmp 103), type := 0, pos := _, after := #[{ on := 2, ground := Ground.data }, { on := 3, ground := Ground.data }], guard := none }) (v := ?_) rfl (by kernel_rfl) (by kernel_rfl) (by kernel_rfl) (fun _ _ _ h => h) (Or.inl ⟨by rfl, ?hy⟩) hHeld ?_
                    case hy => intro w0 hSw; (try dsimp only at hSw); go_simp; (try with_reducible rfl)
                    (try simp only [Act.put, List.setIfInBounds_toArray, List.set_cons_zero, List.set_cons_succ])
                    refine wpAnyH_take (i := 5) (oi := { dst := some 105, op := Op.load 3 (Operand.tmp 104), type := 3, pos := _, after := #[{ on := 4, ground := Ground.data }], guard := none }) (v := ?_) rfl (by kernel_rfl) (by kernel_rfl) (by kernel_rfl) (fun _ _ _ h => h) (Or.inl ⟨by rfl, ?hy⟩) hHeld ?_
                    case hy => intro w0 hSw; have d0 := hSw.1; clear hSw; go_simp; (try with_reducible rfl)
                    (try simp only [Act.put, List.setIfInBounds_toArray, List.set_cons_zero, List.set_cons_succ])
                    refine wpAnyH_take (i := 6) (oi := { dst := some 106, op := Op.move (Operand.tmp 10), type := 64, pos := _, after := #[], guard := none }) (v := ?_) rfl (by kernel_rfl) (by kernel_rfl) (by kernel_rfl) (fun _ _ _ h => h) (Or.inl ⟨by rfl, ?hy⟩) hHeld ?_
                    case hy => intro w0 hSw; (try dsimp only at hSw); go_simp; (try with_reducible rfl)
                    (try simp only [Act.put, List.setIfInBounds_toArray, List.set_cons_zero, List.set_cons_succ])
                    refine wpAnyH_take (i := 7) (oi := { dst := some 107, op := Op.move (Operand.tmp 11), type := 3, pos := _, after := #[], guard := none }) (v := ?_) rfl (by kernel_rfl) (by kernel_rfl) (by kernel_rfl) (fun _ _ _ h => h) (Or.inl ⟨by rfl, ?hy⟩) hHeld ?_
                    case hy => intro w0 hSw; (try dsimp only at hSw); go_simp; (try with_reducible rfl)
                    (try simp only [Act.put, List.setIfInBounds_toArray, List.set_cons_zero, List.set_cons_succ])
                    refine wpAnyH_take (i := 8) (oi := { dst := some 108, op := Op.binOp BinOp.add 3 (Operand.tmp 107) (Operand.const (Value.int IntKind.i64 1)) 3, type := 3, pos := _, after := #[{ on := 7, ground := Ground.data }], guard := none }) (v := ?_) rfl (by kernel_rfl) (by kernel_rfl) (by kernel_rfl) (fun _ _ _ h => h) (Or.inl ⟨by rfl, ?hy⟩) hHeld ?_
                    case hy => intro w0 hSw; clear hSw; go_simp; rw [Jw.out]; (try with_reducible rfl)
                    (try simp only [Act.put, List.setIfInBounds_toArray, List.set_cons_zero, List.set_cons_succ])
                    refine wpAnyH_take (i := 9) (oi := { dst := some 109, op := Op.indexAddr 64 (Operand.tmp 106) (Operand.tmp 108), type := 0, pos := _, after := #[{ on := 6, ground := Ground.data }, { on := 8, ground := Ground.data }], guard := none }) (v := ?_) rfl (by kernel_rfl) (by kernel_rfl) (by kernel_rfl) (fun _ _ _ h => h) (Or.inl ⟨by rfl, ?hy⟩) hHeld ?_
                    case hy => intro w0 hSw; clear hSw; go_simp; (try rw [Tj.out]); (try with_reducible rfl)
                    (try simp only [Act.put, List.setIfInBounds_toArray, List.set_cons_zero, List.set_cons_succ])
                    refine wpAnyH_take (i := 10) (oi := { dst := some 110, op := Op.load 3 (Operand.tmp 109), type := 3, pos := _, after := #[{ on := 9, ground := Ground.data }], guard := none }) (v := ?_) rfl (by kernel_rfl) (by kernel_rfl) (by kernel_rfl) (fun _ _ _ h => h) (Or.inl ⟨by rfl, ?hy⟩) hHeld ?_
                    case hy => intro w0 hSw; have d0 := hSw.2; clear hSw; go_simp; (try with_reducible rfl)
                    (try simp only [Act.put, List.setIfInBounds_toArray, List.set_cons_zero, List.set_cons_succ])
                    refine wpAnyH_take (i := 11) (oi := { dst := some 111, op := Op.build 32 #[(0, Operand.tmp 101), (1, Operand.tmp 105), (2, Operand.tmp 110)], type := 32, pos := _, after := #[{ on := 1, ground := Ground.data }, { on := 5, ground := Ground.data }, { on := 10, ground := Ground.data }], guard := none }) (v := ?_) rfl (by kernel_rfl) (by kernel_rfl) (by kernel_rfl) (fun _ _ _ h => h) (Or.inl ⟨by rfl, ?hy⟩) hHeld ?_
                    case hy => intro w0 hSw; (try dsimp only at hSw); go_simp; (try with_reducible rfl)
                    (try simp only [Act.put, List.setIfInBounds_toArray, List.set_cons_zero, List.set_cons_succ])
                    refine wpAnyH_ready (rs := [12]) (by kernel_rfl) (by simp) ?_
                    refine AllReadyH.cons (o := { dst := some 112, op := Op.buildSlice 22 1 #[(0, Operand.tmp 111)], type := 22, pos := _, after := #[{ on := 11, ground := Ground.data }], guard := none }) rfl (fun K hK => ?_) AllReadyH.nil
                    go_simp
                    have hT := WinsAt.one W8.drew bed x0 x1 32
                    have HBn : Hid (Below W8.heap.size W8 (W8.drew.alloc (.cells #[.int .i64 bed, .int .i64 x0, .int .i64 x1] 32))) := Lib.hid (below2 (below_drew (Below.refl _ _) 1) (below_new W8.drew (.cells #[.int .i64 bed, .int .i64 x0, .int .i64 x1] 32)))
                    replace hS : (W8.drew.alloc (.cells #[.int .i64 bed, .int .i64 x0, .int .i64 x1] 32)).cell? ⟨gk, i, none⟩ = some (.int .i64 x0) ∧ (W8.drew.alloc (.cells #[.int .i64 bed, .int .i64 x0, .int .i64 x1] 32)).cell? ⟨gk, i + 1, none⟩ = some (.int .i64 x1) := ⟨(HBn.out.cell (p := ⟨gk, i, none⟩) HK8.out.2).trans HC8.out.1, (HBn.out.cell (p := ⟨gk, i + 1, none⟩) HK8.out.2).trans HC8.out.2⟩
                    have hOw := HO8.out.below HBn.out
                    have hKw := HN8.out.below HBn.out
                    go_wp2_with fail
                    refine hK.out _ _ hS (fun hHeld => ?_)
                    clear hK K
                    (try simp only [Act.put, List.setIfInBounds_toArray, List.set_cons_zero, List.set_cons_succ])
                    refine wpAnyH_ready (rs := [13]) (by kernel_rfl) (by simp) ?_
                    refine AllReadyH.cons (o := { dst := some 113, op := Op.call { callee := Callee.builtin Builtin.append, args := #[Operand.tmp 100, Operand.tmp 112], argTypes := #[22, 22] }, type := 22, pos := _, after := #[{ on := 0, ground := Ground.data }, { on := 12, ground := Ground.data }], guard := none }) rfl (fun K hK => ?_) AllReadyH.nil
                    rw [if_pos (by rfl)]
                    refine wp_append_wins _ _ 22 rfl Try.underlying22 G.heap.size _ (pre ++ [(⟨v0, v1, v2⟩ : Win)]) [(⟨bed, x0, x1⟩ : Win)] rfl hOw ⟨W8.drew.heap.size, 0, none⟩ 1 rfl hT (Nat.le_trans HB8.out.size HBn.out.size) (by have h := Hln9.out; simp at h ⊢; omega) ?_
                    intro v' w9 hown' hgrow
                    have HB9 : Hid (Below G.heap.size G w9) := Lib.hid ((below2 HB8.out HBn.out).grown hgrow (Nat.le_trans HB8.out.size HBn.out.size) (fun k hk => hOw.ge k hk))
                    have hap := own_apartN hKw hOw
                    have HN9 := Lib.hid (hKw.besides hgrow hap)
                    obtain ⟨A9, c9, rfl, _⟩ := hown'.slice
                    obtain ⟨m9, hm9⟩ : ∃ m9, m9 = ((pre ++ [(⟨v0, v1, v2⟩ : Win)]) ++ [(⟨bed, x0, x1⟩ : Win)]).length := ⟨_, rfl⟩
                    rw [← hm9] at hown' ⊢
                    have HO9 := Lib.hid hown'
                    replace hS : w9.cell? ⟨gk, i, none⟩ = some (.int .i64 x0) ∧ w9.cell? ⟨gk, i + 1, none⟩ = some (.int .i64 x1) := HX.out w9 HN9.out
                    have Hm9 := Lib.hid hm9
                    clear hm9 hown' hgrow hOw hT hap hKw
                    refine hK.out _ _ hS (fun hHeld => ?_)
                    clear hK K
                    (try simp only [Act.put, List.setIfInBounds_toArray, List.set_cons_zero, List.set_cons_succ])
                    refine wpAnyH_take (i := 14) (oi := { dst := some 8, op := Op.assign (Operand.tmp 113), type := 22, pos := _, after := #[{ on := 13, ground := Ground.data }, { on := 13, ground := Ground.chain }, { on := 0, ground := Ground.phase }, { on := 1, ground := Ground.phase }, { on := 2, ground := Ground.phase }, { on := 3, ground := Ground.phase }, { on := 4, ground := Ground.phase }, { on := 5, ground := Ground.phase }, { on := 6, ground := Ground.phase }, { on := 7, ground := Ground.phase }, { on := 8, ground := Ground.phase }, { on := 9, ground := Ground.phase }, { on := 10, ground := Ground.phase }, { on := 11, ground := Ground.phase }, { on := 12, ground := Ground.phase }, { on := 13, ground := Ground.phase }], guard := none }) (v := ?_) rfl (by kernel_rfl) (by kernel_rfl) (by kernel_rfl) (fun _ _ _ h => h) (Or.inl ⟨by rfl, ?hy⟩) hHeld ?_
                    case hy => intro w0 hSw; (try dsimp only at hSw); go_simp; (try with_reducible rfl)
                    (try simp only [Act.put, List.setIfInBounds_toArray, List.set_cons_zero, List.set_cons_succ])
                    refine wpAnyH_done (by kernel_rfl) ?_ _
                    clear hHeld hS
                    go_wp2
                    go_roundw
                    case rel => exact ⟨i + 1, (pre ++ [(⟨v0, v1, v2⟩ : Win)]) ++ [⟨bed, x0, x1⟩], A9, m9, c9, rfl, by first | rfl | (rw [Iw.out]; rfl), Hi2.out, Hm9, HO9, HN9, HB9, Hd, Lib.hid (by have h := Hlen.out; rw [List.length_append]; simp only [List.length_cons, List.length_nil] at h ⊢; omega)⟩
                    case measure => (try rw [Iw.out]); simp [intOf]; omega
              · have b0 : (v0 == bed) = false := by rw [beq_eq_false_iff_ne]; exact hv
                have b0' : (v0 = bed) = False := eq_false hv
                have Hd : Hid (Mu.segN (Mu.F2 ls ms both bed) bed kk (i + 1) out = (pre ++ [⟨v0, v1, v2⟩]) ++ [⟨bed, x0, x1⟩]) := Lib.hid (by
                  rw [Hd0.out]
                  exact Mu.joinW_new pre (fun h => hv h.1))
                clear hv Hd0
                cases both <;> cases t1 <;> cases t2 <;> first | (exact absurd hin (by decide)) | skip
                all_goals
                  clear hin
                  go_wp2_with fail
                  go_quiet (fail)
                  clear e0 e1 q0 q2
                  obtain ⟨W8, hW8⟩ : ∃ W, W = w1.drewN nq := ⟨_, rfl⟩
                  have HBq : Hid (Below w1.heap.size w1 W8) := Lib.hid (by rw [hW8]; exact below_drew (Below.refl _ _) nq)
                  rw [← hW8]
                  clear hW8
                  have HO8 := Lib.hid (HO1.out.below HBq.out)
                  have HN8 := Lib.hid (HN1.out.below HBq.out)
                  have HB8 := Lib.hid (below2 HB1.out HBq.out)
                  have HC8 := Lib.hid (HX.out W8 HN8.out)
                  have HK8 : Hid (True ∧ gk < W8.heap.size) := Lib.hid ⟨trivial, HN8.out.lt⟩
                  have hS : W8.drew.cell? ⟨gk, i, none⟩ = some (.int .i64 x0) ∧ W8.drew.cell? ⟨gk, i + 1, none⟩ = some (.int .i64 x1) := HC8.out
                  clear HO1 HN1 HB1
                  go_wp2_with fail
                  refine wp_region_held_drew (S := (fun W : World => W.cell? ⟨gk, i, none⟩ = some (.int .i64 x0) ∧ W.cell? ⟨gk, i + 1, none⟩ = some (.int .i64 x1))) (by kernel_rfl) hS (fun hHeld => ?_)
                  refine wpAnyH_take (i := 0) (oi := { dst := some 100, op := Op.move (Operand.tmp 8), type := 22, pos := _, after := #[], guard := none }) (v := ?_) rfl (by kernel_rfl) (by kernel_rfl) (by kernel_rfl) (fun _ _ _ h => h) (Or.inl ⟨by rfl, ?hy⟩) hHeld ?_
                  case hy => intro w0 hSw; (try dsimp only at hSw); go_simp; (try with_reducible rfl)
                  (try simp only [Act.put, List.setIfInBounds_toArray, List.set_cons_zero, List.set_cons_succ])
                  refine wpAnyH_take (i := 1) (oi := { dst := some 101, op := Op.move (Operand.tmp 9), type := 3, pos := _, after := #[], guard := none }) (v := ?_) rfl (by kernel_rfl) (by kernel_rfl) (by kernel_rfl) (fun _ _ _ h => h) (Or.inl ⟨by rfl, ?hy⟩) hHeld ?_
                  case hy => intro w0 hSw; (try dsimp only at hSw); go_simp; (try with_reducible rfl)
                  (try simp only [Act.put, List.setIfInBounds_toArray, List.set_cons_zero, List.set_cons_succ])
                  refine wpAnyH_take (i := 2) (oi := { dst := some 102, op := Op.move (Operand.tmp 10), type := 64, pos := _, after := #[], guard := none }) (v := ?_) rfl (by kernel_rfl) (by kernel_rfl) (by kernel_rfl) (fun _ _ _ h => h) (Or.inl ⟨by rfl, ?hy⟩) hHeld ?_
                  case hy => intro w0 hSw; (try dsimp only at hSw); go_simp; (try with_reducible rfl)
                  (try simp only [Act.put, List.setIfInBounds_toArray, List.set_cons_zero, List.set_cons_succ])
                  refine wpAnyH_take (i := 3) (oi := { dst := some 103, op := Op.move (Operand.tmp 11), type := 3, pos := _, after := #[], guard := none }) (v := ?_) rfl (by kernel_rfl) (by kernel_rfl) (by kernel_rfl) (fun _ _ _ h => h) (Or.inl ⟨by rfl, ?hy⟩) hHeld ?_
                  case hy => intro w0 hSw; (try dsimp only at hSw); go_simp; (try with_reducible rfl)
                  (try simp only [Act.put, List.setIfInBounds_toArray, List.set_cons_zero, List.set_cons_succ])
                  refine wpAnyH_take (i := 4) (oi := { dst := some 104, op := Op.indexAddr 64 (Operand.tmp 102) (Operand.tmp 103), type := 0, pos := _, after := #[{ on := 2, ground := Ground.data }, { on := 3, ground := Ground.data }], guard := none }) (v := ?_) rfl (by kernel_rfl) (by kernel_rfl) (by kernel_rfl) (fun _ _ _ h => h) (Or.inl ⟨by rfl, ?hy⟩) hHeld ?_
                  case hy => intro w0 hSw; (try dsimp only at hSw); go_simp; (try with_reducible rfl)
                  (try simp only [Act.put, List.setIfInBounds_toArray, List.set_cons_zero, List.set_cons_succ])
                  refine wpAnyH_take (i := 5) (oi := { dst := some 105, op := Op.load 3 (Operand.tmp 104), type := 3, pos := _, after := #[{ on := 4, ground := Ground.data }], guard := none }) (v := ?_) rfl (by kernel_rfl) (by kernel_rfl) (by kernel_rfl) (fun _ _ _ h => h) (Or.inl ⟨by rfl, ?hy⟩) hHeld ?_
                  case hy => intro w0 hSw; have d0 := hSw.1; clear hSw; go_simp; (try with_reducible rfl)
                  (try simp only [Act.put, List.setIfInBounds_toArray, List.set_cons_zero, List.set_cons_succ])
                  refine wpAnyH_take (i := 6) (oi := { dst := some 106, op := Op.move (Operand.tmp 10), type := 64, pos := _, after := #[], guard := none }) (v := ?_) rfl (by kernel_rfl) (by kernel_rfl) (by kernel_rfl) (fun _ _ _ h => h) (Or.inl ⟨by rfl, ?hy⟩) hHeld ?_
                  case hy => intro w0 hSw; (try dsimp only at hSw); go_simp; (try with_reducible rfl)
                  (try simp only [Act.put, List.setIfInBounds_toArray, List.set_cons_zero, List.set_cons_succ])
                  refine wpAnyH_take (i := 7) (oi := { dst := some 107, op := Op.move (Operand.tmp 11), type := 3, pos := _, after := #[], guard := none }) (v := ?_) rfl (by kernel_rfl) (by kernel_rfl) (by kernel_rfl) (fun _ _ _ h => h) (Or.inl ⟨by rfl, ?hy⟩) hHeld ?_
                  case hy => intro w0 hSw; (try dsimp only at hSw); go_simp; (try with_reducible rfl)
                  (try simp only [Act.put, List.setIfInBounds_toArray, List.set_cons_zero, List.set_cons_succ])
                  refine wpAnyH_take (i := 8) (oi := { dst := some 108, op := Op.binOp BinOp.add 3 (Operand.tmp 107) (Operand.const (Value.int IntKind.i64 1)) 3, type := 3, pos := _, after := #[{ on := 7, ground := Ground.data }], guard := none }) (v := ?_) rfl (by kernel_rfl) (by kernel_rfl) (by kernel_rfl) (fun _ _ _ h => h) (Or.inl ⟨by rfl, ?hy⟩) hHeld ?_
                  case hy => intro w0 hSw; clear hSw; go_simp; rw [Jw.out]; (try with_reducible rfl)
                  (try simp only [Act.put, List.setIfInBounds_toArray, List.set_cons_zero, List.set_cons_succ])
                  refine wpAnyH_take (i := 9) (oi := { dst := some 109, op := Op.indexAddr 64 (Operand.tmp 106) (Operand.tmp 108), type := 0, pos := _, after := #[{ on := 6, ground := Ground.data }, { on := 8, ground := Ground.data }], guard := none }) (v := ?_) rfl (by kernel_rfl) (by kernel_rfl) (by kernel_rfl) (fun _ _ _ h => h) (Or.inl ⟨by rfl, ?hy⟩) hHeld ?_
                  case hy => intro w0 hSw; clear hSw; go_simp; (try rw [Tj.out]); (try with_reducible rfl)
                  (try simp only [Act.put, List.setIfInBounds_toArray, List.set_cons_zero, List.set_cons_succ])
                  refine wpAnyH_take (i := 10) (oi := { dst := some 110, op := Op.load 3 (Operand.tmp 109), type := 3, pos := _, after := #[{ on := 9, ground := Ground.data }], guard := none }) (v := ?_) rfl (by kernel_rfl) (by kernel_rfl) (by kernel_rfl) (fun _ _ _ h => h) (Or.inl ⟨by rfl, ?hy⟩) hHeld ?_
                  case hy => intro w0 hSw; have d0 := hSw.2; clear hSw; go_simp; (try with_reducible rfl)
                  (try simp only [Act.put, List.setIfInBounds_toArray, List.set_cons_zero, List.set_cons_succ])
                  refine wpAnyH_take (i := 11) (oi := { dst := some 111, op := Op.build 32 #[(0, Operand.tmp 101), (1, Operand.tmp 105), (2, Operand.tmp 110)], type := 32, pos := _, after := #[{ on := 1, ground := Ground.data }, { on := 5, ground := Ground.data }, { on := 10, ground := Ground.data }], guard := none }) (v := ?_) rfl (by kernel_rfl) (by kernel_rfl) (by kernel_rfl) (fun _ _ _ h => h) (Or.inl ⟨by rfl, ?hy⟩) hHeld ?_
                  case hy => intro w0 hSw; (try dsimp only at hSw); go_simp; (try with_reducible rfl)
                  (try simp only [Act.put, List.setIfInBounds_toArray, List.set_cons_zero, List.set_cons_succ])
                  refine wpAnyH_ready (rs := [12]) (by kernel_rfl) (by simp) ?_
                  refine AllReadyH.cons (o := { dst := some 112, op := Op.buildSlice 22 1 #[(0, Operand.tmp 111)], type := 22, pos := _, after := #[{ on := 11, ground := Ground.data }], guard := none }) rfl (fun K hK => ?_) AllReadyH.nil
                  go_simp
                  have hT := WinsAt.one W8.drew bed x0 x1 32
                  have HBn : Hid (Below W8.heap.size W8 (W8.drew.alloc (.cells #[.int .i64 bed, .int .i64 x0, .int .i64 x1] 32))) := Lib.hid (below2 (below_drew (Below.refl _ _) 1) (below_new W8.drew (.cells #[.int .i64 bed, .int .i64 x0, .int .i64 x1] 32)))
                  replace hS : (W8.drew.alloc (.cells #[.int .i64 bed, .int .i64 x0, .int .i64 x1] 32)).cell? ⟨gk, i, none⟩ = some (.int .i64 x0) ∧ (W8.drew.alloc (.cells #[.int .i64 bed, .int .i64 x0, .int .i64 x1] 32)).cell? ⟨gk, i + 1, none⟩ = some (.int .i64 x1) := ⟨(HBn.out.cell (p := ⟨gk, i, none⟩) HK8.out.2).trans HC8.out.1, (HBn.out.cell (p := ⟨gk, i + 1, none⟩) HK8.out.2).trans HC8.out.2⟩
                  have hOw := HO8.out.below HBn.out
                  have hKw := HN8.out.below HBn.out
                  go_wp2_with fail
                  refine hK.out _ _ hS (fun hHeld => ?_)
                  clear hK K
                  (try simp only [Act.put, List.setIfInBounds_toArray, List.set_cons_zero, List.set_cons_succ])
                  refine wpAnyH_ready (rs := [13]) (by kernel_rfl) (by simp) ?_
                  refine AllReadyH.cons (o := { dst := some 113, op := Op.call { callee := Callee.builtin Builtin.append, args := #[Operand.tmp 100, Operand.tmp 112], argTypes := #[22, 22] }, type := 22, pos := _, after := #[{ on := 0, ground := Ground.data }, { on := 12, ground := Ground.data }], guard := none }) rfl (fun K hK => ?_) AllReadyH.nil
                  rw [if_pos (by rfl)]
                  refine wp_append_wins _ _ 22 rfl Try.underlying22 G.heap.size _ (pre ++ [(⟨v0, v1, v2⟩ : Win)]) [(⟨bed, x0, x1⟩ : Win)] rfl hOw ⟨W8.drew.heap.size, 0, none⟩ 1 rfl hT (Nat.le_trans HB8.out.size HBn.out.size) (by have h := Hln9.out; simp at h ⊢; omega) ?_
                  intro v' w9 hown' hgrow
                  have HB9 : Hid (Below G.heap.size G w9) := Lib.hid ((below2 HB8.out HBn.out).grown hgrow (Nat.le_trans HB8.out.size HBn.out.size) (fun k hk => hOw.ge k hk))
                  have hap := own_apartN hKw hOw
                  have HN9 := Lib.hid (hKw.besides hgrow hap)
                  obtain ⟨A9, c9, rfl, _⟩ := hown'.slice
                  obtain ⟨m9, hm9⟩ : ∃ m9, m9 = ((pre ++ [(⟨v0, v1, v2⟩ : Win)]) ++ [(⟨bed, x0, x1⟩ : Win)]).length := ⟨_, rfl⟩
                  rw [← hm9] at hown' ⊢
                  have HO9 := Lib.hid hown'
                  replace hS : w9.cell? ⟨gk, i, none⟩ = some (.int .i64 x0) ∧ w9.cell? ⟨gk, i + 1, none⟩ = some (.int .i64 x1) := HX.out w9 HN9.out
                  have Hm9 := Lib.hid hm9
                  clear hm9 hown' hgrow hOw hT hap hKw
                  refine hK.out _ _ hS (fun hHeld => ?_)
                  clear hK K
                  (try simp only [Act.put, List.setIfInBounds_toArray, List.set_cons_zero, List.set_cons_succ])
                  refine wpAnyH_take (i := 14) (oi := { dst := some 8, op := Op.assign (Operand.tmp 113), type := 22, pos := _, after := #[{ on := 13, ground := Ground.data }, { on := 13, ground := Ground.chain }, { on := 0, ground := Ground.phase }, { on := 1, ground := Ground.phase }, { on := 2, ground := Ground.phase }, { on := 3, ground := Ground.phase }, { on := 4, ground := Ground.phase }, { on := 5, ground := Ground.phase }, { on := 6, ground := Ground.phase }, { on := 7, ground := Ground.phase }, { on := 8, ground := Ground.phase }, { on := 9, ground := Ground.phase }, { on := 10, ground := Ground.phase }, { on := 11, ground := Ground.phase }, { on := 12, ground := Ground.phase }, { on := 13, ground := Ground.phase }], guard := none }) (v := ?_) rfl (by kernel_rfl) (by kernel_rfl) (by kernel_rfl) (fun _ _ _ h => h) (Or.inl ⟨by rfl, ?hy⟩) hHeld ?_
                  case hy => intro w0 hSw; (try dsimp only at hSw); go_simp; (try with_reducible rfl)
                  (try simp only [Act.put, List.setIfInBounds_toArray, List.set_cons_zero, List.set_cons_succ])
                  refine wpAnyH_done (by kernel_rfl) ?_ _
                  clear hHeld hS
                  go_wp2
                  go_roundw
                  case rel => exact ⟨i + 1, (pre ++ [(⟨v0, v1, v2⟩ : Win)]) ++ [⟨bed, x0, x1⟩], A9, m9, c9, rfl, by first | rfl | (rw [Iw.out]; rfl), Hi2.out, Hm9, HO9, HN9, HB9, Hd, Lib.hid (by have h := Hlen.out; rw [List.length_append]; simp only [List.length_cons, List.length_nil] at h ⊢; omega)⟩
                  case measure => (try rw [Iw.out]); simp [intOf]; omega
        · have j1 : ((i : Int) + 1 < (nk : Int)) = False := eq_false (by omega)
          have ei : i = nk - 1 := by omega
          have Hd : Hid (Mu.bedsN (Mu.F2 ls ms both) (ls ++ ms) (n + 1) = out') := Lib.hid (by
            rw [Mu.bedsN_succ, Hf.out, ← Hbed.out, ← Hkk.out, ← Hnk.out, ← ei]
            exact Hs.out)
          have Hl2 : Hid (out'.length ≤ (n + 1) * 800) := Lib.hid (by have := Hlen.out; omega)
          have hi8 : i ≤ 1000 := by omega
          clear Hs Hlen hi hlt ei hnk8
          have Iw : Hid (wrap64 ((i : Int) + 1) = (i : Int) + 1) := Lib.hid (by unfold wrap64; omega)
          have iw := Iw.out
          clear hi8
          go_wp2
          go_roundw
          case rel => exact ⟨n + 1, out', A, m, c', rfl, by first | rfl | (rw [Ib.out]), Hn.out, Hm, HO1, HB1, Hd, Hl2⟩
          case measure => (try rw [Ib.out]); have := Hn.out; have := Hbed.out; simp [intOf]; omega
    · have hn99 : n = 99 := by omega
      subst hn99
      have Hf2 : Hid (out = r) := Lib.hid (by rw [← Hf.out, Hr.out]; rfl)
      rw [Hf2.out] at HO Hm
      clear hlt Hf Hf2 hn
      go_wp2
      go_ret
      exact ⟨A, c', m, Hm.out, rfl, HO.out.lower HBb.out.size, below2 HBb.out HB.out⟩
end Go.Proofs.Ythbkfjnpdcfepaa
