/-
  Layer 14 (segment): the reference's Drop.
-/
import Derived.Test.YtlnchfnmpamliaaGreatXRefSeg7
namespace Go.Proofs.YtlnchfnmpamliaaGreat
set_option maxRecDepth 10000
open Go.RowKit

/-- What is left of a row of one's own when the first ones are gone. -/
theorem OwnS.dropped {w : World} {base g n cp : Nat} {fs : List Fil} (h : OwnF w base (.slice (some ⟨g, 0, none⟩) n cp) fs) (d : Nat) : OwnS w base (some ⟨g, d * 3, none⟩) (fs.drop d) (cp - d) := by
  have h1 := OwnS.of h
  refine ⟨?_, RoomyF.some _ _ _ (by rw [List.length_drop]; have := h1.room.2; omega), fun a e => ?_⟩
  · have h2 := h1.fils.drop d
    rw [Nat.zero_add] at h2; exact h2
  · cases e
    exact h1.own ⟨g, 0, none⟩ rfl
theorem OwnS.lower {w : World} {base base' : Nat} {A : Option Addr} {fs : List Fil} {c : Nat} (h : OwnS w base A fs c) (hb : base' ≤ base) : OwnS w base' A fs c :=
  ⟨h.fils, h.room, fun a e => ⟨Nat.le_trans hb (h.own a e).1, (h.own a e).2⟩⟩
namespace Sg
theorem drop_at {fs : List Fil} {d : Nat} (h : d + 1 < fs.length) (upto m : Int) :
    dropL upto (fs.drop d) m = if whole (fs[d]'(by omega)) m = true ∧ m + (sc (fs[d]'(by omega)) m).1.length ≤ upto ∧ m + (sc (fs[d]'(by omega)) m).1.length ≤ 900000000 then dropL upto (fs.drop (d + 1)) (m + (sc (fs[d]'(by omega)) m).1.length) else (m, fs.drop d) := by
  rw [List.drop_eq_getElem_cons (show d < fs.length by omega), List.drop_eq_getElem_cons h]
  simp only [dropL]
theorem drop_last {fs : List Fil} {d : Nat} (h : d + 1 = fs.length) (upto m : Int) : dropL upto (fs.drop d) m = (m, fs.drop d) := by
  rw [List.drop_eq_getElem_cons (show d < fs.length by omega), List.drop_eq_nil_of_le (by omega)]
  rfl
end Sg
/-- How many files are left. -/
def lenS : Option Value → Nat
  | some (.slice _ n _) => n
  | _ => 0
/-- What holds ahead of each round of Drop. -/
structure DropAt (w0 wr : World) (q base g n cp d : Nat) (sz m : Int) (fs : List Fil) : Prop where
  res : ∃ t, wr.heap[w0.heap.size + 1]? = some (.cells #[.int .i64 0, .int .i64 0, .slice none 0 0] t (0, 0))
  cur : ∃ t, wr.heap[q]? = some (.cells #[.int .i64 sz, .int .i64 m, .slice (some ⟨g, d * 3, none⟩) (n - d) (cp - d)] t (0, 0))
  own : OwnF wr base (.slice (some ⟨g, 0, none⟩) n cp) fs
  below : Below w0.heap.size w0 wr
theorem DropAt.on {w0 w w' : World} {q base g n cp d : Nat} {sz m : Int} {fs : List Fil} (h : DropAt w0 w q base g n cp d sz m fs) (hB : Below w.heap.size w w') : DropAt w0 w' q base g n cp d sz m fs :=
  ⟨kept14 h.res (below_grown14 hB none) (fun e => nomatch e), kept14 h.cur (below_grown14 hB none) (fun e => nomatch e), h.own.below hB, below2 h.below hB⟩
/-- One file is gone. -/
theorem DropAt.next {w0 w : World} {q base g n cp d : Nat} {sz m : Int} {fs : List Fil} (h : DropAt w0 w q base g n cp d sz m fs) (hq : w0.heap.size + 1 < q) (hgq : g < q) (m' : Int) :
    DropAt w0 ((w.setCell ⟨q, 1, none⟩ (.int .i64 m')).setCell ⟨q, 2, none⟩ (.slice (some ⟨g, (d + 1) * 3, none⟩) (n - (d + 1)) (cp - (d + 1)))) q base g n cp (d + 1) sz m' fs := by
  have hn : some q ≠ (Value.slice (some ⟨g, 0, none⟩) n cp).ownBlock := fun e => by
    have : q = g := by simpa [Value.ownBlock] using e
    omega
  refine ⟨?_, set14 (set14 h.cur 1 _) 2 _, own_setcell14 (own_setcell14 h.own hn 1 _) hn 2 _, below_setCell (below_setCell h.below (by omega) _ _) (by omega) _ _⟩
  exact kept14 (kept14 h.res (grown_cell14 _ _ _ _) (fun e => by have := Option.some.inj e; omega)) (grown_cell14 _ _ _ _) (fun e => by have := Option.some.inj e; omega)

set_option maxRecDepth 10000 in
set_option maxHeartbeats 2000000 in
theorem RSDrop_any (sz fi u : Int) (A : Option Addr) (n c : Nat) (fs : List Fil) (w : World) (hA : FilsAt w w.heap.size A fs) (hs : Sg.small ⟨sz, fi, fs⟩) (hn : n = fs.length) (hc : A = none → c = 0) :
    Calls Tryz.prog 18 #[.agg #[.int .i64 sz, .int .i64 fi, .slice A n c], .int .i64 u] w (GivesS w (Sg.drop ⟨sz, fi, fs⟩ u) (Sg.badE ⟨sz, fi, fs⟩)) := by
  have p1 := fun W (h : FilsAt W W.heap.size A fs) => RSIs_any sz fi A n c fs W h hs hn
  have S0 := Lib.hid (((St.start w).more (filF14 A w.heap.size fs) ⟨hA, Nat.le_refl _⟩).box2 #[.int .i64 sz, .int .i64 fi, .slice A n c] #[.int .i64 0, .int .i64 0, .slice none 0 0] 24 24)
  by_cases hi : Sg.is ⟨sz, fi, fs⟩ = true
  · rw [hi] at p1
    have e1 : Sg.drop ⟨sz, fi, fs⟩ u = ⟨sz, (Sg.dropL u fs fi).1, (Sg.dropL u fs fi).2⟩ := by unfold Sg.drop; rw [if_pos hi]
    have e2 : Sg.badE ⟨sz, fi, fs⟩ = 0 := by unfold Sg.badE; rw [if_pos hi]
    rw [e1, e2]
    have hb := (Sg.is_iff.1 hi).1
    simp only at hb
    have Hlen : Hid (n ≤ 20) := Lib.hid (by omega)
    have Hfi : Hid (0 ≤ fi ∧ fi ≤ 900000000) := Lib.hid hb.2.1
    have Hpos : Hid (0 < fs.length) := Lib.hid (by omega)
    have Hi := Lib.hid hi
    have Hn := Lib.hid hn
    have p2 := fun W (h : FilsAt W W.heap.size A fs) => RSOwn_any sz fi A n c fs W h hn hc (by omega)
    clear hA hs hc hi e1 e2 hn hb
    go_enter Tryz.func18, Tryz.ntmps18
    go_wp2_with fail
    refine (p1 _ ((S0.out.fact 0 rfl).1.more (S0.out.fact 0 rfl).2)).mono ?_
    rintro e w1 ⟨rfl, hB⟩
    have S1 := Lib.hid (S0.out.on hB)
    clear p1 hB S0
    have c0 := S1.out.cell 1 rfl 0 rfl
    have c1 := S1.out.cell 1 rfl 1 rfl
    have c2 := S1.out.cell 1 rfl 2 rfl
    go_wp2_with fail
    refine (p2 _ ((S1.out.fact 0 rfl).1.more (S1.out.fact 0 rfl).2)).mono ?_
    rintro e w2 ⟨A2, c2', rfl, hO, hB⟩
    obtain ⟨g, rfl⟩ := hO.some14 Hpos.out
    have Hcap : Hid (n ≤ c2') := Lib.hid (by rw [Hn.out]; exact hO.rows.2.2)
    have hX := XAt.start sz fi 24 S1.out (by simp) hB hO
    have Hgq : Hid (g < w2.heap.size) := Lib.hid (World.ownsRow.lt hO g rfl).2
    have Hpq : Hid (w.heap.size + 1 < w2.heap.size) := Lib.hid (by have h1 := lt14 (S1.out.live (w.heap.size + 1, #[.int .i64 0, .int .i64 0, .slice none 0 0]) (by simp)); have := hB.size; simp only at h1; omega)
    have Hpb : Hid (w.heap.size + 1 < w1.heap.size) := Lib.hid (lt14 (S1.out.live (w.heap.size + 1, #[.int .i64 0, .int .i64 0, .slice none 0 0]) (by simp)))
    have D3 : Hid (DropAt w (w2.alloc (.cells #[.int .i64 sz, .int .i64 fi, .slice (some ⟨g, 0, none⟩) n c2'] 24)) w2.heap.size w1.heap.size g n c2' 0 sz fi fs) :=
      Lib.hid ⟨hX.res, by simpa using hX.cur, hX.own, grown_below14 hX.fr⟩
    clear p2 hB hO c0 c1 c2 hX
    go_wp2_with fail
    go_loopw [9] (fun _ wr => ∃ (d : Nat) (m : Int), d < n ∧ Hid (0 ≤ m ∧ m ≤ 900000000) ∧ Hid (Sg.dropL u fs fi = Sg.dropL u (fs.drop d) m) ∧ Hid (DropAt w wr w2.heap.size w1.heap.size g n c2' d sz m fs)) (fun _ wr => lenS (wr.cell? ⟨w2.heap.size, 2, none⟩))
    case atStart => exact ⟨0, fi, by have := Hpos.out; have := Hn.out; omega, Hfi, Lib.hid rfl, D3⟩
    case round =>
      obtain ⟨d, m, hd, Hm, HL, HD⟩ := hrel
      clear D3
      obtain ⟨L, hL⟩ : ∃ L, L = n - d := ⟨_, rfl⟩
      obtain ⟨C, hC⟩ : ∃ C, C = c2' - d := ⟨_, rfl⟩
      have hcur := HD.out.cur
      rw [← hL, ← hC] at hcur
      have x0 : wr.cell? ⟨w2.heap.size, 0, none⟩ = some (.int .i64 sz) := cell14 hcur 0
      have x1 : wr.cell? ⟨w2.heap.size, 1, none⟩ = some (.int .i64 m) := cell14 hcur 1
      have x2 : wr.cell? ⟨w2.heap.size, 2, none⟩ = some (.slice (some ⟨g, d * 3, none⟩) L C) := cell14 hcur 2
      have HX2 := Lib.hid x2
      have HL0 := Lib.hid hL
      have HC := Lib.hid hC
      have HLen : Hid (L = (fs.drop d).length) := Lib.hid (by rw [List.length_drop, hL, Hn.out])
      by_cases hlt : 1 < L
      · have hlt' : d + 1 < fs.length := by have := Hn.out; omega
        have hlt2 : d < fs.length := by omega
        obtain ⟨⟨xm, xk, xl⟩, hx⟩ : ∃ x, x = fs[d] := ⟨_, rfl⟩
        have hfi : Fi.is ⟨xm, xk, xl⟩ = true := by rw [hx]; exact Sg.files_is Hi.out _ (List.getElem_mem hlt2)
        have hz := Rc.is_small9 hfi
        have h3 := HD.out.own.at14 hlt2
        rw [← hx] at h3
        have e0 := h3.c0
        have e1 := h3.c1
        have e2 := h3.c2
        simp only at e0 e1 e2
        obtain ⟨us, q, hus⟩ : ∃ us q, (us, q) = Sg.sc ⟨xm, xk, xl⟩ m := ⟨_, _, rfl⟩
        have hcnt := Sg.sc_count ⟨xm, xk, xl⟩ m
        have hrs : (Fi.read ⟨xm, xk, xl⟩).size ≤ 4000 := by
          have h := Fi.is_small hfi
          rw [Fi.read_size]; omega
        have Hus : Hid (us.length ≤ 4000) := Lib.hid (by rw [← hus] at hcnt; simp only at hcnt; omega)
        have hda := Sg.drop_at hlt' u m
        rw [← hx] at hda
        have Hyes : Hid (q = (Fi.read ⟨xm, xk, xl⟩).size ∧ m + (us.length : Int) ≤ u ∧ m + (us.length : Int) ≤ 900000000 → Sg.dropL u fs fi = Sg.dropL u (fs.drop (d + 1)) (m + (us.length : Int))) := Lib.hid (fun h => by
          rw [HL.out, hda, ← hus]
          exact if_pos ⟨by unfold Sg.whole; rw [← hus]; exact decide_eq_true h.1, h.2.1, h.2.2⟩)
        have Hno : Hid (¬ (q = (Fi.read ⟨xm, xk, xl⟩).size ∧ m + (us.length : Int) ≤ u ∧ m + (us.length : Int) ≤ 900000000) → Sg.dropL u fs fi = (m, fs.drop d)) := Lib.hid (fun h => by
          rw [HL.out, hda, ← hus]
          refine if_neg (fun hh => h ⟨?_, hh.2.1, hh.2.2⟩)
          have h1 := hh.1
          unfold Sg.whole at h1; rw [← hus] at h1; exact of_decide_eq_true h1)
        have hqle : q ≤ (Fi.read ⟨xm, xk, xl⟩).size := by
          have h := Rc.scan_le (bl (Fi.read ⟨xm, xk, xl⟩)) m
          rw [bl_length] at h
          have e : Rc.scan (bl (Fi.read ⟨xm, xk, xl⟩)) m = (us, q) := hus.symm
          rw [e] at h; exact h
        have p1 := fun W => FRRead_any xm xk xl hz W
        obtain ⟨r, hr⟩ : ∃ r, r = Fi.read ⟨xm, xk, xl⟩ := ⟨_, rfl⟩
        have p2 := fun W => RScan2_any r m (by rw [hr]; omega) W
        unfold Scanned2 at p2
        have e9 : Rc.scan (bl r) m = (us, q) := by rw [hr]; exact hus.symm
        rw [e9] at p2
        rw [← hr] at p1 Hyes Hno hqle
        have Hq := Lib.hid hqle
        have hb1 : 0 ≤ m + (us.length : Int) ∧ m + (us.length : Int) ≤ 4000000000 := by have := Hm.out; have := Hus.out; omega
        have iwf := wrap14 (m + (us.length : Int)) hb1.1 hb1.2
        have Hiwf := Lib.hid iwf
        have i1 : ((1 : Int) < (L : Int)) = True := eq_true (by omega)
        have i2 : 0 < L := by omega
        have Hlt := Lib.hid hlt
        have Hd := Lib.hid hd
        clear h3 hx hz hus hcnt hrs hqle hr e9 hfi hb1 hlt' hlt2 hda hlt hd hcur hL hC iwf
        go_wp2_with fail
        refine (p1 _).mono ?_
        rintro e w4 ⟨rfl, hB⟩
        have D4 := Lib.hid (HD.out.on hB)
        clear hB p1 x0 x1 x2 e0 e1 e2
        have hcur := D4.out.cur
        rw [← HL0.out, ← HC.out] at hcur
        have x1 : w4.cell? ⟨w2.heap.size, 1, none⟩ = some (.int .i64 m) := cell14 hcur 1
        clear hcur
        go_wp2_with fail
        refine (p2 _).mono ?_
        rintro e w5 ⟨A3, c3, rfl, q1, q2, hB, q3⟩
        clear q1 q2 q3
        have D5 := Lib.hid (D4.out.on hB)
        clear hB p2 x1 D4
        have hcur := D5.out.cur
        rw [← HL0.out, ← HC.out] at hcur
        have Hcur := Lib.hid hcur
        have x0 : w5.cell? ⟨w2.heap.size, 0, none⟩ = some (.int .i64 sz) := cell14 hcur 0
        have x1 : w5.cell? ⟨w2.heap.size, 1, none⟩ = some (.int .i64 m) := cell14 hcur 1
        have x2 : w5.cell? ⟨w2.heap.size, 2, none⟩ = some (.slice (some ⟨g, d * 3, none⟩) L C) := cell14 hcur 2
        clear hcur
        have iwf := Hiwf.out
        by_cases hq : q = r.size
        · have j6 : ((q : Int) < (r.size : Int)) = False := eq_false (by omega)
          by_cases hu : u < m + (us.length : Int)
          · have HR := Lib.hid (Hno.out (fun h => by have := h.2.1; omega))
            have j7 := eq_true hu
            clear Hyes Hno Hq hq hu
            have hres := D5.out.res
            have a0 := free14 hres 0
            have a1 := free14 hres 1
            have a2 := free14 hres 2
            have b0 : w5.cell? ⟨w.heap.size + 1, 0, none⟩ = some (.int .i64 0) := cell14 hres 0
            have b1 : w5.cell? ⟨w.heap.size + 1, 1, none⟩ = some (.int .i64 0) := cell14 hres 1
            have b2 : w5.cell? ⟨w.heap.size + 1, 2, none⟩ = some (.slice none 0 0) := cell14 hres 2
            clear hres
            go_wp2_with fail
            obtain ⟨t, ht⟩ := D5.out.res
            (try simp only [Exit.inBlock, Exit.then]); refine bodyPost_ret (ret_segs2b rfl rfl ht) rfl ?_
            refine ⟨some ⟨g, d * 3, none⟩, C, ?_, ?_, below_set3 D5.out.below (Nat.le_succ _) _ _ _⟩
            · rw [HR.out]; simp only; rw [← HLen.out]; rfl
            · rw [HR.out, HC.out]; exact (OwnS.dropped (own_set3 D5.out.own Hpb.out _ _ _) d).lower (by have := Hpb.out; omega)
          · by_cases hk : 900000000 < m + (us.length : Int)
            · have HR := Lib.hid (Hno.out (fun h => by have := h.2.2; omega))
              have j7 := eq_false hu
              have j8 := eq_true hk
              clear Hyes Hno Hq hq hu hk
              have hres := D5.out.res
              have a0 := free14 hres 0
              have a1 := free14 hres 1
              have a2 := free14 hres 2
              have b0 : w5.cell? ⟨w.heap.size + 1, 0, none⟩ = some (.int .i64 0) := cell14 hres 0
              have b1 : w5.cell? ⟨w.heap.size + 1, 1, none⟩ = some (.int .i64 0) := cell14 hres 1
              have b2 : w5.cell? ⟨w.heap.size + 1, 2, none⟩ = some (.slice none 0 0) := cell14 hres 2
              clear hres
              go_wp2_with fail
              obtain ⟨t, ht⟩ := D5.out.res
              (try simp only [Exit.inBlock, Exit.then]); refine bodyPost_ret (ret_segs2b rfl rfl ht) rfl ?_
              refine ⟨some ⟨g, d * 3, none⟩, C, ?_, ?_, below_set3 D5.out.below (Nat.le_succ _) _ _ _⟩
              · rw [HR.out]; simp only; rw [← HLen.out]; rfl
              · rw [HR.out, HC.out]; exact (OwnS.dropped (own_set3 D5.out.own Hpb.out _ _ _) d).lower (by have := Hpb.out; omega)
            · have HL2 := Lib.hid (Hyes.out ⟨hq, by omega, by omega⟩)
              have Hm2 : Hid (0 ≤ m + (us.length : Int) ∧ m + (us.length : Int) ≤ 900000000) := Lib.hid (by have := Hm.out; omega)
              have j7 := eq_false hu
              have j8 := eq_false hk
              clear Hyes Hno Hq hq hu hk
              have f1 := free14 Hcur.out 1
              have hc2 := set14 Hcur.out 1 (.int .i64 (m + (us.length : Int)))
              have y2 : (w5.setCell ⟨w2.heap.size, 1, none⟩ (.int .i64 (m + (us.length : Int)))).cell? ⟨w2.heap.size, 2, none⟩ = some (.slice (some ⟨g, d * 3, none⟩) L C) := cell14 hc2 2
              have f2 := free14 hc2 2
              have D6 := Lib.hid (D5.out.next Hpq.out Hgq.out (m + (us.length : Int)))
              have hCc : 2 ≤ C := by have := HC.out; have := Hcap.out; have := Hlt.out; have := HL0.out; omega
              have k1 : 1 ≤ C := by omega
              have k2 : (1 : Int) ≤ (C : Int) := by omega
              have k3 : (C = 1) = False := eq_false (by omega)
              have k4 : 1 ≤ L := by have := Hlt.out; omega
              have k5 : (1 : Int) ≤ (L : Int) := by omega
              clear hc2
              go_wp2
              rw [show d * 3 + 3 = (d + 1) * 3 by omega, show L - 1 = n - (d + 1) by rw [HL0.out]; omega, show C - 1 = c2' - (d + 1) by rw [HC.out]; omega]
              refine ⟨⟨d + 1, m + (us.length : Int), by have := Hlt.out; have := HL0.out; omega, Hm2, HL2, D6⟩, ?_⟩
              have hc6 := cell14 D6.out.cur 2
              rw [hc6, HX2.out]
              show n - (d + 1) < L
              rw [HL0.out]; have := Hlt.out; have := HL0.out; omega
        · have j6 : ((q : Int) < (r.size : Int)) = True := eq_true (by have := Hq.out; omega)
          have HR := Lib.hid (Hno.out (fun h => hq h.1))
          clear Hyes Hno Hq hq
          have hres := D5.out.res
          have a0 := free14 hres 0
          have a1 := free14 hres 1
          have a2 := free14 hres 2
          have b0 : w5.cell? ⟨w.heap.size + 1, 0, none⟩ = some (.int .i64 0) := cell14 hres 0
          have b1 : w5.cell? ⟨w.heap.size + 1, 1, none⟩ = some (.int .i64 0) := cell14 hres 1
          have b2 : w5.cell? ⟨w.heap.size + 1, 2, none⟩ = some (.slice none 0 0) := cell14 hres 2
          clear hres
          go_wp2_with fail
          obtain ⟨t, ht⟩ := D5.out.res
          (try simp only [Exit.inBlock, Exit.then]); refine bodyPost_ret (ret_segs2b rfl rfl ht) rfl ?_
          refine ⟨some ⟨g, d * 3, none⟩, C, ?_, ?_, below_set3 D5.out.below (Nat.le_succ _) _ _ _⟩
          · rw [HR.out]; simp only; rw [← HLen.out]; rfl
          · rw [HR.out, HC.out]; exact (OwnS.dropped (own_set3 D5.out.own Hpb.out _ _ _) d).lower (by have := Hpb.out; omega)
      · have hdl : d + 1 = fs.length := by have := Hn.out; omega
        have HR : Hid (Sg.dropL u fs fi = (m, fs.drop d)) := Lib.hid (by rw [HL.out]; exact Sg.drop_last hdl u m)
        have i1 : ((1 : Int) < (L : Int)) = False := eq_false (by omega)
        clear hlt hd hL hC hcur hdl
        have hres := HD.out.res
        have a0 := free14 hres 0
        have a1 := free14 hres 1
        have a2 := free14 hres 2
        have b0 : wr.cell? ⟨w.heap.size + 1, 0, none⟩ = some (.int .i64 0) := cell14 hres 0
        have b1 : wr.cell? ⟨w.heap.size + 1, 1, none⟩ = some (.int .i64 0) := cell14 hres 1
        have b2 : wr.cell? ⟨w.heap.size + 1, 2, none⟩ = some (.slice none 0 0) := cell14 hres 2
        clear hres
        go_wp2_with fail
        obtain ⟨t, ht⟩ := HD.out.res
        (try simp only [Exit.inBlock, Exit.then]); refine bodyPost_ret (ret_segs2b rfl rfl ht) rfl ?_
        refine ⟨some ⟨g, d * 3, none⟩, C, ?_, ?_, below_set3 HD.out.below (Nat.le_succ _) _ _ _⟩
        · rw [HR.out]; simp only; rw [← HLen.out]; rfl
        · rw [HR.out, HC.out]; exact (OwnS.dropped (own_set3 HD.out.own Hpb.out _ _ _) d).lower (by have := Hpb.out; omega)
  · rw [Bool.not_eq_true] at hi
    have e1 : Sg.drop ⟨sz, fi, fs⟩ u = Sg.no := by unfold Sg.drop; rw [hi]; rfl
    have e2 : Sg.badE ⟨sz, fi, fs⟩ = 1 := by unfold Sg.badE; rw [hi]; rfl
    rw [e1, e2]
    simp only [hi] at p1
    clear e1 e2 hi hA hs hn
    go_enter Tryz.func18, Tryz.ntmps18
    go_wp2_with fail
    refine (p1 _ ((S0.out.fact 0 rfl).1.more (S0.out.fact 0 rfl).2)).mono ?_
    rintro e w1 ⟨rfl, hB⟩
    have S1 := Lib.hid (S0.out.on hB)
    clear p1 hB S0
    have a0 := S1.out.free 0 rfl 0
    have a1 := S1.out.free 0 rfl 1
    have a2 := S1.out.free 0 rfl 2
    have b0 := S1.out.cell 0 rfl 0 rfl
    have b1 := S1.out.cell 0 rfl 1 rfl
    have b2 := S1.out.cell 0 rfl 2 rfl
    go_wp2_with fail
    obtain ⟨t, ht⟩ := S1.out.live (w.heap.size + 1, #[.int .i64 0, .int .i64 0, .slice none 0 0]) (by simp)
    (try simp only [Exit.inBlock, Exit.then]); refine bodyPost_ret (ret_segs2b rfl rfl ht) rfl ?_
    exact givesS_no (below_set3 S1.out.below (Nat.le_succ _) _ _ _)
end Go.Proofs.YtlnchfnmpamliaaGreat
