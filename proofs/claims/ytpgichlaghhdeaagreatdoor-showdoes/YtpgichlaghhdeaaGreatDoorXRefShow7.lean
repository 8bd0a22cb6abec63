/-
  Layer 11 (show), the reference: Lines, Count.
-/
import Derived.Test.YtpgichlaghhdeaaGreatDoorXRefShow6
namespace Go.Proofs.YtpgichlaghhdeaaGreatDoor
set_option maxRecDepth 10000
open Go.RowKit

/-- Lines, as texts. -/
def Sh.lineS (a : Alm) : ByteArray := strOf (Sh.line a)
def Sh.linesS (m n : Int) (ls : List Alm) (ws : List Win) (k : Int) : List ByteArray := (Sh.lines m n ls ws k).map strOf
theorem Sh.linesS_ok {m n k : Int} {ls : List Alm} {ws : List Win} (h : Sh.linesE m n ls ws k = 0) : Sh.linesS m n ls ws k = ((Sh.heard m n ls ws).take k.toNat).map Sh.lineS := by
  have h2 : Sh.heardE m n ls ws = 0 := by
    unfold Sh.linesE at h
    by_cases e : Sh.heardE m n ls ws = 0
    · exact e
    · rw [if_neg e] at h; exact absurd h (by decide)
  unfold Sh.linesS Sh.lines Sh.heard
  rw [if_pos h, if_pos h2, List.map_map]
  rfl
theorem Sh.linesS_no {m n k : Int} {ls : List Alm} {ws : List Win} (h : ¬ Sh.linesE m n ls ws k = 0) : Sh.linesS m n ls ws k = [] := by
  unfold Sh.linesS Sh.lines
  rw [if_neg h]; rfl

set_option maxHeartbeats 4000000 in
theorem RLines_any (HL : Hid RefLK) (HK : Hid RefHK) (m n : Int) (A : Option Addr) (l c : Nat) (ls : List Alm) (B : Option Addr) (k0 d : Nat) (ws : List Win) (t : Int) (w : World) (h1 : Told w A l c ls) (h2 : ToldW w B k0 d ws) :
    Calls Tryz.prog 16 #[.agg #[.int .i64 m, .int .i64 n, .slice A l c], .slice B k0 d, .int .i64 t] w (GivesX w (Sh.linesS m n ls ws t) (Sh.linesE m n ls ws t)) := by
  obtain ⟨r, hr⟩ : ∃ r, r = Sh.linesS m n ls ws t := ⟨_, rfl⟩
  obtain ⟨er, her⟩ : ∃ er, er = Sh.linesE m n ls ws t := ⟨_, rfl⟩
  rw [← hr, ← her]
  have HS0 : Hid (St w (w.alloc (.cells #[.int .i64 m, .int .i64 n, .slice A l c] 28)) [(w.heap.size, #[.int .i64 m, .int .i64 n, .slice A l c])] [rowF A ls, winF B ws]) := Lib.hid
    ((((St.start w).more (winF B ws) h2.2.1).more (rowF A ls) h1.2.1).new #[.int .i64 m, .int .i64 n, .slice A l c] 28)
  obtain ⟨hd, hhd⟩ : ∃ hd, hd = Sh.heard m n ls ws := ⟨_, rfl⟩
  obtain ⟨eh, heh⟩ : ∃ eh, eh = Sh.heardE m n ls ws := ⟨_, rfl⟩
  have hlen : hd.length ≤ 1000 := by
    rw [hhd]
    unfold Sh.heard
    split
    · have := Sh.heard_len ws n ls; have := h1.1; have := h1.2.2.2; omega
    · simp
  have Hlen := Lib.hid hlen
  have gH := fun W (h : AlmsAt W W.heap.size A ls) (h' : WinsAt W W.heap.size B ws) => RHeard_any HK m n A l c ls B k0 d ws W ⟨h1.1, h, h1.2.2.1, h1.2.2.2⟩ ⟨h2.1, h', h2.2.2.1, h2.2.2.2⟩
  rw [← hhd, ← heh] at gH
  by_cases e0 : eh = 0
  · have b0 : (eh == 0) = true := beq_iff_eq.2 e0
    have b0' : (eh = 0) = True := eq_true e0
    by_cases ht : t < 1
    · have i1 : (t < 1) = True := eq_true ht
      have e : Sh.linesE m n ls ws t = 1 := by unfold Sh.linesE; rw [← heh, if_pos e0, if_pos ht]
      have He : Hid (r = [] ∧ er = 1) := Lib.hid ⟨by rw [hr]; exact Sh.linesS_no (by rw [e]; decide), by rw [her, e]⟩
      subst e0
      clear hr her hhd hlen ht e h1 h2 heh
      go_enter Tryz.func16, Tryz.ntmps16
      go_wp2_with (refine wpList_load_st rfl 28 _ rfl HS0.out 0 _ _ rfl rfl _ Tryz.underlying28 rfl (by rfl) ?_)
      refine (gH _ (HS0.out.fact 0 rfl) (HS0.out.fact 1 rfl)).mono ?_
      rintro e w2 ⟨A2, q2, c2, hq, rfl, hO, hB⟩
      have HB := Lib.hid (HS0.out.on hB).below
      clear hB gH hO hq
      go_wp2
      go_ret2
      exact ⟨none, 0, 0, by rw [He.out.1]; rfl, by rw [He.out.2]; rfl, by rw [He.out.1]; exact fun i hi => absurd hi (Nat.not_lt_zero _), fun _ => rfl, Nat.le_refl _, HB.out⟩
    · have i1 : (t < 1) = False := eq_false ht
      have e : Sh.linesE m n ls ws t = 0 := by unfold Sh.linesE; rw [← heh, if_pos e0, if_neg ht]
      have He : Hid (er = 0) := Lib.hid (by rw [her, e])
      have Hr : Hid (r = (hd.take t.toNat).map Sh.lineS) := Lib.hid (by rw [hr, hhd]; exact Sh.linesS_ok e)
      have Ht : Hid (1 ≤ t) := Lib.hid (by omega)
      subst e0
      clear hr her hhd hlen ht e h1 h2 heh
      go_enter Tryz.func16, Tryz.ntmps16
      go_wp2_with (refine wpList_load_st rfl 28 _ rfl HS0.out 0 _ _ rfl rfl _ Tryz.underlying28 rfl (by rfl) ?_)
      refine (gH _ (HS0.out.fact 0 rfl) (HS0.out.fact 1 rfl)).mono ?_
      rintro e w2 ⟨A2, q2, c2, hq, rfl, hO, hB⟩
      have HBw := Lib.hid (HS0.out.on hB).below
      have Hq2 := Lib.hid hq
      have HA2 := Lib.hid hO.alms.1
      clear hB gH hO hq
      go_wp2_with fail
      go_loopw [10, 11] (fun z i wr => ∃ (k : Nat) (out : List ByteArray), i = .int .i64 (k : Int) ∧ k ≤ q2 ∧ Hid (out = (hd.take k).map Sh.lineS) ∧ Hid ((k : Int) ≤ t) ∧ Hid (OwnX wr w2.heap.size z out) ∧ Hid (Below w2.heap.size w2 wr)) (fun _ i _ => q2 - (intOf i).toNat)
      case atStart => exact ⟨0, [], rfl, Nat.zero_le _, Lib.hid rfl, Lib.hid (by have := Ht.out; omega), Lib.hid (OwnX.nil _ _), Lib.hid (Below.refl _ _)⟩
      case round =>
        obtain ⟨k, out, rfl, hk, Ho, Hkt, HO, HB⟩ := hrel
        by_cases hlt : k < q2
        · have j1 : ((k : Int) < (q2 : Int)) = True := eq_true (by omega)
          have j2 : (k : Int) < (q2 : Int) := by omega
          have j3 : (0 : Int) ≤ (k : Int) := by omega
          have hkl : k < hd.length := by rw [← Hq2.out]; exact hlt
          by_cases hkt : (k : Int) < t
          · have j4 : ((k : Int) < t) = True := eq_true hkt
            obtain ⟨b0', o0, hA0, hb0, h6⟩ := (HA2.out.below HB.out (Nat.le_refl _)) k hkl
            subst hA0
            obtain ⟨x, hx⟩ : ∃ x, x = hd[k] := ⟨_, rfl⟩
            have Ho2 : Hid (out ++ [Sh.lineS x] = (hd.take (k + 1)).map Sh.lineS) := Lib.hid (by rw [List.take_succ_eq_append_getElem hkl, List.map_append, ← Ho.out, hx]; rfl)
            rw [← hx] at h6
            obtain ⟨x0, x1, x2, x3, x4, x5⟩ := x
            have f0 := h6.c0
            have f1 := h6.c1
            have f2 := h6.c2
            have f3 := h6.c3
            have f4 := h6.c4
            have f5 := h6.c5
            simp only at f0 f1 f2 f3 f4 f5
            have gL := fun W => RLine_any HL x0 x1 x2 x3 x4 x5 W
            obtain ⟨s, hs⟩ : ∃ s, s = Sh.lineS ⟨x0, x1, x2, x3, x4, x5⟩ := ⟨_, rfl⟩
            have es : strOf (Sh.line ⟨x0, x1, x2, x3, x4, x5⟩) = s := by rw [hs]; rfl
            simp only [es] at gL
            rw [← hs] at Ho2
            have Ik : Hid (wrap64 ((k : Int) + 1) = (k : Int) + 1) := Lib.hid (by have := Hlen.out; have := Hq2.out; unfold wrap64; omega)
            have Hk := Lib.hid hlt
            have Hkt2 : Hid (((k + 1 : Nat) : Int) ≤ t) := Lib.hid (by omega)
            have Hol : Hid (out.length + 1 ≤ 100000) := Lib.hid (by rw [Ho.out, List.length_map, List.length_take]; have := Hlen.out; omega)
            clear hkl hx hs es hlt hkt hk h6 hb0 Ho
            go_wp2_with fail
            refine (gL _).mono ?_
            rintro e w5 ⟨rfl, hB⟩
            have HO5 := Lib.hid (HO.out.below hB)
            have HB5 : Hid (Below w2.heap.size w2 w5) := Lib.hid (below2 HB.out hB)
            clear hB gL f0 f1 f2 f3 f4 f5 HO HB
            go_wp2_with (at_builtin; refine wpList_append_strX rfl _ _ rfl w2.heap.size _ out s rfl (HO5.out.below (below_new w5 (.cells #[.string s] 9))) ⟨w5.heap.size, 0, none⟩ _ rfl (StrsAt.oneX w5 s 9) (Nat.le_trans HB5.out.size (below_new w5 (.cells #[.string s] 9)).size) Hol.out ?_; intro v' w6 hown' hgrow; have HO6 := Lib.hid hown'; have HB6 : Hid (Below w2.heap.size w2 w6) := Lib.hid ((below2 HB5.out (below_new w5 (.cells #[.string s] 9))).grown hgrow (Nat.le_trans HB5.out.size (below_new w5 (.cells #[.string s] 9)).size) (fun k hk => HO5.out.ge k hk)); clear hown' hgrow)
            go_roundw
            case rel => exact ⟨k + 1, _, by first | rfl | (rw [Ik.out]; rfl), Hk.out, Ho2, Hkt2, HO6, HB6⟩
            case measure => have := Hk.out; (try rw [Ik.out]); simp [intOf]; omega
          · have j4 : ((k : Int) < t) = False := eq_false hkt
            have hkt2 : t.toNat = k := by have := Hkt.out; omega
            have Ho2 : Hid (out = r) := Lib.hid (by rw [Ho.out, Hr.out, hkt2])
            rw [Ho2.out] at HO
            obtain ⟨A3, c3, rfl, hX, hn3, hc3⟩ := HO.out.rows
            have HX := Lib.hid hX
            have Hn3 := Lib.hid hn3
            have Hc3 := Lib.hid hc3
            obtain ⟨q3, hq3⟩ : ∃ q, q = r.length := ⟨_, rfl⟩
            rw [← hq3] at Hc3 ⊢
            have Hq3 := Lib.hid hq3
            clear hk hlt hkt hkl Ho hkt2 hX hn3 hc3 hq3
            go_wp2
            go_ret2
            exact ⟨A3, q3, c3, Hq3.out, by rw [He.out]; rfl, HX.out, Hn3.out, Hc3.out, HBw.out.trans (HB.out.mono HBw.out.size)⟩
        · have j1 : ((k : Int) < (q2 : Int)) = False := eq_false (by omega)
          have hkq : k = hd.length := by rw [← Hq2.out]; omega
          have Ho2 : Hid (out = r) := Lib.hid (by
            rw [Ho.out, Hr.out, hkq, List.take_length, List.take_of_length_le]
            have := Hkt.out; omega)
          rw [Ho2.out] at HO
          obtain ⟨A3, c3, rfl, hX, hn3, hc3⟩ := HO.out.rows
          have HX := Lib.hid hX
          have Hn3 := Lib.hid hn3
          have Hc3 := Lib.hid hc3
          obtain ⟨q3, hq3⟩ : ∃ q, q = r.length := ⟨_, rfl⟩
          rw [← hq3] at Hc3 ⊢
          have Hq3 := Lib.hid hq3
          clear hk hlt hkq Ho hX hn3 hc3 hq3
          go_wp2
          go_ret2
          exact ⟨A3, q3, c3, Hq3.out, by rw [He.out]; rfl, HX.out, Hn3.out, Hc3.out, HBw.out.trans (HB.out.mono HBw.out.size)⟩
  · have b0 : (eh == 0) = false := by rw [beq_eq_false_iff_ne]; exact e0
    have b0' : (eh = 0) = False := eq_false e0
    have e : Sh.linesE m n ls ws t = 1 := by unfold Sh.linesE; rw [← heh, if_neg e0]
    have e1 : eh = 1 := by
      rw [heh] at e0 ⊢
      unfold Sh.heardE at e0 ⊢
      split at e0
      · exact absurd rfl e0
      · rename_i h; rw [if_neg h]
    have He : Hid (r = [] ∧ er = eh) := Lib.hid ⟨by rw [hr]; exact Sh.linesS_no (by rw [e]; decide), by rw [her, e, e1]⟩
    clear hr her hhd hlen e h1 h2 heh e0 e1
    go_enter Tryz.func16, Tryz.ntmps16
    go_wp2_with (refine wpList_load_st rfl 28 _ rfl HS0.out 0 _ _ rfl rfl _ Tryz.underlying28 rfl (by rfl) ?_)
    refine (gH _ (HS0.out.fact 0 rfl) (HS0.out.fact 1 rfl)).mono ?_
    rintro e w2 ⟨A2, q2, c2, hq, rfl, hO, hB⟩
    have HB := Lib.hid (HS0.out.on hB).below
    clear hB gH hO hq
    go_wp2
    go_ret2
    exact ⟨none, 0, 0, by rw [He.out.1]; rfl, by rw [He.out.2]; rfl, by rw [He.out.1]; exact fun i hi => absurd hi (Nat.not_lt_zero _), fun _ => rfl, Nat.le_refl _, HB.out⟩

/-- What Count ends with. -/
def CountS (w : World) (ls : List Alm) (e : Ending) (w' : World) : Prop := ∃ A c, e = .returned (.slice A 5 c) ∧ IntsAt w' w'.heap.size A ((List.range 5).map (fun p : Nat => (Sh.cnt (p : Int) ls : Int))) ∧ Below w.heap.size w w'
theorem Sh.cnt_drop {p : Int} {ls : List Alm} {k : Nat} (h : k < ls.length) : Sh.cnt p (ls.take (k + 1)) = Sh.cnt p (ls.take k) + if ls[k].ph = p then 1 else 0 := by
  rw [List.take_succ_eq_append_getElem h, Sh.cnt_snoc]
theorem Sh.cnt_le (p : Int) (ls : List Alm) : Sh.cnt p ls ≤ ls.length := by unfold Sh.cnt; exact List.length_filter_le _ _

set_option maxHeartbeats 4000000 in
theorem RCount_any (m n : Int) (A : Option Addr) (l c : Nat) (ls : List Alm) (w : World) (h1 : Told w A l c ls) :
    Calls Tryz.prog 22 #[.agg #[.int .i64 m, .int .i64 n, .slice A l c]] w (CountS w ls) := by
  have HS0 : Hid (St w (w.alloc (.cells #[.int .i64 m, .int .i64 n, .slice A l c] 28)) [(w.heap.size, #[.int .i64 m, .int .i64 n, .slice A l c])] [rowF A ls]) := Lib.hid
    (((St.start w).more (rowF A ls) h1.2.1).new #[.int .i64 m, .int .i64 n, .slice A l c] 28)
  have Hl := Lib.hid h1.1
  have Hl1 := Lib.hid h1.2.2.2
  clear h1
  go_enter Tryz.func22, Tryz.ntmps22
  go_wp2_with fail
  obtain ⟨p, hp⟩ : ∃ p, p = w.heap.size := ⟨_, rfl⟩
  obtain ⟨w1, hw1⟩ : ∃ W, W = w.alloc (.cells #[.int .i64 m, .int .i64 n, .slice A l c] 28) := ⟨_, rfl⟩
  have Hwp : Hid (w.heap.size ≤ w1.heap.size) := Lib.hid (by rw [hw1]; exact (below_new _ _).size)
  rw [← hp, ← hw1] at HS0
  rw [← hw1]
  rw [← hp]
  clear hp hw1
  go_loopw [3, 4] (fun z i wr => ∃ (k : Nat) (out : List Int), k ≤ 5 ∧ i = .int .i64 (k : Int) ∧ Hid (out = (List.range k).map (fun p : Nat => (Sh.cnt (p : Int) ls : Int))) ∧ Hid (OwnN wr w1.heap.size z out) ∧ Hid (Below w1.heap.size w1 wr)) (fun _ i _ => 6 - (intOf i).toNat)
  case atStart => exact ⟨0, [], by omega, rfl, Lib.hid rfl, Lib.hid (OwnN.nil _ _), Lib.hid (Below.refl _ _)⟩
  case round =>
    obtain ⟨k, out, hk, rfl, Ho, HO, HB⟩ := hrel
    by_cases hlt : k < 5
    · have j1 : ((k : Int) ≤ 4) = True := eq_true (by omega)
      have Ik : Hid (wrap64 ((k : Int) + 1) = (k : Int) + 1) := Lib.hid (by unfold wrap64; omega)
      have Hk := Lib.hid hlt
      have HSr := Lib.hid (HS0.out.on HB.out)
      have d2 := HSr.out.cell 0 rfl 2 rfl
      clear hk hlt
      go_wp2_with fail
      obtain ⟨wo, hwo⟩ : ∃ W, W = wr := ⟨_, rfl⟩
      subst hwo
      go_loopw [5, 6] (fun z i wr2 => ∃ (j v : Nat), z = .int .i64 (v : Int) ∧ j ≤ l ∧ i = .int .i64 (j : Int) ∧ wr2 = wo ∧ Hid (v = Sh.cnt (k : Int) (ls.take j))) (fun _ i _ => l - (intOf i).toNat)
      case atStart => exact ⟨0, 0, rfl, Nat.zero_le _, rfl, (by first | trivial | rfl), Lib.hid rfl⟩
      case round =>
        obtain ⟨j, v, rfl, hj, rfl, hww, Hv⟩ := hrel
        subst hww
        by_cases hlt : j < l
        · have jl : j < ls.length := by rw [← Hl.out]; exact hlt
          obtain ⟨b0', o0, hA0, hb0, h6⟩ := (show AlmsAt _ _ A ls from HSr.out.fact 0 rfl) j jl
          subst hA0
          obtain ⟨x, hx⟩ : ∃ x, x = ls[j].ph := ⟨_, rfl⟩
          have Hv2 : Hid (Sh.cnt (k : Int) (ls.take (j + 1)) = v + if x = (k : Int) then 1 else 0) := Lib.hid (by rw [Sh.cnt_drop jl, ← Hv.out, hx])
          have f2 := h6.c2
          rw [← hx] at f2
          have i1 : (j : Int) < (l : Int) := by omega
          have i3 : (0 : Int) ≤ (j : Int) := by omega
          have hv9 : v ≤ 1000 := by have h := Sh.cnt_le (k : Int) (ls.take j); rw [← Hv.out, List.length_take] at h; have := Hl1.out; omega
          have Ij : Hid (wrap64 ((j : Int) + 1) = (j : Int) + 1) := Lib.hid (by have := Hl1.out; unfold wrap64; omega)
          have Iv : Hid (wrap64 ((v : Int) + 1) = (v : Int) + 1) := Lib.hid (by unfold wrap64; omega)
          have Hj := Lib.hid hlt
          clear jl hx hlt hj h6 hb0 hv9
          by_cases hb : x = (k : Int)
          · have hbb : (x == (k : Int)) = true := beq_iff_eq.2 hb
            have hbp : (x = (k : Int)) = True := eq_true hb
            rw [if_pos hb] at Hv2
            clear hb Hv
            go_wp2
            go_roundw
            case rel => exact ⟨j + 1, v + 1, by first | rfl | (rw [Iv.out]; rfl), Hj.out, by first | rfl | (rw [Ij.out]; rfl), (by first | trivial | rfl), Lib.hid Hv2.out.symm⟩
            case measure => have := Hj.out; (try rw [Ij.out]); simp [intOf]; omega
          · have hbb : (x == (k : Int)) = false := by rw [beq_eq_false_iff_ne]; exact hb
            have hbp : (x = (k : Int)) = False := eq_false hb
            rw [if_neg hb] at Hv2
            clear hb Hv
            go_wp2
            go_roundw
            case rel => exact ⟨j + 1, v, rfl, Hj.out, by first | rfl | (rw [Ij.out]; rfl), (by first | trivial | rfl), Lib.hid Hv2.out.symm⟩
            case measure => have := Hj.out; (try rw [Ij.out]); simp [intOf]; omega
        · have ij : ((j : Int) < (l : Int)) = False := eq_false (by omega)
          have hjl : j = ls.length := by rw [← Hl.out]; omega
          have Ho2 : Hid (out ++ [(v : Int)] = (List.range (k + 1)).map (fun p : Nat => (Sh.cnt (p : Int) ls : Int))) := Lib.hid (by
            rw [List.range_succ, List.map_append, ← Ho.out, Hv.out, hjl, List.take_length]; rfl)
          have Hol : Hid (out.length + 1 ≤ 100000) := Lib.hid (by rw [Ho.out, List.length_map, List.length_range]; have := Hk.out; omega)
          clear hj hlt hjl Hv
          have HBn := Lib.hid (below_new wr (.cells #[.int .i64 (v : Int)] 3))
          have HOn := Lib.hid (HO.out.below HBn.out)
          have HI1 := Lib.hid (IntsAt.one wr (v : Int) 3)
          go_wp2_with (at_builtin; refine wpList_append_nums rfl _ _ rfl w1.heap.size _ out [(v : Int)] rfl HOn.out (some ⟨wr.heap.size, 0, none⟩) 1 _ rfl rfl HI1.out (fun e => nomatch e) (Nat.le_trans HB.out.size HBn.out.size) Hol.out ?_; intro v' w6 hown' hgrow; have HO6 := Lib.hid hown'; have HB6 : Hid (Below w1.heap.size w1 w6) := Lib.hid ((below2 HB.out HBn.out).grown hgrow (Nat.le_trans HB.out.size HBn.out.size) (fun k hk => HOn.out.ge k hk)); clear hown' hgrow)
          go_roundw
          case rel => exact ⟨k + 1, _, Hk.out, by first | rfl | (rw [Ik.out]; rfl), Ho2, HO6, HB6⟩
          case measure => have := Hk.out; (try rw [Ik.out]); simp [intOf]; omega
    · obtain rfl : k = 5 := by omega
      obtain ⟨A3, c3, rfl, hX, _⟩ := HO.out.rows
      have HX := Lib.hid hX
      have e5 : out.length = 5 := by rw [Ho.out]; simp
      rw [e5]
      clear hk hlt hX e5
      go_wp2
      go_ret
      exact ⟨A3, c3, rfl, by rw [← Ho.out]; exact HX.out, (HS0.out.on HB.out).below⟩
end Go.Proofs.YtpgichlaghhdeaaGreatDoor
