/-
  The document's answers for layer 3: what the reference's All, Row and GetRow hand back: what frame's do.
-/
import Derived.Test.YtgcpgmclhnddbaaRefFrame
namespace Go.Proofs.Ytgcpgmclhnddbaa
open Go.RowKit

/-- How long a text is. -/
def lenV : Value → Nat
  | .string b => b.size
  | _ => 0

/-- What holds ahead of each round of the reference's All: ts was told, of n bytes, cur is left. -/
def RAllRel (w : World) (s : ByteArray) (v left : Value) (wr : World) : Prop :=
  ∃ (n : Nat) (ts : List (List UInt8)) (cur : ByteArray), n + cur.size = s.size ∧ left = .string cur ∧ ts.length ≤ n ∧ Fm.all (bl s) = Fm.allGlue ts n (Fm.all (bl cur)) ∧
    wr.ownsRow w.heap.size 9 1 v ts.length (ts.map strV) ∧ Below w.heap.size w wr

set_option maxRecDepth 10000 in
set_option maxHeartbeats 1000000 in
theorem RAll_any (s : ByteArray) (w : World) (hs : s.size ≤ big) :
    Calls Try.prog 21 #[.string s] w (GotAll w (Fm.all (bl s))) := by
  have Hs := Lib.hid hs
  clear hs
  obtain ⟨i0, hi, hz0, hz1, hz2⟩ := info_parts Try.infoS
  go_enter Try.func21, Try.ntmps21
  go_wp2_with fail
  go_loopw [5, 6] (fun v left wr => RAllRel w s v left wr) (fun _ left _ => lenV left)
  case atStart => exact ⟨0, [], s, Nat.zero_add _, rfl, Nat.zero_le _, by rw [Fm.allGlue_zero], World.ownsRow_nil _ _ _ _, Below.refl _ _⟩
  case round =>
    obtain ⟨n, ts, cur, hn, rfl, hts, hgl, hown, hB⟩ := hrel
    have Hgl := Lib.hid hgl
    have Hts := Lib.hid hts
    have Hn := Lib.hid hn
    clear hgl hts hn
    by_cases hc : cur.toList = []
    · have hcur : cur = ⟨#[]⟩ := bl_inj (by have h := hc; rw [ByteArray.toList_eq] at h; exact h)
      clear hc
      subst hcur
      have Hr : Hid (Fm.all (bl s) = (ts, s.size, 0)) := Lib.hid (by
        rw [Hgl.out, show bl ⟨#[]⟩ = [] from rfl, Fm.allGlue_end, ← Hn.out]; rfl)
      go_wp2
      go_ret3
      rw [Hr.out]; exact ⟨_, rfl, hown, hB⟩
    · have hc' : (cur.toList == []) = false := by rw [beq_eq_false_iff_ne]; exact hc
      have Hb : Hid (cur.size ≤ big) := Lib.hid (Nat.le_trans (by have := Hn.out; omega) Hs.out)
      obtain ⟨k, t, r, e, hg⟩ : ∃ k t r e, Fm.get (bl cur) = (k, t, r, e) := ⟨_, _, _, _, rfl⟩
      have hg0 := RGet_any cur wr Hb.out
      rw [hg] at hg0
      have Hg := Lib.hid hg
      clear hg
      by_cases he : e = 0
      · subst he
        have Hm : Hid (r.length < cur.size) := Lib.hid (by have := Fm.get_less Hg.out; rwa [bl_length] at this)
        go_wp2_with fail
        refine hg0.mono ?_
        rintro x w1 ⟨rfl, hB1⟩
        have hown1 := owns_below hown hB1
        have hB2 : Below w.heap.size w w1 := hB.trans (hB1.mono hB.size)
        clear hg0
        unfold got4
        go_wp2_with (at_builtin; refine wpList_append_own _ rfl _ _ 22 rfl w.heap.size 9 i0 (.string ⟨#[]⟩) 1 16 Try.underlying22 hi hz0 hz1 hz2 rfl (by decide) _ _ _ rfl (hown1.alloc _) ⟨w1.heap.size, 0, none⟩ 1 1 [.string (strOf t)] rfl rfl (cell_one_new _ _ _) (by simp [Value.oneCell']) (by have h1 := Hs.out; have h2 := Hts.out; have h3 := Hn.out; unfold big at h1; unfold maxLen; omega) (by have h1 := Hs.out; have h2 := Hts.out; have h3 := Hn.out; unfold big at h1; omega) (by have := hB2.size; simp; omega) ?_; intro v' w2 hown' hgrow _; obtain ⟨g', cap', rfl⟩ := ownsRow_succ hown')
        go_roundw
        case rel =>
          refine ⟨n + (cur.size - r.length), ts ++ [t], strOf r, ?_, rfl, ?_, ?_, by simpa [strV] using hown', gets_below hB2 hown1 hgrow⟩
          · rw [strOf_size]; have h1 := Hm.out; have h2 := Hn.out; omega
          · have h1 := Hm.out; have h2 := Hts.out; simp; omega
          · rw [Hgl.out, Fm.allGlue_step Hg.out, bl_length, bl_strOf]
        case measure => exact (show (strOf r).size < cur.size by rw [strOf_size]; exact Hm.out)
      · have he' : (e != 0) = true := by rw [bne_iff_ne]; exact he
        have Hr : Hid (Fm.all (bl s) = (ts, n, e)) := Lib.hid (by
          rw [Hgl.out]
          rcases Fm.get_cases (bl cur) with ⟨k', t', r', h'⟩ | ⟨e', he', h'⟩
          · rw [Hg.out] at h'; simp only [Prod.mk.injEq] at h'; exact absurd h'.2.2.2 he
          · have h2 := h'
            rw [Hg.out] at h2
            simp only [Prod.mk.injEq] at h2
            rw [h2.2.2.2]
            exact Fm.allGlue_bad (by intro hh; exact hc (by rw [ByteArray.toList_eq]; exact hh)) h' he')
        have hd2 : (s.size : Int) - (cur.size : Int) = (n : Int) := by have := Hn.out; omega
        have hd4 : wrap64 (n : Int) = (n : Int) := wrap_big (Nat.le_trans (show n ≤ s.size by have := Hn.out; clear hd2; omega) Hs.out)
        clear he
        go_wp2_with fail
        refine hg0.mono ?_
        rintro x w1 ⟨rfl, hB1⟩
        have hown1 := owns_below hown hB1
        unfold got4
        go_wp2
        go_ret3
        rw [Hr.out, hd4]; exact ⟨_, rfl, hown1, hB.trans (hB1.mono hB.size)⟩


set_option maxRecDepth 10000 in
set_option maxHeartbeats 1000000 in
theorem RRow_any (kk : Int) (A : Option Addr) (cap : Nat) (ss : List ByteArray) (w : World) (hA : StrsAt w w.heap.size A ss) (hs : ∀ s ∈ ss, s.size ≤ maxLen) :
    Calls Try.prog 13 #[.int .i64 kk, .slice A ss.length cap] w fun x w' => x = .returned (.tuple #[.string (strOf (Fm.rowS kk (ss.map bl))), .int .i64 (Fm.rowE kk (ss.map bl))]) ∧ Below w.heap.size w w' := by
  have Hs := Lib.hid hs
  clear hs
  by_cases hkk : Fm.kindOk kk = true
  · have hk0 : decide (kk < 0) = false := decide_eq_false (by have := Fm.kindOk_iff.1 hkk; omega)
    have hk1 : decide (99 < kk) = false := decide_eq_false (by have := Fm.kindOk_iff.1 hkk; omega)
    have Hkk := Lib.hid hkk
    clear hkk
    by_cases hmany : 100 < ss.length
    · have hm : decide (100 < (ss.length : Int)) = true := decide_eq_true (by omega)
      have Hr := Lib.hid (Fm.layOk_many (ls := ss.map bl) (by rw [List.length_map]; exact hmany))
      clear hmany
      go_enter Try.func13, Try.ntmps13
      go_wp2
      go_ret2
      exact ⟨ret2 (by rw [Fm.rowS, if_pos Hkk.out, Hr.out]; rfl) (by rw [Fm.rowE, if_pos Hkk.out, Hr.out]; rfl), Below.refl _ _⟩
    · have hm : decide (100 < (ss.length : Int)) = false := decide_eq_false (by omega)
      have hn : ss.length ≤ 100 := by omega
      clear hmany
      go_enter Try.func13, Try.ntmps13
      go_wp2_with fail
      refine (RInt_at (ss.length : Int) w (Wm.fits_iff.2 (by omega))).mono ?_
      rintro x w1 ⟨rfl, hB1⟩
      go_wp2_with fail
      go_loopw [6, 8] (fun out i wr => LayRel w ss out i wr) (fun _ i _ => ss.length - (intOf i).toNat)
      case atStart => exact ⟨0, Nat.zero_le _, rfl, by simp, by simp [Fm.textsL], hB1⟩
      case round =>
        obtain ⟨k, hk, rfl, hall, rfl, hB⟩ := hrel
        clear hB1
        by_cases hlt : k < ss.length
        · obtain ⟨b, off, rfl, hb, hc⟩ := (hA.below hB (Nat.le_refl _)) k hlt
          by_cases hlong : ss[k].size ≤ 3000
          · have Hlong := Lib.hid hlong
            have Hall := Lib.hid hall
            have hcat : ¬ 9223372036854775807 < (strOf (Wm.lay (ss.length : Int) ++ Fm.textsL ((ss.map bl).take k))).size + (strOf (Fm.textL (bl ss[k]))).size := by
              have h1 := lay_short (ss.length : Int) (Wm.fits_iff.2 (by omega))
              have h2 := textsL_short hall
              rw [List.length_take, List.length_map] at h2
              have h3 := textL_short (t := bl ss[k]) hlong
              rw [bl_length] at h3
              rw [strOf_size, strOf_size, List.length_append]
              omega
            have hout : strOf (Wm.lay (ss.length : Int) ++ Fm.textsL ((ss.map bl).take k)) ++ strOf (Fm.textL (bl ss[k])) = strOf (Wm.lay (ss.length : Int) ++ Fm.textsL ((ss.map bl).take (k + 1))) := by
              rw [strs_append, map_take_succ hlt, Fm.textsL_snoc, List.append_assoc]
            clear hlong hall
            go_wp2_with fail
            refine (RText_yes ss[k] wr Hlong.out).mono ?_
            rintro x w2 ⟨rfl, hB2⟩
            go_wp2
            go_roundw
            case rel =>
              refine ⟨k + 1, by omega, by go_num, ?_, rfl, hB.trans (hB2.mono hB.size)⟩
              intro t ht
              rw [map_take_succ hlt] at ht
              rcases List.mem_append.1 ht with ht | ht
              · exact Hall.out t ht
              · rw [List.mem_singleton.1 ht]; exact Hlong.out
            case measure => simp [intOf]; omega
          · have Hlong := Lib.hid hlong
            have Hr := Lib.hid (Fm.layOk_long (ls := ss.map bl) (k := k) (by rw [List.length_map]; exact hlt) (by rw [List.getElem_map, bl_length]; omega))
            clear hlong hall
            go_wp2_with fail
            refine (RText_no ss[k] wr (Hs.out _ (List.getElem_mem hlt)) Hlong.out).mono ?_
            rintro x w2 ⟨rfl, hB2⟩
            go_wp2
            go_ret2
            exact ⟨ret2 (by rw [Fm.rowS, if_pos Hkk.out, Hr.out]; rfl) (by rw [Fm.rowE, if_pos Hkk.out, Hr.out]; rfl), hB.trans (hB2.mono hB.size)⟩
        · obtain rfl : k = ss.length := by omega
          have Hr : Hid (Fm.layOk (ss.map bl) = true) := Lib.hid (Fm.layOk_iff.2 ⟨by rw [List.length_map]; exact hn, by rwa [List.take_of_length_le (by rw [List.length_map]; exact Nat.le_refl _)] at hall⟩)
          clear hall
          have e1 : strOf (Wm.lay (ss.length : Int) ++ Fm.textsL ((ss.map bl).take ss.length)) = strOf (Fm.rowL (ss.map bl)) := by
            rw [Fm.rowL, List.take_of_length_le (by rw [List.length_map]; exact Nat.le_refl _), List.length_map]
          rw [e1]
          clear e1
          have Hb : Hid ((strOf (Fm.rowL (ss.map bl))).size ≤ maxLen) := Lib.hid (by have := rowL_short Hr.out; rw [strOf_size]; unfold maxLen; omega)
          go_wp2_with fail
          refine (RPut_any kk (strOf (Fm.rowL (ss.map bl))) wr Hb.out).mono ?_
          rintro x w2 ⟨rfl, hB2⟩
          go_wp2
          go_ret2
          exact ⟨ret2 (by rw [Fm.rowS, if_pos Hkk.out, if_pos Hr.out]; rfl) (by rw [Fm.rowE, if_pos Hkk.out, if_pos Hr.out]; rfl), hB.trans (hB2.mono hB.size)⟩
  · have hkk' : Fm.kindOk kk = false := by simpa using hkk
    have Hk := Lib.hid hkk'
    rcases Fm.kindOk_not.1 hkk' with hk0 | hk0
    · clear hkk hkk'
      go_enter Try.func13, Try.ntmps13
      go_wp2
      go_ret2
      exact ⟨ret2 (by rw [Fm.rowS, Hk.out]; rfl) (by rw [Fm.rowE, Hk.out]; rfl), Below.refl _ _⟩
    · have hk1 : ¬ kk < 0 := by omega
      clear hkk hkk'
      go_enter Try.func13, Try.ntmps13
      go_wp2
      go_ret2
      exact ⟨ret2 (by rw [Fm.rowS, Hk.out]; rfl) (by rw [Fm.rowE, Hk.out]; rfl), Below.refl _ _⟩

/-- What holds ahead of each round of the reference's GetRow: ts was read, cur is left. -/
def RTextsRel (w : World) (a : List UInt8) (M : Nat) (left v i : Value) (wr : World) : Prop :=
  ∃ (k : Nat) (ts : List (List UInt8)) (cur : ByteArray), k ≤ M ∧ i = .int .i64 (k : Int) ∧ left = .string cur ∧ ts.length = k ∧ cur.size ≤ maxLen ∧ Fm.getTs M a = Fm.glueT ts (Fm.getTs (M - k) (bl cur)) ∧
    wr.ownsRow w.heap.size 9 1 v k (ts.map strV) ∧ Below w.heap.size w wr

set_option maxRecDepth 10000 in
set_option maxHeartbeats 2000000 in
theorem RGetRow_any (s : ByteArray) (w : World) (hs : s.size ≤ big) :
    Calls Try.prog 19 #[.string s] w (GotRow w (Fm.getRow (bl s))) := by
  have hg0 := RGet_any s w hs
  clear hs
  obtain ⟨i0, hi, hz0, hz1, hz2⟩ := info_parts Try.infoS
  rcases Fm.get_cases (bl s) with ⟨k, t, r, h⟩ | ⟨e, he, h⟩
  · rw [h] at hg0
    unfold got4 at hg0
    have H := Lib.hid h
    have ht3 := (Fm.get_ok h).2.1
    have Ht : Hid ((strOf t).size ≤ maxLen) := Lib.hid (by rw [strOf_size]; unfold maxLen; omega)
    clear h
    rcases Fm.getInt_cases t with ⟨m, a, h1⟩ | ⟨e, he, h1⟩
    · have H1 := Lib.hid h1
      have Ha : Hid ((strOf a).size ≤ maxLen) := Lib.hid (by have := getInt_len h1; rw [strOf_size]; unfold maxLen; omega)
      clear h1 ht3
      by_cases hm : m < 0 ∨ 100 < m
      · have Hr : Hid (Fm.getRow (bl s) = (0, [], [], 20)) := Lib.hid (Fm.getRow_no H.out (Fm.rowOf_e1 H1.out (fun hh => by omega)))
        rcases hm with hm | hm
        · go_enter Try.func19, Try.ntmps19
          go_wp2_with fail
          refine hg0.mono ?_
          rintro x w1 ⟨rfl, hB1⟩
          go_wp2_with fail
          refine (RGetInt_at (strOf t) m a 0 w1 Ht.out H1.out).mono ?_
          rintro x w2 ⟨rfl, hB2⟩
          go_wp2
          (try simp only [Exit.inBlock, Exit.then]); refine bodyPost_ret (results_tmp4 rfl _ _ _) rfl ?_
          rw [Hr.out]; exact ⟨_, rfl, World.ownsRow_nil _ _ _ _, below2 hB1 hB2⟩
        · have hm' : ¬ m < 0 := by omega
          go_enter Try.func19, Try.ntmps19
          go_wp2_with fail
          refine hg0.mono ?_
          rintro x w1 ⟨rfl, hB1⟩
          go_wp2_with fail
          refine (RGetInt_at (strOf t) m a 0 w1 Ht.out H1.out).mono ?_
          rintro x w2 ⟨rfl, hB2⟩
          go_wp2
          (try simp only [Exit.inBlock, Exit.then]); refine bodyPost_ret (results_tmp4 rfl _ _ _) rfl ?_
          rw [Hr.out]; exact ⟨_, rfl, World.ownsRow_nil _ _ _ _, below2 hB1 hB2⟩
      · obtain ⟨M, rfl⟩ : ∃ M : Nat, m = (M : Int) := ⟨m.toNat, by omega⟩
        have hM : M ≤ 100 := by omega
        have hd1 : decide ((M : Int) < 0) = false := decide_eq_false (by omega)
        have hd2 : decide (100 < (M : Int)) = false := decide_eq_false (by omega)
        clear hm
        go_enter Try.func19, Try.ntmps19
        go_wp2_with fail
        refine hg0.mono ?_
        rintro x w1 ⟨rfl, hB1⟩
        go_wp2_with fail
        refine (RGetInt_at (strOf t) M a 0 w1 Ht.out H1.out).mono ?_
        rintro x w2 ⟨rfl, hB2⟩
        have hB02 := below2 hB1 hB2
        clear hg0 hB1 hB2
        go_wp2_with fail
        go_loopw [11, 13, 14] (fun left v i wr => RTextsRel w a M left v i wr) (fun _ _ i _ => M - (intOf i).toNat)
        case atStart => exact ⟨0, [], strOf a, Nat.zero_le _, rfl, rfl, rfl, Ha.out, by rw [Nat.sub_zero, Fm.glueT_nil, bl_strOf], World.ownsRow_nil _ _ _ _, hB02⟩
        case round =>
          obtain ⟨k', ts, cur, hk, rfl, rfl, hnl, hcur, hgl, hown, hB⟩ := hrel
          have Hcur := Lib.hid hcur; have Hnl := Lib.hid hnl; have Hgl := Lib.hid hgl
          clear hcur hnl hgl hB02
          by_cases hlt : k' < M
          · obtain ⟨u, q, c, hg⟩ : ∃ u q c, Wm.getText (bl cur) = (u, q, c) := ⟨_, _, _, rfl⟩
            have Hg := Lib.hid hg
            clear hg
            by_cases hc : c = 0
            · subst hc
              go_wp2_with fail
              refine (RGetText_at cur u q 0 wr Hcur.out Hg.out).mono ?_
              rintro x W ⟨rfl, hBW⟩
              have hown1 := owns_below hown hBW
              have hB1 : Below w.heap.size w W := hB.trans (hBW.mono hB.size)
              clear hown hB hBW
              go_wp2_with (at_builtin; refine wpList_append_own _ rfl _ _ 22 rfl w.heap.size 9 i0 (.string ⟨#[]⟩) 1 16 Try.underlying22 hi hz0 hz1 hz2 rfl (by decide) _ _ _ rfl (hown1.alloc _) ⟨W.heap.size, 0, none⟩ 1 1 [.string (strOf u)] rfl rfl (cell_one_new _ _ _) (by simp [Value.oneCell']) (by unfold maxLen; omega) (by omega) (by have := hB1.size; simp; omega) ?_; intro v' w3 hown' hgrow _; obtain ⟨g', cap', rfl⟩ := ownsRow_succ hown')
              go_roundw
              case rel =>
                refine ⟨k' + 1, ts ++ [u], strOf q, by omega, by go_num, rfl, by simp [Hnl.out], ?_, ?_, by simpa [strV] using hown', gets_below hB1 hown1 hgrow⟩
                · have h1 := (getText_len Hg.out).2
                  rw [bl_length] at h1
                  rw [strOf_size]
                  exact Nat.le_trans h1 Hcur.out
                · rw [Hgl.out, show M - k' = (M - (k' + 1)) + 1 by omega, Fm.glueT_step Hg.out, bl_strOf]
              case measure => simp [intOf]; omega
            · have hc2 : (c != 0) = true := by rw [bne_iff_ne]; exact hc
              have Hr : Hid (Fm.getRow (bl s) = (0, [], [], 20)) := Lib.hid (by
                have g2 := Hgl.out
                rw [show M - k' = (M - (k' + 1)) + 1 by omega, Fm.glueT_bad Hg.out hc] at g2
                exact Fm.getRow_no H.out (Fm.rowOf_e2 H1.out (by omega) (show Fm.getTs (M : Int).toNat a = ([], [], c) from g2) (fun hh => hc hh.1)))
              clear hc
              go_wp2_with fail
              refine (RGetText_at cur u q c wr Hcur.out Hg.out).mono ?_
              rintro x W ⟨rfl, hBW⟩
              go_wp2
              (try simp only [Exit.inBlock, Exit.then]); refine bodyPost_ret (results_tmp4 rfl _ _ _) rfl ?_
              rw [Hr.out]; exact ⟨_, rfl, World.ownsRow_nil _ _ _ _, hB.trans (hBW.mono hB.size)⟩
          · obtain rfl : k' = M := by omega
            have g2 := Hgl.out
            rw [Nat.sub_self, Fm.glueT_end] at g2
            by_cases hc : cur.toList = []
            · have hcur : cur = ⟨#[]⟩ := bl_inj (by have h := hc; rw [ByteArray.toList_eq] at h; exact h)
              have Hr : Hid (Fm.getRow (bl s) = (k, ts, r, 0)) := Lib.hid (Fm.getRow_yes H.out (Fm.rowOf_yes H1.out (by omega) (show Fm.getTs (k' : Int).toNat a = (ts, [], 0) from g2.trans (by rw [hcur]; rfl))))
              clear g2 hc
              subst hcur
              go_wp2
              (try simp only [Exit.inBlock, Exit.then]); refine bodyPost_ret (results_tmp4 rfl _ _ _) rfl ?_
              rw [Hr.out]; exact ⟨_, rfl, by simpa [Hnl.out] using hown, hB⟩
            · have Hr : Hid (Fm.getRow (bl s) = (0, [], [], 20)) := Lib.hid (Fm.getRow_no H.out (Fm.rowOf_e2 H1.out (by omega) (show Fm.getTs (k' : Int).toNat a = (ts, bl cur, 0) from g2) (fun hh => hc (by rw [ByteArray.toList_eq]; exact hh.2))))
              have hc' : (cur.toList == []) = false := by rw [beq_eq_false_iff_ne]; exact hc
              clear g2
              go_wp2
              (try simp only [Exit.inBlock, Exit.then]); refine bodyPost_ret (results_tmp4 rfl _ _ _) rfl ?_
              rw [Hr.out]; exact ⟨_, rfl, World.ownsRow_nil _ _ _ _, hB⟩
    · have H1 := Lib.hid h1
      have Hr : Hid (Fm.getRow (bl s) = (0, [], [], 20)) := Lib.hid (Fm.getRow_no H.out (Fm.rowOf_e1 h1 (fun hh => he hh.1)))
      have he' : (e != 0) = true := by rw [bne_iff_ne]; exact he
      clear h1 he ht3
      go_enter Try.func19, Try.ntmps19
      go_wp2_with fail
      refine hg0.mono ?_
      rintro x w1 ⟨rfl, hB1⟩
      go_wp2_with fail
      refine (RGetInt_at (strOf t) 0 [] e w1 Ht.out H1.out).mono ?_
      rintro x w2 ⟨rfl, hB2⟩
      go_wp2
      (try simp only [Exit.inBlock, Exit.then]); refine bodyPost_ret (results_tmp4 rfl _ _ _) rfl ?_
      rw [Hr.out]; exact ⟨_, rfl, World.ownsRow_nil _ _ _ _, below2 hB1 hB2⟩
  · rw [h] at hg0
    unfold got4 at hg0
    have Hr := Lib.hid (Fm.getRow_e h he)
    have he' : (e != 0) = true := by rw [bne_iff_ne]; exact he
    clear h he
    go_enter Try.func19, Try.ntmps19
    go_wp2_with fail
    refine hg0.mono ?_
    rintro x w1 ⟨rfl, hB1⟩
    go_wp2
    (try simp only [Exit.inBlock, Exit.then]); refine bodyPost_ret (results_tmp4 rfl _ _ _) rfl ?_
    rw [Hr.out]; exact ⟨_, rfl, World.ownsRow_nil _ _ _ _, hB1⟩

end Go.Proofs.Ytgcpgmclhnddbaa
