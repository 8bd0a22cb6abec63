/-
  Layer 3 (frame): the walk of the law FrameCut.
-/
import Derived.Test.YtgcpgmclhnddbaaFrameBack
import Derived.Test.YtgcpgmclhnddbaaFrameCutM
namespace Go.Proofs.Ytgcpgmclhnddbaa
open Go.RowKit

theorem frames_short {k : Int} (hk : Fm.kindOk k = true) {ls : List (List UInt8)} (h : ∀ t ∈ ls, t.length ≤ 300) : (Fm.frames k ls).length ≤ 318 * ls.length := by
  induction ls with
  | nil => simp [Fm.frames_nil]
  | cons t ls ih =>
    have h1 := h t (List.mem_cons_self ..)
    have h2 := frame_short hk (t := t) (by omega)
    have h3 := ih fun x hx => h x (List.mem_cons_of_mem _ hx)
    rw [Fm.frames_cons, List.length_append, List.length_cons]; omega

/-- What is known of how many frames are whole. -/
def CutAt (k : Int) (ls : List (List UInt8)) (at_ : Int) (n j : Nat) : Prop :=
  j ≤ n ∧ (j = 0 ∨ ((Fm.frames k (ls.take j)).length : Int) ≤ at_) ∧ (j < n → at_ < ((Fm.frames k (ls.take (j + 1))).length : Int))

theorem CutAt.more {k : Int} {ls : List (List UInt8)} {at_ : Int} {n j : Nat} (h : CutAt k ls at_ n j) (hle : ((Fm.frames k (ls.take (n + 1))).length : Int) ≤ at_) : j = n ∧ CutAt k ls at_ (n + 1) (n + 1) := by
  have hj : j = n := by
    by_cases hlt : j < n
    · have h1 := h.2.2 hlt
      have h2 := Fm.frames_mono k ls (show j + 1 ≤ n + 1 by omega)
      omega
    · have := h.1; omega
  exact ⟨hj, Nat.le_refl _, .inr hle, fun hh => absurd hh (Nat.lt_irrefl _)⟩

theorem CutAt.not {k : Int} {ls : List (List UInt8)} {at_ : Int} {n j : Nat} (h : CutAt k ls at_ n j) (hle : ¬ ((Fm.frames k (ls.take (n + 1))).length : Int) ≤ at_) : CutAt k ls at_ (n + 1) j := by
  refine ⟨by have := h.1; omega, h.2.1, fun _ => ?_⟩
  by_cases hlt : j < n
  · exact h.2.2 hlt
  · have : j = n := by have := h.1; omega
    subst this; omega

/-- What holds ahead of each round of FrameCut. -/
def CutRel (w : World) (k : Int) (ls : List (List UInt8)) (at_ : Int) (s many whole i : Value) (wr : World) : Prop :=
  ∃ n j : Nat, n ≤ ls.length ∧ i = .int .i64 (n : Int) ∧ s = .string (strOf (Fm.frames k (ls.take n))) ∧ many = .int .i64 (j : Int) ∧ whole = .int .i64 ((Fm.frames k (ls.take j)).length : Int) ∧ CutAt k ls at_ n j ∧ Below w.heap.size w wr

set_option maxRecDepth 10000 in
set_option maxHeartbeats 2000000 in
theorem frameCut_main (A : Option Addr) (cap : Nat) (ss : List ByteArray) (k at_ : Int) (w : World) (hA : StrsAt w w.heap.size A ss) (hl : ss.length ≤ maxLen) (hcap : ss.length ≤ cap) (hsz : ∀ s ∈ ss, s.size ≤ maxLen) :
    Calls Try.prog 7 #[.slice A ss.length cap, .int .i64 k, .int .i64 at_] w fun e w' => e = .returned (.bool true) ∧ Below w.heap.size w w' := by
  by_cases hmany : 12 < ss.length
  · have hd : decide (12 < (ss.length : Int)) = true := decide_eq_true (by omega)
    clear hmany hl hcap
    go_enter Try.func7, Try.ntmps7
    go_wp2
    go_ret
    exact ⟨rfl, Below.refl _ _⟩
  · have hd : decide (12 < (ss.length : Int)) = false := decide_eq_false (by omega)
    have hn12 : ss.length ≤ 12 := by omega
    have hS := Short_any A cap ss w hA hl hsz
    clear hmany hl hsz
    by_cases hsh : shortB ss = true
    · rw [hsh] at hS
      have Hq := Lib.hid (shortB_iff.1 hsh).1
      clear hsh
      by_cases hk : Fm.kindOk k = true
      · have hk0 : decide (k < 0) = false := decide_eq_false (by have := Fm.kindOk_iff.1 hk; omega)
        have hk1 : decide (99 < k) = false := decide_eq_false (by have := Fm.kindOk_iff.1 hk; omega)
        have Hk := Lib.hid hk
        clear hk
        have Hq2 : Hid (∀ t ∈ ss.map bl, t.length ≤ 300) := Lib.hid (by
          intro t ht
          obtain ⟨s, hs, rfl⟩ := List.mem_map.1 ht
          exact Hq.out s hs)
        go_enter Try.func7, Try.ntmps7
        go_wp2_with fail
        refine hS.mono ?_
        rintro x w1 ⟨rfl, rfl⟩
        clear hS
        go_wp2_with fail
        go_loopw [7, 8, 9, 10] (fun s many whole i wr => CutRel w k (ss.map bl) at_ s many whole i wr) (fun _ _ _ i _ => ss.length - (intOf i).toNat)
        case atStart => exact ⟨0, 0, Nat.zero_le _, rfl, rfl, rfl, rfl, ⟨Nat.le_refl _, .inl rfl, fun h => absurd h (Nat.lt_irrefl _)⟩, Below.refl _ _⟩
        case round =>
          obtain ⟨n, j, hn, rfl, rfl, rfl, rfl, hcut, hB⟩ := hrel
          rw [List.length_map] at hn
          have Hcut := Lib.hid hcut
          have hj : j ≤ n := hcut.1
          clear hcut
          by_cases hlt : n < ss.length
          · obtain ⟨b, off, rfl, hb, hc⟩ := (hA.below hB (Nat.le_refl _)) n hlt
            have Hsn := Lib.hid (Hq.out _ (List.getElem_mem hlt))
            have hput := Put_any k ss[n] wr (by have := Hsn.out; unfold maxLen; omega)
            obtain ⟨p1, p2⟩ := Fm.put_yes (t := bl ss[n]) Hk.out (by rw [bl_length]; have := Hsn.out; omega)
            rw [p1, p2] at hput
            have hnext : strOf (Fm.frames k ((ss.map bl).take n)) ++ strOf (Fm.frame k (bl ss[n])) = strOf (Fm.frames k ((ss.map bl).take (n + 1))) := by
              rw [strs_append, Fm.frames_succ k (by rw [List.length_map]; exact hlt), List.getElem_map]
            have hlen : ∀ m, (strOf (Fm.frames k ((ss.map bl).take m))).size ≤ 5000 := by
              intro m
              have := frames_short Hk.out (ls := (ss.map bl).take m) (fun t ht => Hq2.out t (List.mem_of_mem_take ht))
              rw [List.length_take, List.length_map] at this
              rw [strOf_size]; omega
            have hsum : ¬ 9223372036854775807 < (strOf (Fm.frames k ((ss.map bl).take n))).size + (strOf (Fm.frame k (bl ss[n]))).size := by
              have h1 := hlen n
              have h2 := frame_short Hk.out (t := bl ss[n]) (by rw [bl_length]; have := Hsn.out; omega)
              rw [bl_length] at h2
              rw [strOf_size (Fm.frame _ _)]; have := Hsn.out; omega
            have hl1 := hlen (n + 1)
            clear hlen p1 p2
            go_wp2_with fail
            refine hput.mono ?_
            rintro x w2 ⟨rfl, hB2⟩
            have hB02 := hB.trans (hB2.mono hB.size)
            clear hput hB hB2
            by_cases hle : ((strOf (Fm.frames k ((ss.map bl).take (n + 1)))).size : Int) ≤ at_
            · obtain ⟨q1, q2⟩ := Hcut.out.more hle
              subst q1
              go_wp2
              go_roundw
              case rel => exact ⟨j + 1, j + 1, by rw [List.length_map]; omega, by go_num, rfl, by go_num, rfl, q2, hB02⟩
              case measure => simp [intOf]; omega
            · have q2 := Hcut.out.not hle
              go_wp2
              go_roundw
              case rel => exact ⟨n + 1, j, by rw [List.length_map]; omega, by go_num, rfl, rfl, rfl, q2, hB02⟩
              case measure => simp [intOf]; omega
          · obtain rfl : n = ss.length := by omega
            have htake : (ss.map bl).take ss.length = ss.map bl := List.take_of_length_le (by rw [List.length_map]; exact Nat.le_refl _)
            rw [htake]
            obtain ⟨F, hF⟩ : ∃ F, F = Fm.frames k (ss.map bl) := ⟨_, rfl⟩
            rw [← hF]
            have HF := Lib.hid hF
            have hFl : F.length ≤ 5000 := by
              have := frames_short Hk.out Hq2.out
              rw [List.length_map, ← hF] at this; omega
            have Hall : Hid (Fm.all F = (ss.map bl, F.length, 0)) := Lib.hid (by
              rw [hF]; exact Fm.all_whole Hk.out (fun t ht => by have := Hq2.out t ht; omega))
            clear htake hF
            have hbig : (strOf F).size ≤ big := by rw [strOf_size]; unfold big; omega
            have ha := All_any (strOf F) wr hbig
            rw [bl_strOf, Hall.out] at ha
            have hsz : (strOf F).size = F.length := strOf_size F
            clear hbig
            go_wp2_with fail
            refine ha.mono ?_
            rintro x w2 ⟨v, rfl, hown, hB2⟩
            rw [List.length_map, map_bl_strV] at hown
            obtain ⟨A', c, rfl⟩ := ownsRow_slice hown
            have hA' := StrsAt.of_own hown
            have hB02 := hB.trans (hB2.mono hB.size)
            clear ha hown hB hB2
            go_wp2_with fail
            have ht := Texts_any A' A c cap ss ss w2 hA' ((hA.below hB02 (Nat.le_refl _)).more hB02.size) (by unfold maxLen; omega)
            rw [decide_eq_true (rfl : ss = ss)] at ht
            refine ht.mono ?_
            rintro x w3 ⟨rfl, n3, rfl⟩
            have hB03 := below_drew hB02 n3
            obtain ⟨w3, hw3⟩ : ∃ w3, w3 = w2.drewN n3 := ⟨_, rfl⟩
            rw [← hw3] at hB03 ⊢
            clear ht hw3 hB02 hA'
            by_cases ha0 : at_ < 0
            · go_wp2_with fail
              refine (framed_any w3).mono ?_
              rintro x w4 ⟨rfl, hB4⟩
              go_wp2
              go_ret
              exact ⟨rfl, below2 hB03 hB4⟩
            · obtain ⟨m, rfl⟩ : ∃ m : Nat, at_ = (m : Int) := ⟨at_.toNat, by omega⟩
              by_cases ha1 : F.length < m
              · go_wp2_with fail
                refine (framed_any w3).mono ?_
                rintro x w4 ⟨rfl, hB4⟩
                go_wp2
                go_ret
                exact ⟨rfl, below2 hB03 hB4⟩
              · have hm : m ≤ F.length := by omega
                have hjl : (ss.take j).length = j := by rw [List.length_take]; omega
                obtain ⟨L, hL⟩ : ∃ L, L = (Fm.frames k ((ss.map bl).take j)).length := ⟨_, rfl⟩
                have hLm : L ≤ m := by
                  rcases Hcut.out.2.1 with h | h
                  · subst h; rw [hL, List.take_zero, Fm.frames_nil, List.length_nil]; exact Nat.zero_le _
                  · rw [hL]; omega
                have Hcc : Hid (Fm.all (F.take m) = ((ss.take j).map bl, L, if L = m then 0 else 22)) := Lib.hid (by
                  have h1 := Fm.all_cut Hk.out (ls := ss.map bl) (m := m) (j := j) (fun t ht => by have := Hq2.out t ht; omega) (by rw [← HF.out]; exact hm) (by rw [List.length_map]; exact hj) (by rw [← hL]; exact hLm) (fun hh => by rw [List.length_map] at hh; have := Hcut.out.2.2 hh; omega)
                  rw [← HF.out, ← hL, ← List.map_take] at h1
                  exact h1)
                rw [← hL]
                have hAj : StrsAt w w.heap.size A (ss.take j) := by
                  intro i hi
                  rw [hjl] at hi
                  obtain ⟨b, off, e1, e2, e3⟩ := hA i (by omega)
                  exact ⟨b, off, e1, e2, by rw [e3, List.getElem_take]⟩
                have hex : bl ((strOf F).extract 0 m) = F.take m := by rw [bl_extract_to _ _ (by rw [hsz]; exact hm), bl_strOf]
                have Hbx : Hid (((strOf F).extract 0 m).size ≤ big) := Lib.hid (by rw [← bl_length, hex, List.length_take]; unfold big; omega)
                have hac := All_any ((strOf F).extract 0 m) w3 Hbx.out
                rw [hex, Hcc.out] at hac
                have Hj := Lib.hid hjl
                have hjc : j ≤ cap := by omega
                have hjm : (j : Int) ≤ (cap : Int) := by omega
                clear hjl hex hL ha1 hLm
                go_wp2_with fail
                refine hac.mono ?_
                rintro x w4 ⟨v, rfl, hown, hB4⟩
                rw [List.length_map, map_bl_strV] at hown
                have hown' := hown
                rw [Hj.out] at hown'
                obtain ⟨A', c, rfl⟩ := ownsRow_slice hown'
                have hA' := StrsAt.of_own (ss := ss.take j) (A := A') (cap := c) (by rw [Hj.out]; exact hown')
                have hB04 := below2 hB03 hB4
                clear hac hown hown' hB03 hB4
                by_cases hLe : L = m
                · subst hLe
                  rw [if_pos rfl]
                  go_wp2_with fail
                  refine (framed_any w4).mono ?_
                  rintro x w5 ⟨rfl, hB5⟩
                  have hB05 := below2 hB04 hB5
                  go_wp2_with fail
                  have ht2 := Texts_any A' A c cap (ss.take j) (ss.take j) w5 ((hA'.below hB5 (Nat.le_refl _)).more hB5.size) ((hAj.below hB05 (Nat.le_refl _)).more hB05.size) (by rw [Hj.out]; unfold maxLen; omega)
                  rw [decide_eq_true (rfl : ss.take j = ss.take j), Hj.out] at ht2
                  refine ht2.mono ?_
                  rintro x w6 ⟨rfl, n6, rfl⟩
                  go_wp2
                  go_ret
                  exact ⟨rfl, below_drew hB05 n6⟩
                · rw [if_neg hLe]
                  have hb1 : ((L : Int) == (m : Int)) = false := by rw [beq_eq_false_iff_ne]; omega
                  clear hLe
                  go_wp2_with fail
                  refine (framed_any w4).mono ?_
                  rintro x w5 ⟨rfl, hB5⟩
                  have hB05 := below2 hB04 hB5
                  go_wp2_with fail
                  have ht2 := Texts_any A' A c cap (ss.take j) (ss.take j) w5 ((hA'.below hB5 (Nat.le_refl _)).more hB5.size) ((hAj.below hB05 (Nat.le_refl _)).more hB05.size) (by rw [Hj.out]; unfold maxLen; omega)
                  rw [decide_eq_true (rfl : ss.take j = ss.take j), Hj.out] at ht2
                  refine ht2.mono ?_
                  rintro x w6 ⟨rfl, n6, rfl⟩
                  go_wp2
                  go_ret
                  exact ⟨rfl, below_drew hB05 n6⟩
      · have hS' := hS
        rcases Fm.kindOk_not.1 (show Fm.kindOk k = false by simpa using hk) with hk0 | hk0
        · clear hk
          go_enter Try.func7, Try.ntmps7
          go_wp2_with fail
          refine hS.mono ?_
          rintro x w1 ⟨rfl, rfl⟩
          go_wp2
          go_ret
          exact ⟨rfl, Below.refl _ _⟩
        · have hk1 : ¬ k < 0 := by omega
          clear hk
          go_enter Try.func7, Try.ntmps7
          go_wp2_with fail
          refine hS.mono ?_
          rintro x w1 ⟨rfl, rfl⟩
          go_wp2
          go_ret
          exact ⟨rfl, Below.refl _ _⟩
    · have hsh' : shortB ss = false := by simpa using hsh
      rw [hsh'] at hS
      clear hsh hsh'
      go_enter Try.func7, Try.ntmps7
      go_wp2_with fail
      refine hS.mono ?_
      rintro x w1 ⟨rfl, rfl⟩
      go_wp2
      go_ret
      exact ⟨rfl, Below.refl _ _⟩

theorem frameCut_walk (a0 : Option Addr) (len0 cap0 : Nat) (z0 : List ByteArray) (a1 a2 : Int) (w : World) (w0 : IsStrs w a0 len0 cap0 z0) (_w1 : (Lit.int .i64 a1).wf = true) (_w2 : (Lit.int .i64 a2).wf = true) :
    Calls Try.prog 7 #[.slice a0 len0 cap0, .int .i64 a1, .int .i64 a2] w fun e w' => e = .returned (.bool true) ∧ Below w.heap.size w w' := by
  obtain ⟨h1, h2, h3, h4⟩ := w0.strs
  have hc : len0 ≤ cap0 := by
    rcases w0 with ⟨_, h, _, _⟩ | ⟨_, _, h, _⟩
    · omega
    · exact h
  have h := frameCut_main a0 cap0 z0 a1 a2 w h3 (by omega) (by omega) h4
  rw [← h1] at h
  exact h

end Go.Proofs.Ytgcpgmclhnddbaa
