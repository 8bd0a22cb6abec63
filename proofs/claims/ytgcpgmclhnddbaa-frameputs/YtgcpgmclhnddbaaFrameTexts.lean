/-
  Layer 3 (frame): what texts and GetRow hand back.
-/
import Derived.Test.YtgcpgmclhnddbaaFrameRow
import Derived.Deep.Onto
namespace Go.Proofs.Ytgcpgmclhnddbaa
open Go.RowKit

/-- What texts hands back. -/
def GotTexts (w : World) (o : Option (List (List UInt8))) (e : Ending) (w' : World) : Prop :=
  ∃ v, e = .returned (.tuple #[v, .bool o.isSome]) ∧ w'.ownsRow w.heap.size 9 1 v (o.getD []).length ((o.getD []).map strV) ∧ Below w.heap.size w w'

/-- What holds ahead of each round of texts: ts was read, cur is left, and an error, if there is one. -/
def TextsRel (w : World) (s : ByteArray) (a : List UInt8) (e1 : Int) (M : Nat) (v i : Value) (wr : World) : Prop :=
  ∃ (k : Nat) (ts : List (List UInt8)) (cur : ByteArray) (e : Int), k ≤ M ∧ i = .int .i64 (k : Int) ∧ ts.length = k ∧ cur.size ≤ maxLen ∧ RdAt wr w.heap.size (w.heap.size + 1) cur e ∧
    (e = 0 → e1 = 0 ∧ Fm.getTs M a = Fm.glueT ts (Fm.getTs (M - k) (bl cur))) ∧ (e ≠ 0 → Fm.rowOf (bl s) = none) ∧
    wr.ownsRow (w.heap.size + 2) 9 1 v k (ts.map strV) ∧ Below w.heap.size w wr ∧ w.heap.size + 2 ≤ wr.heap.size

theorem rd_lt {w : World} {bs be : Nat} {s : ByteArray} {e : Int} (h : RdAt w bs be s e) : bs < w.heap.size ∧ be < w.heap.size := ⟨World.block_lt_of_cell? w _ h.cs, World.block_lt_of_cell? w _ h.ce⟩

theorem rd_append {W w1 : World} {bs be b : Nat} {s : ByteArray} {e : Int} {T : TypeId} {v : Value} {k : Nat} {xs : List Value} {tmp : Obj} (h : RdAt W bs be s e) (h1 : bs < b) (h2 : be < b) (hown : W.ownsRow b T 1 v k xs) (hg : (W.alloc tmp).grownBy w1 v.ownBlock) : RdAt w1 bs be s e := by
  obtain ⟨l1, l2⟩ := rd_lt h
  have ha := (Below.refl W.heap.size W).alloc (Nat.le_refl _) tmp
  have hz : W.heap.size ≤ (W.alloc tmp).heap.size := ha.size
  refine h.kept ?_ ?_
  · exact (hg.block bs (by omega) (fun e => by have := (hown.lt bs e.symm).1; omega)).trans (ha.block bs l1)
  · exact (hg.block be (by omega) (fun e => by have := (hown.lt be e.symm).1; omega)).trans (ha.block be l2)

set_option maxRecDepth 10000 in
set_option maxHeartbeats 1000000 in
theorem texts_any (s : ByteArray) (w : World) (hs : s.size ≤ maxLen) :
    Calls Try.prog 34 #[.string s] w (GotTexts w (Fm.rowOf (bl s))) := by
  obtain ⟨m, a, e1, h1⟩ : ∃ m a e1, Fm.rdI (bl s) 0 = (m, a, e1) := ⟨_, _, _, rfl⟩
  have H1 := Lib.hid h1
  have Hs := Lib.hid hs
  have Ha : Hid ((strOf a).size ≤ maxLen) := Lib.hid (by have := rdI_len h1; rw [bl_length] at this; rw [strOf_size]; exact Nat.le_trans this hs)
  clear hs h1
  obtain ⟨i0, hi, hz0, hz1, hz2⟩ := info_parts Try.infoS
  go_enter Try.func34, Try.ntmps34
  go_wp2_with fail
  refine (reader_any s w).mono ?_
  rintro x w1 ⟨rfl, hR1, hB1⟩
  go_wp2_with fail
  refine (number_any _ _ w.heap.size s 0 m a e1 w1 hR1 Hs.out (Nat.le_refl _) (Nat.le_succ _) H1.out).mono ?_
  rintro x w2 ⟨rfl, hR2, hB2⟩
  have hB02 := hB1.trans hB2
  have hz : w.heap.size + 2 ≤ w2.heap.size := (rd_lt hR2).2
  clear hR1 hB1 hB2
  by_cases hm : m < 0 ∨ 100 < m
  · have Hr : Hid (Fm.rowOf (bl s) = none) := Lib.hid (Fm.rowOf_e1 H1.out (fun hh => by omega))
    rcases hm with hm | hm
    · go_wp2
      go_ret2
      rw [Hr.out]; exact ⟨_, rfl, World.ownsRow_nil _ _ _ _, hB02⟩
    · have hm' : ¬ m < 0 := by omega
      go_wp2
      go_ret2
      rw [Hr.out]; exact ⟨_, rfl, World.ownsRow_nil _ _ _ _, hB02⟩
  · obtain ⟨M, rfl⟩ : ∃ M : Nat, m = (M : Int) := ⟨m.toNat, by omega⟩
    have hM : M ≤ 100 := by omega
    have hd1 : decide ((M : Int) < 0) = false := decide_eq_false (by omega)
    have hd2 : decide (100 < (M : Int)) = false := decide_eq_false (by omega)
    clear hm
    have H0 : Hid (e1 = 0 ∨ (e1 ≠ 0 ∧ M = 0 ∧ Fm.rowOf (bl s) = none)) := Lib.hid (by
      by_cases he : e1 = 0
      · exact .inl he
      · refine .inr ⟨he, ?_, Fm.rowOf_e1 H1.out (fun hh => he hh.1)⟩
        rcases Fm.getInt_cases (bl s) with ⟨n, r, h⟩ | ⟨c, _, h⟩
        · have := H1.out; rw [Fm.rdI_go, h] at this; simp only [Prod.mk.injEq] at this; exact absurd this.2.2.symm he
        · have := H1.out; rw [Fm.rdI_go, h] at this; simp only [Prod.mk.injEq] at this; omega)
    go_wp2_with fail
    go_loopw [8, 26] (fun v i wr => TextsRel w s a e1 M v i wr) (fun _ i _ => M - (intOf i).toNat)
    case atStart =>
      refine ⟨0, [], strOf a, e1, Nat.zero_le _, rfl, rfl, Ha.out, hR2, fun he => ⟨he, by rw [Nat.sub_zero, Fm.glueT_nil, bl_strOf]⟩, fun he => ?_, World.ownsRow_nil _ _ _ _, hB02, hz⟩
      rcases H0.out with h | h
      · exact absurd h he
      · exact h.2.2
    case round =>
      obtain ⟨k, ts, cur, e, hk, rfl, hnl, hcur, hR, hgl, hno, hown, hB, hsz⟩ := hrel
      have Hcur := Lib.hid hcur; have Hnl := Lib.hid hnl; have Hgl := Lib.hid hgl; have Hno := Lib.hid hno
      clear hcur hnl hgl hno hR2 hB02 hz
      by_cases hlt : k < M
      · have He1 : Hid (e1 = 0) := Lib.hid (by rcases H0.out with h | h; exact h; omega)
        obtain ⟨t, r, c, hg⟩ : ∃ t r c, Fm.rdT (bl cur) e = (t, r, c) := ⟨_, _, _, rfl⟩
        have Hg := Lib.hid hg
        clear hg
        go_wp2_with fail
        refine (text_any _ _ w.heap.size (w.heap.size + 2) cur e t r c _ hR Hcur.out (Nat.le_refl _) (Nat.le_succ _) (by omega) (by omega) Hg.out).mono ?_
        rintro x W ⟨rfl, hR1, hB1, hst⟩
        have hown1 := hst _ _ _ _ _ _ (Nat.le_refl _) hown
        have hB2 := hB.trans hB1
        have hsz2 : w.heap.size + 2 ≤ W.heap.size := (rd_lt hR1).2
        clear hst hown hB hB1 hR hsz
        go_wp2_with (at_builtin; refine wpList_append_own _ rfl _ _ 22 rfl (w.heap.size + 2) 9 i0 (.string ⟨#[]⟩) 1 16 Try.underlying22 hi hz0 hz1 hz2 rfl (by decide) _ _ _ rfl (hown1.alloc _) ⟨W.heap.size, 0, none⟩ 1 1 [.string (strOf t)] rfl rfl (cell_one_new _ _ _) (by simp [Value.oneCell']) (by unfold maxLen; omega) (by omega) (by simp; omega) ?_; intro v' w3 hown' hgrow _; obtain ⟨g', cap', rfl⟩ := ownsRow_succ hown')
        go_roundw
        case rel =>
          have hR3 := rd_append hR1 (by omega) (by omega) hown1 hgrow
          refine ⟨k + 1, ts ++ [t], strOf r, c, by omega, by go_num, by simp [Hnl.out], ?_, hR3, ?_, ?_, by simpa [strV] using hown', (hB2.alloc hB2.size _).grown hgrow (by simp; omega) (fun j ej => by have := (hown1.lt j ej).1; omega), (rd_lt hR3).2⟩
          · have h1 := (rdT_len Hg.out).2
            rw [bl_length] at h1
            rw [strOf_size]
            exact Nat.le_trans h1 Hcur.out
          · intro hc
            subst hc
            obtain ⟨he, hg⟩ := Fm.rdT_zero Hg.out
            obtain ⟨g1, g2⟩ := Hgl.out he
            refine ⟨g1, ?_⟩
            rw [g2, show M - k = (M - (k + 1)) + 1 by omega, Fm.glueT_step hg, bl_strOf]
          · intro hc
            by_cases he : e = 0
            · subst he
              obtain ⟨g1, g2⟩ := Hgl.out rfl
              subst g1
              rw [show M - k = (M - (k + 1)) + 1 by omega, Fm.glueT_bad (show Wm.getText (bl cur) = (t, r, c) from Hg.out) hc] at g2
              exact Fm.rowOf_e2 (show Wm.getInt (bl s) = ((M : Int), a, 0) from H1.out) (by omega) (by rw [Int.toNat_natCast]; exact g2) (fun hh => hc hh.1)
            · exact Hno.out he
        case measure => simp [intOf]; omega
      · obtain rfl : k = M := by omega
        have hown2 := hown.mono (base' := w.heap.size) (by omega)
        go_wp2_with fail
        refine (left_any _ _ _ _ _ hR).mono ?_
        rintro x W ⟨rfl, n, rfl⟩
        have hown3 : (wr.drewN n).ownsRow w.heap.size 9 1 u8 k (ts.map strV) := hown2
        have hB3 := below_drew hB n
        by_cases he : e = 0
        · subst he
          obtain ⟨g1, g2⟩ := Hgl.out rfl
          subst g1
          rw [Nat.sub_self, Fm.glueT_end] at g2
          by_cases hc : cur.toList = []
          · have hcur : cur = ⟨#[]⟩ := bl_inj (by have h := hc; rw [ByteArray.toList_eq] at h; exact h)
            have Hr : Hid (Fm.rowOf (bl s) = some ts) := Lib.hid (Fm.rowOf_yes (show Wm.getInt (bl s) = ((k : Int), a, 0) from H1.out) (by omega) (show Fm.getTs (k : Int).toNat a = (ts, [], 0) from g2.trans (by rw [hcur]; rfl)))
            clear g2 hc
            subst hcur
            go_wp2
            go_ret2
            rw [Hr.out]; exact ⟨_, rfl, by simpa [Hnl.out] using hown3, hB3⟩
          · have Hr : Hid (Fm.rowOf (bl s) = none) := Lib.hid (Fm.rowOf_e2 (show Wm.getInt (bl s) = ((k : Int), a, 0) from H1.out) (by omega) (show Fm.getTs (k : Int).toNat a = (ts, bl cur, 0) from g2) (fun hh => hc (by rw [ByteArray.toList_eq]; exact hh.2)))
            have hc' : (cur.toList == []) = false := by rw [beq_eq_false_iff_ne]; exact hc
            clear g2
            go_wp2
            go_ret2
            rw [Hr.out]; exact ⟨_, rfl, World.ownsRow_nil _ _ _ _, hB3⟩
        · have Hr := Lib.hid (Hno.out he)
          have he' : (e != 0) = true := by rw [bne_iff_ne]; exact he
          clear he
          go_wp2
          go_ret2
          rw [Hr.out]; exact ⟨_, rfl, World.ownsRow_nil _ _ _ _, hB3⟩

end Go.Proofs.Ytgcpgmclhnddbaa
