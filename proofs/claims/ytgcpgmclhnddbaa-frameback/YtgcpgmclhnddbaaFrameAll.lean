/-
  Layer 3 (frame): what All hands back.
-/
import Derived.Test.YtgcpgmclhnddbaaFrameGet
namespace Go.Proofs.Ytgcpgmclhnddbaa
open Go.RowKit

/-- A text, as a cell holds it. -/
def strV (l : List UInt8) : Value := .string (strOf l)
theorem Try.infoS : (Try.prog.info? 9).map (fun i => (i.zero, i.size, i.bytes)) = some (some (.string ⟨#[]⟩), 1, 16) := by kernel_rfl

/-- Three results, the first a slice of one's own that holds the texts. -/
def GotAll (w : World) (t : List (List UInt8) × Nat × Int) (e : Ending) (w' : World) : Prop :=
  ∃ v, e = .returned (.tuple #[v, .int .i64 (t.2.1 : Int), .int .i64 t.2.2]) ∧ w'.ownsRow w.heap.size 9 1 v t.1.length (t.1.map strV) ∧ Below w.heap.size w w'

/-- What holds ahead of each round of All: ts was told, of n bytes. -/
def AllRel (w : World) (s : ByteArray) (v i : Value) (wr : World) : Prop :=
  ∃ (n : Nat) (ts : List (List UInt8)), n ≤ s.size ∧ i = .int .i64 (n : Int) ∧ ts.length ≤ n ∧ Fm.all (bl s) = Fm.allGlue ts n (Fm.all ((bl s).drop n)) ∧
    wr.ownsRow w.heap.size 9 1 v ts.length (ts.map strV) ∧ Below w.heap.size w wr

theorem wrap_big {m : Nat} (h : m ≤ big) : wrap64 (m : Int) = (m : Int) := by unfold big at h; unfold wrap64; omega

theorem all_next {l t r : List UInt8} {n : Nat} {k : Int} (hn : n ≤ l.length) (h : Fm.get (l.drop n) = (k, t, r, 0)) :
    n < l.length - r.length ∧ r.length ≤ l.length ∧ l.drop (l.length - r.length) = r ∧ n + ((l.drop n).length - r.length) = l.length - r.length := by
  have h1 := Fm.get_less h
  have h2 := (Fm.get_ok h).2.2
  rw [List.length_drop] at h1
  refine ⟨by omega, by omega, ?_, by rw [List.length_drop]; omega⟩
  have h3 : l.length - r.length = n + (Fm.frame k t).length := by
    have := congrArg List.length h2
    rw [List.length_drop, List.length_append] at this
    omega
  rw [h3, ← List.drop_drop, h2, List.drop_left]

set_option maxRecDepth 10000 in
set_option maxHeartbeats 1000000 in
theorem All_any (s : ByteArray) (w : World) (hs : s.size ≤ big) :
    Calls Try.prog 20 #[.string s] w (GotAll w (Fm.all (bl s))) := by
  have Hs := Lib.hid hs
  clear hs
  obtain ⟨i0, hi, hz0, hz1, hz2⟩ := info_parts Try.infoS
  go_enter Try.func20, Try.ntmps20
  go_wp2_with fail
  go_loopw [5, 6] (fun v i wr => AllRel w s v i wr) (fun _ i _ => s.size - (intOf i).toNat)
  case atStart => exact ⟨0, [], Nat.zero_le _, rfl, Nat.zero_le _, by rw [List.drop_zero, Fm.allGlue_zero], World.ownsRow_nil _ _ _ _, Below.refl _ _⟩
  case round =>
    obtain ⟨n, ts, hn, rfl, hts, hgl, hown, hB⟩ := hrel
    have Hgl := Lib.hid hgl
    have Hts := Lib.hid hts
    clear hgl hts
    by_cases hlt : n < s.size
    · have hx : bl (s.extract n s.size) = (bl s).drop n := bl_extract_from s n
      have Hb : Hid ((s.extract n s.size).size ≤ big) := Lib.hid (Nat.le_trans (by rw [← bl_length, hx, List.length_drop, bl_length]; omega) Hs.out)
      obtain ⟨k, t, r, e, hg⟩ : ∃ k t r e, Fm.get ((bl s).drop n) = (k, t, r, e) := ⟨_, _, _, _, rfl⟩
      have hg0 := Get_any (s.extract n s.size) wr Hb.out
      rw [hx, hg] at hg0
      have Hg := Lib.hid hg
      clear hg hx
      by_cases he : e = 0
      · subst he
        obtain ⟨q1, q2, q3, q4⟩ := all_next (l := bl s) (by rw [bl_length]; omega) Hg.out
        rw [bl_length] at q1 q2
        obtain ⟨m, hm⟩ : ∃ m, m = s.size - r.length := ⟨_, rfl⟩
        have Hm : Hid (n < m ∧ m ≤ s.size ∧ (bl s).drop m = r ∧ n + (((bl s).drop n).length - r.length) = m) := Lib.hid ⟨hm ▸ q1, hm ▸ Nat.sub_le _ _, by rw [hm]; exact q3, by rw [hm]; exact q4⟩
        have hm1 : (s.size : Int) - ((strOf r).size : Int) = (m : Int) := by rw [strOf_size, hm]; clear hm q3 q4 Hm; omega
        have hm2 : wrap64 (m : Int) = (m : Int) := wrap_big (Nat.le_trans Hm.out.2.1 Hs.out)
        clear hm q1 q2 q3 q4
        go_wp2_with fail
        refine hg0.mono ?_
        rintro x w1 ⟨rfl, hB1⟩
        have hown1 := owns_below hown hB1
        have hB2 : Below w.heap.size w w1 := hB.trans (hB1.mono hB.size)
        clear hg0
        unfold got4
        go_wp2_with (at_builtin; refine wpList_append_own _ rfl _ _ 22 rfl w.heap.size 9 i0 (.string ⟨#[]⟩) 1 16 Try.underlying22 hi hz0 hz1 hz2 rfl (by decide) _ _ _ rfl (hown1.alloc _) ⟨w1.heap.size, 0, none⟩ 1 1 [.string (strOf t)] rfl rfl (cell_one_new _ _ _) (by simp [Value.oneCell']) (by have h1 := Hs.out; have h2 := Hts.out; unfold big at h1; unfold maxLen; omega) (by have h1 := Hs.out; have h2 := Hts.out; unfold big at h1; omega) (by have := hB2.size; simp; omega) ?_; intro v' w2 hown' hgrow _; obtain ⟨g', cap', rfl⟩ := ownsRow_succ hown')
        go_roundw
        case rel =>
          obtain ⟨m1, m2, m3, m4⟩ := Hm.out
          refine ⟨m, ts ++ [t], m2, by rw [hm2], by have := Hts.out; simp; omega, ?_, by simpa [strV] using hown', gets_below hB2 hown1 hgrow⟩
          rw [Hgl.out, Fm.allGlue_step Hg.out, m4, m3]
        case measure =>
          have h1 := Hm.out.1
          have h2 := Hm.out.2.1
          rw [hm2]
          clear hm1 hm2
          simp [intOf]; omega
      · have he' : (e != 0) = true := by rw [bne_iff_ne]; exact he
        have Hr : Hid (Fm.all (bl s) = (ts, n, e)) := Lib.hid (by
          rw [Hgl.out]
          rcases Fm.get_cases ((bl s).drop n) with ⟨k', t', r', h'⟩ | ⟨e', he', h'⟩
          · rw [Hg.out] at h'; simp only [Prod.mk.injEq] at h'; exact absurd h'.2.2.2 he
          · have h2 := h'
            rw [Hg.out] at h2
            simp only [Prod.mk.injEq] at h2
            rw [h2.2.2.2]
            exact Fm.allGlue_bad (by intro hh; have := congrArg List.length hh; rw [List.length_drop, bl_length] at this; simp at this; omega) h' he')
        clear he
        go_wp2_with fail
        refine hg0.mono ?_
        rintro x w1 ⟨rfl, hB1⟩
        have hown1 := owns_below hown hB1
        unfold got4
        go_wp2
        go_ret3
        rw [Hr.out]; exact ⟨_, rfl, hown1, hB.trans (hB1.mono hB.size)⟩
    · obtain rfl : n = s.size := by omega
      have Hr : Hid (Fm.all (bl s) = (ts, s.size, 0)) := Lib.hid (by
        rw [Hgl.out, List.drop_eq_nil_of_le (by rw [bl_length]; exact Nat.le_refl _), Fm.allGlue_end])
      go_wp2
      go_ret3
      rw [Hr.out]; exact ⟨_, rfl, hown, hB⟩

end Go.Proofs.Ytgcpgmclhnddbaa
