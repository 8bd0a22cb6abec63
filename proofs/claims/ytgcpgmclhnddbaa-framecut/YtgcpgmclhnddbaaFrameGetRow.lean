/-
  Layer 3 (frame): what GetRow hands back.
-/
import Derived.Test.YtgcpgmclhnddbaaFrameTexts
namespace Go.Proofs.Ytgcpgmclhnddbaa
open Go.RowKit

/-- Four results, the second a slice of one's own that holds the texts. -/
def GotRow (w : World) (t : Int × List (List UInt8) × List UInt8 × Int) (e : Ending) (w' : World) : Prop :=
  ∃ v, e = .returned (.tuple #[.int .i64 t.1, v, .string (strOf t.2.2.1), .int .i64 t.2.2.2]) ∧ w'.ownsRow w.heap.size 9 1 v t.2.1.length (t.2.1.map strV) ∧ Below w.heap.size w w'

set_option maxRecDepth 10000 in
set_option maxHeartbeats 1000000 in
theorem GetRow_any (s : ByteArray) (w : World) (hs : s.size ≤ big) :
    Calls Try.prog 18 #[.string s] w (GotRow w (Fm.getRow (bl s))) := by
  have hg0 := Get_any s w hs
  clear hs
  rcases Fm.get_cases (bl s) with ⟨k, t, r, h⟩ | ⟨e, he, h⟩
  · rw [h] at hg0
    unfold got4 at hg0
    have Ht : Hid ((strOf t).size ≤ maxLen) := Lib.hid (by have := (Fm.get_ok h).2.1; rw [strOf_size]; unfold maxLen; omega)
    rcases hr : Fm.rowOf t with _ | ts
    · have Hr := Lib.hid (Fm.getRow_no h hr)
      have Hn := Lib.hid hr
      clear h hr
      go_enter Try.func18, Try.ntmps18
      go_wp2_with fail
      refine hg0.mono ?_
      rintro x w1 ⟨rfl, hB1⟩
      have hta := texts_any (strOf t) w1 Ht.out
      rw [bl_strOf, Hn.out] at hta
      go_wp2_with fail
      refine hta.mono ?_
      rintro x w2 ⟨v, rfl, hown, hB2⟩
      go_wp2
      (try simp only [Exit.inBlock, Exit.then]); refine bodyPost_ret (results_tmp4 rfl _ _ _) rfl ?_
      rw [Hr.out]; exact ⟨_, rfl, World.ownsRow_nil _ _ _ _, below2 hB1 hB2⟩
    · have Hr := Lib.hid (Fm.getRow_yes h hr)
      have Hn := Lib.hid hr
      clear h hr
      go_enter Try.func18, Try.ntmps18
      go_wp2_with fail
      refine hg0.mono ?_
      rintro x w1 ⟨rfl, hB1⟩
      have hta := texts_any (strOf t) w1 Ht.out
      rw [bl_strOf, Hn.out] at hta
      go_wp2_with fail
      refine hta.mono ?_
      rintro x w2 ⟨v, rfl, hown, hB2⟩
      have hown2 := hown.mono (base' := w.heap.size) hB1.size
      go_wp2
      (try simp only [Exit.inBlock, Exit.then]); refine bodyPost_ret (results_tmp4 rfl _ _ _) rfl ?_
      rw [Hr.out]; exact ⟨_, rfl, hown2, below2 hB1 hB2⟩
  · rw [h] at hg0
    unfold got4 at hg0
    have Hr := Lib.hid (Fm.getRow_e h he)
    have he' : (e != 0) = true := by rw [bne_iff_ne]; exact he
    clear h he
    go_enter Try.func18, Try.ntmps18
    go_wp2_with fail
    refine hg0.mono ?_
    rintro x w1 ⟨rfl, hB1⟩
    go_wp2
    (try simp only [Exit.inBlock, Exit.then]); refine bodyPost_ret (results_tmp4 rfl _ _ _) rfl ?_
    rw [Hr.out]; exact ⟨_, rfl, World.ownsRow_nil _ _ _ _, hB1⟩

end Go.Proofs.Ytgcpgmclhnddbaa
