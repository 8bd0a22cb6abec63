/-
  Layer 7 (rank): Compare, Sort, Merge.
-/
import Derived.Test.YtpgichlaghhdeaaGreatDoorXJl
import Derived.Test.YtpgichlaghhdeaaGreatDoorXRankW5
namespace Go.Proofs.YtpgichlaghhdeaaGreatDoor
set_option maxRecDepth 10000
open Go.RowKit

theorem kk_compare (b c ph pr si un b' c' ph' pr' si' un' : Int) (w : World) :
    Calls Tryz.prog 24 #[.agg #[.int .i64 b, .int .i64 c, .int .i64 ph, .int .i64 pr, .int .i64 si, .int .i64 un], .agg #[.int .i64 b', .int .i64 c', .int .i64 ph', .int .i64 pr', .int .i64 si', .int .i64 un']] w fun e w' => e = .returned (.int .i64 (Rk.cmp ⟨b, c, ph, pr, si, un⟩ ⟨b', c', ph', pr', si', un'⟩)) ∧ Below w.heap.size w w' := by
  have g1 := fun W => kcompare_any b c ph pr si un b' c' ph' pr' si' un' W
  obtain ⟨z, hz⟩ : ∃ z, z = Rk.cmp ⟨b, c, ph, pr, si, un⟩ ⟨b', c', ph', pr', si', un'⟩ := ⟨_, rfl⟩
  rw [← hz] at g1 ⊢
  clear hz
  go_enter Tryz.func24, Tryz.ntmps24
  go_wp2_with fail
  refine (g1 _).mono ?_
  rintro e w1 ⟨rfl, hB⟩
  replace hB := hB.below
  go_wp2
  go_ret
  exact ⟨rfl, below2 (below_new2 _ _ _) hB⟩

/-- One row, as order is told it. -/
theorem rows_one (w : World) (A : Option Addr) (n cap : Nat) (ls : List Alm) (t : TypeId) (hn : n = ls.length) (hA : AlmsAt w w.heap.size A ls) :
    RowsIn (w.alloc (.cells #[.slice A n cap] t)) (w.alloc (.cells #[.slice A n cap] t)).heap.size (some ⟨w.heap.size, 0, none⟩) [(A, cap, ls)] := fun i hi => by
  obtain rfl : i = 0 := by simpa using hi
  subst hn
  have hb := World.alloc_heap_new w (.cells #[.slice A ls.length cap] t)
  refine ⟨w.heap.size, 0, rfl, by simp, ?_, hA.on (below_new w _)⟩
  simp only [World.cell?, hb]
  rfl
/-- Two rows. -/
theorem rows_two (w : World) (A B : Option Addr) (m n ca cb : Nat) (ls ms : List Alm) (t : TypeId) (hm : m = ls.length) (hn : n = ms.length) (hA : AlmsAt w w.heap.size A ls) (hB : AlmsAt w w.heap.size B ms) :
    RowsIn (w.alloc (.cells #[.slice A m ca, .slice B n cb] t)) (w.alloc (.cells #[.slice A m ca, .slice B n cb] t)).heap.size (some ⟨w.heap.size, 0, none⟩) [(A, ca, ls), (B, cb, ms)] := fun i hi => by
  subst hm hn
  have hb := World.alloc_heap_new w (.cells #[.slice A ls.length ca, .slice B ms.length cb] t)
  have hi' : i = 0 ∨ i = 1 := by simp at hi; omega
  rcases hi' with rfl | rfl
  · refine ⟨w.heap.size, 0, rfl, by simp, ?_, hA.on (below_new w _)⟩
    simp only [World.cell?, hb]
    rfl
  · refine ⟨w.heap.size, 0, rfl, by simp, ?_, hB.on (below_new w _)⟩
    simp only [World.cell?, hb]
    rfl
theorem catR_one (A : Option Addr) (cap : Nat) (ls : List Alm) : catR [(A, cap, ls)] = ls := by simp [catR]
theorem catR_two (A B : Option Addr) (ca cb : Nat) (ls ms : List Alm) : catR [(A, ca, ls), (B, cb, ms)] = ls ++ ms := by simp [catR]

/-- order of one row. -/
theorem korder_one (A : Option Addr) (n cap : Nat) (ls : List Alm) (w : World) (hn : n = ls.length) (hA : AlmsAt w w.heap.size A ls) (hl : ls.length ≤ 1000) :
    Calls Tryz.prog 99 #[.slice (some ⟨w.heap.size, 0, none⟩) 1 1] (w.alloc (.cells #[.slice A n cap] 26)) fun e w' => ∃ A1 cap1, e = .returned (.slice A1 n cap1) ∧ AlmsAt w' w'.heap.size A1 (Rk.sort ls) ∧ (A1 = none → cap1 = 0) ∧ n ≤ cap1 ∧ Below w.heap.size w w' := by
  have h := korder_any (some ⟨w.heap.size, 0, none⟩) 1 1 [(A, cap, ls)] _ rfl (rows_one w A n cap ls 26 hn hA) (by rw [catR_one]; exact hl) (by omega)
  rw [catR_one] at h
  refine h.mono ?_
  rintro e w' ⟨A1, cap1, rfl, h1, h2, h3, h4⟩
  exact ⟨A1, cap1, by rw [hn], h1, h2, by rw [hn]; exact h3, below2 (below_new w _) h4⟩
theorem korder_two (A B : Option Addr) (m n ca cb : Nat) (ls ms : List Alm) (w : World) (hm : m = ls.length) (hn : n = ms.length) (hA : AlmsAt w w.heap.size A ls) (hB : AlmsAt w w.heap.size B ms) (hl : ls.length + ms.length ≤ 1000) :
    Calls Tryz.prog 99 #[.slice (some ⟨w.heap.size, 0, none⟩) 2 2] (w.alloc (.cells #[.slice A m ca, .slice B n cb] 26)) fun e w' => ∃ A1 cap1, e = .returned (.slice A1 (m + n) cap1) ∧ AlmsAt w' w'.heap.size A1 (Rk.sort (ls ++ ms)) ∧ (A1 = none → cap1 = 0) ∧ m + n ≤ cap1 ∧ Below w.heap.size w w' := by
  have h := korder_any (some ⟨w.heap.size, 0, none⟩) 2 2 [(A, ca, ls), (B, cb, ms)] _ rfl (rows_two w A B m n ca cb ls ms 26 hm hn hA hB) (by rw [catR_two, List.length_append]; exact hl) (by omega)
  rw [catR_two] at h
  refine h.mono ?_
  rintro e w' ⟨A1, cap1, rfl, h1, h2, h3, h4⟩
  rw [List.length_append, ← hm, ← hn] at *
  exact ⟨A1, cap1, rfl, h1, h2, h3, below2 (below_new w _) h4⟩

theorem kk_sort (A : Option Addr) (n cap : Nat) (ls : List Alm) (w : World) (hn : n = ls.length) (hA : AlmsAt w w.heap.size A ls) (_hnil : A = none → cap = 0) (hl : ls.length ≤ 1000) :
    Calls Tryz.prog 68 #[.slice A n cap] w (OwnedA w (Rk.sort ls)) := by
  have g := korder_one A n cap ls w hn hA hl
  have Lo : Hid (n = (Rk.sort ls).length) := Lib.hid (by rw [Rk.sort_len]; exact hn)
  have Hl : Hid (n ≤ 1000) := Lib.hid (by omega)
  obtain ⟨o, ho⟩ : ∃ o, o = Rk.sort ls := ⟨_, rfl⟩
  rw [← ho] at g Lo ⊢
  clear hn hA hl ho
  go_enter Tryz.func68, Tryz.ntmps68
  go_wp2_with fail
  refine g.mono ?_
  rintro e w1 ⟨A1, cap1, rfl, hA1, _, _, hB⟩
  have g2 := kalarms_any A1 n cap1 o w1 Lo.out hA1 Hl.out
  have HB := Lib.hid hB
  clear g hA1 hB
  go_wp2_with fail
  refine g2.mono ?_
  rintro e w2 ⟨v, rfl, h1, h2⟩
  have H1 := Lib.hid (h1.lower HB.out.size)
  have H2 := Lib.hid (below2 HB.out h2)
  clear g2 h1 h2
  go_wp2
  go_ret
  exact ⟨_, rfl, H1.out, H2.out⟩

end Go.Proofs.YtpgichlaghhdeaaGreatDoor
