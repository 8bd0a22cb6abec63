/-
  Layer 11 (show): Heard, Lines.
-/
import Derived.Test.YtpgichlaghhdeaaGreatDoorXShowW4
import Derived.Test.YtpgichlaghhdeaaGreatDoorXShowW5
import Derived.Laws.Pointers
namespace Go.Proofs.YtpgichlaghhdeaaGreatDoor
set_option maxRecDepth 10000
open Go.RowKit

/-- A cell of another block is written: what is one's own stays. -/
theorem owns_setCell {w : World} {base : Nat} {e : TypeId} {size : Nat} {v : Value} {n : Nat} {xs : List Value} (h : w.ownsRow base e size v n xs) {k : Nat} (hk : k < base) (j : Nat) (u : Value) : (w.setCell ⟨k, j, none⟩ u).ownsRow base e size v n xs := by
  obtain ⟨hl, h0 | ⟨g, cap, cur, hv, hb, hh, r⟩⟩ := h
  · exact ⟨hl, .inl h0⟩
  · exact ⟨hl, .inr ⟨g, cap, cur, hv, hb, by rw [heap_setCell_other w ⟨k, j, none⟩ g u (fun e => by have e' : g = k := e; omega)]; exact hh, r⟩⟩

/-- Of a right board all are right. -/
theorem heard_right {m n : Int} {ls : List Alm} {ws : List Win} (h : Bd.isB m n ls = true) : ∀ a ∈ Sh.heardL ws n ls, Am.right a = true := by
  intro a ha
  unfold Sh.heardL at ha
  have h1 := (List.mem_filter.1 ha).1
  have h2 := (Rk.sort_perm ls).mem_iff.1 h1
  exact ((Bd.rows_iff.1 (Bd.isB_iff.1 h).2.2.2).1 a h2).1

set_option maxHeartbeats 4000000 in
theorem Heard_any (m n : Int) (A : Option Addr) (l c : Nat) (ls : List Alm) (B : Option Addr) (k0 d : Nat) (ws : List Win) (w : World) (h1 : Told w A l c ls) (h2 : ToldW w B k0 d ws) :
    Calls Tryz.prog 13 #[.agg #[.int .i64 m, .int .i64 n, .slice A l c], .slice B k0 d] w (GivesH w (Sh.heard m n ls ws) (Sh.heardE m n ls ws)) := by
  have hmf : ∀ (fn : Fn) (first cap : Array Value) (w : World), (Instr.makeFunc fn first cap).run Tryz.prog w = .ok (.func fn first cap) w := fun _ _ _ _ => rfl
  have S0 := Lib.hid ((((St.start w).more (winF B ws) h2.2.1).more (rowF A ls) h1.2.1).box2 #[.int .i64 m, .int .i64 n, .slice A l c] #[.int .i64 0] 28 31)
  cases hx : (Bd.isB m n ls && Mu.isL ws)
  · have g := fun W (h : AlmsAt W W.heap.size A ls) (h' : WinsAt W W.heap.size B ws) => heard_no m n A l c ls B k0 d ws W ⟨h1.1, h, h1.2.2⟩ ⟨h2.1, h', h2.2.2⟩ hx
    have e2 : Sh.heardE m n ls ws = 1 := by unfold Sh.heardE; rw [hx]; rfl
    have e1 : Sh.heard m n ls ws = [] := by unfold Sh.heard; rw [e2]; rfl
    rw [e1, e2]
    clear e1 e2 hx h1 h2
    go_enter_defers Tryz.func13, Tryz.ntmps13
    go_wp2_with (refine wpList_load_st rfl 28 _ rfl S0.out 1 _ _ rfl rfl _ Tryz.underlying28 rfl (by rfl) ?_)
    refine (g _ (S0.out.fact 0 rfl) (S0.out.fact 1 rfl)).mono ?_
    rintro e w1 ⟨rfl, hB⟩
    have S1 := Lib.hid (S0.out.on hB)
    clear hB g S0
    refine leaves_cons (f := 40) (args := #[.pointer (some ⟨w.heap.size + 1, 0, none⟩)]) (by simp) (by simp [go_sem]) ?_
    refine (Heard1_thr ⟨w.heap.size + 1, 0, none⟩ 0 1 _ (S1.out.cell 0 rfl 0 rfl) (S1.out.free 0 rfl 0)).mono ?_
    rintro e u' w2 ⟨rfl, rfl, rfl⟩
    have hc1 : (w1.setCell ⟨w.heap.size + 1, 0, none⟩ (.int .i64 1)).cell? ⟨w.heap.size + 1, 0, none⟩ = some (.int .i64 1) := World.cell?_setCell_same _ _ _ (S1.out.cell 0 rfl 0 rfl)
    simp [Leaves, settle, results, Tryz.results13, go_sem, hc1]
    exact ⟨none, 0, 0, rfl, rfl, OwnA.nil _ _, below_setCell S1.out.below (Nat.le_succ _) 0 _⟩
  · obtain ⟨e1, e2⟩ : Bd.isB m n ls = true ∧ Mu.isL ws = true := by simpa using hx
    have g := fun W (h : AlmsAt W W.heap.size A ls) (h' : WinsAt W W.heap.size B ws) => heard_ok m n A l c ls B k0 d ws W ⟨h1.1, h, h1.2.2⟩ ⟨h2.1, h', h2.2.2⟩ e1 e2
    have e3 : Sh.heardE m n ls ws = 0 := by unfold Sh.heardE; rw [hx]; rfl
    have e4 : Sh.heard m n ls ws = Sh.heardL ws n ls := by unfold Sh.heard; rw [e3]; rfl
    rw [e3, e4]
    obtain ⟨r, hr⟩ : ∃ r, r = Sh.heardL ws n ls := ⟨_, rfl⟩
    simp only [← hr] at g
    rw [← hr]
    clear e1 e2 e3 e4 hx h1 h2 hr
    go_enter_defers Tryz.func13, Tryz.ntmps13
    go_wp2_with (refine wpList_load_st rfl 28 _ rfl S0.out 1 _ _ rfl rfl _ Tryz.underlying28 rfl (by rfl) ?_)
    refine (g _ (S0.out.fact 0 rfl) (S0.out.fact 1 rfl)).mono ?_
    rintro e w1 ⟨v, rfl, hO, hB⟩
    obtain ⟨A1, c1, rfl, _, _, _⟩ := hO.slice
    obtain ⟨q, hq⟩ : ∃ q, q = r.length := ⟨_, rfl⟩
    rw [← hq] at hO ⊢
    have Hq := Lib.hid hq
    have S1 := Lib.hid (S0.out.on hB)
    have hsz : ((w.alloc (.cells #[.int .i64 m, .int .i64 n, .slice A l c] 28)).alloc (.cells #[.int .i64 0] 31)).heap.size = w.heap.size + 2 := by simp
    have HO := Lib.hid (show OwnA w1 (w.heap.size + 2) (.slice A1 q c1) r from by rw [← hsz]; exact hO)
    clear hB g S0 hO hq hsz
    have c0 := S1.out.cell 0 rfl 0 rfl
    have f0 := S1.out.free 0 rfl 0
    go_wp2
    refine leaves_cons (f := 40) (args := #[.pointer (some ⟨w.heap.size + 1, 0, none⟩)]) (by simp) (by simp [go_sem]) ?_
    have hc1 : (w1.setCell ⟨w.heap.size + 1, 0, none⟩ (.int .i64 0)).cell? ⟨w.heap.size + 1, 0, none⟩ = some (.int .i64 0) := World.cell?_setCell_same _ _ _ c0
    have hf1 : (w1.setCell ⟨w.heap.size + 1, 0, none⟩ (.int .i64 0)).frozen? ⟨w.heap.size + 1, 0, none⟩ = false := (World.frozen?_setCell _ _ _ _).trans f0
    have hB1 := below_setCell S1.out.below (Nat.le_succ _) 0 (.int .i64 0)
    have HO1 : Hid (OwnA (w1.setCell ⟨w.heap.size + 1, 0, none⟩ (.int .i64 0)) (w.heap.size + 2) (.slice A1 q c1) r) := Lib.hid (owns_setCell HO.out (Nat.lt_succ_self _) 0 _)
    obtain ⟨W, hW⟩ : ∃ W, W = w1.setCell ⟨w.heap.size + 1, 0, none⟩ (.int .i64 0) := ⟨_, rfl⟩
    rw [← hW] at hc1 hf1 hB1 HO1 ⊢
    refine (Heard1_idle ⟨w.heap.size + 1, 0, none⟩ 0 W hc1 hf1).mono ?_
    rintro e u' w2 ⟨rfl, rfl, rfl⟩
    have hc2 : (W.setCell ⟨w.heap.size + 1, 0, none⟩ (.int .i64 0)).cell? ⟨w.heap.size + 1, 0, none⟩ = some (.int .i64 0) := World.cell?_setCell_same _ _ _ hc1
    have hO2 : OwnA (W.setCell ⟨w.heap.size + 1, 0, none⟩ (.int .i64 0)) (w.heap.size + 2) (.slice A1 q c1) r := owns_setCell HO1.out (Nat.lt_succ_self _) 0 _
    simp [Leaves, settle, results, Tryz.results13, go_sem, hc2]
    exact ⟨A1, q, c1, Hq.out, rfl, hO2.lower (Nat.le_add_right _ 2), below_setCell hB1 (Nat.le_succ _) 0 _⟩

set_option maxHeartbeats 8000000 in
theorem Lines_any (m n : Int) (A : Option Addr) (l c : Nat) (ls : List Alm) (B : Option Addr) (k0 d : Nat) (ws : List Win) (t : Int) (w : World) (hE : Libs w) (h1 : Told w A l c ls) (h2 : ToldW w B k0 d ws) :
    Calls Tryz.prog 15 #[.agg #[.int .i64 m, .int .i64 n, .slice A l c], .slice B k0 d, .int .i64 t] w (GivesX w (Sh.linesS m n ls ws t) (Sh.linesE m n ls ws t)) := by
  have hmf : ∀ (fn : Fn) (first cap : Array Value) (w : World), (Instr.makeFunc fn first cap).run Tryz.prog w = .ok (.func fn first cap) w := fun _ _ _ _ => rfl
  have S0 := Lib.hid (((((St.start w).more libF hE).more (winF B ws) h2.2.1).more (rowF A ls) h1.2.1).box2 #[.int .i64 m, .int .i64 n, .slice A l c] #[.int .i64 0] 28 31)
  cases hx : (Bd.isB m n ls && Mu.isL ws)
  · have g := fun W (h : AlmsAt W W.heap.size A ls) (h' : WinsAt W W.heap.size B ws) => heard_no m n A l c ls B k0 d ws W ⟨h1.1, h, h1.2.2⟩ ⟨h2.1, h', h2.2.2⟩ hx
    have e0 : Sh.heardE m n ls ws = 1 := by unfold Sh.heardE; rw [hx]; rfl
    have e2 : Sh.linesE m n ls ws t = 1 := by unfold Sh.linesE; rw [e0]; rfl
    have e1 : Sh.linesS m n ls ws t = [] := Sh.linesS_no (by rw [e2]; decide)
    rw [e1, e2]
    clear e0 e1 e2 hx h1 h2 hE
    go_enter_defers Tryz.func15, Tryz.ntmps15
    go_wp2_with (refine wpList_load_st rfl 28 _ rfl S0.out 1 _ _ rfl rfl _ Tryz.underlying28 rfl (by rfl) ?_)
    refine (g _ (S0.out.fact 0 rfl) (S0.out.fact 1 rfl)).mono ?_
    rintro e w1 ⟨rfl, hB⟩
    have S1 := Lib.hid (S0.out.on hB)
    clear hB g S0
    refine leaves_cons (f := 46) (args := #[.pointer (some ⟨w.heap.size + 1, 0, none⟩)]) (by simp) (by simp [go_sem]) ?_
    refine (Lines1_thr ⟨w.heap.size + 1, 0, none⟩ 0 1 _ (S1.out.cell 0 rfl 0 rfl) (S1.out.free 0 rfl 0)).mono ?_
    rintro e u' w2 ⟨rfl, rfl, rfl⟩
    have hc1 : (w1.setCell ⟨w.heap.size + 1, 0, none⟩ (.int .i64 1)).cell? ⟨w.heap.size + 1, 0, none⟩ = some (.int .i64 1) := World.cell?_setCell_same _ _ _ (S1.out.cell 0 rfl 0 rfl)
    simp [Leaves, settle, results, Tryz.results15, go_sem, hc1]
    exact ⟨none, 0, 0, rfl, rfl, fun i hi => absurd hi (Nat.not_lt_zero _), fun _ => rfl, Nat.le_refl _, below_setCell S1.out.below (Nat.le_succ _) 0 _⟩
  · obtain ⟨e1, e2⟩ : Bd.isB m n ls = true ∧ Mu.isL ws = true := by simpa using hx
    have g := fun W (h : AlmsAt W W.heap.size A ls) (h' : WinsAt W W.heap.size B ws) => heard_ok m n A l c ls B k0 d ws W ⟨h1.1, h, h1.2.2⟩ ⟨h2.1, h', h2.2.2⟩ e1 e2
    have e3 : Sh.heardE m n ls ws = 0 := by unfold Sh.heardE; rw [hx]; rfl
    have e4 : Sh.heard m n ls ws = Sh.heardL ws n ls := by unfold Sh.heard; rw [e3]; rfl
    have hr0 := heard_right (ws := ws) e1
    have hlen : (Sh.heardL ws n ls).length ≤ 1000 := by have := Sh.heard_len ws n ls; have := h1.1; have := h1.2.2.2; omega
    have e5 : Sh.linesE m n ls ws t = if t < 1 then 1 else 0 := by unfold Sh.linesE; rw [e3]; rfl
    have e6 : ¬ t < 1 → Sh.linesS m n ls ws t = ((Sh.heardL ws n ls).take t.toNat).map Sh.lineS := fun h => by rw [← e4]; exact Sh.linesS_ok (by rw [e5, if_neg h])
    have e7 : t < 1 → Sh.linesS m n ls ws t = [] := fun h => Sh.linesS_no (by rw [e5, if_pos h]; decide)
    obtain ⟨r, hr⟩ : ∃ r, r = Sh.heardL ws n ls := ⟨_, rfl⟩
    simp only [← hr] at g e6 hr0 hlen
    clear e1 e2 e3 e4 hx h1 h2 hr hE
    by_cases ht : t < 1
    · rw [e7 ht, e5, if_pos ht]
      have gf := fun A1 q c1 W => first_no t A1 q c1 ht W
      clear e5 e6 e7 ht hr0
      go_enter_defers Tryz.func15, Tryz.ntmps15
      go_wp2_with (refine wpList_load_st rfl 28 _ rfl S0.out 1 _ _ rfl rfl _ Tryz.underlying28 rfl (by rfl) ?_)
      refine (g _ (S0.out.fact 0 rfl) (S0.out.fact 1 rfl)).mono ?_
      rintro e w1 ⟨v, rfl, hO, hB⟩
      obtain ⟨A1, c1, rfl, _, _, _⟩ := hO.slice
      have S1 := Lib.hid (S0.out.on hB)
      clear hB g S0 hO
      go_wp2_with fail
      refine (gf _ _ _ _).mono ?_
      rintro e w2 ⟨rfl, rfl⟩
      clear gf
      refine leaves_cons (f := 46) (args := #[.pointer (some ⟨w.heap.size + 1, 0, none⟩)]) (by simp) (by simp [go_sem]) ?_
      refine (Lines1_thr ⟨w.heap.size + 1, 0, none⟩ 0 1 _ (S1.out.cell 0 rfl 0 rfl) (S1.out.free 0 rfl 0)).mono ?_
      rintro e u' w3 ⟨rfl, rfl, rfl⟩
      have hc1 : (w2.setCell ⟨w.heap.size + 1, 0, none⟩ (.int .i64 1)).cell? ⟨w.heap.size + 1, 0, none⟩ = some (.int .i64 1) := World.cell?_setCell_same _ _ _ (S1.out.cell 0 rfl 0 rfl)
      simp [Leaves, settle, results, Tryz.results15, go_sem, hc1]
      exact ⟨none, 0, 0, rfl, rfl, fun i hi => absurd hi (Nat.not_lt_zero _), fun _ => rfl, Nat.le_refl _, below_setCell S1.out.below (Nat.le_succ _) 0 _⟩
    · rw [e6 ht, e5, if_neg ht]
      obtain ⟨xs, hxs⟩ : ∃ xs, xs = (r.take t.toNat).map Sh.lineS := ⟨_, rfl⟩
      rw [← hxs]
      have Hxs := Lib.hid hxs
      have Ht := Lib.hid ht
      have Hr0 := Lib.hid hr0
      have Hlen := Lib.hid hlen
      clear e5 e6 e7 ht hr0 hlen hxs
      go_enter_defers Tryz.func15, Tryz.ntmps15
      go_wp2_with (refine wpList_load_st rfl 28 _ rfl S0.out 1 _ _ rfl rfl _ Tryz.underlying28 rfl (by rfl) ?_)
      refine (g _ (S0.out.fact 0 rfl) (S0.out.fact 1 rfl)).mono ?_
      rintro e w1 ⟨v, rfl, hO, hB⟩
      obtain ⟨A1, c1, rfl, hA1, _, hc⟩ := hO.slice
      obtain ⟨q, hq⟩ : ∃ q : Nat, min t (r.length : Int) = (q : Int) := ⟨(min t (r.length : Int)).toNat, by have := Ht.out; omega⟩
      have gf := fun W => first_ok t A1 r.length c1 q (by have := Ht.out; omega) hq (by omega) W
      have eq : r.take t.toNat = r.take q := by
        by_cases h : t ≤ (r.length : Int)
        · rw [show t.toNat = q by omega]
        · rw [List.take_of_length_le (by omega), List.take_of_length_le (by omega)]
      have gl := fun W h hE => lines_any A1 q c1 (r.take q) W h (by rw [List.length_take]; omega) (by have := Hlen.out; omega) (fun a ha => Hr0.out a (List.mem_of_mem_take ha)) hE
      have ex : (r.take q).map Sh.lineS = xs := by rw [Hxs.out, eq]
      simp only [ex] at gl
      have hAq := hA1.take q
      have S1 := Lib.hid ((S0.out.on hB).more (rowF A1 (r.take q)) hAq)
      clear hB g S0 hO hA1 hc hq eq ex hAq
      go_wp2_with fail
      refine (gf _).mono ?_
      rintro e w2 ⟨rfl, rfl⟩
      clear gf
      go_wp2_with fail
      refine (gl _ (S1.out.fact 0 rfl) (S1.out.fact 3 rfl)).mono ?_
      rintro e w3 ⟨v, rfl, hO, hB⟩
      have hk : w.heap.size + 1 < w2.heap.size := by
        obtain ⟨t8, h8⟩ := S1.out.live _ (List.mem_cons_self ..)
        exact (Array.getElem?_eq_some_iff.1 h8).1
      have Hk := Lib.hid hk
      have HO := Lib.hid hO
      have S2 := Lib.hid (S1.out.on hB)
      clear hB gl S1 hO hk
      have c0 := S2.out.cell 0 rfl 0 rfl
      have f0 := S2.out.free 0 rfl 0
      go_wp2
      refine leaves_cons (f := 46) (args := #[.pointer (some ⟨w.heap.size + 1, 0, none⟩)]) (by simp) (by simp [go_sem]) ?_
      have hc1 : (w3.setCell ⟨w.heap.size + 1, 0, none⟩ (.int .i64 0)).cell? ⟨w.heap.size + 1, 0, none⟩ = some (.int .i64 0) := World.cell?_setCell_same _ _ _ c0
      have hf1 : (w3.setCell ⟨w.heap.size + 1, 0, none⟩ (.int .i64 0)).frozen? ⟨w.heap.size + 1, 0, none⟩ = false := (World.frozen?_setCell _ _ _ _).trans f0
      have hB1 := below_setCell S2.out.below (Nat.le_succ _) 0 (.int .i64 0)
      have HO1 : Hid (OwnX (w3.setCell ⟨w.heap.size + 1, 0, none⟩ (.int .i64 0)) w2.heap.size v xs) := Lib.hid (owns_setCell HO.out Hk.out 0 _)
      obtain ⟨W, hW⟩ : ∃ W, W = w3.setCell ⟨w.heap.size + 1, 0, none⟩ (.int .i64 0) := ⟨_, rfl⟩
      rw [← hW] at hc1 hf1 hB1 HO1 ⊢
      refine (Lines1_idle ⟨w.heap.size + 1, 0, none⟩ 0 W hc1 hf1).mono ?_
      rintro e u' w4 ⟨rfl, rfl, rfl⟩
      have hc2 : (W.setCell ⟨w.heap.size + 1, 0, none⟩ (.int .i64 0)).cell? ⟨w.heap.size + 1, 0, none⟩ = some (.int .i64 0) := World.cell?_setCell_same _ _ _ hc1
      have hO2 : OwnX (W.setCell ⟨w.heap.size + 1, 0, none⟩ (.int .i64 0)) w2.heap.size v xs := owns_setCell HO1.out Hk.out 0 _
      obtain ⟨A3, c3, rfl, hX, hn3, hc3⟩ := hO2.rows
      simp [Leaves, settle, results, Tryz.results15, go_sem, hc2]
      exact ⟨A3, _, c3, rfl, rfl, hX, hn3, hc3, below_setCell hB1 (Nat.le_succ _) 0 _⟩
end Go.Proofs.YtpgichlaghhdeaaGreatDoor
