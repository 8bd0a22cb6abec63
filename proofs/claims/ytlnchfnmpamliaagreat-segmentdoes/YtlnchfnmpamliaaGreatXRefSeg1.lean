/-
  Layer 14 (segment): the reference's Is.
-/
import Derived.Test.YtlnchfnmpamliaaGreatXJb
import Derived.Test.YtlnchfnmpamliaaGreatXRefFile1
namespace Go.Proofs.YtlnchfnmpamliaaGreat
set_option maxRecDepth 10000
open Go.RowKit
theorem isEmpty14 (x : ByteArray) : x.toList.isEmpty = decide (x.size = 0) := by
  have h : x.toList.length = x.size := by rw [ByteArray.toList_eq]; exact bl_length x
  cases hx : x.toList with
  | nil => rw [hx] at h; rw [decide_eq_true (by simpa using h.symm)]; rfl
  | cons a l => rw [hx] at h; rw [decide_eq_false (by simp at h; omega)]; rfl
/-- The newest block is no longer looked at. -/
theorem St.pickL {w0 w : World} {x : Nat × Array Value} {L : List (Nat × Array Value)} {M : List Fact} (h : St w0 w (x :: L) M) : St w0 w L M := ⟨fun y hy => h.live y (List.mem_cons_of_mem _ hy), h.facts, h.below⟩
namespace Sg
theorem okF_at (sz : Int) (fs : List Fil) (j : Nat) (h : j < fs.length) : okF sz (fs.drop j) = ((Fi.is fs[j] && decide (fs[j].most = sz)) && (decide (¬ j + 1 < fs.length) || decide (fs[j].loose.size = 0)) && okF sz (fs.drop (j + 1))) := by
  have hl : (fs.drop (j + 1)).length = fs.length - (j + 1) := List.length_drop
  rw [List.drop_eq_getElem_cons h]
  generalize fs.drop (j + 1) = r at hl ⊢
  cases r with
  | nil =>
    have h1 : ¬ j + 1 < fs.length := by simp at hl; omega
    rw [decide_eq_true h1]; simp [okF]
  | cons g r =>
    have h1 : j + 1 < fs.length := by simp at hl; omega
    rw [decide_eq_false (not_not_intro h1)]; simp [okF]
theorem is_of {sz fi : Int} {fs : List Fil} (h : (20 ≤ sz ∧ sz ≤ 4000) ∧ (0 ≤ fi ∧ fi ≤ 900000000) ∧ 1 ≤ fs.length ∧ fs.length ≤ 20) : is ⟨sz, fi, fs⟩ = okF sz fs := by unfold is; rw [decide_eq_true h]; rfl
theorem is_off {sz fi : Int} {fs : List Fil} (h : ¬ ((20 ≤ sz ∧ sz ≤ 4000) ∧ (0 ≤ fi ∧ fi ≤ 900000000) ∧ 1 ≤ fs.length ∧ fs.length ≤ 20)) : is ⟨sz, fi, fs⟩ = false := by unfold is; rw [decide_eq_false h]; rfl
end Sg

set_option maxHeartbeats 1000000 in
theorem RSIs_off (sz fi : Int) (A : Option Addr) (n c : Nat) (w : World) (h : ¬ ((20 ≤ sz ∧ sz ≤ 4000) ∧ (0 ≤ fi ∧ fi ≤ 900000000) ∧ 1 ≤ n ∧ n ≤ 20)) :
    Calls Tryz.prog 26 #[.agg #[.int .i64 sz, .int .i64 fi, .slice A n c]] w fun e w' => e = .returned (.bool false) ∧ Below w.heap.size w w' := by
  have Hb0 := Lib.hid (below_new w (.cells #[.int .i64 sz, .int .i64 fi, .slice A n c] 24))
  have Hh := Lib.hid h
  clear h
  go_enter Tryz.func26, Tryz.ntmps26
  go_wp2_with fail
  all_goals first
    | (go_ret; exact ⟨rfl, Hb0.out⟩)
    | (exfalso; have := Hh.out; omega)

set_option maxHeartbeats 2000000 in
theorem RSIs_any (sz fi : Int) (A : Option Addr) (n c : Nat) (fs : List Fil) (w : World) (hA : FilsAt w w.heap.size A fs) (hs : Sg.small ⟨sz, fi, fs⟩) (hn : n = fs.length) :
    Calls Tryz.prog 26 #[.agg #[.int .i64 sz, .int .i64 fi, .slice A n c]] w fun e w' => e = .returned (.bool (Sg.is ⟨sz, fi, fs⟩)) ∧ Below w.heap.size w w' := by
  by_cases h : (20 ≤ sz ∧ sz ≤ 4000) ∧ (0 ≤ fi ∧ fi ≤ 900000000) ∧ 1 ≤ fs.length ∧ fs.length ≤ 20
  case neg => rw [Sg.is_off h]; subst hn; exact RSIs_off sz fi A _ c w h
  rw [Sg.is_of h]
  have Hn := Lib.hid hn
  have Hs := Lib.hid hs
  have Hlen : Hid (n ≤ 20) := Lib.hid (by omega)
  have i1 : (sz < 20) = False := eq_false (by omega)
  have i2 : ((4000 : Int) < sz) = False := eq_false (by omega)
  have i3 : (fi < 0) = False := eq_false (by omega)
  have i4 : ((900000000 : Int) < fi) = False := eq_false (by omega)
  have i5 : ((n : Int) < 1) = False := eq_false (by omega)
  have i6 : ((20 : Int) < (n : Int)) = False := eq_false (by omega)
  have S0 := Lib.hid (((St.start w).more (filF14 A w.heap.size fs) ⟨hA, Nat.le_refl _⟩).new #[.int .i64 sz, .int .i64 fi, .slice A n c] 24)
  clear hA hs hn h
  go_enter Tryz.func26, Tryz.ntmps26
  go_wp2_with fail
  clear i1 i2 i3 i4 i5 i6
  obtain ⟨p0, hp0⟩ : ∃ p, p = w.heap.size := ⟨_, rfl⟩
  obtain ⟨w1, hw1⟩ : ∃ x, x = w.alloc (.cells #[.int .i64 sz, .int .i64 fi, .slice A n c] 24) := ⟨_, rfl⟩
  rw [← hw1] at S0 ⊢
  rw [← hp0] at S0 ⊢
  clear hw1 hp0
  go_loopw [3] (fun i wr => ∃ j : Nat, j ≤ n ∧ i = .int .i64 (j : Int) ∧ Hid (Sg.okF sz fs = Sg.okF sz (fs.drop j)) ∧ Hid (St w wr [(p0, #[.int .i64 sz, .int .i64 fi, .slice A n c])] [filF14 A p0 fs])) (fun i _ => n - (intOf i).toNat)
  case atStart => exact ⟨0, Nat.zero_le _, rfl, Lib.hid rfl, S0⟩
  case round =>
    obtain ⟨j, hj, rfl, HL, S1⟩ := hrel
    have c2 := S1.out.cell 0 rfl 2 rfl
    by_cases hlt : j < n
    · have hlt' : j < fs.length := by have := Hn.out; omega
      obtain ⟨b, off, rfl, hb, h3⟩ := (S1.out.fact 0 rfl).1 j hlt'
      obtain ⟨⟨xm, xk, xl⟩, hx⟩ : ∃ x, x = fs[j] := ⟨_, rfl⟩
      have hz : xk.size ≤ 9000 ∧ xl.size ≤ 9000 := by have h := Hs.out.2 fs[j] (List.getElem_mem hlt'); rw [← hx] at h; exact h
      have Hok : Hid (Sg.okF sz fs = ((Fi.is ⟨xm, xk, xl⟩ && decide (xm = sz)) && (decide (¬ j + 1 < n) || decide (xl.size = 0)) && Sg.okF sz (fs.drop (j + 1)))) := Lib.hid (by
        rw [HL.out, Sg.okF_at sz fs j hlt', ← hx, Hn.out])
      rw [← hx] at h3
      have e0 := h3.c0
      have e1 := h3.c1
      have e2 := h3.c2
      simp only at e0 e1 e2
      have iw : wrap64 ((j : Int) + 1) = (j : Int) + 1 := by have := Hlen.out; unfold wrap64; omega
      have p1 := fun W => FRIs_any xm xk xl hz W
      clear h3 hb hx HL hz
      go_wp2_with fail
      have S2 := Lib.hid (S1.out.new #[.int .i64 xm, .string xk, .string xl] 47)
      obtain ⟨q0, hq0⟩ : ∃ q, q = wr.heap.size := ⟨_, rfl⟩
      obtain ⟨w2, hw2⟩ : ∃ x, x = wr.alloc (.cells #[.int .i64 xm, .string xk, .string xl] 47) := ⟨_, rfl⟩
      rw [← hw2] at S2 ⊢
      rw [← hq0] at S2 ⊢
      clear hw2 hq0 S1
      refine (p1 _).mono ?_
      rintro e w3 ⟨rfl, hB⟩
      have S3 := Lib.hid (S2.out.on hB)
      have d0 := S3.out.cell 0 rfl 0 rfl
      have d2 := S3.out.cell 0 rfl 2 rfl
      have g0 := S3.out.cell 1 rfl 0 rfl
      have g2 := S3.out.cell 1 rfl 2 rfl
      clear S2 hB p1
      cases hi : Fi.is ⟨xm, xk, xl⟩
      · have Hr : Hid (Sg.okF sz fs = false) := Lib.hid (by rw [Hok.out, hi]; rfl)
        clear Hok hi
        go_wp2
        go_ret
        exact ⟨retb Hr.out.symm, S3.out.below⟩
      by_cases hm : xm = sz
      case neg =>
        have Hr : Hid (Sg.okF sz fs = false) := Lib.hid (by rw [Hok.out, decide_eq_false hm]; simp)
        have j1 : (xm != sz) = true := by rw [bne_iff_ne]; exact hm
        clear Hok hi hm
        go_wp2
        go_ret
        exact ⟨retb Hr.out.symm, S3.out.below⟩
      have j1 : (xm != sz) = false := by rw [hm]; simp
      have Hm := Lib.hid hm
      have Hi := Lib.hid hi
      clear hm hi
      have HS4 := Lib.hid (St.pickL S3.out)
      have HV : Hid (Value.int .i64 ((j : Int) + 1) = Value.int .i64 ((j + 1 : Nat) : Int)) := Lib.hid (by rw [Int.natCast_succ])
      have HM : Hid (n - (intOf (Value.int .i64 ((j : Int) + 1))).toNat < n - (intOf (Value.int .i64 (j : Int))).toNat) := Lib.hid (by simp only [intOf]; omega)
      have hj1 : j + 1 ≤ n := hlt
      have tail1 : ¬ (j + 1 < n ∧ ¬ xl.size = 0) → Hid (Sg.okF sz fs = Sg.okF sz (fs.drop (j + 1))) := fun hh => Lib.hid (by
        rw [Hok.out, Hi.out, decide_eq_true Hm.out]
        by_cases h1 : j + 1 < n
        · rw [decide_eq_true (show xl.size = 0 by omega)]; simp
        · rw [decide_eq_true h1]; simp)
      by_cases hn1 : j + 1 < n
      · have j2 : ((j : Int) + 1 < (n : Int)) = True := eq_true (by omega)
        by_cases hl0 : xl.size = 0
        · have HL2 := tail1 (fun h => h.2 hl0)
          have j3 : (!xl.toList.isEmpty) = false := by rw [isEmpty14, decide_eq_true hl0]; rfl
          clear hl0 tail1 Hok Hi
          go_wp2
          go_roundw
          case rel => exact ⟨j + 1, hj1, by rw [iw]; exact HV.out, HL2, HS4⟩
          case measure => rw [iw]; exact HM.out
        · have Hr : Hid (Sg.okF sz fs = false) := Lib.hid (by rw [Hok.out, decide_eq_false hl0, decide_eq_false (not_not_intro hn1)]; simp)
          have j3 : (!xl.toList.isEmpty) = true := by rw [isEmpty14, decide_eq_false hl0]; rfl
          clear tail1 Hok Hi hl0
          go_wp2
          go_ret
          exact ⟨retb Hr.out.symm, S3.out.below⟩
      · have HL2 := tail1 (fun h => hn1 h.1)
        have j2 : ((j : Int) + 1 < (n : Int)) = False := eq_false (by omega)
        clear tail1 Hok Hi
        go_wp2
        go_roundw
        case rel => exact ⟨j + 1, hj1, by rw [iw]; exact HV.out, HL2, HS4⟩
        case measure => rw [iw]; exact HM.out
    · have Hr : Hid (Sg.okF sz fs = true) := Lib.hid (by
        rw [HL.out, List.drop_eq_nil_of_le (by have := Hn.out; omega)]; rfl)
      go_wp2
      go_ret
      exact ⟨retb Hr.out.symm, S1.out.below⟩
end Go.Proofs.YtlnchfnmpamliaaGreat
