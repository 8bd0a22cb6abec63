/-
  Layer 8 (board): the walks of find, without, passed.
-/
import Derived.Test.YthlojadkgpmnmaaBoardW1
import Derived.Test.YthlojadkgpmnmaaRefBoard2
import Derived.Test.YthlojadkgpmnmaaAlarmPs
namespace Go.Proofs.Ythlojadkgpmnmaa
open Go.RowKit

/-- Alarms of one's own, with those of whatever slice behind them; the slices may have another type. -/
theorem wpList_append_almsT {ops : Array Oper} {rest : List Oper} {o : Oper} {a : Act} {w : World} {Q : Exit → Act → World → Prop} (hgd : o.guard = none) (s x : Operand) (t1 : TypeId)
    (ho : o.op = .call { callee := .builtin .append, args := #[s, x], argTypes := #[t1, t1] }) (hu : Try.prog.underlying t1 = some (.slice 28))
    (base : Nat) (v : Value) (zs ms : List Alm) (hs : a.eval s = v) (hown : OwnA w base v zs)
    (A : Option Addr) (n cap : Nat) (hx : a.eval x = .slice A n cap) (hn : n = ms.length) (hA : AlmsAt w w.heap.size A ms) (hnil : A ≠ none) (hb : base ≤ w.heap.size) (hl : zs.length + ms.length ≤ 100000)
    (h : ∀ v' w', OwnA w' base v' (zs ++ ms) → w.grownBy w' v.ownBlock → wpList Try.prog ops Q rest (a.put o.dst v') w') : wpList Try.prog ops Q (o :: rest) a w := by
  obtain ⟨i0, hi, hz0, hz1, hz2⟩ := info_parts Try.infoAl
  subst hn
  cases A with
  | none => exact absurd rfl hnil
  | some ad =>
    refine wpList_append_own _ hgd s x t1 ho base 28 i0 _ 6 48 hu hi hz0 hz1 hz2 rfl (by decide) v _ _ hs hown ad ms.length cap (flat6 ms) hx (flat6_len ms) hA.flat_cells (flat6_one ms) (by unfold maxLen; omega) (by omega) hb ?_
    intro v' w' ho' hg _
    exact h v' w' (by unfold OwnA; rw [List.length_append, flat6_app]; exact ho') hg
/-- An alarm in a new block behind another one. -/
theorem AlmsAt.one9 (w : World) (o : Obj) (x0 x1 x2 x3 x4 x5 : Int) (t : TypeId) : AlmsAt ((w.alloc o).alloc (.cells #[.int .i64 x0, .int .i64 x1, .int .i64 x2, .int .i64 x3, .int .i64 x4, .int .i64 x5] t)) ((w.alloc o).alloc (.cells #[.int .i64 x0, .int .i64 x1, .int .i64 x2, .int .i64 x3, .int .i64 x4, .int .i64 x5] t)).heap.size (some ⟨w.heap.size + 1, 0, none⟩) [⟨x0, x1, x2, x3, x4, x5⟩] := by
  have k := AlmsAt.one8 (w.alloc o) x0 x1 x2 x3 x4 x5 t
  rw [show (w.alloc o).heap.size = w.heap.size + 1 by simp] at k
  exact k
theorem Bd.drop_take {b c : Int} {ls : List Alm} {k : Nat} (h : k < ls.length) : Bd.dropL b c (ls.take (k + 1)) = Bd.dropL b c (ls.take k) ++ (if Bd.atS b c ls[k] then [] else [ls[k]]) := by
  unfold Bd.dropL
  rw [List.take_add_one, List.filter_append, List.getElem?_eq_getElem h]
  congr 1
  cases hz : Bd.atS b c ls[k] <;> simp [hz]
theorem Bd.pass_take {t : Int} {ls : List Alm} {k : Nat} (h : k < ls.length) : Bd.passL t (ls.take (k + 1)) = Bd.passL t (ls.take k) ++ [Am.pass ls[k] t] := by
  unfold Bd.passL
  rw [List.take_add_one, List.map_append, List.getElem?_eq_getElem h]
  rfl

set_option maxRecDepth 10000 in
set_option maxHeartbeats 2000000 in
theorem find_any (A : Option Addr) (l c : Nat) (ls : List Alm) (b ch : Int) (w : World) (h : Told w A l c ls) :
    Calls Try.prog 39 #[.slice A l c, .agg #[.int .i64 b, .int .i64 ch]] w fun e w' => e = .returned (.tuple #[.agg (sixV (Bd.getA b ch ls).1), .bool (Bd.getA b ch ls).2]) ∧ Below w.heap.size w w' := by
  obtain ⟨hl, hA, _, hf⟩ := h
  have HU := Lib.hid (((St.start w).more (rowF A ls) hA).new #[.int .i64 b, .int .i64 ch] 26)
  obtain ⟨r, hr⟩ : ∃ r, r = Bd.getA b ch ls := ⟨_, rfl⟩
  have Hr := Lib.hid hr
  rw [← hr]
  have Hl := Lib.hid hl
  have Hf := Lib.hid hf
  clear hl hA hf hr
  go_enter Try.func39, Try.ntmps39
  go_wp2_with fail
  obtain ⟨u, hu⟩ : ∃ W, W = w.alloc (.cells #[.int .i64 b, .int .i64 ch] 26) := ⟨_, rfl⟩
  have hus : u.heap.size = w.heap.size + 1 := by rw [hu]; simp
  rw [← hu] at HU ⊢
  have HS : Hid (St w (u.alloc (.cells #[.int .i64 0, .int .i64 0, .int .i64 0, .int .i64 0, .int .i64 0, .int .i64 0] 28)) ((w.heap.size + 1, #[.int .i64 0, .int .i64 0, .int .i64 0, .int .i64 0, .int .i64 0, .int .i64 0]) :: [(w.heap.size, #[.int .i64 b, .int .i64 ch])]) [rowF A ls]) := Lib.hid (by rw [← hus]; exact HU.out.new _ _)
  have HBu := Lib.hid (below_new u (.cells #[.int .i64 0, .int .i64 0, .int .i64 0, .int .i64 0, .int .i64 0, .int .i64 0] 28))
  have Hus := Lib.hid hus
  obtain ⟨w1, hw1⟩ : ∃ W, W = u.alloc (.cells #[.int .i64 0, .int .i64 0, .int .i64 0, .int .i64 0, .int .i64 0, .int .i64 0] 28) := ⟨_, rfl⟩
  rw [← hw1] at HS HBu ⊢
  clear hu hus hw1
  obtain ⟨p2, hp2⟩ : ∃ p, p = w.heap.size + 1 := ⟨_, rfl⟩
  rw [← hp2] at HS Hus ⊢
  obtain ⟨p1, hp1⟩ : ∃ p, p = w.heap.size := ⟨_, rfl⟩
  rw [← hp1] at HS HU ⊢
  clear hp1 hp2
  go_wp2_with fail
  go_loopw [10] (fun i wr => ∃ k : Nat, i = .int .i64 (k : Int) ∧ Hid (Below w1.heap.size w1 wr) ∧ Hid (Bd.getA b ch (ls.drop k) = r)) (fun i _ => l - (intOf i).toNat)
  case atStart => exact ⟨0, rfl, Lib.hid (Below.refl _ _), Lib.hid (by rw [Hr.out]; rfl)⟩
  case round =>
    obtain ⟨k, rfl, HB, Hg⟩ := hrel
    have HSq := Lib.hid (HS.out.on HB.out)
    have HBq := Lib.hid (below2 HBu.out HB.out)
    by_cases hlt : k < l
    · have kl : k < ls.length := by rw [← Hl.out]; exact hlt
      have HA : Hid (AlmsAt wr wr.heap.size A ls) := Lib.hid (HSq.out.fact 0 rfl)
      obtain ⟨b0, o0, rfl, hb0, h6⟩ := HA.out k kl
      have Hs := Lib.hid (Bd.get_drop (b := b) (c := ch) kl)
      obtain ⟨x, hx⟩ : ∃ x, x = ls[k] := ⟨_, rfl⟩
      rw [← hx] at h6 Hs
      clear hx
      obtain ⟨x0, x1, x2, x3, x4, x5⟩ := x
      have d0 := h6.c0
      have d1 := h6.c1
      have d2 := h6.c2
      have d3 := h6.c3
      have d4 := h6.c4
      have d5 := h6.c5
      simp only at d0 d1 d2 d3 d4 d5
      have i1 : (k : Int) < (l : Int) := by omega
      have i3 : (0 : Int) ≤ (k : Int) := by omega
      have Ik : Hid (wrap64 ((k : Int) + 1) = (k : Int) + 1) := Lib.hid (by have := Hf.out; unfold wrap64; omega)
      have Hk := Lib.hid hlt
      obtain ⟨z, hz⟩ : ∃ z, z = decide (x0 = b ∧ x1 = ch) := ⟨_, rfl⟩
      have hq := fun W => run_eql_sp x0 x1 b ch z hz W
      have Ha : Hid (Bd.atS b ch ⟨x0, x1, x2, x3, x4, x5⟩ = z) := Lib.hid (by rw [hz]; unfold Bd.atS; by_cases h1 : x0 = b <;> by_cases h2 : x1 = ch <;> simp [h1, h2])
      have HBn := Lib.hid (below_new wr (.cells #[.int .i64 x0, .int .i64 x1, .int .i64 x2, .int .i64 x3, .int .i64 x4, .int .i64 x5] 28))
      have HSn := Lib.hid (HSq.out.on HBn.out)
      have HBm := Lib.hid (below2 HBq.out HBn.out)
      have HBl := Lib.hid (below2 HB.out HBn.out)
      clear h6 kl hlt hz hb0
      cases z
      · have He : Hid (Bd.getA b ch (ls.drop (k + 1)) = r) := Lib.hid (by rw [← Hg.out, Hs.out, Ha.out]; rfl)
        clear Hs Hg Ha HSq HBq
        go_wp2_with (refine wpList_load_st rfl 26 _ rfl HSn.out 1 _ _ rfl rfl _ Try.underlying26 rfl (by rfl) ?_)
        go_roundw
        case rel => exact ⟨k + 1, by first | rfl | (rw [Ik.out]; rfl), HBl, He⟩
        case measure => have := Hk.out; (try rw [Ik.out]); simp [intOf]; omega
      · have He : Hid (r = (⟨x0, x1, x2, x3, x4, x5⟩, true)) := Lib.hid (by rw [← Hg.out, Hs.out, Ha.out]; rfl)
        clear Hs Hg Ha HSq HBq
        go_wp2_with (first
          | (refine wpList_load_st rfl 26 _ rfl HSn.out 1 _ _ rfl rfl _ Try.underlying26 rfl (by rfl) ?_)
          | (refine wpList_reset_st rfl 28 _ _ rfl HU.out HSn.out HBm.out (by rw [Hus.out]; exact Nat.le_refl _) #[.int .i64 x0, .int .i64 x1, .int .i64 x2, .int .i64 x3, .int .i64 x4, .int .i64 x5] rfl rfl (by rfl) rfl (six_one ⟨x0, x1, x2, x3, x4, x5⟩) ?_; intro w9 hS9; have HS9 := Lib.hid hS9; clear hS9))
        (try simp only [Exit.inBlock, Exit.then]); refine bodyPost_ret (ret_alarm8 rfl rfl HS9.out 0 rfl rfl) rfl ?_
        exact ⟨by rw [He.out]; rfl, HS9.out.below⟩
    · have ik : ((k : Int) < (l : Int)) = False := eq_false (by omega)
      have He : Hid (r = (Am.zero, false)) := Lib.hid (by rw [← Hg.out, List.drop_eq_nil_of_le (by have := Hl.out; omega)]; rfl)
      clear hlt Hg
      go_wp2_with (refine wpList_reset_st rfl 28 _ _ rfl HU.out HSq.out HBq.out (by rw [Hus.out]; exact Nat.le_refl _) #[.int .i64 0, .int .i64 0, .int .i64 0, .int .i64 0, .int .i64 0, .int .i64 0] rfl rfl (by rfl) rfl (six_one Am.zero) ?_; intro w9 hS9; have HS9 := Lib.hid hS9; clear hS9)
      (try simp only [Exit.inBlock, Exit.then]); refine bodyPost_ret (ret_alarm8 rfl rfl HS9.out 0 rfl rfl) rfl ?_
      exact ⟨by rw [He.out]; rfl, HS9.out.below⟩
end Go.Proofs.Ythlojadkgpmnmaa
