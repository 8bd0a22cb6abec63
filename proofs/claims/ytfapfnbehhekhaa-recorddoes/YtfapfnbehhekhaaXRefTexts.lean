/-
  The document's helpers: Texts (are two rows the same?) and OwnTexts (a row in memory of its own).
-/
import Derived.Test.YtfapfnbehhekhaaChecked
import Derived.Test.YtfapfnbehhekhaaXJa
import Derived.BigQuiet
import Derived.Deep.QuietTactic
import Derived.Laws.AppendOwnNone
namespace Go.Proofs.Ytfapfnbehhekhaa
set_option maxRecDepth 10000
open Go.RowKit

theorem StrsAt.of_own {w : World} {base : Nat} {e : TypeId} {A : Option Addr} {cap : Nat} {ss : List ByteArray} (h : w.ownsRow base e 1 (.slice A ss.length cap) ss.length (ss.map Value.string)) : StrsAt w w.heap.size A ss := fun i hi => by
  rcases h.2 with ⟨_, h0⟩ | ⟨g, cap', cur, hv, _, hg, _⟩
  · omega
  · have hA : A = some ⟨g, 0, none⟩ := by injection hv
    subst hA
    have hc := h.cells (g := g) rfl i (.string ss[i]) (by simp [List.getElem?_eq_getElem hi])
    have hadd : (⟨g, 0, none⟩ : Addr).add i = ⟨g, 0 + i, none⟩ := by unfold Addr.add; split <;> simp_all
    rw [hadd] at hc
    exact ⟨g, 0, rfl, (Array.getElem?_eq_some_iff.1 hg).1, hc⟩

theorem retb_texts {a b : Bool} (h : a = b) : Ending.returned (.bool a) = .returned (.bool b) := by rw [h]
theorem toList_bl (s : ByteArray) : s.toList = bl s := ByteArray.toList_eq s

set_option maxHeartbeats 400000 in
theorem Texts_any (A B : Option Addr) (ca cb : Nat) (xs ys : List ByteArray) (w : World) (hA : StrsAt w w.heap.size A xs) (hB : StrsAt w w.heap.size B ys) (hl : xs.length ≤ maxLen) :
    Calls Try.prog 21 #[.slice A xs.length ca, .slice B ys.length cb] w fun e w' => e = .returned (.bool (decide (xs = ys))) ∧ ∃ n, w' = w.drewN n := by
  unfold maxLen at hl
  by_cases hne : xs.length = ys.length
  · have h1 : ((xs.length : Int) == (ys.length : Int)) = true := by rw [beq_iff_eq]; omega
    have h2 : ((xs.length : Int) != (ys.length : Int)) = false := by rw [bne, h1]; rfl
    have Hne := Lib.hid hne
    clear hne
    go_enter Try.func21, Try.ntmps21
    go_wp2
    go_loopw [5] (fun i wr => ∃ k n : Nat, k ≤ xs.length ∧ i = .int .i64 (k : Int) ∧ Hid (xs.take k = ys.take k) ∧ wr = w.drewN n) (fun i _ => xs.length - (intOf i).toNat)
    case atStart => exact ⟨0, 0, Nat.zero_le _, rfl, Lib.hid rfl, rfl⟩
    case round =>
      obtain ⟨k, n, hk, rfl, H, rfl⟩ := hrel
      by_cases hlt : k < xs.length
      · have hlt2 : k < ys.length := by have := Hne.out; omega
        obtain ⟨b1, o1, rfl, _, hc1⟩ := hA k hlt
        obtain ⟨b2, o2, rfl, _, hc2⟩ := hB k hlt2
        have hc1' : (w.drewN n).cell? ⟨b1, o1 + k, none⟩ = some (.string xs[k]) := hc1
        have hc2' : (w.drewN n).cell? ⟨b2, o2 + k, none⟩ = some (.string ys[k]) := hc2
        have hl2 : ys.length ≤ 9223372036854775807 := by have := Hne.out; omega
        by_cases heq : xs[k].toList = ys[k].toList
        · have H2 := Lib.hid (show xs.take (k + 1) = ys.take (k + 1) by
            rw [List.take_succ_eq_append_getElem hlt, List.take_succ_eq_append_getElem hlt2, H.out, show xs[k] = ys[k] from bl_inj (by rw [← toList_bl, ← toList_bl]; exact heq)])
          clear H
          go_wp2_with fail
          go_quiet (fail)
          go_wp2
          go_roundw
          case rel => exact ⟨k + 1, _, by omega, by go_num, H2, rfl⟩
          case measure => simp [intOf]; omega
        · have Hd : Hid (decide (xs = ys) = false) := Lib.hid (decide_eq_false (fun hh => heq (by subst hh; rfl)))
          have heq' : (xs[k].toList == ys[k].toList) = false := by rw [beq_eq_false_iff_ne]; exact heq
          clear H
          go_wp2_with fail
          go_quiet (fail)
          go_wp2
          go_ret
          exact ⟨retb_texts Hd.out.symm, n + nq, by rw [World.drewN_drewN]⟩
      · obtain rfl : k = xs.length := by omega
        have Hd : Hid (decide (xs = ys) = true) := Lib.hid (decide_eq_true (by
          have := H.out
          rw [List.take_length, Hne.out, List.take_length] at this; exact this))
        clear H
        go_wp2
        go_ret
        exact ⟨retb_texts Hd.out.symm, _, rfl⟩
  · have h2 : ((xs.length : Int) != (ys.length : Int)) = true := by rw [bne_iff_ne]; omega
    have Hd : Hid (decide (xs = ys) = false) := Lib.hid (decide_eq_false (fun hh => hne (by rw [hh])))
    clear hne
    go_enter Try.func21, Try.ntmps21
    go_wp2
    go_ret
    exact ⟨retb_texts Hd.out.symm, 0, rfl⟩

theorem Try.infoT : (Try.prog.info? 9).map (fun i => (i.zero, i.size, i.bytes)) = some (some (.string ⟨#[]⟩), 1, 16) := by kernel_rfl

set_option maxHeartbeats 400000 in
theorem OwnTexts_any (A : Option Addr) (cap : Nat) (zs : List ByteArray) (w : World) (hA : StrsAt w w.heap.size A zs) (hnil : A = none → cap = 0) (hl : zs.length ≤ 1000000000) :
    Calls Try.prog 9 #[.slice A zs.length cap] w fun e w' => ∃ A' cap', e = .returned (.slice A' zs.length cap') ∧ w'.ownsRow w.heap.size 9 1 (.slice A' zs.length cap') zs.length (zs.map Value.string) ∧ Below w.heap.size w w' := by
  obtain ⟨i0, hi, hz0, hz1, hz2⟩ := info_parts Try.infoT
  have hown0 := World.ownsRow_nil w w.heap.size 9 1
  cases A with
  | none =>
    obtain rfl : cap = 0 := hnil rfl
    obtain rfl : zs = [] := by
      cases zs with
      | nil => rfl
      | cons z zs => obtain ⟨b, off, h, _⟩ := hA 0 (by simp); cases h
    go_enter Try.func9, Try.ntmps9
    go_wp2_with (at_builtin; refine wpList_append_own_none _ rfl _ _ 24 rfl w.heap.size 9 i0 1 Try.underlying24 hi _ _ _ rfl hown0 rfl ?_)
    go_ret
    exact ⟨none, 0, rfl, World.ownsRow_nil _ _ _ _, Below.refl _ _⟩
  | some a =>
    have hcells : ∀ j u, (zs.map Value.string)[j]? = some u → w.cell? (a.add j) = some u := by
      intro j u hu
      have hj : j < zs.length := by
        have := (List.getElem?_eq_some_iff.1 hu).1
        simpa using this
      obtain ⟨b, off, ha, _, hc⟩ := hA j hj
      cases ha
      rw [Go.WideShapes.add_plain, hc]
      simpa [List.getElem?_eq_getElem hj] using hu
    obtain ⟨m, hm⟩ : ∃ m, m = zs.length := ⟨_, rfl⟩
    rw [← hm] at hl ⊢
    obtain ⟨xs, hxs⟩ : ∃ xs, xs = zs.map Value.string := ⟨_, rfl⟩
    rw [← hxs] at hcells ⊢
    have hlen : xs.length = m * 1 := by rw [hxs, hm]; simp
    have hone : ∀ u ∈ xs, u.oneCell' = true := by rw [hxs]; simp [Value.oneCell']
    have Hm := Lib.hid hm; have Hxs := Lib.hid hxs; have Hlen := Lib.hid hlen; have Hone := Lib.hid hone; have Hc := Lib.hid hcells
    clear hm hxs hlen hone hcells hA hnil
    go_enter Try.func9, Try.ntmps9
    go_wp2_with (at_builtin; refine wpList_append_own _ rfl _ _ 24 rfl w.heap.size 9 i0 (.string ⟨#[]⟩) 1 16 Try.underlying24 hi hz0 hz1 hz2 rfl (by decide) _ _ _ rfl hown0 a m cap xs rfl Hlen.out Hc.out Hone.out (by unfold maxLen; omega) (by omega) (Nat.le_refl _) ?_; intro v' w1 hown' hgrow _; rw [Nat.zero_add, List.nil_append] at hown'; have hB1 : Below w.heap.size w w1 := (Below.refl _ w).grown hgrow (Nat.le_refl _) (fun k hk => (hown0.lt k hk).1); clear hgrow; obtain ⟨A', cap', rfl⟩ := ownsRow_slice hown')
    go_ret
    exact ⟨A', cap', rfl, hown', hB1⟩

end Go.Proofs.Ytfapfnbehhekhaa
