/-
  Layer 11 (show), the reference: Digits, Number.
  Layer 11 (show), the reference: Number.
  Layer 11 (show), the reference: Words.
-/
import Derived.Test.YtpgichlaghhdeaaGreatDoorChecked
import Derived.Test.YtpgichlaghhdeaaGreatDoorXJa
import Derived.Laws.AppendOwnNone
import Derived.Deep.RegionHeld3
import Derived.BigQuiet
import Derived.Deep.QuietTactic
import Derived.IntWalk
import Derived.Lib.Hide
import Derived.Great.BuildSlice
namespace Go.Proofs.YtpgichlaghhdeaaGreatDoor
set_option maxRecDepth 10000
open Go.RowKit

/-- A last digit's text. -/
def Sh.dig (n : Nat) : List UInt8 := [UInt8.ofNat (48 + n % 10)]
theorem Sh.dec_one {n : Nat} (h : n < 10) : Lib.decDigits n = Sh.dig n := by rw [Lib.decDigits_one h]; unfold Sh.dig; rw [Nat.mod_eq_of_lt h]
theorem Sh.dec_more {n : Nat} (h : ¬ n < 10) : Lib.decDigits n = Lib.decDigits (n / 10) ++ Sh.dig n := Sh.dec_big h

/-- string([]byte{u}), of a slice just made. -/
theorem run_conv_oneS (w : World) (u : UInt8) : (convert 90 9 (.slice (some ⟨w.heap.size, 0, none⟩) 1 1)).run Tryz.prog (w.alloc (.cells #[.int .u8 (u.toNat : Int)] 5)) = .ok (.string (strOf [u])) (w.alloc (.cells #[.int .u8 (u.toNat : Int)] 5)) := by
  have hnew := World.alloc_heap_new w (.cells #[.int .u8 (u.toNat : Int)] 5)
  refine run_convert_bytes_back (P := Tryz.prog) _ 90 9 5 ⟨w.heap.size, 0, none⟩ 1 [u] Tryz.underlying90 Tryz.underlying5 Tryz.underlying9 (fun j hj => ?_)
  obtain rfl : j = 0 := by simpa using hj
  show World.cell? _ ⟨w.heap.size, 0, none⟩ = _
  simp only [World.cell?, hnew]
  simp
theorem conv_digS (w : World) (n : Nat) : (convert 90 9 (.slice (some ⟨w.heap.size, 0, none⟩) 1 1)).run Tryz.prog (w.alloc (.cells #[.int .u8 (48 + (n : Int) % 10)] 5)) = .ok (.string (strOf (Sh.dig n))) (w.alloc (.cells #[.int .u8 (48 + (n : Int) % 10)] 5)) := by
  have h := run_conv_oneS w (UInt8.ofNat (48 + n % 10))
  have e : ((UInt8.ofNat (48 + n % 10)).toNat : Int) = 48 + (n : Int) % 10 := by
    rw [UInt8.toNat_ofNat']; omega
  rw [e] at h
  exact h

set_option maxHeartbeats 1000000 in
theorem RDigits_any (n : Nat) (h : n < 10000000000) (w : World) :
    Calls Tryz.prog 34 #[.int .i64 (n : Int)] w fun e w' => e = .returned (.string (strOf (Lib.decDigits n))) ∧ Below w.heap.size w w' := by
  have c1 := conv_digS w n
  have Hn := Lib.hid h
  have Hdl := Lib.hid (Sh.dec_len h).1
  obtain ⟨r, hr⟩ : ∃ r, r = Lib.decDigits n := ⟨_, rfl⟩
  have Hr := Lib.hid hr
  rw [← hr]
  clear h hr
  go_enter Tryz.func34, Tryz.ntmps34
  go_wp2
  go_loopw [0, 3] (fun z s wr => ∃ (m : Nat) (tail : List UInt8), z = .int .i64 (m : Int) ∧ s = .string (strOf (Sh.dig m ++ tail)) ∧ Hid (m ≤ n) ∧ Hid (Lib.decDigits m ++ tail = r) ∧ Hid (Below w.heap.size w wr)) (fun z _ _ => (intOf z).toNat)
  case atStart => exact ⟨n, [], rfl, by rw [List.append_nil], Lib.hid (Nat.le_refl _), Lib.hid (by rw [List.append_nil]; exact Hr.out.symm), Lib.hid (below_new _ _)⟩
  case round =>
    clear c1
    obtain ⟨m, tail, rfl, rfl, Hm, Ht, HB⟩ := hrel
    by_cases hlt : m < 10
    · have hd : decide ((10 : Int) ≤ (m : Int)) = false := decide_eq_false (by omega)
      have hd2 : ((m : Int) ≥ 10) = False := eq_false (by omega)
      have He : Hid (r = Sh.dig m ++ tail) := Lib.hid (by rw [← Ht.out, Sh.dec_one hlt])
      clear hlt Ht
      go_wp2
      go_ret
      exact ⟨by rw [He.out]; rfl, HB.out⟩
    · have hd : decide ((10 : Int) ≤ (m : Int)) = true := decide_eq_true (by omega)
      have hd2 : ((m : Int) ≥ 10) = True := eq_true (by omega)
      have Ht2 : Hid (Lib.decDigits (m / 10) ++ (Sh.dig m ++ tail) = r) := Lib.hid (by rw [← List.append_assoc, ← Sh.dec_more hlt]; exact Ht.out)
      have hl : tail.length ≤ 20 := by
        have h1 := congrArg List.length Ht.out
        have h2 := congrArg List.length Hr.out
        have := Hdl.out
        rw [List.length_append] at h1
        omega
      have hcat : ¬ 9223372036854775807 < (strOf (Sh.dig (m / 10))).size + (strOf (Sh.dig m ++ tail)).size := by rw [strOf_size, strOf_size]; simp [Sh.dig]; omega
      have hc2 := conv_digS wr (m / 10)
      rw [show ((m / 10 : Nat) : Int) = (m : Int) / 10 by omega] at hc2
      have hap : strOf (Sh.dig (m / 10)) ++ strOf (Sh.dig m ++ tail) = strOf (Sh.dig (m / 10) ++ (Sh.dig m ++ tail)) := strs_append _ _
      have hq1 : wrap64 ((m : Int) / 10) = (m : Int) / 10 := by have := Hn.out; have := Hm.out; unfold wrap64; omega
      have h10 : Hid (10 ≤ m) := Lib.hid (by omega)
      have Hm2 : Hid (m / 10 ≤ n) := Lib.hid (by have := Hm.out; omega)
      have Hq : Hid (((m / 10 : Nat) : Int) = (m : Int) / 10) := Lib.hid (by omega)
      clear hlt Ht hl
      go_wp2
      rw [hq1]
      refine ⟨⟨m / 10, Sh.dig m ++ tail, by rw [Hq.out], rfl, Hm2, Ht2, Lib.hid (HB.out.alloc HB.out.size _)⟩, ?_⟩
      have := h10.out
      clear hq1 hc2 hap hcat hd hd2
      simp only [intOf]; omega
end Go.Proofs.YtpgichlaghhdeaaGreatDoor

namespace Go.Proofs.YtpgichlaghhdeaaGreatDoor
set_option maxRecDepth 10000
open Go.RowKit

theorem Sh.fold_lt : ∀ (l : List UInt8) (acc : Nat), l.all Sh.isDig = true → l.foldl (fun n c => 10 * n + (c.toNat - 48)) acc < (acc + 1) * 10 ^ l.length
  | [], acc, _ => by simp
  | c :: l, acc, h => by
    rw [List.all_cons, Bool.and_eq_true] at h
    have ih := Sh.fold_lt l (10 * acc + (c.toNat - 48)) h.2
    have h2 := h.1
    unfold Sh.isDig at h2
    simp only [Bool.and_eq_true, decide_eq_true_eq] at h2
    rw [List.foldl_cons, List.length_cons, Nat.pow_succ, Nat.mul_comm (10 ^ l.length) 10, ← Nat.mul_assoc]
    refine Nat.lt_of_lt_of_le ih (Nat.mul_le_mul_right _ ?_)
    omega
theorem Sh.valN_lt (l : List UInt8) (h : l.all Sh.isDig = true) : Sh.valN l < 10 ^ l.length := by
  have := Sh.fold_lt l 0 h
  unfold Sh.valN
  simpa using this
theorem Sh.valN_ten {l : List UInt8} (h : l.all Sh.isDig = true) (hl : l.length ≤ 10) : Sh.valN l < 10000000000 := by
  have h1 := Sh.valN_lt l h
  have h2 : (10 : Nat) ^ l.length ≤ 10 ^ 10 := Nat.pow_le_pow_right (by decide) hl
  have h3 : (10 : Nat) ^ 10 = 10000000000 := by decide
  omega
theorem Sh.numI_not {l : List UInt8} (h : ¬ (1 ≤ l.length ∧ l.length ≤ 10 ∧ l.all Sh.isDig = true ∧ Lib.decDigits (Sh.valN l) = l)) : Sh.numI l = -1 := by unfold Sh.numI; rw [if_neg h]

set_option maxHeartbeats 2000000 in
theorem RNumber_any (s : ByteArray) (w : World) :
    Calls Tryz.prog 39 #[.string s] w fun e w' => e = .returned (.int .i64 (Sh.numI (bl s))) ∧ Below w.heap.size w w' := by
  obtain ⟨r, hr⟩ : ∃ r, r = Sh.numI (bl s) := ⟨_, rfl⟩
  have Hr := Lib.hid hr
  rw [← hr]
  clear hr
  by_cases h1 : s.size < 1
  · have i1 : ((s.size : Int) < 1) = True := eq_true (by omega)
    have He : Hid (r = -1) := Lib.hid (by rw [Hr.out]; exact Sh.numI_not (fun h => by rw [bl_length] at h; omega))
    clear h1
    go_enter Tryz.func39, Tryz.ntmps39
    go_wp2
    go_ret
    exact ⟨by rw [He.out]; rfl, Below.refl _ _⟩
  · have i1 : ((s.size : Int) < 1) = False := eq_false (by omega)
    by_cases h2 : 10 < s.size
    · have i2 : ((s.size : Int) > 10) = True := eq_true (by omega)
      have He : Hid (r = -1) := Lib.hid (by rw [Hr.out]; exact Sh.numI_not (fun h => by rw [bl_length] at h; omega))
      clear h1 h2
      go_enter Tryz.func39, Tryz.ntmps39
      go_wp2
      go_ret
      exact ⟨by rw [He.out]; rfl, Below.refl _ _⟩
    · have i2 : ((s.size : Int) > 10) = False := eq_false (by omega)
      have Hs : Hid (1 ≤ s.size ∧ s.size ≤ 10) := Lib.hid ⟨by omega, by omega⟩
      clear h1 h2
      go_enter Tryz.func39, Tryz.ntmps39
      go_wp2
      go_loopw [3, 4] (fun z i wr => ∃ (k v : Nat), z = .int .i64 (v : Int) ∧ k ≤ s.size ∧ i = .int .i64 (k : Int) ∧ wr = w ∧ Hid (v = Sh.valN ((bl s).take k)) ∧ Hid (((bl s).take k).all Sh.isDig = true)) (fun _ i _ => s.size - (intOf i).toNat)
      case atStart => exact ⟨0, 0, rfl, Nat.zero_le _, rfl, (by first | trivial | rfl), Lib.hid rfl, Lib.hid rfl⟩
      case round =>
        obtain ⟨k, v, rfl, hk, rfl, hww, Hv, Ha⟩ := hrel
        subst wr
        by_cases hlt : k < s.size
        · have hlb : k < (bl s).length := by rw [bl_length]; exact hlt
          have Htk : Hid ((bl s).take (k + 1) = (bl s).take k ++ [s[k]'hlt]) := Lib.hid (List.take_succ_eq_append_getElem hlb)
          have hv9 : v < 10000000000 := by rw [Hv.out]; exact Sh.valN_ten Ha.out (by rw [List.length_take]; have := Hs.out; omega)
          have hx256 := (s[k]'hlt).toNat_lt
          obtain ⟨x, hx⟩ : ∃ x, x = (s[k]'hlt).toNat := ⟨_, rfl⟩
          have Hx := Lib.hid hx
          have i3 : (k : Int) < (s.size : Int) := by omega
          have i4 : (0 : Int) ≤ (k : Int) := by omega
          have Hlt := Lib.hid hlt
          have Ik : Hid (wrap64 ((k : Int) + 1) = (k : Int) + 1) := Lib.hid (by have := Hs.out; unfold wrap64; omega)
          by_cases t1 : x < 48
          · have j1 : (((s[k]'hlt).toNat : Int) < 48) = True := eq_true (by omega)
            have j2 : ((s[k]'hlt).toNat < 48) = True := eq_true (by omega)
            have He : Hid (r = -1) := Lib.hid (by
              rw [Hr.out]
              refine Sh.numI_not (fun h => ?_)
              have h1 := List.all_eq_true.1 h.2.2.1 (s[k]'hlt) (List.getElem_mem hlb)
              unfold Sh.isDig at h1
              simp only [Bool.and_eq_true, decide_eq_true_eq] at h1
              omega)
            clear t1 hx hv9 hx256 hlb
            go_wp2
            go_ret
            exact ⟨by rw [He.out]; rfl, Below.refl _ _⟩
          · have j1 : (((s[k]'hlt).toNat : Int) < 48) = False := eq_false (by omega)
            have j2 : ((s[k]'hlt).toNat < 48) = False := eq_false (by omega)
            by_cases t2 : 57 < x
            · have j3 : (((s[k]'hlt).toNat : Int) > 57) = True := eq_true (by omega)
              have j4 : (57 < (s[k]'hlt).toNat) = True := eq_true (by omega)
              have He : Hid (r = -1) := Lib.hid (by
                rw [Hr.out]
                refine Sh.numI_not (fun h => ?_)
                have h1 := List.all_eq_true.1 h.2.2.1 (s[k]'hlt) (List.getElem_mem hlb)
                unfold Sh.isDig at h1
                simp only [Bool.and_eq_true, decide_eq_true_eq] at h1
                omega)
              clear t1 t2 hx hv9 hx256 hlb
              go_wp2
              go_ret
              exact ⟨by rw [He.out]; rfl, Below.refl _ _⟩
            · have j3 : (((s[k]'hlt).toNat : Int) > 57) = False := eq_false (by omega)
              have j4 : (57 < (s[k]'hlt).toNat) = False := eq_false (by omega)
              have hd : Sh.isDig (s[k]'hlt) = true := by unfold Sh.isDig; simp only [Bool.and_eq_true, decide_eq_true_eq]; omega
              have Ha2 : Hid (((bl s).take (k + 1)).all Sh.isDig = true) := Lib.hid (by rw [Htk.out, List.all_append, Ha.out]; simp [hd])
              obtain ⟨v2, hv2⟩ : ∃ v2 : Nat, v2 = 10 * v + (x - 48) := ⟨_, rfl⟩
              have Hv2 : Hid (v2 = Sh.valN ((bl s).take (k + 1))) := Lib.hid (by rw [Htk.out, Sh.valN_snoc, ← Hv.out, hv2, hx])
              have Q0 : Hid (wrap64 ((s[k]'hlt).toNat : Int) = ((s[k]'hlt).toNat : Int)) := Lib.hid (by unfold wrap64; omega)
              have Q1 : Hid (wrap64 (10 * (v : Int)) = 10 * (v : Int)) := Lib.hid (by unfold wrap64; omega)
              have Q2 : Hid (wrap64 (10 * (v : Int) + ((s[k]'hlt).toNat : Int)) = 10 * (v : Int) + ((s[k]'hlt).toNat : Int)) := Lib.hid (by unfold wrap64; omega)
              have Q3 : Hid (wrap64 (10 * (v : Int) + ((s[k]'hlt).toNat : Int) - 48) = (v2 : Int)) := Lib.hid (by unfold wrap64; omega)
              clear t1 t2 hx hv9 hx256 hlb hd hv2 Hv Ha
              have q0 := Q0.out
              have q1 := Q1.out
              have q2 := Q2.out
              have q3 := Q3.out
              go_wp2
              go_roundw
              case rel => exact ⟨k + 1, v2, by rw [q3], Hlt.out, by first | rfl | (rw [Ik.out]; rfl), (by first | trivial | rfl), Hv2, Ha2⟩
              case measure => have := Hlt.out; (try rw [Ik.out]); simp [intOf]; omega
        · have ik : ((k : Int) < (s.size : Int)) = False := eq_false (by omega)
          have hks : k = s.size := by omega
          have htk : (bl s).take k = bl s := by rw [hks, ← bl_length, List.take_length]
          rw [htk] at Hv Ha
          have kD := RDigits_any v (by rw [Hv.out]; exact Sh.valN_ten Ha.out (by rw [bl_length]; exact Hs.out.2)) w
          clear hk hlt hks htk
          by_cases he : Lib.decDigits v = bl s
          · have hq : (strOf (Lib.decDigits v)).toList = s.toList := by rw [he, strOf_bl]
            have He : Hid (r = (v : Int)) := Lib.hid (by
              rw [Hr.out]
              unfold Sh.numI
              rw [← Hv.out, if_pos ⟨by rw [bl_length]; exact Hs.out.1, by rw [bl_length]; exact Hs.out.2, Ha.out, he⟩])
            clear he
            go_wp2_with fail
            refine kD.mono ?_
            rintro e w1 ⟨rfl, hB⟩
            have HB := Lib.hid hB
            clear hB kD
            go_wp2
            go_ret
            exact ⟨by rw [He.out]; rfl, HB.out⟩
          · have hq : ((strOf (Lib.decDigits v)).toList == s.toList) = false := by
              rw [beq_eq_false_iff_ne, strOf_toList]
              intro h
              exact he (by rw [h]; exact ByteArray.toList_eq s)
            have hq2 : ¬ (strOf (Lib.decDigits v)).toList = s.toList := by rw [beq_eq_false_iff_ne] at hq; exact hq
            have He : Hid (r = -1) := Lib.hid (by
              rw [Hr.out]
              refine Sh.numI_not (fun h => he ?_)
              rw [Hv.out]
              exact h.2.2.2)
            clear he
            go_wp2_with fail
            refine kD.mono ?_
            rintro e w1 ⟨rfl, hB⟩
            have HB := Lib.hid hB
            clear hB kD
            go_wp2
            go_ret
            exact ⟨by rw [He.out]; rfl, HB.out⟩
end Go.Proofs.YtpgichlaghhdeaaGreatDoor

namespace Go.Proofs.YtpgichlaghhdeaaGreatDoor
set_option maxRecDepth 10000
open Go.RowKit

theorem Tryz.infoSt : (Tryz.prog.info? 9).map (fun i => (i.zero, i.size, i.bytes)) = some (some (.string ⟨#[]⟩), 1, 16) := by kernel_rfl
/-- A row of texts of one's own. -/
def OwnX (w : World) (base : Nat) (v : Value) (xs : List ByteArray) : Prop := w.ownsRow base 9 1 v xs.length (xs.map Value.string)
theorem OwnX.nil (w : World) (base : Nat) : OwnX w base (.slice none 0 0) [] := World.ownsRow_nil w base 9 1
theorem OwnX.below {w W : World} {base : Nat} {v : Value} {xs : List ByteArray} (h : OwnX w base v xs) (hb : Below w.heap.size w W) : OwnX W base v xs := owns_below h hb
theorem OwnX.lower {w : World} {base base' : Nat} {v : Value} {xs : List ByteArray} (h : OwnX w base v xs) (hb : base' ≤ base) : OwnX w base' v xs := owns_lower h hb
theorem OwnX.ge {w : World} {base : Nat} {v : Value} {xs : List ByteArray} (h : OwnX w base v xs) : ∀ k, v.ownBlock = some k → base ≤ k := fun k hk => (World.ownsRow.lt h k hk).1
theorem OwnX.rows {w : World} {base : Nat} {v : Value} {xs : List ByteArray} (h : OwnX w base v xs) : ∃ A c, v = .slice A xs.length c ∧ StrsAt w w.heap.size A xs ∧ (A = none → c = 0) ∧ xs.length ≤ c := by
  have h' := h
  unfold OwnX at h'
  rcases h'.2 with ⟨hv, h0⟩ | ⟨g, cap, cur, hv, _, hg, hcap, _⟩
  · refine ⟨none, 0, by rw [hv, h0], fun i hi => by omega, fun _ => rfl, by omega⟩
  · subst hv
    refine ⟨_, _, rfl, fun i hi => ?_, (fun e => by cases e), hcap⟩
    have hc := World.ownsRow.cells h (g := g) rfl i (.string xs[i]) (by simp [List.getElem?_eq_getElem hi])
    rw [Go.WideShapes.add_plain] at hc
    exact ⟨g, 0, rfl, (Array.getElem?_eq_some_iff.1 hg).1, hc⟩
theorem StrsAt.oneX (w : World) (x : ByteArray) (t : TypeId) : StrsAt (w.alloc (.cells #[.string x] t)) (w.alloc (.cells #[.string x] t)).heap.size (some ⟨w.heap.size, 0, none⟩) [x] := fun i hi => by
  obtain rfl : i = 0 := by simpa using hi
  have hb := World.alloc_heap_new w (.cells #[.string x] t)
  exact ⟨w.heap.size, 0, rfl, by simp, by simp only [World.cell?, hb]; rfl⟩
theorem wpList_append_strX {ops : Array Oper} {rest : List Oper} {o : Oper} {a : Act} {w : World} {Q : Exit → Act → World → Prop} (hgd : o.guard = none) (s x : Operand)
    (ho : o.op = .call { callee := .builtin .append, args := #[s, x], argTypes := #[38, 38] })
    (base : Nat) (v : Value) (zs : List ByteArray) (m : ByteArray) (hs : a.eval s = v) (hown : OwnX w base v zs)
    (ad : Addr) (cap : Nat) (hx : a.eval x = .slice (some ad) 1 cap) (hA : StrsAt w w.heap.size (some ad) [m]) (hb : base ≤ w.heap.size) (hl : zs.length + 1 ≤ 100000)
    (h : ∀ v' w', OwnX w' base v' (zs ++ [m]) → w.grownBy w' v.ownBlock → wpList Tryz.prog ops Q rest (a.put o.dst v') w') : wpList Tryz.prog ops Q (o :: rest) a w := by
  obtain ⟨i0, hi, hz0, hz1, hz2⟩ := info_parts Tryz.infoSt
  have hcells : ∀ j u, ([m].map Value.string)[j]? = some u → w.cell? (ad.add j) = some u := by
    intro j u hu
    have hj : j < 1 := by
      have := (List.getElem?_eq_some_iff.1 hu).1
      simpa using this
    obtain ⟨b, off, ha, _, hc⟩ := hA j hj
    cases ha
    rw [Go.WideShapes.add_plain, hc]
    obtain rfl : j = 0 := by omega
    simpa using hu
  refine wpList_append_own _ hgd s x 38 ho base 9 i0 (.string ⟨#[]⟩) 1 16 Tryz.underlying38 hi hz0 hz1 hz2 rfl (by decide) v _ _ hs hown ad 1 cap ([m].map Value.string) hx (by simp) hcells (by simp [Value.oneCell']) (by unfold maxLen; omega) (by omega) hb ?_
  intro v' w' ho' hg _
  exact h v' w' (by unfold OwnX; simpa using ho') hg

/-! ### words, sign by sign -/
/-- The words that have ended, and the one that goes on. -/
def Sh.part (l : List UInt8) : List (List UInt8) × List UInt8 := ((Sh.words l).dropLast, (Sh.words l).getLastD [])
theorem Sh.part_join (l : List UInt8) : (Sh.part l).1 ++ [(Sh.part l).2] = Sh.words l := by
  unfold Sh.part
  have h := Sh.words_ne l
  rw [List.getLastD_eq_getLast?, List.getLast?_eq_some_getLast h]
  exact List.dropLast_concat_getLast h
theorem Sh.part_of {l : List UInt8} {ws : List (List UInt8)} {x : List UInt8} (h : Sh.words l = ws ++ [x]) : Sh.part l = (ws, x) := by
  unfold Sh.part
  rw [h]
  simp
theorem Sh.part_blank (l : List UInt8) : Sh.part (l ++ [32]) = (Sh.words l, []) := Sh.part_of (Sh.words_blank l)
theorem Sh.part_sign {c : UInt8} (hc : c ≠ 32) (l : List UInt8) : Sh.part (l ++ [c]) = ((Sh.part l).1, (Sh.part l).2 ++ [c]) := by
  obtain ⟨ws, x, e1, e2⟩ := Sh.words_sign hc l
  rw [Sh.part_of e1, Sh.part_of e2]

/-- What holds ahead of each round of Words. -/
structure WordsS (s : ByteArray) (k from' : Nat) (out : List ByteArray) : Prop where
  le : from' ≤ k
  last : (Sh.part ((bl s).take k)).2 = ((bl s).take k).drop from'
  done : out.map bl = (Sh.part ((bl s).take k)).1
  len : out.length ≤ k
theorem WordsS.start (s : ByteArray) : WordsS s 0 0 [] := ⟨Nat.le_refl _, rfl, rfl, Nat.le_refl _⟩
theorem WordsS.blank {s : ByteArray} {k from' : Nat} {out : List ByteArray} (h : WordsS s k from' out) (hk : k < s.size) (hc : s[k]'hk = 32) : WordsS s (k + 1) (k + 1) (out ++ [s.extract from' k]) := by
  have ht : (bl s).take (k + 1) = (bl s).take k ++ [s[k]'hk] := List.take_succ_eq_append_getElem (by rw [bl_length]; exact hk)
  rw [hc] at ht
  refine ⟨Nat.le_refl _, ?_, ?_, by rw [List.length_append, List.length_singleton]; have := h.len; omega⟩
  · rw [ht, Sh.part_blank]
    rw [List.drop_eq_nil_of_le (by rw [List.length_append, List.length_take, List.length_singleton]; omega)]
  · rw [ht, Sh.part_blank, List.map_append, h.done, ← Sh.part_join, h.last]
    congr 1
    have e : bl (s.extract from' k) = ((bl s).take k).drop from' := by
      unfold bl
      rw [ByteArray.data_extract, Array.toList_extract]
      simp [List.drop_take]
    rw [List.map_singleton, e]
theorem WordsS.sign {s : ByteArray} {k from' : Nat} {out : List ByteArray} (h : WordsS s k from' out) (hk : k < s.size) (hc : ¬ s[k]'hk = 32) : WordsS s (k + 1) from' out := by
  have ht : (bl s).take (k + 1) = (bl s).take k ++ [s[k]'hk] := List.take_succ_eq_append_getElem (by rw [bl_length]; exact hk)
  refine ⟨Nat.le_succ_of_le h.le, ?_, ?_, Nat.le_succ_of_le h.len⟩
  · rw [ht, Sh.part_sign hc, h.last, List.drop_append_of_le_length (by rw [List.length_take, bl_length]; have := h.le; omega)]
  · rw [ht, Sh.part_sign hc]; exact h.done
theorem WordsS.all {s : ByteArray} {from' : Nat} {out : List ByteArray} (h : WordsS s s.size from' out) : (out ++ [s.extract from' s.size]).map bl = Sh.words (bl s) := by
  have ht : (bl s).take s.size = bl s := by rw [← bl_length, List.take_length]
  have h1 := h.last
  have h2 := h.done
  rw [ht] at h1 h2
  rw [List.map_append, h2, ← Sh.part_join (bl s), h1, List.map_singleton, bl_extract_from]

/-- What Words ends with. -/
def WordsE (w : World) (s : ByteArray) (e : Ending) (w' : World) : Prop := ∃ (A : Option Addr) (n c : Nat) (xs : List ByteArray), e = .returned (.slice A n c) ∧ n = xs.length ∧ xs.map bl = Sh.words (bl s) ∧ StrsAt w' w'.heap.size A xs ∧ Below w.heap.size w w'

set_option maxHeartbeats 2000000 in
theorem RWords_any (s : ByteArray) (hs : s.size ≤ 400) (w : World) :
    Calls Tryz.prog 37 #[.string s] w (WordsE w s) := by
  have Hs := Lib.hid hs
  clear hs
  go_enter Tryz.func37, Tryz.ntmps37
  go_wp2
  go_loopw [3, 4, 5] (fun z f i wr => ∃ (out : List ByteArray) (from' k : Nat), f = .int .i64 (from' : Int) ∧ k ≤ s.size ∧ i = .int .i64 (k : Int) ∧ Hid (OwnX wr w.heap.size z out) ∧ Hid (Below w.heap.size w wr) ∧ Hid (WordsS s k from' out)) (fun _ _ i _ => s.size - (intOf i).toNat)
  case atStart => exact ⟨[], 0, 0, rfl, Nat.zero_le _, rfl, Lib.hid (OwnX.nil _ _), Lib.hid (Below.refl _ _), Lib.hid (WordsS.start s)⟩
  case round =>
    obtain ⟨out, from', k, rfl, hk, rfl, HO, HB, HW⟩ := hrel
    by_cases hlt : k < s.size
    · have Hlt := Lib.hid hlt
      have i3 : (k : Int) < (s.size : Int) := by omega
      have i4 : (0 : Int) ≤ (k : Int) := by omega
      have hfk := HW.out.le
      have i5 : (0 : Int) ≤ (from' : Int) := by omega
      have i6 : (from' : Int) ≤ (k : Int) := by omega
      have i7 : (k : Int) ≤ (s.size : Int) := by omega
      have Ik : Hid (wrap64 ((k : Int) + 1) = (k : Int) + 1) := Lib.hid (by have := Hs.out; unfold wrap64; omega)
      have Hlen : Hid (out.length + 1 ≤ 100000) := Lib.hid (by have := HW.out.len; have := Hs.out; omega)
      have hge : w.heap.size ≤ wr.heap.size := HB.out.size
      have Hge := Lib.hid hge
      clear hge
      by_cases hc : s[k]'hlt = 32
      · have hx32 : (s[k]'hlt).toNat = 32 := congrArg UInt8.toNat hc
        have j1 : (((s[k]'hlt).toNat : Int) == 32) = true := by rw [beq_iff_eq]; omega
        have j2 : (((s[k]'hlt).toNat : Int) = 32) = True := eq_true (by omega)
        have HW2 := Lib.hid (HW.out.blank hlt hc)
        clear hc hx32 HW hfk
        go_wp2_with (at_builtin; go_loud (refine wpList_append_strX rfl _ _ rfl w.heap.size _ out (s.extract from' k) rfl (HO.out.below (below_new wr (.cells #[.string (s.extract from' k)] 9))) ⟨wr.heap.size, 0, none⟩ _ rfl (StrsAt.oneX wr (s.extract from' k) 9) (Nat.le_trans Hge.out (below_new wr (.cells #[.string (s.extract from' k)] 9)).size) Hlen.out ?_; intro v' w1 hown' hgrow; have HO2 := Lib.hid hown'; have HB2 : Hid (Below w.heap.size w w1) := Lib.hid ((below2 HB.out (below_new wr (.cells #[.string (s.extract from' k)] 9))).grown hgrow (Nat.le_trans Hge.out (below_new wr (.cells #[.string (s.extract from' k)] 9)).size) (fun k hk => HO.out.ge k hk)); clear hown' hgrow))
        go_roundw
        case rel => exact ⟨_, k + 1, k + 1, by first | rfl | (rw [Ik.out]; rfl), Hlt.out, by first | rfl | (rw [Ik.out]; rfl), HO2, HB2, HW2⟩
        case measure => have := Hlt.out; (try rw [Ik.out]); simp [intOf]; omega
      · have hx32 : ¬ (s[k]'hlt).toNat = 32 := fun h => hc (UInt8.toNat_inj.1 h)
        have j1 : (((s[k]'hlt).toNat : Int) == 32) = false := by rw [beq_eq_false_iff_ne]; omega
        have j2 : (((s[k]'hlt).toNat : Int) = 32) = False := eq_false (by omega)
        have HW2 := Lib.hid (HW.out.sign hlt hc)
        clear hc hx32 HW hfk
        go_wp2
        go_roundw
        case rel => exact ⟨out, from', k + 1, rfl, Hlt.out, by first | rfl | (rw [Ik.out]; rfl), HO, HB, HW2⟩
        case measure => have := Hlt.out; (try rw [Ik.out]); simp [intOf]; omega
    · have ik : ((k : Int) < (s.size : Int)) = False := eq_false (by omega)
      have hks : k = s.size := by omega
      subst hks
      have hfk := HW.out.le
      have i5 : (0 : Int) ≤ (from' : Int) := by omega
      have i6 : (from' : Int) ≤ (s.size : Int) := by omega
      have Hlen : Hid (out.length + 1 ≤ 100000) := Lib.hid (by have := HW.out.len; have := Hs.out; omega)
      have Hge : Hid (w.heap.size ≤ wr.heap.size) := Lib.hid HB.out.size
      have HA := Lib.hid HW.out.all
      clear hk hlt hfk HW
      go_wp2_with (at_builtin; go_loud (refine wpList_append_strX rfl _ _ rfl w.heap.size _ out (s.extract from' s.size) rfl (HO.out.below (below_new wr (.cells #[.string (s.extract from' s.size)] 9))) ⟨wr.heap.size, 0, none⟩ _ rfl (StrsAt.oneX wr (s.extract from' s.size) 9) (Nat.le_trans Hge.out (below_new wr (.cells #[.string (s.extract from' s.size)] 9)).size) Hlen.out ?_; intro v' w1 hown' hgrow; have HO2 := Lib.hid hown'; have HB2 : Hid (Below w.heap.size w w1) := Lib.hid ((below2 HB.out (below_new wr (.cells #[.string (s.extract from' s.size)] 9))).grown hgrow (Nat.le_trans Hge.out (below_new wr (.cells #[.string (s.extract from' s.size)] 9)).size) (fun k hk => HO.out.ge k hk)); clear hown' hgrow))
      obtain ⟨A, c, rfl, hR, _, _⟩ := HO2.out.rows
      have HR := Lib.hid hR
      clear hR
      obtain ⟨n, hn⟩ : ∃ n, n = (out ++ [s.extract from' s.size]).length := ⟨_, rfl⟩
      rw [← hn]
      have Hn := Lib.hid hn
      clear hn
      go_ret
      exact ⟨A, n, c, _, rfl, Hn.out, HA.out, HR.out, HB2.out⟩
end Go.Proofs.YtpgichlaghhdeaaGreatDoor
