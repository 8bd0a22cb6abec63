/-
  The document's answers for layer 1: what the reference's Int, Ints, Text and Own hand back: what wire's do.
  Plain mathematics of layer 1 (wire): another way to read a number, as the document's answer has it.
  The document's answers for layer 1: what the reference's GetInt, GetInts and GetText hand back: what wire's do.
  Layer 2 (sum): the document's own answers (Unlike, Step, Of, Find).
  The document's answers for layer 3: what the reference's Put and Get hand back: what frame's do.
  Layer 13 (record): the references' Put.
  The document's answers for layer 3: what the reference's All, Row and GetRow hand back: what frame's do.
-/
import Derived.Test.YtlnchfnmpamliaaGreatXJc
import Derived.Laws.AppendOwnNone
import Derived.Test.YtlnchfnmpamliaaGreatXJa
import Derived.BigQuiet
import Derived.Deep.QuietTactic
import Derived.Test.YtlnchfnmpamliaaGreatXJe
namespace Go.Proofs.YtlnchfnmpamliaaGreat
set_option maxRecDepth 10000
open Go.RowKit

/-- What holds ahead of each round of the reference's Int. -/
def RIntRel (w : World) (N : Nat) (n out : Value) (wr : World) : Prop :=
  ∃ (pre : List UInt8) (k : Nat), n = .int .i64 (k : Int) ∧ k ≤ N ∧ Wm.digs N = pre ++ Wm.digs k ∧ wr.ownsRow w.heap.size 5 1 out pre.length (pre.map byteV) ∧ Below w.heap.size w wr

theorem rint_conv {W : World} {base N : Nat} {v : Value} {pre : List UInt8} {c : UInt8} (hp : Wm.digs N = pre) (h : W.ownsRow base 5 1 v (pre.length + 1) (pre.map byteV ++ [.int .u8 (c.toNat : Int)])) :
    (convert 101 9 v).run Tryz.prog W = .ok (.string (strOf (Wm.digs N ++ [c]))) W := by
  have h' : W.ownsRow base 5 1 v (pre ++ [c]).length ((pre ++ [c]).map byteV) := by simpa [byteV] using h
  rw [hp]
  exact run_conv_own (P := Tryz.prog) 101 9 Tryz.underlying101 Tryz.underlying5 Tryz.underlying9 h'

set_option maxRecDepth 100000 in
set_option maxHeartbeats 1000000 in
theorem RInt_yes (x : Int) (w : World) (hx1 : -2147483647 ≤ x) (hx2 : x ≤ 2147483647) :
    Calls Tryz.prog 67 #[.int .i64 x] w fun e w' => e = .returned (.tuple #[.string (strOf (Wm.lay x)), .int .i64 0]) ∧ Below w.heap.size w w' := by
  obtain ⟨i0, hi, hz0, hz1, hz2⟩ := info_parts Tryz.info5
  have hsgn : (∃ N : Nat, x = -(N : Int) ∧ 0 < N) ∨ (∃ N : Nat, x = (N : Int)) := by
    by_cases h : x < 0
    · exact .inl ⟨x.natAbs, by omega, by omega⟩
    · exact .inr ⟨x.natAbs, by omega⟩
  rcases hsgn with ⟨N, rfl, hN0⟩ | ⟨N, rfl⟩
  have hlay := Lib.hid (show Wm.lay (-(N : Int)) = Wm.digs N ++ [254] by simp [Wm.lay, Wm.endB, hN0])
  rotate_left
  have hlay := Lib.hid (show Wm.lay (N : Int) = Wm.digs N ++ [255] by simp [Wm.lay, Wm.endB])
  all_goals
    have hN : N ≤ 2147483647 := by omega
    go_enter Tryz.func67, Tryz.ntmps67
    go_wp2_with fail
    go_loopw [0, 5] (fun n out wr => RIntRel w N n out wr) (fun n _ _ => (intOf n).toNat)
    case atStart => exact ⟨[], N, rfl, Nat.le_refl _, by simp, World.ownsRow_nil _ _ _ _, Below.refl _ _⟩
    case round =>
      obtain ⟨pre, k, rfl, hk, hd, hown, hB⟩ := hrel
      have Hd := Lib.hid hd
      have hpl : pre.length ≤ 5 := by have := digs_short N hN; rw [hd, List.length_append] at this; omega
      clear hd
      have hsz := hB.size
      by_cases hpos : 0 < k
      · have Hk := Lib.hid (Wm.digs_pos hpos)
        have e1 : byteV (UInt8.ofNat (k % 250)) = .int .u8 ((k : Int) % 250) := by
          unfold byteV; rw [UInt8.toNat_ofNat']; congr 1; omega
        have E1 := Lib.hid e1
        clear e1
        go_wp2_with (at_builtin; refine wpList_append_own _ rfl _ _ 101 rfl w.heap.size 5 i0 (.int .u8 0) 1 1 Tryz.underlying101 hi hz0 hz1 hz2 rfl (by decide) _ _ _ rfl (hown.alloc _) ⟨wr.heap.size, 0, none⟩ 1 1 [.int .u8 ((k : Int) % 250)] rfl rfl (cell_one_new _ _ _) (by simp [Value.oneCell']) (by unfold maxLen; omega) (by omega) (by simp; omega) ?_; intro v' w1 hown' hgrow _; obtain ⟨g', cap', rfl⟩ := ownsRow_succ hown')
        go_roundw
        case rel => exact ⟨pre ++ [UInt8.ofNat (k % 250)], k / 250, by simp, by omega, by rw [Hd.out, Hk.out]; simp, by simpa [E1.out] using hown', gets_below hB hown hgrow⟩
        case measure => simp [intOf]; omega
      · obtain rfl : k = 0 := by omega
        have Hp : Hid (Wm.digs N = pre) := Lib.hid (by rw [Hd.out, Wm.digs_zero, List.append_nil])
        go_wp2_with (at_builtin; refine wpList_append_own _ rfl _ _ 101 rfl w.heap.size 5 i0 (.int .u8 0) 1 1 Tryz.underlying101 hi hz0 hz1 hz2 rfl (by decide) _ _ _ rfl (hown.alloc _) ⟨wr.heap.size, 0, none⟩ 1 1 [_] rfl rfl (cell_one_new _ _ _) (by simp [Value.oneCell']) (by unfold maxLen; omega) (by omega) (by simp; omega) ?_; intro v' w1 hown' hgrow _; obtain ⟨g', cap', rfl⟩ := ownsRow_succ hown'; have hB1 := gets_below hB hown hgrow; clear hgrow; first | have hconv := rint_conv (c := 255) Hp.out hown' | have hconv := rint_conv (c := 254) Hp.out hown')
        go_ret2
        exact ⟨ret2 (by rw [hlay.out]) rfl, hB1⟩

set_option maxHeartbeats 400000 in
theorem RInt_no (x : Int) (w : World) (hx : x < -2147483647 ∨ 2147483647 < x) :
    Calls Tryz.prog 67 #[.int .i64 x] w fun e w' => e = .returned (.tuple #[.string (strOf []), .int .i64 1]) ∧ Below w.heap.size w w' := by
  rcases hx with hx | hx
  · go_enter Tryz.func67, Tryz.ntmps67
    go_wp2
    go_ret2
    exact ⟨rfl, Below.refl _ _⟩
  · have hx' : ¬ x < -2147483647 := by omega
    go_enter Tryz.func67, Tryz.ntmps67
    go_wp2
    go_ret2
    exact ⟨rfl, Below.refl _ _⟩

theorem RInt_any (x : Int) (w : World) :
    Calls Tryz.prog 67 #[.int .i64 x] w fun e w' => e = .returned (.tuple #[.string (intsS [x]), .int .i64 (intsE [x])]) ∧ Below w.heap.size w w' := by
  by_cases h : Wm.fits x = true
  · rw [intsS_one h, intsE_one h]
    exact RInt_yes x w (Wm.fits_iff.1 h).1 (Wm.fits_iff.1 h).2
  · have e1 : intsS [x] = strOf [] := by simp [intsS, h]
    have e2 : intsE [x] = 1 := by simp [intsE, h]
    rw [e1, e2]
    refine RInt_no x w ?_
    by_cases h1 : -2147483647 ≤ x
    · by_cases h2 : x ≤ 2147483647
      · exact absurd (Wm.fits_iff.2 ⟨h1, h2⟩) h
      · right; omega
    · left; omega

set_option maxHeartbeats 400000 in
theorem RText_any (s : ByteArray) (w : World) (hs : s.size ≤ maxLen) :
    Calls Tryz.prog 79 #[.string s] w fun e w' => e = .returned (.tuple #[.string (textS s), .int .i64 (textE s)]) ∧ Below w.heap.size w w' := by
  unfold maxLen at hs
  by_cases h : s.size ≤ 3000
  · have hfit : Wm.fits (s.size : Int) = true := Wm.fits_iff.2 (by omega)
    have hcat : ¬ 9223372036854775807 < (strOf (Wm.lay (s.size : Int))).size + s.size := by
      rw [strOf_size]; have := lay_short _ hfit; omega
    clear hfit
    go_enter Tryz.func79, Tryz.ntmps79
    go_wp2_with fail
    refine (RInt_yes (s.size : Int) _ (by omega) (by omega)).mono ?_
    rintro e w1 ⟨rfl, hB⟩
    go_wp2
    go_ret2
    exact ⟨ret2 (by rw [textS, if_pos h]; exact strOf_append _ _) (by rw [textE, if_pos h]), hB⟩
  · go_enter Tryz.func79, Tryz.ntmps79
    go_wp2
    go_ret2
    exact ⟨ret2 (by rw [textS, if_neg h]; rfl) (by rw [textE, if_neg h]), Below.refl _ _⟩

end Go.Proofs.YtlnchfnmpamliaaGreat

namespace Go.Proofs.YtlnchfnmpamliaaGreat
set_option maxRecDepth 10000
namespace Wm

def oddB (l : List UInt8) : Bool := l.any (fun d => decide (250 ≤ d.toNat))

theorem getInt_ok_facts {l : List UInt8} {n : Int} {r : List UInt8} (h : getInt l = (n, r, 0)) : endAt l ≤ 5 ∧ oddB (l.take (endAt l)) = false ∧ l.take (endAt l + 1) = lay n ∧ l.drop (endAt l + 1) = r := by
  obtain ⟨hf, he⟩ := getInt_ok h
  have h1 := endAt_lay n r
  rw [← he] at h1
  have hf := fits_iff.1 hf
  refine ⟨by rw [h1]; exact digs_short _ (by omega), ?_, ?_, ?_⟩
  · rw [h1, he, lay, List.append_assoc, List.take_left]
    rw [oddB, List.any_eq_false]
    intro d hd
    have := digs_lt _ d hd
    simp; omega
  · have : (lay n).length = endAt l + 1 := by rw [h1]; simp [lay]
    rw [← this]; conv => lhs; rw [he]
    simp
  · have : (lay n).length = endAt l + 1 := by rw [h1]; simp [lay]
    rw [← this]; conv => lhs; rw [he]
    simp

theorem getInt_iff {l : List UInt8} {p : Nat} (hlt : p < l.length) (hp : endAt l = p) :
    getInt l = if fits (sgn (l.take p) l[p]) = true ∧ lay (sgn (l.take p) l[p]) = l.take (p + 1) then (sgn (l.take p) l[p], l.drop (p + 1), 0) else (0, [], 20) := by
  subst hp
  have hg : getInt l = if good (l.take (endAt l)) l[endAt l] = true then (sgn (l.take (endAt l)) l[endAt l], l.drop (endAt l + 1), 0) else (0, [], 20) := by
    unfold getInt; rw [dif_pos hlt]
  by_cases hgood : good (l.take (endAt l)) l[endAt l] = true
  · rw [if_pos hgood] at hg
    have ⟨h1, h2⟩ := getInt_ok hg
    have h3 := (getInt_ok_facts hg).2.2.1
    rw [hg, if_pos ⟨h1, h3.symm⟩]
  · rw [if_neg hgood] at hg
    rw [hg, if_neg]
    rintro ⟨h1, h2⟩
    have h3 := getInt_lay h1 (l.drop (endAt l + 1))
    rw [h2, List.take_append_drop, hg] at h3
    simp at h3

theorem getInt_form {l : List UInt8} (hlt : endAt l < l.length) (h : 5 < endAt l ∨ oddB (l.take (endAt l)) = true) : getInt l = (0, [], 20) := by
  rcases getInt_err l with ⟨n, r, h1⟩ | h1 | h1
  · have h2 := getInt_ok_facts h1
    rcases h with h | h
    · omega
    · rw [h2.2.1] at h; cases h
  · exact h1
  · unfold getInt at h1
    rw [dif_pos hlt] at h1
    split at h1 <;> simp at h1

theorem val_lt {l : List UInt8} (h : ∀ d ∈ l, d.toNat < 250) : val l < 250 ^ l.length := by
  induction l with
  | nil => simp [val]
  | cons d l ih =>
    have h1 := h d (List.mem_cons_self ..)
    have h2 := ih (fun x hx => h x (List.mem_cons_of_mem _ hx))
    rw [List.length_cons, Nat.pow_succ]
    simp only [val]; omega

theorem val_five {l : List UInt8} (h : ∀ d ∈ l, d.toNat < 250) (hl : l.length ≤ 5) : val l < 976562500000 :=
  Nat.lt_of_lt_of_le (val_lt h) (Nat.le_trans (Nat.pow_le_pow_right (by decide) hl) (by decide))

theorem oddB_not {l : List UInt8} (h : oddB l = false) : ∀ d ∈ l, d.toNat < 250 := by
  intro d hd
  have := List.any_eq_false.1 h d hd
  simp at this; omega

theorem oddB_snoc (l : List UInt8) (d : UInt8) : oddB (l ++ [d]) = (oddB l || decide (250 ≤ d.toNat)) := by simp [oddB]

end Wm
end Go.Proofs.YtlnchfnmpamliaaGreat

namespace Go.Proofs.YtlnchfnmpamliaaGreat
set_option maxRecDepth 10000
open Go.RowKit

/-- What holds ahead of each round of the reference's first loop. -/
def RAtRel (s : ByteArray) (at_ odd : Value) : Prop :=
  ∃ k : Nat, k ≤ s.size ∧ at_ = .int .i64 (k : Int) ∧ odd = .bool (Wm.oddB ((bl s).take k)) ∧ (∀ j (hj : j < (bl s).length), j < k → Wm.isEnd (bl s)[j] = false)

/-- What holds ahead of each round of the reference's second loop. -/
def RValRel (s : ByteArray) (p : Nat) (n i : Value) : Prop :=
  ∃ k : Nat, k ≤ p ∧ i = .int .i64 ((k : Int) - 1) ∧ n = .int .i64 (Wm.val (((bl s).take p).drop k) : Int)

set_option maxRecDepth 100000 in
set_option maxHeartbeats 2000000 in
theorem RGetInt_any (s : ByteArray) (w : World) (hs : s.size ≤ maxLen) :
    Calls Tryz.prog 60 #[.string s] w fun e w' => e = .returned (.tuple #[.int .i64 (Wm.getInt (bl s)).1, .string (strOf (Wm.getInt (bl s)).2.1), .int .i64 (Wm.getInt (bl s)).2.2]) ∧ Below w.heap.size w w' := by
  unfold maxLen at hs
  go_enter Tryz.func60, Tryz.ntmps60
  go_wp2_with fail
  go_loop [5, 6] (fun a o => RAtRel s a o) (fun a _ => s.size - (intOf a).toNat)
  case atStart => exact ⟨0, Nat.zero_le _, rfl, rfl, fun j _ h => absurd h (Nat.not_lt_zero _)⟩
  case round =>
    obtain ⟨k, hk, rfl, rfl, hend⟩ := hrel
    have Hend := Lib.hid hend
    clear hend
    obtain ⟨O, hO⟩ : ∃ O, O = Wm.oddB ((bl s).take k) := ⟨_, rfl⟩
    rw [← hO]
    have HO := Lib.hid hO
    clear hO
    by_cases hlt : k < s.size
    · have hidx : (k : Int) < (s.size : Int) := by omega
      by_cases hc : (s[k].toNat : Int) < 254
      · have Htk : Hid ((bl s).take (k + 1) = (bl s).take k ++ [s[k]]) := Lib.hid (List.take_succ_eq_append_getElem (l := bl s) hlt)
        have H2 := Lib.hid (fun j (hj : j < (bl s).length) (hjk : j < k + 1) => (show Wm.isEnd (bl s)[j] = false by
          by_cases hj2 : j < k
          · exact Hend.out j hj hj2
          · obtain rfl : j = k := by omega
            exact decide_eq_false (by show ¬ 254 ≤ s[j].toNat; omega)))
        cases O with
        | true =>
          go_wp2
          go_round
          case rel => exact ⟨k + 1, by omega, by go_num, by rw [Htk.out, Wm.oddB_snoc, ← HO.out]; rfl, H2.out⟩
          case measure => simp [intOf]; omega
        | false =>
          by_cases h250 : (250 : Int) ≤ (s[k].toNat : Int)
          · have hd : decide ((250 : Int) ≤ (s[k].toNat : Int)) = true := decide_eq_true h250
            go_wp2
            go_round
            case rel => exact ⟨k + 1, by omega, by go_num, by rw [Htk.out, Wm.oddB_snoc, ← HO.out, decide_eq_true (by omega)]; rfl, H2.out⟩
            case measure => simp [intOf]; omega
          · have hd : decide ((250 : Int) ≤ (s[k].toNat : Int)) = false := decide_eq_false h250
            go_wp2
            go_round
            case rel => exact ⟨k + 1, by omega, by go_num, by rw [Htk.out, Wm.oddB_snoc, ← HO.out, decide_eq_false (by omega)]; rfl, H2.out⟩
            case measure => simp [intOf]; omega
      · have hc' : decide ((s[k].toNat : Int) < 254) = false := decide_eq_false hc
        have hp : Wm.endAt (bl s) = k := Wm.endAt_eq (l := bl s) (k := k) hlt (by exact decide_eq_true (by show 254 ≤ s[k].toNat; omega)) (fun j hj => Hend.out j (by have := bl_length s; omega) hj)
        have h3 : ((k : Int) == (s.size : Int)) = false := by rw [beq_eq_false_iff_ne]; omega
        have Hp := Lib.hid hp
        clear hp
        cases O with
        | true =>
          have Hr : Hid (Wm.getInt (bl s) = (0, [], 20)) := Lib.hid (Wm.getInt_form (by rw [Hp.out]; exact hlt) (.inr (by rw [Hp.out]; exact HO.out.symm)))
          go_wp2
          go_ret3
          exact ⟨by rw [Hr.out]; rfl, Below.refl _ _⟩
        | false =>
          by_cases h5 : 5 < k
          · have h5' : decide ((5 : Int) < (k : Int)) = true := decide_eq_true (by omega)
            have Hr : Hid (Wm.getInt (bl s) = (0, [], 20)) := Lib.hid (Wm.getInt_form (by rw [Hp.out]; exact hlt) (.inl (by rw [Hp.out]; exact h5)))
            go_wp2
            go_ret3
            exact ⟨by rw [Hr.out]; rfl, Below.refl _ _⟩
          · have h5' : decide ((5 : Int) < (k : Int)) = false := decide_eq_false (by omega)
            have h5k : k ≤ 5 := by omega
            clear h5
            have hdig := Wm.oddB_not HO.out.symm
            have Hdig := Lib.hid hdig
            clear hdig
            have htl : ((bl s).take k).length = k := by rw [List.length_take, bl_length]; omega
            have Htl := Lib.hid htl
            clear htl
            go_wp2_with fail
            go_loop [7, 8] (fun n i => RValRel s k n i) (fun _ i => (intOf i + 1).toNat)
            case atStart => exact ⟨k, Nat.le_refl _, rfl, by rw [List.drop_eq_nil_of_le (by rw [Htl.out]; omega)]; rfl⟩
            case round =>
              obtain ⟨q, hq, rfl, rfl⟩ := hrel
              have hv5 : Wm.val (((bl s).take k).drop q) < 976562500000 := Wm.val_five (fun d hd => Hdig.out d (List.mem_of_mem_drop hd)) (by rw [List.length_drop, Htl.out]; omega)
              rcases Nat.eq_zero_or_pos q with h0 | h0
              · subst h0
                rw [List.drop_zero] at hv5 ⊢
                rw [show ((0 : Nat) : Int) - 1 = -1 from rfl]
                have hgi := Wm.getInt_iff (l := bl s) (p := k) hlt Hp.out
                rw [bl_get s k hlt] at hgi
                have hext : bl (s.extract 0 (k + 1)) = (bl s).take (k + 1) := bl_extract_to s (k + 1) (by omega)
                obtain ⟨V, hV⟩ : ∃ V, V = Wm.val ((bl s).take k) := ⟨_, rfl⟩
                rw [← hV] at hv5 ⊢
                have hk1 : (k : Int) + 1 ≤ (s.size : Int) := by omega
                have hk2 : k + 1 ≤ s.size := by omega
                by_cases h254 : s[k].toNat = 254
                have hcc : s[k] = 254 := UInt8.toNat_inj.1 (by simpa using h254)
                have heq : ((s[k].toNat : Int) == 254) = true := by rw [beq_iff_eq]; omega
                have hsg : Wm.sgn ((bl s).take k) s[k] = -(V : Int) := by rw [Wm.sgn, if_pos hcc, hV]
                obtain ⟨n, hn⟩ : ∃ n, n = -(V : Int) := ⟨_, rfl⟩
                rotate_left
                have hcc : s[k] ≠ 254 := fun h => h254 (by rw [h]; rfl)
                have heq : ((s[k].toNat : Int) == 254) = false := by rw [beq_eq_false_iff_ne]; omega
                have hsg : Wm.sgn ((bl s).take k) s[k] = (V : Int) := by rw [Wm.sgn, if_neg hcc, hV]
                obtain ⟨n, hn⟩ : ∃ n, n = (V : Int) := ⟨_, rfl⟩
                all_goals
                  rw [hsg, ← hn] at hgi
                  have Hn := Lib.hid hn
                  have Hgi := Lib.hid hgi
                  have Hext := Lib.hid hext
                  have HV := Lib.hid hV
                  clear hn hgi hext hV hsg hcc h254
                  by_cases hok : Wm.fits n = true ∧ Wm.lay n = (bl s).take (k + 1)
                  · have hfit := hok.1
                    have ht : (strOf (Wm.lay n)).toList = (s.extract 0 (k + 1)).toList := by
                      rw [strOf_toList, ByteArray.toList_eq]; exact hok.2.trans Hext.out.symm
                    have Hr : Hid (Wm.getInt (bl s) = (n, (bl s).drop (k + 1), 0)) := Lib.hid (by rw [Hgi.out, if_pos hok])
                    have hb1 := (Wm.fits_iff.1 hfit).1
                    have hb2 := (Wm.fits_iff.1 hfit).2
                    clear hok hfit Hgi
                    go_wp2_with fail
                    rw [← Hn.out]
                    refine (RInt_yes n _ hb1 hb2).mono ?_
                    rintro e w1 ⟨rfl, hB1⟩
                    go_wp2
                    go_quiet (fail)
                    go_wp2
                    go_ret3
                    exact ⟨ret3 (by rw [Hr.out]) (by rw [Hr.out]; exact bl_inj (by rw [bl_extract_from]; rfl)) (by rw [Hr.out]), below_drew hB1 _⟩
                  · have Hr : Hid (Wm.getInt (bl s) = (0, [], 20)) := Lib.hid (by rw [Hgi.out, if_neg hok])
                    by_cases hfit : Wm.fits n = true
                    · have ht : ¬ (strOf (Wm.lay n)).toList = (s.extract 0 (k + 1)).toList := by
                        rw [strOf_toList, ByteArray.toList_eq]
                        intro hh
                        exact hok ⟨hfit, hh.trans Hext.out⟩
                      have ht2 : ((strOf (Wm.lay n)).toList == (s.extract 0 (k + 1)).toList) = false := by rw [beq_eq_false_iff_ne]; exact ht
                      have hb1 := (Wm.fits_iff.1 hfit).1
                      have hb2 := (Wm.fits_iff.1 hfit).2
                      clear hok hfit Hgi
                      go_wp2_with fail
                      rw [← Hn.out]
                      refine (RInt_yes n _ hb1 hb2).mono ?_
                      rintro e w1 ⟨rfl, hB1⟩
                      go_wp2
                      go_ret3
                      exact ⟨by rw [Hr.out]; rfl, hB1⟩
                    · have hb : n < -2147483647 ∨ 2147483647 < n := by
                        by_cases h1 : -2147483647 ≤ n
                        · by_cases h2 : n ≤ 2147483647
                          · exact absurd (Wm.fits_iff.2 ⟨h1, h2⟩) hfit
                          · right; omega
                        · left; omega
                      have Hb := Lib.hid hb
                      clear hok hfit Hgi hb
                      go_wp2_with fail
                      rw [← Hn.out]
                      refine (RInt_no n _ Hb.out).mono ?_
                      rintro e w1 ⟨rfl, hB1⟩
                      go_wp2
                      go_ret3
                      exact ⟨by rw [Hr.out]; rfl, hB1⟩
              · obtain ⟨j, rfl⟩ : ∃ j, q = j + 1 := ⟨q - 1, by omega⟩
                rw [show ((j + 1 : Nat) : Int) - 1 = (j : Int) from by omega]
                have hj : j < s.size := by omega
                have hji : (j : Int) < (s.size : Int) := by omega
                have hd2 := s[j].toNat_lt
                have hvd : Wm.val (((bl s).take k).drop j) = s[j].toNat + 250 * Wm.val (((bl s).take k).drop (j + 1)) := by
                  have h1 : j < ((bl s).take k).length := by rw [Htl.out]; omega
                  rw [val_drop h1, List.getElem_take]; rfl
                have Hvd := Lib.hid hvd
                clear hvd
                obtain ⟨V, hV⟩ : ∃ V, V = Wm.val (((bl s).take k).drop (j + 1)) := ⟨_, rfl⟩
                rw [← hV] at hv5 ⊢
                have HV := Lib.hid hV
                clear hV
                go_wp2
                go_round
                case rel => exact ⟨j, by omega, by go_num, by rw [Hvd.out, ← HV.out]; exact congrArg (Value.int .i64) (by omega)⟩
                case measure => simp [intOf]
    · obtain rfl : k = s.size := by omega
      have Hr : Hid (Wm.getInt (bl s) = (0, [], 22)) := Lib.hid (by
        unfold Wm.getInt; rw [dif_neg (by rw [Wm.endAt_none (fun j hj => Hend.out j hj (by have := bl_length s; omega))]; omega)])
      have hx : decide ((s.size : Int) < (s.size : Int)) = false := decide_eq_false (by omega)
      go_wp2
      go_ret3
      exact ⟨by rw [Hr.out]; rfl, Below.refl _ _⟩

theorem RGetInt_at (s : ByteArray) (n : Int) (r : List UInt8) (c : Int) (w : World) (hs : s.size ≤ maxLen) (h : Wm.getInt (bl s) = (n, r, c)) :
    Calls Tryz.prog 60 #[.string s] w fun e w' => e = .returned (.tuple #[.int .i64 n, .string (strOf r), .int .i64 c]) ∧ Below w.heap.size w w' := by
  have := RGetInt_any s w hs
  rw [h] at this
  exact this

set_option maxHeartbeats 1000000 in
theorem RGetText_any (s : ByteArray) (w : World) (hs : s.size ≤ maxLen) :
    Calls Tryz.prog 70 #[.string s] w fun e w' => e = .returned (.tuple #[.string (strOf (Wm.getText (bl s)).1), .string (strOf (Wm.getText (bl s)).2.1), .int .i64 (Wm.getText (bl s)).2.2]) ∧ Below w.heap.size w w' := by
  have Hs := Lib.hid hs
  have hs2 := hs
  unfold maxLen at hs
  obtain ⟨n, r, c, hg⟩ : ∃ n r c, Wm.getInt (bl s) = (n, r, c) := ⟨_, _, _, rfl⟩
  have hrl := getInt_len hg
  rw [bl_length] at hrl
  have hrs := strOf_size r
  rw [← hrs] at hrl
  have Hg := Lib.hid hg
  have Hrs := Lib.hid hrs
  have Ht : Hid (Wm.getText (bl s) = if c = 0 then (if n < 0 ∨ 3000 < n then ([], [], 20) else if (r.length : Int) < n then ([], [], 22) else (r.take n.toNat, r.drop n.toNat, 0)) else ([], [], c)) := Lib.hid (by unfold Wm.getText; rw [hg])
  clear hg hrs
  by_cases hc : c = 0
  · subst hc
    by_cases hn : n < 0 ∨ 3000 < n
    · have Hr : Hid (Wm.getText (bl s) = ([], [], 20)) := Lib.hid (by rw [Ht.out, if_pos rfl, if_pos hn])
      rcases hn with hn | hn
      · go_enter Tryz.func70, Tryz.ntmps70
        go_wp2_with fail
        refine (RGetInt_at s n r 0 w Hs.out Hg.out).mono ?_
        rintro e w1 ⟨rfl, hB1⟩
        go_wp2
        go_ret3
        exact ⟨by rw [Hr.out]; rfl, hB1⟩
      · have hn' : ¬ n < 0 := by omega
        go_enter Tryz.func70, Tryz.ntmps70
        go_wp2_with fail
        refine (RGetInt_at s n r 0 w Hs.out Hg.out).mono ?_
        rintro e w1 ⟨rfl, hB1⟩
        go_wp2
        go_ret3
        exact ⟨by rw [Hr.out]; rfl, hB1⟩
    · have hn1 : 0 ≤ n := by omega
      have hn2 : n ≤ 3000 := by omega
      obtain ⟨N, rfl⟩ : ∃ N : Nat, n = (N : Int) := ⟨n.toNat, by omega⟩
      by_cases hl : (r.length : Int) < (N : Int)
      · have Hr : Hid (Wm.getText (bl s) = ([], [], 22)) := Lib.hid (by rw [Ht.out, if_pos rfl, if_neg hn, if_pos hl])
        have hl' : (strOf r).size < N := by rw [strOf_size]; omega
        clear hn hl
        go_enter Tryz.func70, Tryz.ntmps70
        go_wp2_with fail
        refine (RGetInt_at s _ r 0 w Hs.out Hg.out).mono ?_
        rintro e w1 ⟨rfl, hB1⟩
        go_wp2
        go_ret3
        exact ⟨by rw [Hr.out]; rfl, hB1⟩
      · have Hr : Hid (Wm.getText (bl s) = (r.take N, r.drop N, 0)) := Lib.hid (by rw [Ht.out, if_pos rfl, if_neg hn, if_neg hl]; simp)
        have hl' : N ≤ (strOf r).size := by rw [strOf_size]; omega
        clear hn hl
        go_enter Tryz.func70, Tryz.ntmps70
        go_wp2_with fail
        refine (RGetInt_at s _ r 0 w Hs.out Hg.out).mono ?_
        rintro e w1 ⟨rfl, hB1⟩
        go_wp2
        go_quiet (fail)
        go_wp2
        go_ret3
        exact ⟨ret3s (by rw [Hr.out]; exact bl_inj (by rw [bl_extract_to _ _ hl']; rfl)) (by rw [Hr.out]; exact bl_inj (by rw [bl_extract_from]; rfl)) (by rw [Hr.out]), below_drew hB1 nq⟩
  · have hc' : (c == 0) = false := by rw [beq_eq_false_iff_ne]; exact hc
    have hc2 : (c != 0) = true := by rw [bne_iff_ne]; exact hc
    have Hr : Hid (Wm.getText (bl s) = ([], [], c)) := Lib.hid (by rw [Ht.out, if_neg hc])
    clear hc
    go_enter Tryz.func70, Tryz.ntmps70
    go_wp2_with fail
    refine (RGetInt_at s n r c w Hs.out Hg.out).mono ?_
    rintro e w1 ⟨rfl, hB1⟩
    go_wp2
    go_ret3
    exact ⟨by rw [Hr.out]; rfl, hB1⟩

end Go.Proofs.YtlnchfnmpamliaaGreat

namespace Go.Proofs.YtlnchfnmpamliaaGreat
set_option maxRecDepth 10000
open Go.RowKit

theorem pow_le16 {k : Nat} (h : (k : Int) < 16) : ((2 ^ (k + 1) : Nat) : Int) ≤ 65536 := by
  have := Nat.pow_le_pow_right (show 0 < 2 by decide) (show k + 1 ≤ 16 by omega)
  have e : (2 : Nat) ^ 16 = 65536 := by decide
  omega
theorem bit_eq {a z : Int} {k : Nat} (h0 : 0 ≤ a) (hz : z = ((2 ^ k : Nat) : Int)) : (a / z).tmod 2 = ((a.toNat / 2 ^ k % 2 : Nat) : Int) := by
  obtain ⟨A, rfl⟩ := Int.eq_ofNat_of_zero_le h0
  subst hz
  rw [← Int.natCast_ediv, Int.toNat_natCast, Int.tmod_eq_emod_of_nonneg (Int.natCast_nonneg _)]
  omega
theorem unlike_lt (a b k : Nat) (h : k < 16) : (a ^^^ b) % 2 ^ (k + 1) < 65536 := by
  have h1 := Nat.mod_lt (a ^^^ b) (Nat.pow_pos (n := k + 1) (show 0 < 2 by decide))
  have := Nat.pow_le_pow_right (show 0 < 2 by decide) (show k + 1 ≤ 16 by omega)
  have e : (2 : Nat) ^ 16 = 65536 := by decide
  omega
theorem ret_intk {k : IntKind} {a b : Int} (h : a = b) : Ending.returned (.int k a) = .returned (.int k b) := by rw [h]

set_option maxRecDepth 10000 in
set_option maxHeartbeats 1000000 in
theorem Unlike_any (a b : Int) (w : World) (h0 : 0 ≤ a) (h1 : a < 65536) (h2 : 0 ≤ b) (h3 : b < 65536) :
    Calls Tryz.prog 91 #[.int .i64 a, .int .i64 b] w fun e w' => e = .returned (.int .i64 ((a.toNat ^^^ b.toNat : Nat) : Int)) ∧ ∃ n, w' = w.drewN n := by
  go_enter Tryz.func91, Tryz.ntmps91
  go_wp2
  go_loopw [5, 6, 7] (fun o y i wr => ∃ (k q : Nat) (z v : Int), (k : Int) ≤ 16 ∧ i = .int .i64 (k : Int) ∧ y = .int .i64 z ∧ o = .int .i64 v ∧ 1 ≤ z ∧ z ≤ 65536 ∧ 0 ≤ v ∧ v < 65536 ∧ Hid (z = ((2 ^ k : Nat) : Int)) ∧ Hid (v = (((a.toNat ^^^ b.toNat) % 2 ^ k : Nat) : Int)) ∧ wr = w.drewN q) (fun _ _ i _ => 16 - (intOf i).toNat)
  case atStart => exact ⟨0, 0, 1, 0, by omega, rfl, rfl, rfl, by omega, by omega, by omega, by omega, Lib.hid rfl, Lib.hid (by simp [Nat.mod_one]), rfl⟩
  case round =>
    obtain ⟨k, q, z, v, hk, rfl, rfl, rfl, hz1, hz2, hv1, hv2, Hz, Hv, rfl⟩ := hrel
    by_cases hlt : (k : Int) < 16
    · have e1 := bit_eq h0 Hz.out
      have e2 := bit_eq h2 Hz.out
      have Hz2 : Hid (2 * z = ((2 ^ (k + 1) : Nat) : Int)) := Lib.hid (by rw [Hz.out, Nat.pow_succ]; omega)
      have hz3 : 2 * z ≤ 65536 := by rw [Hz2.out]; exact pow_le16 hlt
      have hu := unlike_lt a.toNat b.toNat k (by omega)
      have hs := Sm.unlike_succ a.toNat b.toNat k
      by_cases hd : a.toNat / 2 ^ k % 2 = b.toNat / 2 ^ k % 2
      · rw [if_pos hd] at hs
        have hbn : ((a / z).tmod 2 != (b / z).tmod 2) = false := by rw [e1, e2, hd]; simp
        have Hs := Lib.hid hs
        clear hs hu e1 e2 hd
        go_wp2
        go_quiet (fail)
        go_wp2
        go_roundw
        case rel => exact ⟨k + 1, _, 2 * z, v, by omega, by go_num, rfl, rfl, by omega, by omega, by omega, by omega, Hz2, Lib.hid (by rw [Hv.out, Hs.out, Nat.add_zero]), rfl⟩
        case measure => simp [intOf]; omega
      · rw [if_neg hd] at hs
        have hbn : ((a / z).tmod 2 != (b / z).tmod 2) = true := by rw [e1, e2, bne_iff_ne]; omega
        have Hs : Hid (v + z = (((a.toNat ^^^ b.toNat) % 2 ^ (k + 1) : Nat) : Int)) := Lib.hid (by rw [hs, Hv.out, Hz.out]; omega)
        have hv3 : v + z < 65536 := by rw [Hs.out]; omega
        clear hs hu e1 e2 hd
        go_wp2
        go_quiet (fail)
        go_wp2
        go_roundw
        case rel => exact ⟨k + 1, _, 2 * z, v + z, by omega, by go_num, rfl, rfl, by omega, by omega, by omega, by omega, Hz2, Hs, rfl⟩
        case measure => simp [intOf]; omega
    · obtain rfl : k = 16 := by omega
      have Hv2 : Hid (v = ((a.toNat ^^^ b.toNat : Nat) : Int)) := Lib.hid (by
        have hx := Sm.xor_lt (a := a.toNat) (b := b.toNat) (by omega) (by omega)
        rw [Hv.out, Nat.mod_eq_of_lt (by have e : (2 : Nat) ^ 16 = 65536 := by decide
                                         omega)])
      go_wp2
      go_ret
      exact ⟨ret_intk Hv2.out, _, rfl⟩
theorem sh_hiI {x : Int} (h0 : 0 ≤ x) (h : 32768 ≤ x) (h1 : x < 65536) : (((2 * x % 65536).toNat ^^^ (4129 : Int).toNat : Nat) : Int) = (Sm.sh x.toNat : Int) := by
  obtain ⟨c, rfl⟩ := Int.eq_ofNat_of_zero_le h0
  rw [Int.toNat_natCast, Sm.sh, if_pos (by omega)]
  have e : (2 * (c : Int) % 65536).toNat = 2 * c % 65536 := by omega
  rw [e]; rfl
theorem sh_loI {x : Int} (h0 : 0 ≤ x) (h : x < 32768) : 2 * x = (Sm.sh x.toNat : Int) := by
  rw [Sm.sh, if_neg (by omega)]; omega

set_option maxRecDepth 10000 in
set_option maxHeartbeats 1000000 in
theorem rStep_yes (x y : Int) (w : World) (h0 : 0 ≤ x) (hlt : x < 65536) (hy : 0 ≤ y) (hb : y < 256) :
    Calls Tryz.prog 80 #[.int .i64 x, .int .u8 y] w fun e w' => e = .returned (.tuple #[.int .i64 (Sm.st x.toNat y.toNat : Int), .bool true]) ∧ ∃ n, w' = w.drewN n := by
  have Hx : Hid (x.toNat ^^^ (256 * y).toNat = x.toNat ^^^ 256 * y.toNat) := Lib.hid (by rw [show (256 * y).toNat = 256 * y.toNat by omega])
  have Hl : Hid (x.toNat ^^^ 256 * y.toNat < 65536) := Lib.hid (Sm.xor_lt (by omega) (by omega))
  have He : Hid (Sm.it 8 (x.toNat ^^^ 256 * y.toNat) = Sm.st x.toNat y.toNat) := Lib.hid (by unfold Sm.st; rfl)
  obtain ⟨v, hv⟩ : ∃ v : Nat, v = x.toNat ^^^ 256 * y.toNat := ⟨_, rfl⟩
  rw [← hv] at Hx Hl He
  clear hv
  go_enter Tryz.func80, Tryz.ntmps80
  go_wp2_with fail
  refine (Unlike_any x (256 * y) _ h0 hlt (by omega) (by omega)).mono ?_
  rintro e w1 ⟨rfl, q1, rfl⟩
  rw [Hx.out]
  go_wp2
  go_loopw [0, 6] (fun a i wr => ∃ (k q : Nat) (z : Int), (k : Int) ≤ 8 ∧ i = .int .i64 (k : Int) ∧ a = .int .i64 z ∧ 0 ≤ z ∧ z < 65536 ∧ Hid (z = (Sm.it k v : Int)) ∧ wr = w.drewN q) (fun _ i _ => 8 - (intOf i).toNat)
  case atStart => exact ⟨0, _, _, by omega, rfl, rfl, by omega, by have := Hl.out; omega, Lib.hid rfl, rfl⟩
  case round =>
    obtain ⟨k, q, z, hk, rfl, rfl, hz1, hz2, Hz, rfl⟩ := hrel
    by_cases hlt : (k : Int) < 8
    · have Hzn : Hid (z.toNat = Sm.it k v) := Lib.hid (by rw [Hz.out, Int.toNat_natCast])
      by_cases hh : (32768 : Int) ≤ z
      · have Hs := Lib.hid (sh_hiI hz1 hh hz2)
        go_wp2_with fail
        refine (Unlike_any (2 * z % 65536) 4129 _ (by omega) (by omega) (by omega) (by omega)).mono ?_
        rintro e w1 ⟨rfl, q2, rfl⟩
        rw [Hs.out, Hzn.out]
        go_wp2
        go_roundw
        case rel => exact ⟨k + 1, _, _, by omega, by go_num, rfl, by omega, by have := Sm.sh_lt (Sm.it k v); omega, Lib.hid rfl, rfl⟩
        case measure => simp [intOf]; omega
      · have hh' : z < 32768 := by omega
        have Hs := Lib.hid (sh_loI hz1 hh')
        go_wp2
        go_roundw
        case rel => exact ⟨k + 1, _, 2 * z, by omega, by go_num, rfl, by omega, by omega, Lib.hid (by rw [Hs.out, Hzn.out]; rfl), rfl⟩
        case measure => simp [intOf]; omega
    · obtain rfl : k = 8 := by omega
      have Hz2 : Hid (z = (Sm.st x.toNat y.toNat : Int)) := Lib.hid (by rw [Hz.out, He.out])
      go_wp2
      go_ret2
      exact ⟨tup2 Hz2.out rfl, _, rfl⟩

set_option maxRecDepth 10000 in
set_option maxHeartbeats 400000 in
theorem rStep_no (c : Int) (b : Int) (w : World) (h : c < 0 ∨ 65536 ≤ c) :
    Calls Tryz.prog 80 #[.int .i64 c, .int .u8 b] w fun e w' => e = .returned (.tuple #[.int .i64 0, .bool false]) ∧ ∃ n, w' = w.drewN n := by
  rcases h with h | h
  · go_enter Tryz.func80, Tryz.ntmps80
    go_wp2
    go_ret2
    exact ⟨rfl, 0, rfl⟩
  · have h0 : (0 : Int) ≤ c := by omega
    go_enter Tryz.func80, Tryz.ntmps80
    go_wp2
    go_ret2
    exact ⟨rfl, 0, rfl⟩

set_option maxRecDepth 10000 in
set_option maxHeartbeats 1000000 in
theorem rOf_any (s : ByteArray) (w : World) (hs : (s.size : Int) < 1000000000) :
    Calls Tryz.prog 71 #[.string s] w fun e w' => e = .returned (.int .i64 (Sm.ofL (bl s) : Int)) ∧ ∃ n, w' = w.drewN n := by
  go_enter Tryz.func71, Tryz.ntmps71
  go_wp2
  go_loopw [3, 4] (fun a i wr => ∃ (k q : Nat) (z : Int), k ≤ s.size ∧ i = .int .i64 (k : Int) ∧ a = .int .i64 z ∧ 0 ≤ z ∧ z < 65536 ∧ Hid (z = (Sm.ofL ((bl s).take k) : Int)) ∧ wr = w.drewN q) (fun _ i _ => s.size - (intOf i).toNat)
  case atStart => exact ⟨0, 0, _, by omega, rfl, rfl, by omega, by omega, Lib.hid (by rw [List.take_zero]; rfl), rfl⟩
  case round =>
    obtain ⟨k, q, z, hk, rfl, rfl, hz1, hz2, Hz, rfl⟩ := hrel
    by_cases hlt : k < s.size
    · have hb : ((s[k].toNat : Nat) : Int) < 256 := by have := s[k].toNat_lt; omega
      have Hs := Lib.hid (show Sm.st z.toNat ((s[k].toNat : Nat) : Int).toNat = Sm.ofL ((bl s).take (k + 1)) by
        rw [List.take_succ_eq_append_getElem (by rw [bl_length]; exact hlt), Sm.ofL_snoc, Hz.out, Int.toNat_natCast, Int.toNat_natCast]; rfl)
      go_wp2_with fail
      refine (rStep_yes z (s[k].toNat) _ hz1 hz2 (by omega) hb).mono ?_
      rintro e w1 ⟨rfl, q2, rfl⟩
      rw [Hs.out]
      go_wp2
      go_roundw
      case rel => exact ⟨k + 1, _, _, by omega, by go_num, rfl, by omega, by have := Sm.ofL_lt ((bl s).take (k + 1)); omega, Lib.hid rfl, rfl⟩
      case measure => simp [intOf]; omega
    · obtain rfl : k = s.size := by omega
      have Hz2 : Hid (z = (Sm.ofL (bl s) : Int)) := Lib.hid (by rw [Hz.out, List.take_of_length_le (by rw [bl_length]; exact Nat.le_refl _)])
      go_wp2
      go_ret
      exact ⟨ret_intk Hz2.out, _, rfl⟩

end Go.Proofs.YtlnchfnmpamliaaGreat

namespace Go.Proofs.YtlnchfnmpamliaaGreat
set_option maxRecDepth 10000
open Go.RowKit

theorem RText_yes (s : ByteArray) (w : World) (h : s.size ≤ 3000) :
    Calls Tryz.prog 79 #[.string s] w fun e w' => e = .returned (.tuple #[.string (strOf (Fm.textL (bl s))), .int .i64 0]) ∧ Below w.heap.size w w' := by
  have := RText_any s w (by unfold maxLen; omega)
  rw [textS, textE, if_pos h, if_pos h] at this
  exact this
theorem RText_no (s : ByteArray) (w : World) (hs : s.size ≤ maxLen) (h : ¬ s.size ≤ 3000) :
    Calls Tryz.prog 79 #[.string s] w fun e w' => e = .returned (.tuple #[.string (strOf []), .int .i64 2]) ∧ Below w.heap.size w w' := by
  have := RText_any s w hs
  rw [textS, textE, if_neg h, if_neg h] at this
  exact this
theorem RInt_at (n : Int) (w : World) (h : Wm.fits n = true) :
    Calls Tryz.prog 67 #[.int .i64 n] w fun e w' => e = .returned (.tuple #[.string (strOf (Wm.lay n)), .int .i64 0]) ∧ Below w.heap.size w w' := by
  have := RInt_any n w
  rw [intsS_one h, intsE_one h] at this
  exact this

set_option maxHeartbeats 1000000 in
theorem RPut_any (k : Int) (s : ByteArray) (w : World) (hs : s.size ≤ maxLen) :
    Calls Tryz.prog 68 #[.int .i64 k, .string s] w fun x w' => x = .returned (.tuple #[.string (strOf (Fm.putS k (bl s))), .int .i64 (Fm.putE k (bl s))]) ∧ Below w.heap.size w w' := by
  by_cases hk : Fm.kindOk k = true
  · have hk0 : decide (k < 0) = false := decide_eq_false (by have := Fm.kindOk_iff.1 hk; omega)
    have hk1 : decide (99 < k) = false := decide_eq_false (by have := Fm.kindOk_iff.1 hk; omega)
    by_cases hl : s.size ≤ 3000
    · obtain ⟨e1, e2⟩ := Fm.put_yes hk (t := bl s) hl
      rw [e1, e2]
      have Hk := Lib.hid hk
      have Hl := Lib.hid hl
      have Ha : Hid ((strOf (Fm.ahead k (bl s))).size ≤ 4000) := Lib.hid (by rw [strOf_size]; have := ahead_short hk (t := bl s) hl; rw [bl_length] at this; omega)
      have ea : strOf (Wm.lay k) ++ strOf (Fm.textL (bl s)) = strOf (Fm.ahead k (bl s)) := strs_append _ _
      have ef : strOf (Fm.ahead k (bl s)) ++ strOf (Wm.lay (Sm.ofL (Fm.ahead k (bl s)) : Int)) = strOf (Fm.frame k (bl s)) := strs_append _ _
      have hc1 : ¬ 9223372036854775807 < (strOf (Wm.lay k)).size + (strOf (Fm.textL (bl s))).size := by
        rw [strOf_size, strOf_size]; have := lay_short5 hk; have := textL_short (t := bl s) hl; rw [bl_length] at this; omega
      have hc2 : ¬ 9223372036854775807 < (strOf (Fm.ahead k (bl s))).size + (strOf (Wm.lay (Sm.ofL (Fm.ahead k (bl s)) : Int))).size := by
        have := Ha.out; have := lay_short _ (Fm.fits_sum (Fm.ahead k (bl s))); rw [strOf_size (Wm.lay _)]; omega
      clear hk hl
      go_enter Tryz.func68, Tryz.ntmps68
      go_wp2_with fail
      refine (RText_yes s w Hl.out).mono ?_
      rintro x w1 ⟨rfl, hB1⟩
      go_wp2_with fail
      refine (RInt_at k w1 (Fm.fits_kind Hk.out)).mono ?_
      rintro x w2 ⟨rfl, hB2⟩
      go_wp2_with fail
      refine (rOf_any (strOf (Fm.ahead k (bl s))) w2 (by have := Ha.out; omega)).mono ?_
      rintro x w3 ⟨rfl, n3, rfl⟩
      rw [bl_strOf]
      have hB03 := below_drew (below2 hB1 hB2) n3
      obtain ⟨w3, hw3⟩ : ∃ w3, w3 = w2.drewN n3 := ⟨_, rfl⟩
      rw [← hw3] at hB03 ⊢
      clear hw3 hB1 hB2
      go_wp2_with fail
      refine (RInt_at _ w3 (Fm.fits_sum _)).mono ?_
      rintro x w4 ⟨rfl, hB4⟩
      go_wp2
      go_ret2
      exact ⟨rfl, below2 hB03 hB4⟩
    · obtain ⟨e1, e2⟩ := Fm.put_long hk (t := bl s) hl
      rw [e1, e2]
      have Hl := Lib.hid hl
      clear hk hl
      go_enter Tryz.func68, Tryz.ntmps68
      go_wp2_with fail
      refine (RText_no s w hs Hl.out).mono ?_
      rintro x w1 ⟨rfl, hB1⟩
      go_wp2
      go_ret2
      exact ⟨rfl, hB1⟩
  · have hk' : Fm.kindOk k = false := by simpa using hk
    obtain ⟨e1, e2⟩ := Fm.put_kind hk' (t := bl s)
    rw [e1, e2]
    rcases Fm.kindOk_not.1 hk' with hk0 | hk0
    · clear hk hk'
      go_enter Tryz.func68, Tryz.ntmps68
      go_wp2
      go_ret2
      exact ⟨rfl, Below.refl _ _⟩
    · have hk1 : ¬ k < 0 := by omega
      clear hk hk'
      go_enter Tryz.func68, Tryz.ntmps68
      go_wp2
      go_ret2
      exact ⟨rfl, Below.refl _ _⟩

theorem RGetText_at (s : ByteArray) (t r : List UInt8) (c : Int) (w : World) (hs : s.size ≤ maxLen) (h : Wm.getText (bl s) = (t, r, c)) :
    Calls Tryz.prog 70 #[.string s] w fun e w' => e = .returned (.tuple #[.string (strOf t), .string (strOf r), .int .i64 c]) ∧ Below w.heap.size w w' := by
  have := RGetText_any s w hs
  rw [h] at this
  exact this

set_option maxRecDepth 10000 in
set_option maxHeartbeats 1000000 in
theorem RGet_any (s : ByteArray) (w : World) (hs : s.size ≤ big) :
    Calls Tryz.prog 59 #[.string s] w fun x w' => x = got4 (Fm.get (bl s)) ∧ Below w.heap.size w w' := by
  have Hl1 : Hid (s.size ≤ maxLen) := Lib.hid (big_max hs)
  have Hs := Lib.hid hs
  rcases Fm.getInt_cases (bl s) with ⟨k, a, h1⟩ | ⟨e, he, h1⟩
  · have H1 := Lib.hid h1
    have hab : a.length ≤ s.size := by have := getInt_len h1; rwa [bl_length] at this
    have Hl2 : Hid ((strOf a).size ≤ maxLen) := Lib.hid (by rw [strOf_size]; exact Nat.le_trans hab (big_max hs))
    rcases Wm.getText_err a with ⟨t, b, h2⟩ | ⟨e, he, h2⟩
    · have H2 := Lib.hid h2
      have hbb : b.length ≤ s.size := by have := getText_len h2; omega
      have Hl3 : Hid ((strOf b).size ≤ maxLen) := Lib.hid (by rw [strOf_size]; exact Nat.le_trans hbb (big_max hs))
      rcases Fm.getInt_cases b with ⟨c, r, h3⟩ | ⟨e, he, h3⟩
      · have H3 := Lib.hid h3
        have Hb := Lib.hid hbb
        clear h1 h2 h3 hs hab hbb
        go_enter Tryz.func59, Tryz.ntmps59
        go_wp2_with fail
        refine (RGetInt_at s k a 0 w Hl1.out H1.out).mono ?_
        rintro x w1 ⟨rfl, hB1⟩
        go_wp2_with fail
        refine (RGetText_at (strOf a) t b 0 w1 Hl2.out H2.out).mono ?_
        rintro x w2 ⟨rfl, hB2⟩
        go_wp2_with fail
        refine (RGetInt_at (strOf b) c r 0 w2 Hl3.out H3.out).mono ?_
        rintro x w6 ⟨rfl, hB6⟩
        have hB06 := below2 (below2 hB1 hB2) hB6
        clear hB1 hB2 hB6
        by_cases hk : Fm.kindOk k = true
        · have hk0 : decide (k < 0) = false := decide_eq_false (by have := Fm.kindOk_iff.1 hk; omega)
          have hk1 : decide (99 < k) = false := decide_eq_false (by have := Fm.kindOk_iff.1 hk; omega)
          have Hk := Lib.hid hk
          clear hk
          by_cases hc0 : c < 0
          · have Hr := Lib.hid (Fm.get_form H1.out H2.out H3.out (fun hh => by omega))
            go_wp2
            (try simp only [Exit.inBlock, Exit.then]); refine bodyPost_ret (results_tmp4 rfl _ _ _) rfl ?_
            exact ⟨by rw [Hr.out]; rfl, hB06⟩
          · by_cases hc1 : 65535 < c
            · have Hr := Lib.hid (Fm.get_form H1.out H2.out H3.out (fun hh => by omega))
              go_wp2
              (try simp only [Exit.inBlock, Exit.then]); refine bodyPost_ret (results_tmp4 rfl _ _ _) rfl ?_
              exact ⟨by rw [Hr.out]; rfl, hB06⟩
            · have Hc : Hid (0 ≤ c ∧ c ≤ 65535) := Lib.hid ⟨by omega, by omega⟩
              have hd0 : decide (c < 0) = false := decide_eq_false hc0
              have hd1 : decide (65535 < c) = false := decide_eq_false hc1
              clear hc0 hc1
              obtain ⟨d, hd⟩ : ∃ d, s.size = d + (strOf b).size := ⟨s.size - (strOf b).size, by have := Hb.out; rw [strOf_size]; omega⟩
              have hd2 : (s.size : Int) - ((strOf b).size : Int) = (d : Int) := by omega
              have Hd := Lib.hid hd
              have hd3 : d ≤ s.size := by omega
              have hd4 : wrap64 (d : Int) = (d : Int) := wrap_big (Nat.le_trans hd3 Hs.out)
              clear hd
              go_wp2_with fail
              have hx : bl (s.extract 0 d) = (bl s).take ((bl s).length - b.length) := by
                rw [bl_extract_to s d hd3, bl_length]
                have := Hd.out
                rw [strOf_size] at this
                clear hd2 hd4
                rw [show s.size - b.length = d by omega]
              refine (rOf_any (s.extract 0 d) w6 (big_lt (Nat.le_trans (by rw [← bl_length, hx, List.length_take]; rw [bl_length]; clear hd2 hd4; omega) Hs.out))).mono ?_
              rintro x w7 ⟨rfl, n7, rfl⟩
              rw [hx]
              have hB07 := below_drew hB06 n7
              obtain ⟨w7, hw7⟩ : ∃ w7, w7 = w6.drewN n7 := ⟨_, rfl⟩
              rw [← hw7] at hB07 ⊢
              clear hx hd2 hd3 hd4 Hd hw7 hB06
              obtain ⟨v, hv⟩ : ∃ v : Int, v = (Sm.ofL ((bl s).take ((bl s).length - b.length)) : Int) := ⟨_, rfl⟩
              rw [← hv]
              have Hv := Lib.hid hv
              clear hv
              by_cases hcv : c = v
              · subst hcv
                have Hr := Lib.hid (Fm.get_yes H1.out H2.out H3.out ⟨Hk.out, Hc.out⟩ Hv.out)
                go_wp2
                (try simp only [Exit.inBlock, Exit.then]); refine bodyPost_ret (results_tmp4 rfl _ _ _) rfl ?_
                exact ⟨by rw [Hr.out]; rfl, hB07⟩
              · have Hr := Lib.hid (Fm.get_sum H1.out H2.out H3.out ⟨Hk.out, Hc.out⟩ (fun hh => hcv (hh.trans Hv.out.symm)))
                have hcv' : (v != c) = true := by rw [bne_iff_ne]; exact fun hh => hcv hh.symm
                clear hcv
                go_wp2
                (try simp only [Exit.inBlock, Exit.then]); refine bodyPost_ret (results_tmp4 rfl _ _ _) rfl ?_
                exact ⟨by rw [Hr.out]; rfl, hB07⟩
        · have Hr := Lib.hid (Fm.get_form H1.out H2.out H3.out (fun hh => hk hh.1))
          rcases Fm.kindOk_not.1 (show Fm.kindOk k = false by simpa using hk) with hk0 | hk0
          · clear hk
            go_wp2
            (try simp only [Exit.inBlock, Exit.then]); refine bodyPost_ret (results_tmp4 rfl _ _ _) rfl ?_
            exact ⟨by rw [Hr.out]; rfl, hB06⟩
          · have hk1 : ¬ k < 0 := by omega
            clear hk
            go_wp2
            (try simp only [Exit.inBlock, Exit.then]); refine bodyPost_ret (results_tmp4 rfl _ _ _) rfl ?_
            exact ⟨by rw [Hr.out]; rfl, hB06⟩
      · have H3 := Lib.hid h3
        have Hr := Lib.hid (Fm.get_e3 h1 h2 h3 he)
        have he' : (e != 0) = true := by rw [bne_iff_ne]; exact he
        clear h1 h2 h3 hs hab hbb he
        go_enter Tryz.func59, Tryz.ntmps59
        go_wp2_with fail
        refine (RGetInt_at s k a 0 w Hl1.out H1.out).mono ?_
        rintro x w1 ⟨rfl, hB1⟩
        go_wp2_with fail
        refine (RGetText_at (strOf a) t b 0 w1 Hl2.out H2.out).mono ?_
        rintro x w2 ⟨rfl, hB2⟩
        go_wp2_with fail
        refine (RGetInt_at (strOf b) 0 [] e w2 Hl3.out H3.out).mono ?_
        rintro x w6 ⟨rfl, hB6⟩
        go_wp2
        (try simp only [Exit.inBlock, Exit.then]); refine bodyPost_ret (results_tmp4 rfl _ _ _) rfl ?_
        exact ⟨by rw [Hr.out]; rfl, below2 (below2 hB1 hB2) hB6⟩
    · have H2 := Lib.hid h2
      have Hr := Lib.hid (Fm.get_e2 h1 h2 he)
      have he' : (e != 0) = true := by rw [bne_iff_ne]; exact he
      clear h1 h2 hs hab he
      go_enter Tryz.func59, Tryz.ntmps59
      go_wp2_with fail
      refine (RGetInt_at s k a 0 w Hl1.out H1.out).mono ?_
      rintro x w1 ⟨rfl, hB1⟩
      go_wp2_with fail
      refine (RGetText_at (strOf a) [] [] e w1 Hl2.out H2.out).mono ?_
      rintro x w2 ⟨rfl, hB2⟩
      go_wp2
      (try simp only [Exit.inBlock, Exit.then]); refine bodyPost_ret (results_tmp4 rfl _ _ _) rfl ?_
      exact ⟨by rw [Hr.out]; rfl, below2 hB1 hB2⟩
  · have H1 := Lib.hid h1
    have Hr := Lib.hid (Fm.get_e1 h1 he)
    have he' : (e != 0) = true := by rw [bne_iff_ne]; exact he
    clear h1 hs he
    go_enter Tryz.func59, Tryz.ntmps59
    go_wp2_with fail
    refine (RGetInt_at s 0 [] e w Hl1.out H1.out).mono ?_
    rintro x w1 ⟨rfl, hB1⟩
    go_wp2
    (try simp only [Exit.inBlock, Exit.then]); refine bodyPost_ret (results_tmp4 rfl _ _ _) rfl ?_
    exact ⟨by rw [Hr.out]; rfl, hB1⟩

end Go.Proofs.YtlnchfnmpamliaaGreat

namespace Go.Proofs.YtlnchfnmpamliaaGreat
set_option maxRecDepth 10000
open Go.RowKit

set_option maxHeartbeats 1000000 in
theorem RRPut_any (n : Int) (s : ByteArray) (hs : s.size ≤ 1000000) (w : World) :
    Calls Tryz.prog 54 #[.int .i64 n, .string s] w fun e w' => e = .returned (.tuple #[.string (strOf (Rc.putS n (bl s))), .int .i64 (Rc.putE n (bl s))]) ∧ Below w.heap.size w w' := by
  by_cases h0 : n < 0
  · have e1 : Rc.nOk n = false := by unfold Rc.nOk; rw [decide_eq_false_iff_not]; omega
    have e2 : Rc.putE n (bl s) = 1 := by unfold Rc.putE; rw [e1]; rfl
    rw [Rc.putS_no (by rw [e2]; decide), e2]
    clear e1 e2
    go_enter Tryz.func54, Tryz.ntmps54
    go_wp2
    go_ret2
    exact ⟨rfl, Below.refl _ _⟩
  by_cases h1 : 1000000000 < n
  · have e1 : Rc.nOk n = false := by unfold Rc.nOk; rw [decide_eq_false_iff_not]; omega
    have e2 : Rc.putE n (bl s) = 1 := by unfold Rc.putE; rw [e1]; rfl
    rw [Rc.putS_no (by rw [e2]; decide), e2]
    clear e1 e2
    go_enter Tryz.func54, Tryz.ntmps54
    go_wp2
    go_ret2
    exact ⟨rfl, Below.refl _ _⟩
  have hn : Rc.nOk n = true := Rc.nOk_iff.2 (by omega)
  by_cases h2 : (1000 : Int) < (s.size : Int)
  · have e2 : Rc.putE n (bl s) = 2 := by unfold Rc.putE; rw [if_pos hn, if_neg (by rw [bl_length]; omega)]
    rw [Rc.putS_no (by rw [e2]; decide), e2]
    clear e2 hn
    go_enter Tryz.func54, Tryz.ntmps54
    go_wp2
    go_ret2
    exact ⟨rfl, Below.refl _ _⟩
  · have hp : Rc.putE n (bl s) = 0 := Rc.putE_zero.2 ⟨hn, by rw [bl_length]; omega⟩
    rw [Rc.putS_yes hp, hp]
    have hls := Rc.lay_short hn
    have p1 := fun W => RInt_at n W (Rc.fits_n hn)
    have hb : (Wm.lay n ++ bl s).length ≤ 3000 := Rc.body_short hn (by rw [bl_length]; omega)
    obtain ⟨t, ht⟩ : ∃ t, t = strOf (Wm.lay n) := ⟨_, rfl⟩
    have hts : t.size ≤ 5 := by rw [ht, strOf_size]; exact hls
    have p2 := fun W => RPut_any 1 (t ++ s) W (by rw [ByteArray.size_append]; unfold maxLen; omega)
    have eb : bl (t ++ s) = Wm.lay n ++ bl s := by rw [bl_append, ht, bl_strOf]
    have e3 := Fm.put_yes Rc.kind1 hb
    rw [eb, e3.1, e3.2] at p2
    rw [← ht] at p1
    have hcat : ¬ 9223372036854775807 < t.size + s.size := by omega
    have j0 := eq_false h0
    have j1 := eq_false h1
    have j2 := eq_false h2
    clear h0 h1 h2 hn hp hls hb ht hts eb e3 hs
    show Calls Tryz.prog 54 #[.int .i64 n, .string s] w fun e w' => e = .returned (.tuple #[.string (strOf (Fm.frame 1 (Wm.lay n ++ bl s))), .int .i64 0]) ∧ Below w.heap.size w w'
    go_enter Tryz.func54, Tryz.ntmps54
    go_wp2_with fail
    refine (p1 _).mono ?_
    rintro e w1 ⟨rfl, hB⟩
    have Hb := Lib.hid hB
    clear hB p1
    go_wp2_with fail
    refine (p2 _).mono ?_
    rintro e w2 ⟨rfl, hB⟩
    have Hb2 := Lib.hid (below2 Hb.out hB)
    clear hB p2 hcat
    go_wp2
    go_ret2
    exact ⟨rfl, Hb2.out⟩
end Go.Proofs.YtlnchfnmpamliaaGreat

namespace Go.Proofs.YtlnchfnmpamliaaGreat
set_option maxRecDepth 10000
open Go.RowKit

/-- How long a text is. -/
def lenV : Value → Nat
  | .string b => b.size
  | _ => 0

/-- What holds ahead of each round of the reference's All: ts was told, of n bytes, cur is left. -/
def RAllRel (w : World) (s : ByteArray) (v left : Value) (wr : World) : Prop :=
  ∃ (n : Nat) (ts : List (List UInt8)) (cur : ByteArray), n + cur.size = s.size ∧ left = .string cur ∧ ts.length ≤ n ∧ Fm.all (bl s) = Fm.allGlue ts n (Fm.all (bl cur)) ∧
    wr.ownsRow w.heap.size 9 1 v ts.length (ts.map strV) ∧ Below w.heap.size w wr

/-- What holds ahead of each round of the reference's GetRow: ts was read, cur is left. -/
def RTextsRel (w : World) (a : List UInt8) (M : Nat) (left v i : Value) (wr : World) : Prop :=
  ∃ (k : Nat) (ts : List (List UInt8)) (cur : ByteArray), k ≤ M ∧ i = .int .i64 (k : Int) ∧ left = .string cur ∧ ts.length = k ∧ cur.size ≤ maxLen ∧ Fm.getTs M a = Fm.glueT ts (Fm.getTs (M - k) (bl cur)) ∧
    wr.ownsRow w.heap.size 9 1 v k (ts.map strV) ∧ Below w.heap.size w wr

end Go.Proofs.YtlnchfnmpamliaaGreat
