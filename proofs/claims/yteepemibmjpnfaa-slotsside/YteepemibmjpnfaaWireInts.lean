/-
  Layer 1 (wire): what Ints, Int and Text do: the bytes that they hand back.
-/
import Derived.Test.YteepemibmjpnfaaWireLay
import Derived.Test.YteepemibmjpnfaaAid
import Derived.WalkKit
import Derived.WalkSpells
import Derived.WalkLawsBesides
import Derived.Laws.IdiomStrings
import Derived.Laws.BytesArg
import Derived.Handy
namespace Go.Proofs.Yteepemibmjpnfaa
set_option maxRecDepth 10000
open Go.RowKit

/-- string(b) of a row of bytes of one's own. -/
theorem run_conv_own {P : Program} {w : World} {base : Nat} {e : TypeId} {v : Value} {bs : List UInt8} (src dst : TypeId) (hs : P.underlying src = some (.slice e)) (he : P.underlying e = some (.int .u8)) (hd : P.underlying dst = some .string)
    (h : w.ownsRow base e 1 v bs.length (bs.map byteV)) : (convert src dst v).run P w = .ok (.string (strOf bs)) w := by
  rcases h.2 with ⟨rfl, hz⟩ | ⟨g, cap, cur, rfl, _, hg, _⟩
  · obtain rfl : bs = [] := List.eq_nil_of_length_eq_zero hz
    rw [run_convert_bytes_nil w src e hs he 0 0 dst hd]
    rfl
  · have hc := h.cells (g := g) rfl
    have := run_convert_bytes_back (P := P) w src dst e ⟨g, 0, none⟩ cap bs hs he hd (fun j hj => hc j _ (by simp [List.getElem?_eq_getElem hj, byteV]))
    exact this

/-- lay, as a plain call. -/
theorem lay_calls (x : Int) (hx1 : -2147483647 ≤ x) (hx2 : x ≤ 2147483647) (n₀ : Nat) (v : Value) (bs : List UInt8) (w : World) (hn₀ : n₀ ≤ w.heap.size) (hk : bs.length + 10 ≤ 1000000000) (hown : w.ownsRow n₀ 5 1 v bs.length (bs.map byteV)) :
    Calls Try.prog 72 #[v, .int .i64 x] w fun e W' => ∃ v', e = .returned v' ∧ W'.ownsRow n₀ 5 1 v' (bs ++ Wm.lay x).length ((bs ++ Wm.lay x).map byteV) ∧ Below n₀ w W' :=
  callsIn_wide.1 (lay_in Fence.wide 5 trivial trivial trivial rfl (by omega) x hx1 hx2 n₀ v bs w hn₀ hk hown)

theorem lays_snoc (l : List Int) (x : Int) : Wm.lays (l ++ [x]) = Wm.lays l ++ Wm.lay x := by simp [Wm.lays]

theorem lay_short (x : Int) (h : Wm.fits x = true) : (Wm.lay x).length ≤ 6 := by
  have h := Wm.fits_iff.1 h
  have := digs_short x.natAbs (by omega)
  simp [Wm.lay]; omega

theorem lays_short (l : List Int) (h : l.all Wm.fits = true) : (Wm.lays l).length ≤ 6 * l.length := by
  induction l with
  | nil => simp [Wm.lays]
  | cons x l ih =>
    simp at h
    have h1 := lay_short x h.1
    have h2 := ih (by simpa using h.2)
    simp [Wm.lays] at h2 ⊢; omega

/-- What holds ahead of each round of Ints. -/
def IntsRel (w : World) (zs : List Int) (out i : Value) (wr : World) : Prop :=
  ∃ k : Nat, k ≤ zs.length ∧ i = .int .i64 (k : Int) ∧ (zs.take k).all Wm.fits = true ∧ wr.ownsRow w.heap.size 5 1 out (Wm.lays (zs.take k)).length ((Wm.lays (zs.take k)).map byteV) ∧ Below w.heap.size w wr

/-- What Ints hands back: the bytes, the error. -/
def intsS (zs : List Int) : ByteArray := if zs.all Wm.fits = true then strOf (Wm.lays zs) else strOf []
def intsE (zs : List Int) : Int := if zs.all Wm.fits = true then 0 else 1
theorem ret2 {a b : ByteArray} {n m : Int} (h : a = b) (h' : n = m) : Ending.returned (.tuple #[.string a, .int .i64 n]) = .returned (.tuple #[.string b, .int .i64 m]) := by rw [h, h']

set_option maxRecDepth 100000 in
set_option maxHeartbeats 1000000 in
theorem Ints_any (A : Option Addr) (cap : Nat) (zs : List Int) (w : World) (hA : IntsAt w w.heap.size A zs) (hl : zs.length ≤ 100000000) :
    Calls Try.prog 58 #[.slice A zs.length cap] w fun e w' => e = .returned (.tuple #[.string (intsS zs), .int .i64 (intsE zs)]) ∧ Below w.heap.size w w' := by
  go_enter Try.func58, Try.ntmps58
  go_wp2
  go_loopw [4, 9] (fun out i wr => IntsRel w zs out i wr) (fun _ i _ => zs.length - (intOf i).toNat)
  case atStart => exact ⟨0, Nat.zero_le _, rfl, by simp, by simpa [Wm.lays] using World.ownsRow_nil _ _ _ _, Below.refl _ _⟩
  case round =>
    obtain ⟨k, hk, rfl, hall, hown, hB⟩ := hrel
    by_cases hlt : k < zs.length
    · obtain ⟨b, off, rfl, hb, hc⟩ := (hA.below hB (Nat.le_refl _)) k hlt
      obtain ⟨x, hx⟩ : ∃ x, x = zs[k] := ⟨_, rfl⟩
      rw [← hx] at hc
      have Hx := Lib.hid hx
      clear hx
      have Hall := Lib.hid hall
      clear hall
      by_cases hf : -2147483647 ≤ x ∧ x ≤ 2147483647
      · obtain ⟨hf1, hf2⟩ := hf
        have hsh := lays_short (zs.take k) Hall.out
        have htl : (zs.take k).length ≤ k := List.length_take_le _ _
        go_wp2_with fail
        refine (lay_calls x hf1 hf2 w.heap.size _ (Wm.lays (zs.take k)) _ hB.size (by omega) hown).mono ?_
        rintro e w1 ⟨v1, rfl, hown1, hB1⟩
        go_wp2
        go_roundw
        case rel =>
          have ht : zs.take (k + 1) = zs.take k ++ [x] := by rw [List.take_succ_eq_append_getElem hlt, ← Hx.out]
          exact ⟨k + 1, by omega, by go_num, by rw [ht, List.all_append, Hall.out]; simp [Wm.fits_iff, hf1, hf2], by rw [ht, lays_snoc]; exact hown1, hB.trans hB1⟩
        case measure => simp [intOf]; omega
      · have hnf : zs.all Wm.fits = false := by
          rw [Bool.eq_false_iff]
          intro hh
          have h1 := List.all_eq_true.1 hh x (by rw [Hx.out]; exact List.getElem_mem hlt)
          exact hf (Wm.fits_iff.1 h1)
        have Hnf := Lib.hid hnf
        clear hnf
        have hf' : x < -2147483647 ∨ 2147483647 < x := by omega
        clear hf
        rcases hf' with hf | hf
        · go_wp2
          go_ret2
          exact ⟨ret2 (by rw [intsS, Hnf.out]; rfl) (by rw [intsE, Hnf.out]; rfl), hB⟩
        · have hf2 : ¬ x < -2147483647 := by omega
          go_wp2
          go_ret2
          exact ⟨ret2 (by rw [intsS, Hnf.out]; rfl) (by rw [intsE, Hnf.out]; rfl), hB⟩
    · obtain rfl : k = zs.length := by omega
      rw [List.take_length] at hall hown
      have hconv := run_conv_own (P := Try.prog) 93 9 Try.underlying93 Try.underlying5 Try.underlying9 hown
      have Hall := Lib.hid hall
      clear hall
      go_wp2
      go_ret2
      exact ⟨ret2 (by rw [intsS, if_pos Hall.out]) (by rw [intsE, if_pos Hall.out]), hB⟩

set_option maxHeartbeats 400000 in
theorem Int_any (x : Int) (w : World) :
    Calls Try.prog 45 #[.int .i64 x] w fun e w' => e = .returned (.tuple #[.string (intsS [x]), .int .i64 (intsE [x])]) ∧ Below w.heap.size w w' := by
  go_enter Try.func45, Try.ntmps45
  go_wp2_with fail
  refine (Ints_any _ 1 [x] _ (IntsAt.one w x _) (by simp)).mono ?_
  rintro e w1 ⟨rfl, hB⟩
  go_wp2
  go_ret2
  exact ⟨rfl, ((Below.refl _ w).alloc (Nat.le_refl _) _).trans (hB.mono (by simp))⟩

/-- What Text hands back. -/
def textS (s : ByteArray) : ByteArray := if s.size ≤ 3000 then strOf (Wm.lay s.size ++ bl s) else strOf []
def textE (s : ByteArray) : Int := if s.size ≤ 3000 then 0 else 2

theorem intsS_one {x : Int} (h : Wm.fits x = true) : intsS [x] = strOf (Wm.lay x) := by simp [intsS, h, Wm.lays]
theorem intsE_one {x : Int} (h : Wm.fits x = true) : intsE [x] = 0 := by simp [intsE, h]

set_option maxHeartbeats 400000 in
theorem Text_any (s : ByteArray) (w : World) (hs : s.size ≤ maxLen) :
    Calls Try.prog 60 #[.string s] w fun e w' => e = .returned (.tuple #[.string (textS s), .int .i64 (textE s)]) ∧ Below w.heap.size w w' := by
  unfold maxLen at hs
  by_cases h : s.size ≤ 3000
  · have hfit : Wm.fits (s.size : Int) = true := Wm.fits_iff.2 (by omega)
    have H1 := Lib.hid (intsS_one hfit)
    have H2 := Lib.hid (intsE_one hfit)
    have hcat : ¬ 9223372036854775807 < (strOf (Wm.lay (s.size : Int))).size + s.size := by
      rw [strOf_size]; have := lay_short _ hfit; omega
    clear hfit
    go_enter Try.func60, Try.ntmps60
    go_wp2_with fail
    refine (Ints_any _ 1 [(s.size : Int)] _ (IntsAt.one w _ _) (by simp)).mono ?_
    rintro e w1 ⟨rfl, hB⟩
    rw [H1.out, H2.out]
    go_wp2
    go_ret2
    exact ⟨ret2 (by rw [textS, if_pos h]; exact strOf_append _ _) (by rw [textE, if_pos h]), ((Below.refl _ w).alloc (Nat.le_refl _) _).trans (hB.mono (by simp))⟩
  · go_enter Try.func60, Try.ntmps60
    go_wp2
    go_ret2
    exact ⟨ret2 (by rw [textS, if_neg h]; rfl) (by rw [textE, if_neg h]), Below.refl _ _⟩

end Go.Proofs.Yteepemibmjpnfaa
