/-
  Layer 13 (record): what the laws ask of record's functions, and of file's that they call. E is what they ask of the world (or nothing).
  Layer 13 (record): the law's far.
  A load of a whole block along a walk, under a guard.
  Layer 13 (record): loads under a guard; two files that are the same.
-/
import Derived.Test.YtfapfnbehhekhaaChecked
import Derived.Test.YtfapfnbehhekhaaXJa
import Derived.Test.YtfapfnbehhekhaaXJb
import Derived.BigQuiet
import Derived.Deep.QuietTactic
namespace Go.Proofs.Ytfapfnbehhekhaa
set_option maxRecDepth 10000
open Go.RowKit

/-- Of file. -/
structure FilR (E : World → Prop) : Prop where
  new : ∀ (n : Int) (w : World) (_hE : E w), Calls Try.prog 22 #[.int .i64 n] w fun e w' => e = .returned (.tuple #[.agg (filV (Fi.new n)), .int .i64 (Fi.newE n)]) ∧ Below w.heap.size w w'
  is : ∀ (f : Fil) (w : World) (_hE : E w) (_hs : Fi.small f), Calls Try.prog 26 #[.agg (filV f)] w fun e w' => e = .returned (.bool (Fi.is f)) ∧ Below w.heap.size w w'
  read : ∀ (f : Fil) (w : World) (_hE : E w) (_hs : Fi.small f), Calls Try.prog 23 #[.agg (filV f)] w fun e w' => e = .returned (.string (Fi.read f)) ∧ Below w.heap.size w w'
  sync : ∀ (f : Fil) (w : World) (_hE : E w) (_hs : Fi.small f), Calls Try.prog 24 #[.agg (filV f)] w fun e w' => e = .returned (.tuple #[.agg (filV (Fi.sync f)), .int .i64 (Fi.badE f)]) ∧ Below w.heap.size w w'
  crash : ∀ (f : Fil) (n : Int) (w : World) (_hE : E w) (_hs : Fi.small f), Calls Try.prog 25 #[.agg (filV f), .int .i64 n] w fun e w' => e = .returned (.tuple #[.agg (filV (Fi.crash f n)), .int .i64 (Fi.badE f)]) ∧ Below w.heap.size w w'
/-- Of record. -/
structure RecK (E : World → Prop) : Prop where
  mono : ∀ (w w' : World), E w → Below w.heap.size w w' → E w'
  put : ∀ (n : Int) (s : ByteArray) (w : World) (_hE : E w) (_hs : s.size ≤ 18000), Calls Try.prog 10 #[.int .i64 n, .string s] w fun e w' => e = .returned (.tuple #[.string (strOf (Rc.putS n (bl s))), .int .i64 (Rc.putE n (bl s))]) ∧ Below w.heap.size w w'
  scan : ∀ (s : ByteArray) (n : Int) (w : World) (_hE : E w) (_hs : s.size ≤ 18000), Calls Try.prog 12 #[.string s, .int .i64 n] w fun e w' => ∃ A c, e = .returned (.tuple #[.slice A (Rc.scan (bl s) n).1.length c, .int .i64 ((Rc.scan (bl s) n).2 : Nat)]) ∧ StrsAt w' w'.heap.size A ((Rc.scan (bl s) n).1.map strOf) ∧ (Rc.scan (bl s) n).1.length ≤ c ∧ Below w.heap.size w w'
  add : ∀ (f : Fil) (n : Int) (A : Option Addr) (l c : Nat) (ss : List ByteArray) (w : World) (_hE : E w) (_hs : Fi.small f) (_hA : StrsAt w w.heap.size A ss) (_hl : l = ss.length) (_hl2 : l ≤ 1000) (_hc : l ≤ c) (_hz : ∀ s ∈ ss, s.size ≤ 9000), Calls Try.prog 14 #[.agg (filV f), .int .i64 n, .slice A l c] w fun e w' => e = .returned (.tuple #[.agg (filV (Rc.add f n ss)), .int .i64 (Rc.addE f n ss)]) ∧ Below w.heap.size w w'
  read : ∀ (f : Fil) (n : Int) (w : World) (_hE : E w) (_hs : Fi.small f), Calls Try.prog 16 #[.agg (filV f), .int .i64 n] w fun e w' => ∃ A c, e = .returned (.tuple #[.slice A (Rc.texts f n).length c, .int .i64 (Fi.badE f)]) ∧ StrsAt w' w'.heap.size A (Rc.texts f n) ∧ (Rc.texts f n).length ≤ c ∧ Below w.heap.size w w'
  mend : ∀ (f : Fil) (n : Int) (w : World) (_hE : E w) (_hs : Fi.small f), Calls Try.prog 18 #[.agg (filV f), .int .i64 n] w fun e w' => e = .returned (.tuple #[.agg (filV (Rc.mend f n)), .int .i64 ((Rc.texts f n).length : Nat), .int .i64 (Fi.badE f)]) ∧ Below w.heap.size w w'
/-- The document's rows. -/
def RecordedK (E : World → Prop) : Prop := ∀ (w : World) (_hE : E w), Calls Try.prog 20 #[] w fun e w' => e = .returned (.bool true) ∧ Below w.heap.size w w'
/-- Texts that stay where they are, as a fact. -/
def strsF13 (A : Option Addr) (B : Nat) (ss : List ByteArray) : Fact := ⟨fun W => StrsAt W B A ss ∧ B ≤ W.heap.size, fun _ _ h hB => ⟨h.1.below hB h.2, Nat.le_trans h.2 hB.size⟩⟩
/-- What is asked of the world, as a fact. -/
def eRc {E : World → Prop} (HS : Hid (RecK E)) : Fact := ⟨E, fun w w' h hb => HS.out.mono w w' h hb⟩
end Go.Proofs.Ytfapfnbehhekhaa

namespace Go.Proofs.Ytfapfnbehhekhaa
set_option maxRecDepth 10000
open Go.RowKit

def longB (s : ByteArray) : Bool := (decide (200 < s.size) && decide (s.size ≤ 1000)) || decide (1100 < s.size)
def farB (k l : ByteArray) (ss : List ByteArray) : Bool := ss.any longB || decide (2000 < k.size ∨ 2000 < l.size) || decide (30 < ss.length)
theorem farB_long {k l : ByteArray} {ss : List ByteArray} {s : ByteArray} (h : s ∈ ss) (h2 : longB s = true) : farB k l ss = true := by
  unfold farB; rw [List.any_eq_true.2 ⟨s, h, h2⟩]; rfl
theorem farB_rest {k l : ByteArray} {ss : List ByteArray} (h : ∀ s ∈ ss, longB s = false) : farB k l ss = (decide (2000 < k.size ∨ 2000 < l.size) || decide (30 < ss.length)) := by
  unfold farB
  have : ss.any longB = false := by
    rw [List.any_eq_false]; intro s hs; rw [h s hs]; simp
  rw [this, Bool.false_or]
theorem farB_no {k l : ByteArray} {ss : List ByteArray} (h : farB k l ss = false) : (k.size ≤ 2000 ∧ l.size ≤ 2000) ∧ ss.length ≤ 30 ∧ ∀ s ∈ ss, s.size ≤ 1100 ∧ (s.size ≤ 1000 → s.size ≤ 200) := by
  unfold farB at h
  rw [Bool.or_eq_false_iff, Bool.or_eq_false_iff] at h
  obtain ⟨⟨h1, h2⟩, h3⟩ := h
  have h2 := of_decide_eq_false h2
  have h3 := of_decide_eq_false h3
  refine ⟨by omega, by omega, fun s hs => ?_⟩
  have h4 := List.any_eq_false.1 h1 s hs
  unfold longB at h4
  simp at h4
  omega

set_option maxHeartbeats 1000000 in
theorem far13_any (m : Int) (k l : ByteArray) (A : Option Addr) (cap : Nat) (ss : List ByteArray) (w : World) (hA : StrsAt w w.heap.size A ss) (hl : ss.length ≤ maxLen) (hsz : ∀ s ∈ ss, s.size ≤ maxLen) :
    Calls Try.prog 8 #[.agg #[.int .i64 m, .string k, .string l], .slice A ss.length cap] w fun e w' => e = .returned (.bool (farB k l ss)) ∧ Below w.heap.size w w' := by
  unfold maxLen at hl
  have p1 := fun W => FRBig_any m k l W
  have Hsz := Lib.hid hsz
  have HA := Lib.hid hA
  have hF0 := FilAt.new w m k l 23
  have Hb0 := Lib.hid (below_new w (.cells #[.int .i64 m, .string k, .string l] 23))
  have HG := Lib.hid hF0
  clear hsz hA hF0
  go_enter Try.func8, Try.ntmps8
  go_wp2_with fail
  go_loopw [5] (fun i wr => ∃ j : Nat, j ≤ ss.length ∧ i = .int .i64 (j : Int) ∧ Hid (∀ s ∈ ss.take j, longB s = false) ∧ Hid (Below (w.heap.size + 1) (w.alloc (.cells #[.int .i64 m, .string k, .string l] 23)) wr)) (fun i _ => ss.length - (intOf i).toNat)
  case atStart => exact ⟨0, Nat.zero_le _, rfl, Lib.hid (by simp), Lib.hid (Below.refl _ _)⟩
  case round =>
    obtain ⟨j, hj, rfl, HL, HB⟩ := hrel
    have HB1 : Hid (Below w.heap.size w wr) := Lib.hid (below2 Hb0.out (by have := HB.out; simpa using this))
    by_cases hlt : j < ss.length
    · obtain ⟨b, off, rfl, hb, hc⟩ := HA.out j hlt
      have hc' := (HB1.out.cell (p := ⟨b, off + j, none⟩) hb).trans hc
      have hz := Hsz.out ss[j] (List.getElem_mem hlt)
      unfold maxLen at hz
      obtain ⟨x, hx⟩ : ∃ x, x = ss[j] := ⟨_, rfl⟩
      rw [← hx] at hc' hz
      have Hx := Lib.hid hx
      have Hxm : Hid (x ∈ ss) := Lib.hid (by rw [hx]; exact List.getElem_mem hlt)
      clear hx hc hb
      by_cases hlong : longB x = true
      · have Hno := Lib.hid (farB_long (k := k) (l := l) Hxm.out hlong)
        unfold longB at hlong
        by_cases h1 : 1100 < x.size
        · have i1 : ((200 : Int) < (x.size : Int)) = True := eq_true (by omega)
          have i2 : ((x.size : Int) ≤ 1000) = False := eq_false (by omega)
          have i3 : ((1100 : Int) < (x.size : Int)) = True := eq_true (by omega)
          clear hlong h1
          go_wp2
          go_ret
          exact ⟨retb Hno.out.symm, HB1.out⟩
        · have i1 : ((200 : Int) < (x.size : Int)) = True := eq_true (by simp at hlong; omega)
          have i2 : ((x.size : Int) ≤ 1000) = True := eq_true (by simp at hlong; omega)
          clear hlong h1
          go_wp2
          go_ret
          exact ⟨retb Hno.out.symm, HB1.out⟩
      · have hl2 : longB x = false := by simpa using hlong
        have Hl2 := Lib.hid hl2
        have h1 : ((1100 : Int) < (x.size : Int)) = False := eq_false (by unfold longB at hl2; simp at hl2; omega)
        by_cases h2 : 200 < x.size
        · have i2 : ((x.size : Int) ≤ 1000) = False := eq_false (by unfold longB at hl2; simp at hl2; omega)
          have i1 : ((200 : Int) < (x.size : Int)) = True := eq_true (by omega)
          clear hlong hl2 h2
          go_wp2
          go_roundw
          case rel =>
            refine ⟨j + 1, by omega, by go_num, Lib.hid ?_, HB⟩
            rw [List.take_succ_eq_append_getElem hlt, ← Hx.out]
            intro s hs
            rcases List.mem_append.1 hs with h | h
            · exact HL.out s h
            · obtain rfl : s = x := by simpa using h
              exact Hl2.out
          case measure => simp [intOf]; omega
        · have i1 : ((200 : Int) < (x.size : Int)) = False := eq_false (by omega)
          clear hlong hl2 h2
          go_wp2
          go_roundw
          case rel =>
            refine ⟨j + 1, by omega, by go_num, Lib.hid ?_, HB⟩
            rw [List.take_succ_eq_append_getElem hlt, ← Hx.out]
            intro s hs
            rcases List.mem_append.1 hs with h | h
            · exact HL.out s h
            · obtain rfl : s = x := by simpa using h
              exact Hl2.out
          case measure => simp [intOf]; omega
    · obtain rfl : j = ss.length := by omega
      rw [List.take_length] at HL
      have Hy := Lib.hid (farB_rest (k := k) (l := l) HL.out)
      have hF := HG.out.below (by have := HB.out; simpa using this)
      have d0 := hF.c0
      have d1 := hF.c1
      have d2 := hF.c2
      obtain ⟨z, hz⟩ : ∃ z : Bool, z = decide (2000 < k.size ∨ 2000 < l.size) := ⟨_, rfl⟩
      rw [← hz] at p1 Hy
      clear hF hz
      go_wp2_with fail
      refine (p1 _).mono ?_
      rintro e w2 ⟨rfl, hB⟩
      have HB2 := Lib.hid (below2 HB1.out hB)
      clear hB d0 d1 d2 p1
      cases z
      · go_wp2
        go_ret
        exact ⟨retb (by rw [Hy.out]; simp; omega), HB2.out⟩
      · go_wp2
        go_ret
        exact ⟨retb (by rw [Hy.out]; simp), HB2.out⟩
end Go.Proofs.Ytfapfnbehhekhaa

namespace Go.Proofs.Ytfapfnbehhekhaa
set_option maxRecDepth 10000
open Go.RowKit

theorem wpList_loadg_st {P : Program} {ops : Array Oper} {rest : List Oper} {o : Oper} {a : Act} {w : World} {Q : Exit → Act → World → Prop} (hw : Region.wanted o (yielded ops a.tmps) = true) (ty : TypeId) (x : Operand) (ho : o.op = .load ty x)
    {w0 : World} {L : List (Nat × Array Value)} {M : List Fact} (hS : St w0 w L M) (i k : Nat) (cs : Array Value) (hi : L[i]? = some (k, cs)) (hx : a.eval x = .pointer (some ⟨k, 0, none⟩)) (d : TypeDesc)
    (hu : P.underlying ty = some d) (hd : (match d with | .struct _ | .array _ _ => true | _ => false) = true) (hz : (P.info? ty).map (·.size) = some cs.size)
    (h : wpList P ops Q rest (a.put o.dst (.agg cs)) w) : wpList P ops Q (o :: rest) a w := by
  obtain ⟨t, ht⟩ := hS.live (k, cs) (List.mem_of_getElem? hi)
  exact wpList_step fun K hK => by rw [if_pos hw]; exact wp_load_row ty x ho k hx t cs (0, 0) d ht hu hd hz (hK _ _ h)
end Go.Proofs.Ytfapfnbehhekhaa

namespace Go.Proofs.Ytfapfnbehhekhaa
set_option maxRecDepth 10000
open Go.RowKit

theorem run_eql_file13 (w : World) (a : Int) (b c : ByteArray) : (binOp .eql 23 (.agg #[.int .i64 a, .string b, .string c]) (.agg #[.int .i64 a, .string b, .string c])).run Try.prog w = .ok (.bool true) w := by
  go_simp
theorem fil_one13 (a : Int) (b c : ByteArray) : (#[.int .i64 a, .string b, .string c] : Array Value).all (·.oneCell') = true := by simp [Value.oneCell']
theorem Rc.okAll_len {n : Int} {ls : List (List UInt8)} (h : Rc.okAll n ls) : ls.length ≤ 1000000001 := by
  rcases ((Rc.okAll_iff n ls).1 h).1 with rfl | ⟨h1, h2⟩
  · exact Nat.zero_le _
  · omega
end Go.Proofs.Ytfapfnbehhekhaa
