/-
  Layer 14 (segment): what the laws ask of segment's functions. E is what they ask of the world (or nothing).
  Layer 14 (segment): the references' Big, the law's far; two logs that are the same.
  Layer 14 (segment): the law's far; two logs that are the same.
  A load of a whole block along a walk, under a guard.
  The document's helpers: Texts (are two rows the same?) and OwnTexts (a row in memory of its own).
  Layer 14 (segment): loads under a guard; cells of a log.
  Layer 14 (segment): how a log that came in by value is read.
  Layer 14 (segment): the document's rows: the mathematics.
-/
import Derived.Test.YtlnchfnmpamliaaGreatChecked
import Derived.Test.YtlnchfnmpamliaaGreatXJa
import Derived.BigQuiet
import Derived.Deep.QuietTactic
import Derived.Laws.AppendOwnNone
import Derived.Lib.SmallJoins
import Derived.WideShapes
import Derived.ChangeArms
import Derived.Deep.Strs
namespace Go.Proofs.YtlnchfnmpamliaaGreat
set_option maxRecDepth 10000
open Go.RowKit

/-- A log's cells. -/
def segV (sz fi : Int) (A : Option Addr) (n c : Nat) : Array Value := #[.int .i64 sz, .int .i64 fi, .slice A n c]
/-- As much as is looked at. -/
def Sg.small (s : Seg) : Prop := s.fs.length ≤ 1000 ∧ ∀ f ∈ s.fs, Fi.small f
/-- Files that lie in memory of one's own, with room for them. -/
structure OwnS (w : World) (base : Nat) (A : Option Addr) (fs : List Fil) (c : Nat) : Prop where
  fils : FilsAt w w.heap.size A fs
  room : RoomyF A fs c
  own : ∀ a, A = some a → base ≤ a.block ∧ ∃ cur t, w.heap[a.block]? = some (.cells cur t (0, 0))
theorem OwnS.of {w : World} {base : Nat} {A : Option Addr} {n c : Nat} {fs : List Fil} (h : OwnF w base (.slice A n c) fs) : OwnS w base A fs c := by
  obtain ⟨h1, h2⟩ := h.rows
  refine ⟨h1, h2, fun a e => ?_⟩
  subst e
  rcases h.2 with ⟨e, _⟩ | ⟨g, cap, cur, e, hb, hg, _⟩
  · cases e
  · injection e with e1 _ _
    injection e1 with e1
    subst e1
    exact ⟨hb, cur, _, hg⟩
theorem OwnS.on {w w' : World} {base : Nat} {A : Option Addr} {fs : List Fil} {c : Nat} (h : OwnS w base A fs c) (hB : Below w.heap.size w w') : OwnS w' base A fs c :=
  ⟨h.fils.on hB, h.room, fun a e => by
    obtain ⟨h1, cur, t, h2⟩ := h.own a e
    exact ⟨h1, cur, t, (hB.block _ (Array.getElem?_eq_some_iff.1 h2).1).trans h2⟩⟩
/-- What a call ends with that hands back a log in memory of its own, and an error. -/
def GivesS (w : World) (s : Seg) (er : Int) (e : Ending) (w' : World) : Prop := ∃ A c, e = .returned (.tuple #[.agg #[.int .i64 s.sz, .int .i64 s.fi, .slice A s.fs.length c], .int .i64 er]) ∧ OwnS w' w.heap.size A s.fs c ∧ Below w.heap.size w w'
structure SegK (E : World → Prop) : Prop where
  mono : ∀ (w w' : World), E w → Below w.heap.size w w' → E w'
  new : ∀ (sz n : Int) (w : World) (_hE : E w), Calls Tryz.prog 19 #[.int .i64 sz, .int .i64 n] w (GivesS w (Sg.new sz n) (Sg.newE sz n))
  is : ∀ (s : Seg) (A : Option Addr) (n c : Nat) (w : World) (_hE : E w) (_hs : Sg.small s) (_hA : FilsAt w w.heap.size A s.fs) (_hn : n = s.fs.length), Calls Tryz.prog 25 #[.agg #[.int .i64 s.sz, .int .i64 s.fi, .slice A n c]] w fun e w' => e = .returned (.bool (Sg.is s)) ∧ Below w.heap.size w w'
  read : ∀ (s : Seg) (A : Option Addr) (n c : Nat) (w : World) (_hE : E w) (_hs : Sg.small s) (_hA : FilsAt w w.heap.size A s.fs) (_hn : n = s.fs.length), Calls Tryz.prog 6 #[.agg #[.int .i64 s.sz, .int .i64 s.fi, .slice A n c]] w fun e w' => ∃ A' c', e = .returned (.tuple #[.slice A' (Sg.texts s).length c', .int .i64 (Sg.badE s)]) ∧ StrsAt w' w'.heap.size A' (Sg.texts s) ∧ (Sg.texts s).length ≤ c' ∧ Below w.heap.size w w'
  add : ∀ (s : Seg) (A : Option Addr) (n c : Nat) (A2 : Option Addr) (l c2 : Nat) (ss : List ByteArray) (w : World) (_hE : E w) (_hs : Sg.small s) (_hA : FilsAt w w.heap.size A s.fs) (_hn : n = s.fs.length) (_hc : RoomyF A s.fs c) (_hA2 : StrsAt w w.heap.size A2 ss) (_hl : l = ss.length) (_hl2 : l ≤ 1000) (_hc2 : l ≤ c2) (_hz : ∀ s ∈ ss, s.size ≤ 9000),
    Calls Tryz.prog 8 #[.agg #[.int .i64 s.sz, .int .i64 s.fi, .slice A n c], .slice A2 l c2] w (GivesS w (Sg.add s ss) (Sg.addE s ss))
  sync : ∀ (s : Seg) (A : Option Addr) (n c : Nat) (w : World) (_hE : E w) (_hs : Sg.small s) (_hA : FilsAt w w.heap.size A s.fs) (_hn : n = s.fs.length) (_hc : RoomyF A s.fs c), Calls Tryz.prog 11 #[.agg #[.int .i64 s.sz, .int .i64 s.fi, .slice A n c]] w (GivesS w (Sg.sync s) (Sg.badE s))
  crash : ∀ (s : Seg) (A : Option Addr) (n c : Nat) (k : Int) (w : World) (_hE : E w) (_hs : Sg.small s) (_hA : FilsAt w w.heap.size A s.fs) (_hn : n = s.fs.length) (_hc : RoomyF A s.fs c), Calls Tryz.prog 13 #[.agg #[.int .i64 s.sz, .int .i64 s.fi, .slice A n c], .int .i64 k] w (GivesS w (Sg.crash s k) (Sg.badE s))
  mend : ∀ (s : Seg) (A : Option Addr) (n c : Nat) (w : World) (_hE : E w) (_hs : Sg.small s) (_hA : FilsAt w w.heap.size A s.fs) (_hn : n = s.fs.length) (_hc : RoomyF A s.fs c), Calls Tryz.prog 15 #[.agg #[.int .i64 s.sz, .int .i64 s.fi, .slice A n c]] w (GivesS w (Sg.mend s) (Sg.badE s))
  drop : ∀ (s : Seg) (A : Option Addr) (n c : Nat) (k : Int) (w : World) (_hE : E w) (_hs : Sg.small s) (_hA : FilsAt w w.heap.size A s.fs) (_hn : n = s.fs.length) (_hc : RoomyF A s.fs c), Calls Tryz.prog 17 #[.agg #[.int .i64 s.sz, .int .i64 s.fi, .slice A n c], .int .i64 k] w (GivesS w (Sg.drop s k) (Sg.badE s))
/-- The document's rows. -/
def PartedK (E : World → Prop) : Prop := ∀ (w : World) (_hE : E w), Calls Tryz.prog 24 #[] w fun e w' => e = .returned (.bool true) ∧ Below w.heap.size w w'
/-- Files, and texts, that stay where they are, as facts. -/
def filF14 (A : Option Addr) (B : Nat) (fs : List Fil) : Fact := ⟨fun W => FilsAt W B A fs ∧ B ≤ W.heap.size, fun _ _ h hB => ⟨h.1.below hB h.2, Nat.le_trans h.2 hB.size⟩⟩
def strsF14 (A : Option Addr) (B : Nat) (ss : List ByteArray) : Fact := ⟨fun W => StrsAt W B A ss ∧ B ≤ W.heap.size, fun _ _ h hB => ⟨h.1.below hB h.2, Nat.le_trans h.2 hB.size⟩⟩
def eSg {E : World → Prop} (HS : Hid (SegK E)) : Fact := ⟨E, fun w w' h hb => HS.out.mono w w' h hb⟩
/-- What the laws hold of a log that was handed back. -/
theorem GivesS.rows {w : World} {s : Seg} {er : Int} {e : Ending} {w' : World} (h : GivesS w s er e w') {sz fi : Int} {n : Nat} {fs : List Fil} (h1 : s.sz = sz) (h2 : s.fi = fi) (h3 : s.fs.length = n) (h4 : s.fs = fs) : ∃ A c, e = .returned (.tuple #[.agg #[.int .i64 sz, .int .i64 fi, .slice A n c], .int .i64 er]) ∧ FilsAt w' w'.heap.size A fs ∧ RoomyF A fs c ∧ Below w.heap.size w w' := by
  subst h1 h2 h3 h4
  obtain ⟨A, c, he, ho, hB⟩ := h
  exact ⟨A, c, he, ho.fils, ho.room, hB⟩
end Go.Proofs.YtlnchfnmpamliaaGreat

namespace Go.Proofs.YtlnchfnmpamliaaGreat
set_option maxRecDepth 10000
open Go.RowKit

def fatB (f : Fil) : Bool := decide (600 < f.kept.size) || decide (600 < f.loose.size)
def bigB (fs : List Fil) : Bool := decide (25 < fs.length) || fs.any fatB
/-- A log lies in a block. -/
structure SegAt (w : World) (k : Nat) (sz fi : Int) (A : Option Addr) (n c : Nat) : Prop where
  lt : k < w.heap.size
  c0 : w.cell? ⟨k, 0, none⟩ = some (.int .i64 sz)
  c1 : w.cell? ⟨k, 1, none⟩ = some (.int .i64 fi)
  c2 : w.cell? ⟨k, 2, none⟩ = some (.slice A n c)
theorem SegAt.new (w : World) (sz fi : Int) (A : Option Addr) (n c : Nat) (t : TypeId) : SegAt (w.alloc (.cells #[.int .i64 sz, .int .i64 fi, .slice A n c] t)) w.heap.size sz fi A n c := by
  have hb := World.alloc_heap_new w (.cells #[.int .i64 sz, .int .i64 fi, .slice A n c] t)
  refine ⟨by simp, ?_, ?_, ?_⟩ <;> (simp only [World.cell?, hb]; rfl)
theorem SegAt.below {w w' : World} {k : Nat} {sz fi : Int} {A : Option Addr} {n c : Nat} (h : SegAt w k sz fi A n c) (hB : Below w.heap.size w w') : SegAt w' k sz fi A n c :=
  ⟨Nat.lt_of_lt_of_le h.lt hB.size, (hB.cell (p := ⟨k, 0, none⟩) h.lt).trans h.c0, (hB.cell (p := ⟨k, 1, none⟩) h.lt).trans h.c1, (hB.cell (p := ⟨k, 2, none⟩) h.lt).trans h.c2⟩

set_option maxHeartbeats 1000000 in
theorem Big14_any (sz fi : Int) (A : Option Addr) (c : Nat) (fs : List Fil) (w : World) (hA : FilsAt w w.heap.size A fs) (hl : fs.length ≤ maxLen) (hz : ∀ f ∈ fs, f.kept.size ≤ maxLen ∧ f.loose.size ≤ maxLen) :
    Calls Tryz.prog 27 #[.agg #[.int .i64 sz, .int .i64 fi, .slice A fs.length c]] w fun e w' => e = .returned (.bool (bigB fs)) ∧ Below w.heap.size w w' := by
  unfold maxLen at hl
  have Hb0 := Lib.hid (below_new w (.cells #[.int .i64 sz, .int .i64 fi, .slice A fs.length c] 24))
  have HS := Lib.hid (SegAt.new w sz fi A fs.length c 24)
  have HA := Lib.hid hA
  have Hz := Lib.hid hz
  clear hA hz
  go_enter Tryz.func27, Tryz.ntmps27
  go_wp2_with fail
  by_cases h25 : 25 < fs.length
  · have Hr : Hid (bigB fs = true) := Lib.hid (by unfold bigB; rw [decide_eq_true h25]; rfl)
    have i1 : ((fs.length : Int) ≤ 25) = False := eq_false (by omega)
    have i2 : ((25 : Int) < (fs.length : Int)) = True := eq_true (by omega)
    have i3 : ((0 : Int) < (fs.length : Int)) = True := eq_true (by omega)
    have i4 : 0 < fs.length := by omega
    clear h25
    go_loopw [3] (fun i wr => i = .int .i64 0 ∧ wr = w.alloc (.cells #[.int .i64 sz, .int .i64 fi, .slice A fs.length c] 24)) (fun _ _ => 0)
    case atStart => exact ⟨rfl, rfl⟩
    case round =>
      obtain ⟨rfl, rfl⟩ := hrel
      have d2 := HS.out.c2
      go_wp2
      go_ret
      exact ⟨retb Hr.out.symm, Hb0.out⟩
  · have i1 : ((fs.length : Int) ≤ 25) = True := eq_true (by omega)
    have i2 : ((25 : Int) < (fs.length : Int)) = False := eq_false (by omega)
    go_loopw [3] (fun i wr => ∃ j : Nat, j ≤ fs.length ∧ i = .int .i64 (j : Int) ∧ Hid (∀ f ∈ fs.take j, fatB f = false) ∧ wr = w.alloc (.cells #[.int .i64 sz, .int .i64 fi, .slice A fs.length c] 24)) (fun i _ => fs.length - (intOf i).toNat)
    case atStart => exact ⟨0, Nat.zero_le _, rfl, Lib.hid (by simp), rfl⟩
    case round =>
      obtain ⟨j, hj, rfl, HL, rfl⟩ := hrel
      have d2 := HS.out.c2
      by_cases hlt : j < fs.length
      · obtain ⟨b, off, rfl, hb, h3⟩ := HA.out j hlt
        have h3' := h3.below Hb0.out hb
        have hzj := Hz.out fs[j] (List.getElem_mem hlt)
        obtain ⟨⟨xm, xk, xl⟩, hx⟩ : ∃ x, x = fs[j] := ⟨_, rfl⟩
        rw [← hx] at h3' hzj
        have Hx := Lib.hid hx
        have Hxm : Hid ((⟨xm, xk, xl⟩ : Fil) ∈ fs) := Lib.hid (by rw [hx]; exact List.getElem_mem hlt)
        have e1 := h3'.c1
        have e2 := h3'.c2
        simp only at e1 e2 hzj
        unfold maxLen at hzj
        obtain ⟨hz1, hz2⟩ := hzj
        clear hx h3 h3' hb
        by_cases hk : (600 : Int) < (xk.size : Int)
        · have Hr : Hid (bigB fs = true) := Lib.hid (by
            unfold bigB; rw [Bool.or_eq_true]; right
            exact List.any_eq_true.2 ⟨_, Hxm.out, by unfold fatB; simp; omega⟩)
          have j1 := eq_true hk
          clear hk h25
          go_wp2
          go_ret
          exact ⟨retb Hr.out.symm, Hb0.out⟩
        · by_cases hl2 : (600 : Int) < (xl.size : Int)
          · have Hr : Hid (bigB fs = true) := Lib.hid (by
              unfold bigB; rw [Bool.or_eq_true]; right
              exact List.any_eq_true.2 ⟨_, Hxm.out, by unfold fatB; simp; omega⟩)
            have j1 := eq_false hk
            have j2 := eq_true hl2
            clear hk hl2 h25
            go_wp2
            go_ret
            exact ⟨retb Hr.out.symm, Hb0.out⟩
          · have Hf : Hid (fatB ⟨xm, xk, xl⟩ = false) := Lib.hid (by unfold fatB; simp; omega)
            have j1 := eq_false hk
            have j2 := eq_false hl2
            clear hk hl2 h25
            go_wp2
            go_roundw
            case rel =>
              refine ⟨j + 1, by omega, by go_num, Lib.hid ?_, by first | rfl | trivial⟩
              rw [List.take_succ_eq_append_getElem hlt, ← Hx.out]
              intro f hf
              rcases List.mem_append.1 hf with h | h
              · exact HL.out f h
              · obtain rfl : f = ⟨xm, xk, xl⟩ := by simpa using h
                exact Hf.out
            case measure => simp [intOf]; omega
      · obtain rfl : j = fs.length := by omega
        rw [List.take_length] at HL
        have Hr : Hid (bigB fs = false) := Lib.hid (by
          unfold bigB; rw [Bool.or_eq_false_iff]
          refine ⟨decide_eq_false h25, List.any_eq_false.2 (fun f hf => by rw [HL.out f hf]; simp)⟩)
        clear h25
        go_wp2
        go_ret
        exact ⟨retb Hr.out.symm, Hb0.out⟩
end Go.Proofs.YtlnchfnmpamliaaGreat

namespace Go.Proofs.YtlnchfnmpamliaaGreat
set_option maxRecDepth 10000
open Go.RowKit

def long14B (s : ByteArray) : Bool := (decide (100 < s.size) && decide (s.size ≤ 1000)) || decide (1100 < s.size)
def far14B (fs : List Fil) (ss : List ByteArray) : Bool := ss.any long14B || bigB fs || decide (25 < ss.length)
theorem far14B_long {fs : List Fil} {ss : List ByteArray} {s : ByteArray} (h : s ∈ ss) (h2 : long14B s = true) : far14B fs ss = true := by
  unfold far14B; rw [List.any_eq_true.2 ⟨s, h, h2⟩]; rfl
theorem far14B_rest {fs : List Fil} {ss : List ByteArray} (h : ∀ s ∈ ss, long14B s = false) : far14B fs ss = (bigB fs || decide (25 < ss.length)) := by
  unfold far14B
  have : ss.any long14B = false := by
    rw [List.any_eq_false]; intro s hs; rw [h s hs]; simp
  rw [this, Bool.false_or]
theorem far14B_no {fs : List Fil} {ss : List ByteArray} (h : far14B fs ss = false) : (fs.length ≤ 25 ∧ ∀ f ∈ fs, f.kept.size ≤ 600 ∧ f.loose.size ≤ 600) ∧ ss.length ≤ 25 ∧ ∀ s ∈ ss, s.size ≤ 1100 ∧ (s.size ≤ 1000 → s.size ≤ 100) := by
  unfold far14B at h
  rw [Bool.or_eq_false_iff, Bool.or_eq_false_iff] at h
  obtain ⟨⟨h1, h2⟩, h3⟩ := h
  have h3 := of_decide_eq_false h3
  unfold bigB at h2
  rw [Bool.or_eq_false_iff] at h2
  have h4 := of_decide_eq_false h2.1
  refine ⟨⟨by omega, fun f hf => ?_⟩, by omega, fun s hs => ?_⟩
  · have h5 := List.any_eq_false.1 h2.2 f hf
    unfold fatB at h5
    simp at h5
    omega
  · have h5 := List.any_eq_false.1 h1 s hs
    unfold long14B at h5
    simp at h5
    omega

set_option maxHeartbeats 1000000 in
theorem far14_any (sz fi : Int) (AF : Option Addr) (cf : Nat) (fs : List Fil) (A : Option Addr) (cap : Nat) (ss : List ByteArray) (w : World) (hF : FilsAt w w.heap.size AF fs) (hlf : fs.length ≤ maxLen) (hzf : ∀ f ∈ fs, f.kept.size ≤ maxLen ∧ f.loose.size ≤ maxLen) (hA : StrsAt w w.heap.size A ss) (hl : ss.length ≤ maxLen) (hsz : ∀ s ∈ ss, s.size ≤ maxLen) :
    Calls Tryz.prog 4 #[.agg #[.int .i64 sz, .int .i64 fi, .slice AF fs.length cf], .slice A ss.length cap] w fun e w' => e = .returned (.bool (far14B fs ss)) ∧ Below w.heap.size w w' := by
  unfold maxLen at hl
  have p1 := fun W hA => Big14_any sz fi AF cf fs W hA hlf hzf
  have Hsz := Lib.hid hsz
  have HA := Lib.hid hA
  have HFl := Lib.hid hF
  have hF0 := SegAt.new w sz fi AF fs.length cf 24
  have Hb0 := Lib.hid (below_new w (.cells #[.int .i64 sz, .int .i64 fi, .slice AF fs.length cf] 24))
  have HG := Lib.hid hF0
  clear hsz hA hF0 hF hlf hzf
  go_enter Tryz.func4, Tryz.ntmps4
  go_wp2_with fail
  go_loopw [5] (fun i wr => ∃ j : Nat, j ≤ ss.length ∧ i = .int .i64 (j : Int) ∧ Hid (∀ s ∈ ss.take j, long14B s = false) ∧ Hid (Below (w.heap.size + 1) (w.alloc (.cells #[.int .i64 sz, .int .i64 fi, .slice AF fs.length cf] 24)) wr)) (fun i _ => ss.length - (intOf i).toNat)
  case atStart => exact ⟨0, Nat.zero_le _, rfl, Lib.hid (by simp), Lib.hid (Below.refl _ _)⟩
  case round =>
    obtain ⟨j, hj, rfl, HL, HB⟩ := hrel
    have HB1 : Hid (Below w.heap.size w wr) := Lib.hid (below2 Hb0.out (by have := HB.out; simpa using this))
    by_cases hlt : j < ss.length
    · obtain ⟨b, off, rfl, hb, hc⟩ := HA.out j hlt
      have hc' := (HB1.out.cell (p := ⟨b, off + j, none⟩) hb).trans hc
      have hz := Hsz.out ss[j] (List.getElem_mem hlt)
      unfold maxLen at hz
      obtain ⟨x, hx⟩ : ∃ x, x = ss[j] := ⟨_, rfl⟩
      rw [← hx] at hc' hz
      have Hx := Lib.hid hx
      have Hxm : Hid (x ∈ ss) := Lib.hid (by rw [hx]; exact List.getElem_mem hlt)
      clear hx hc hb
      by_cases hlong : long14B x = true
      · have Hno := Lib.hid (far14B_long (fs := fs) Hxm.out hlong)
        unfold long14B at hlong
        by_cases h1 : 1100 < x.size
        · have i1 : ((100 : Int) < (x.size : Int)) = True := eq_true (by omega)
          have i2 : ((x.size : Int) ≤ 1000) = False := eq_false (by omega)
          have i3 : ((1100 : Int) < (x.size : Int)) = True := eq_true (by omega)
          clear hlong h1
          go_wp2
          go_ret
          exact ⟨retb Hno.out.symm, HB1.out⟩
        · have i1 : ((100 : Int) < (x.size : Int)) = True := eq_true (by simp at hlong; omega)
          have i2 : ((x.size : Int) ≤ 1000) = True := eq_true (by simp at hlong; omega)
          clear hlong h1
          go_wp2
          go_ret
          exact ⟨retb Hno.out.symm, HB1.out⟩
      · have hl2 : long14B x = false := by simpa using hlong
        have Hl2 := Lib.hid hl2
        have h1 : ((1100 : Int) < (x.size : Int)) = False := eq_false (by unfold long14B at hl2; simp at hl2; omega)
        by_cases h2 : 100 < x.size
        · have i2 : ((x.size : Int) ≤ 1000) = False := eq_false (by unfold long14B at hl2; simp at hl2; omega)
          have i1 : ((100 : Int) < (x.size : Int)) = True := eq_true (by omega)
          clear hlong hl2 h2
          go_wp2
          go_roundw
          case rel =>
            refine ⟨j + 1, by omega, by go_num, Lib.hid ?_, HB⟩
            rw [List.take_succ_eq_append_getElem hlt, ← Hx.out]
            intro s hs
            rcases List.mem_append.1 hs with h | h
            · exact HL.out s h
            · obtain rfl : s = x := by simpa using h
              exact Hl2.out
          case measure => simp [intOf]; omega
        · have i1 : ((100 : Int) < (x.size : Int)) = False := eq_false (by omega)
          clear hlong hl2 h2
          go_wp2
          go_roundw
          case rel =>
            refine ⟨j + 1, by omega, by go_num, Lib.hid ?_, HB⟩
            rw [List.take_succ_eq_append_getElem hlt, ← Hx.out]
            intro s hs
            rcases List.mem_append.1 hs with h | h
            · exact HL.out s h
            · obtain rfl : s = x := by simpa using h
              exact Hl2.out
          case measure => simp [intOf]; omega
    · obtain rfl : j = ss.length := by omega
      rw [List.take_length] at HL
      have Hy := Lib.hid (far14B_rest (fs := fs) HL.out)
      have hF0 := HG.out.below (by have := HB.out; simpa using this)
      have d0 := hF0.c0
      have d1 := hF0.c1
      have d2 := hF0.c2
      obtain ⟨z, hz⟩ : ∃ z : Bool, z = bigB fs := ⟨_, rfl⟩
      rw [← hz] at p1 Hy
      clear hF0 hz
      go_wp2_with fail
      refine (p1 _ ((HFl.out.below HB1.out (Nat.le_refl _)).more HB1.out.size)).mono ?_
      rintro e w2 ⟨rfl, hB⟩
      have HB2 := Lib.hid (below2 HB1.out hB)
      clear hB d0 d1 d2 p1
      cases z
      · go_wp2
        go_ret
        exact ⟨retb (by rw [Hy.out]; simp; omega), HB2.out⟩
      · go_wp2
        go_ret
        exact ⟨retb (by rw [Hy.out]; simp), HB2.out⟩

theorem run_neq_file14 (w : World) (a : Int) (b c : ByteArray) : (binOp .neq 47 (.agg #[.int .i64 a, .string b, .string c]) (.agg #[.int .i64 a, .string b, .string c])).run Tryz.prog w = .ok (.bool false) w := by
  go_simp
set_option maxHeartbeats 1000000 in
theorem Same14_any (sz fi : Int) (A1 A2 : Option Addr) (c1 c2 : Nat) (fs : List Fil) (w : World) (hA1 : FilsAt w w.heap.size A1 fs) (hA2 : FilsAt w w.heap.size A2 fs) (hl : fs.length ≤ maxLen) :
    Calls Tryz.prog 22 #[.agg #[.int .i64 sz, .int .i64 fi, .slice A1 fs.length c1], .agg #[.int .i64 sz, .int .i64 fi, .slice A2 fs.length c2]] w fun e w' => e = .returned (.bool true) ∧ Below w.heap.size w w' := by
  unfold maxLen at hl
  have Hb0 := Lib.hid (below2 (below_new w (.cells #[.int .i64 sz, .int .i64 fi, .slice A1 fs.length c1] 24)) (below_new _ (.cells #[.int .i64 sz, .int .i64 fi, .slice A2 fs.length c2] 24)))
  have HS1 := Lib.hid ((SegAt.new w sz fi A1 fs.length c1 24).below (below_new _ (.cells #[.int .i64 sz, .int .i64 fi, .slice A2 fs.length c2] 24)))
  have HS2 := Lib.hid (SegAt.new (w.alloc (.cells #[.int .i64 sz, .int .i64 fi, .slice A1 fs.length c1] 24)) sz fi A2 fs.length c2 24)
  have HA1 := Lib.hid hA1
  have HA2 := Lib.hid hA2
  obtain ⟨w1, hw1⟩ : ∃ x, x = (w.alloc (.cells #[.int .i64 sz, .int .i64 fi, .slice A1 fs.length c1] 24)).alloc (.cells #[.int .i64 sz, .int .i64 fi, .slice A2 fs.length c2] 24) := ⟨_, rfl⟩
  rw [← hw1] at Hb0 HS1 HS2
  have hz2 : (w.alloc (.cells #[.int .i64 sz, .int .i64 fi, .slice A1 fs.length c1] 24)).heap.size = w.heap.size + 1 := by simp
  rw [hz2] at HS2
  clear hA1 hA2 hz2
  have c0 := HS1.out.c0
  have c1' := HS1.out.c1
  have c2' := HS1.out.c2
  have d0 := HS2.out.c0
  have d1 := HS2.out.c1
  have d2 := HS2.out.c2
  go_enter Tryz.func22, Tryz.ntmps22
  go_wp2_with fail
  rw [← hw1]
  clear hw1
  go_wp2_with fail
  clear c0 c1' c2' d0 d1 d2
  go_loopw [5] (fun i wr => ∃ j q : Nat, j ≤ fs.length ∧ i = .int .i64 (j : Int) ∧ wr = w1.drewN q) (fun i _ => fs.length - (intOf i).toNat)
  case atStart => exact ⟨0, 0, Nat.zero_le _, rfl, rfl⟩
  case round =>
    obtain ⟨j, q, hj, rfl, rfl⟩ := hrel
    have hB := Lib.hid (below_drew Hb0.out q)
    have c2' := HS1.out.c2
    have d2 := HS2.out.c2
    by_cases hlt : j < fs.length
    · obtain ⟨b, off, rfl, hb, h3⟩ := HA1.out j hlt
      obtain ⟨b', off', rfl, hb', h3'⟩ := HA2.out j hlt
      have h4 := h3.below Hb0.out hb
      have h4' := h3'.below Hb0.out hb'
      obtain ⟨⟨xm, xk, xl⟩, hx⟩ : ∃ x, x = fs[j] := ⟨_, rfl⟩
      rw [← hx] at h4 h4'
      have e0 := h4.c0
      have e1 := h4.c1
      have e2 := h4.c2
      have f0 := h4'.c0
      have f1 := h4'.c1
      have f2 := h4'.c2
      simp only at e0 e1 e2 f0 f1 f2
      have q1 := fun W => run_neq_file14 W xm xk xl
      clear h3 h3' h4 h4' hx hb hb'
      go_wp2_with fail
      go_region
      clear e0 e1 e2 f0 f1 f2 q1 c2' d2
      go_wp2
      go_roundw
      case rel => exact ⟨j + 1, q + 1, by omega, by go_num, rfl⟩
      case measure => simp [intOf]; omega
    · obtain rfl : j = fs.length := by omega
      go_wp2
      go_ret
      exact ⟨rfl, hB.out⟩
end Go.Proofs.YtlnchfnmpamliaaGreat

namespace Go.Proofs.YtlnchfnmpamliaaGreat
set_option maxRecDepth 10000
open Go.RowKit

theorem wpList_loadg_st {P : Program} {ops : Array Oper} {rest : List Oper} {o : Oper} {a : Act} {w : World} {Q : Exit → Act → World → Prop} (hw : Region.wanted o (yielded ops a.tmps) = true) (ty : TypeId) (x : Operand) (ho : o.op = .load ty x)
    {w0 : World} {L : List (Nat × Array Value)} {M : List Fact} (hS : St w0 w L M) (i k : Nat) (cs : Array Value) (hi : L[i]? = some (k, cs)) (hx : a.eval x = .pointer (some ⟨k, 0, none⟩)) (d : TypeDesc)
    (hu : P.underlying ty = some d) (hd : (match d with | .struct _ | .array _ _ => true | _ => false) = true) (hz : (P.info? ty).map (·.size) = some cs.size)
    (h : wpList P ops Q rest (a.put o.dst (.agg cs)) w) : wpList P ops Q (o :: rest) a w := by
  obtain ⟨t, ht⟩ := hS.live (k, cs) (List.mem_of_getElem? hi)
  exact wpList_step fun K hK => by rw [if_pos hw]; exact wp_load_row ty x ho k hx t cs (0, 0) d ht hu hd hz (hK _ _ h)
end Go.Proofs.YtlnchfnmpamliaaGreat

namespace Go.Proofs.YtlnchfnmpamliaaGreat
set_option maxRecDepth 10000
open Go.RowKit

theorem StrsAt.of_own {w : World} {base : Nat} {e : TypeId} {A : Option Addr} {cap : Nat} {ss : List ByteArray} (h : w.ownsRow base e 1 (.slice A ss.length cap) ss.length (ss.map Value.string)) : StrsAt w w.heap.size A ss := fun i hi => by
  rcases h.2 with ⟨_, h0⟩ | ⟨g, cap', cur, hv, _, hg, _⟩
  · omega
  · have hA : A = some ⟨g, 0, none⟩ := by injection hv
    subst hA
    have hc := h.cells (g := g) rfl i (.string ss[i]) (by simp [List.getElem?_eq_getElem hi])
    have hadd : (⟨g, 0, none⟩ : Addr).add i = ⟨g, 0 + i, none⟩ := by unfold Addr.add; split <;> simp_all
    rw [hadd] at hc
    exact ⟨g, 0, rfl, (Array.getElem?_eq_some_iff.1 hg).1, hc⟩

theorem retb_texts {a b : Bool} (h : a = b) : Ending.returned (.bool a) = .returned (.bool b) := by rw [h]
theorem toList_bl (s : ByteArray) : s.toList = bl s := ByteArray.toList_eq s

set_option maxHeartbeats 400000 in
theorem Texts_any (A B : Option Addr) (ca cb : Nat) (xs ys : List ByteArray) (w : World) (hA : StrsAt w w.heap.size A xs) (hB : StrsAt w w.heap.size B ys) (hl : xs.length ≤ maxLen) :
    Calls Tryz.prog 21 #[.slice A xs.length ca, .slice B ys.length cb] w fun e w' => e = .returned (.bool (decide (xs = ys))) ∧ ∃ n, w' = w.drewN n := by
  unfold maxLen at hl
  by_cases hne : xs.length = ys.length
  · have h1 : ((xs.length : Int) == (ys.length : Int)) = true := by rw [beq_iff_eq]; omega
    have h2 : ((xs.length : Int) != (ys.length : Int)) = false := by rw [bne, h1]; rfl
    have Hne := Lib.hid hne
    clear hne
    go_enter Tryz.func21, Tryz.ntmps21
    go_wp2
    go_loopw [5] (fun i wr => ∃ k n : Nat, k ≤ xs.length ∧ i = .int .i64 (k : Int) ∧ Hid (xs.take k = ys.take k) ∧ wr = w.drewN n) (fun i _ => xs.length - (intOf i).toNat)
    case atStart => exact ⟨0, 0, Nat.zero_le _, rfl, Lib.hid rfl, rfl⟩
    case round =>
      obtain ⟨k, n, hk, rfl, H, rfl⟩ := hrel
      by_cases hlt : k < xs.length
      · have hlt2 : k < ys.length := by have := Hne.out; omega
        obtain ⟨b1, o1, rfl, _, hc1⟩ := hA k hlt
        obtain ⟨b2, o2, rfl, _, hc2⟩ := hB k hlt2
        have hc1' : (w.drewN n).cell? ⟨b1, o1 + k, none⟩ = some (.string xs[k]) := hc1
        have hc2' : (w.drewN n).cell? ⟨b2, o2 + k, none⟩ = some (.string ys[k]) := hc2
        have hl2 : ys.length ≤ 9223372036854775807 := by have := Hne.out; omega
        by_cases heq : xs[k].toList = ys[k].toList
        · have H2 := Lib.hid (show xs.take (k + 1) = ys.take (k + 1) by
            rw [List.take_succ_eq_append_getElem hlt, List.take_succ_eq_append_getElem hlt2, H.out, show xs[k] = ys[k] from bl_inj (by rw [← toList_bl, ← toList_bl]; exact heq)])
          clear H
          go_wp2_with fail
          go_quiet (fail)
          go_wp2
          go_roundw
          case rel => exact ⟨k + 1, _, by omega, by go_num, H2, rfl⟩
          case measure => simp [intOf]; omega
        · have Hd : Hid (decide (xs = ys) = false) := Lib.hid (decide_eq_false (fun hh => heq (by subst hh; rfl)))
          have heq' : (xs[k].toList == ys[k].toList) = false := by rw [beq_eq_false_iff_ne]; exact heq
          clear H
          go_wp2_with fail
          go_quiet (fail)
          go_wp2
          go_ret
          exact ⟨retb_texts Hd.out.symm, n + nq, by rw [World.drewN_drewN]⟩
      · obtain rfl : k = xs.length := by omega
        have Hd : Hid (decide (xs = ys) = true) := Lib.hid (decide_eq_true (by
          have := H.out
          rw [List.take_length, Hne.out, List.take_length] at this; exact this))
        clear H
        go_wp2
        go_ret
        exact ⟨retb_texts Hd.out.symm, _, rfl⟩
  · have h2 : ((xs.length : Int) != (ys.length : Int)) = true := by rw [bne_iff_ne]; omega
    have Hd : Hid (decide (xs = ys) = false) := Lib.hid (decide_eq_false (fun hh => hne (by rw [hh])))
    clear hne
    go_enter Tryz.func21, Tryz.ntmps21
    go_wp2
    go_ret
    exact ⟨retb_texts Hd.out.symm, 0, rfl⟩

theorem Tryz.infoT : (Tryz.prog.info? 9).map (fun i => (i.zero, i.size, i.bytes)) = some (some (.string ⟨#[]⟩), 1, 16) := by kernel_rfl

set_option maxHeartbeats 400000 in
theorem OwnTexts_any (A : Option Addr) (cap : Nat) (zs : List ByteArray) (w : World) (hA : StrsAt w w.heap.size A zs) (hnil : A = none → cap = 0) (hl : zs.length ≤ 1000000000) :
    Calls Tryz.prog 10 #[.slice A zs.length cap] w fun e w' => ∃ A' cap', e = .returned (.slice A' zs.length cap') ∧ w'.ownsRow w.heap.size 9 1 (.slice A' zs.length cap') zs.length (zs.map Value.string) ∧ Below w.heap.size w w' := by
  obtain ⟨i0, hi, hz0, hz1, hz2⟩ := info_parts Tryz.infoT
  have hown0 := World.ownsRow_nil w w.heap.size 9 1
  cases A with
  | none =>
    obtain rfl : cap = 0 := hnil rfl
    obtain rfl : zs = [] := by
      cases zs with
      | nil => rfl
      | cons z zs => obtain ⟨b, off, h, _⟩ := hA 0 (by simp); cases h
    go_enter Tryz.func10, Tryz.ntmps10
    go_wp2_with (at_builtin; refine wpList_append_own_none _ rfl _ _ 25 rfl w.heap.size 9 i0 1 Tryz.underlying25 hi _ _ _ rfl hown0 rfl ?_)
    go_ret
    exact ⟨none, 0, rfl, World.ownsRow_nil _ _ _ _, Below.refl _ _⟩
  | some a =>
    have hcells : ∀ j u, (zs.map Value.string)[j]? = some u → w.cell? (a.add j) = some u := by
      intro j u hu
      have hj : j < zs.length := by
        have := (List.getElem?_eq_some_iff.1 hu).1
        simpa using this
      obtain ⟨b, off, ha, _, hc⟩ := hA j hj
      cases ha
      rw [Go.WideShapes.add_plain, hc]
      simpa [List.getElem?_eq_getElem hj] using hu
    obtain ⟨m, hm⟩ : ∃ m, m = zs.length := ⟨_, rfl⟩
    rw [← hm] at hl ⊢
    obtain ⟨xs, hxs⟩ : ∃ xs, xs = zs.map Value.string := ⟨_, rfl⟩
    rw [← hxs] at hcells ⊢
    have hlen : xs.length = m * 1 := by rw [hxs, hm]; simp
    have hone : ∀ u ∈ xs, u.oneCell' = true := by rw [hxs]; simp [Value.oneCell']
    have Hm := Lib.hid hm; have Hxs := Lib.hid hxs; have Hlen := Lib.hid hlen; have Hone := Lib.hid hone; have Hc := Lib.hid hcells
    clear hm hxs hlen hone hcells hA hnil
    go_enter Tryz.func10, Tryz.ntmps10
    go_wp2_with (at_builtin; refine wpList_append_own _ rfl _ _ 25 rfl w.heap.size 9 i0 (.string ⟨#[]⟩) 1 16 Tryz.underlying25 hi hz0 hz1 hz2 rfl (by decide) _ _ _ rfl hown0 a m cap xs rfl Hlen.out Hc.out Hone.out (by unfold maxLen; omega) (by omega) (Nat.le_refl _) ?_; intro v' w1 hown' hgrow _; rw [Nat.zero_add, List.nil_append] at hown'; have hB1 : Below w.heap.size w w1 := (Below.refl _ w).grown hgrow (Nat.le_refl _) (fun k hk => (hown0.lt k hk).1); clear hgrow; obtain ⟨A', cap', rfl⟩ := ownsRow_slice hown')
    go_ret
    exact ⟨A', cap', rfl, hown', hB1⟩

end Go.Proofs.YtlnchfnmpamliaaGreat

namespace Go.Proofs.YtlnchfnmpamliaaGreat
set_option maxRecDepth 10000
open Go.RowKit

theorem seg_one14 (a b : Int) (A : Option Addr) (n c : Nat) : (#[.int .i64 a, .int .i64 b, .slice A n c] : Array Value).all (·.oneCell') = true := by simp [Value.oneCell']
theorem GivesS.to {w : World} {s s2 : Seg} {er er2 : Int} {e : Ending} {w' : World} (h : GivesS w s er e w') (hs : s = s2) (he : er = er2) : GivesS w s2 er2 e w' := by subst hs he; exact h
/-- Texts that are the same. -/
theorem texts14 (ts : List ByteArray) (L : Nat) (hL : L = ts.length) (hl : ts.length ≤ maxLen) (W : World) (A B : Option Addr) (c d : Nat) (hA : StrsAt W W.heap.size A ts) (hB : StrsAt W W.heap.size B ts) : Hid (Calls Tryz.prog 21 #[.slice A L c, .slice B L d] W fun e w' => e = .returned (.bool true) ∧ Below W.heap.size W w') := by
  subst hL
  exact Lib.hid ((Texts_any A B c d _ _ W hA hB hl).mono fun e w' ⟨h1, q, h2⟩ => ⟨by rw [h1]; simp, h2 ▸ below_drew (Below.refl _ _) q⟩)
theorem same14 (sz fi : Int) (fs : List Fil) (n : Nat) (hn : n = fs.length) (hl : fs.length ≤ maxLen) (W : World) (A B : Option Addr) (c d : Nat) (hA : FilsAt W W.heap.size A fs) (hB : FilsAt W W.heap.size B fs) : Hid (Calls Tryz.prog 22 #[.agg #[.int .i64 sz, .int .i64 fi, .slice A n c], .agg #[.int .i64 sz, .int .i64 fi, .slice B n d]] W fun e w' => e = .returned (.bool true) ∧ Below W.heap.size W w') := by
  subst hn
  exact Lib.hid (Same14_any sz fi A B c d fs W hA hB hl)
namespace Sg
theorem fs_small {s : Seg} (h : is s = true) : small s := ⟨by have := (is_iff.1 h).1.2.2.2; omega, fun f hf => Rc.is_small9 (files_is h f hf)⟩
theorem no_small : small no := ⟨Nat.zero_le _, fun _ h => by cases h⟩
theorem texts_len (s : Seg) : (texts s).length ≤ maxLen := by
  have h : ∀ (fs : List Fil) (n : Int), (rd fs n).1.length ≤ fs.length * 1000000001 := by
    intro fs
    induction fs with
    | nil => intro n; simp [rd]
    | cons f r ih =>
      intro n
      have h1 : (sc f n).1.length ≤ 1000000001 := by
        rcases ((Rc.okAll_iff n _).1 (sc_ok f n)).1 with h | ⟨h1, h2⟩
        · rw [h]; exact Nat.zero_le _
        · omega
      have h2 := ih (n + (sc f n).1.length)
      by_cases hw : whole f n = true
      · rw [rd_yes hw]; simp only [List.length_append, List.length_cons]; omega
      · rw [rd_not hw]; simp only [List.length_cons]; omega
  unfold texts
  split
  · rename_i hi
    have h1 := h s.fs s.fi
    have h2 := (is_iff.1 hi).1.2.2.2
    rw [List.length_map]; unfold maxLen
    have h3 : s.fs.length * 1000000001 ≤ 20 * 1000000001 := Nat.mul_le_mul_right _ h2
    omega
  · exact Nat.zero_le _
end Sg
end Go.Proofs.YtlnchfnmpamliaaGreat

namespace Go.Proofs.YtlnchfnmpamliaaGreat
set_option maxRecDepth 10000
open Go.ChangeShapes Go.WideShapes Go.ChangeAt Go.RowKit Go.Joins Go.Deep

section
variable {H : Type} {enc : TypeId × Value → H} {w : World} {base : Nat}

theorem arrayThree14 {α : Type} {cs : Array α} (h : cs.size = 3) : ∃ c0 c1 c2, cs = #[c0, c1, c2] := by
  obtain ⟨l⟩ := cs
  match l, h with
  | [c0, c1, c2], _ => exact ⟨c0, c1, c2, rfl⟩
theorem listThree14 {α : Type} {cs : List α} (h : cs.length = 3) : ∃ c0 c1 c2, cs = [c0, c1, c2] := by
  match cs, h with
  | [c0, c1, c2], _ => exact ⟨c0, c1, c2, rfl⟩

set_option maxRecDepth 100000 in
theorem fils_open14 {fuel : Nat} {a : Option Addr} {len cap : Nat} {x : DataW H × List MemPlace}
    (h : DataW.trod enc Tryz.prog w base (fun _ => true) true fuel 22 (Value.slice a len cap).cells.toList = some x) :
    ∃ ls : List Fil, ls.length = len ∧ FilsAt w w.heap.size a ls ∧ (a = none → cap = 0) ∧ len ≤ cap ∧ len ≤ maxLen ∧ ∀ f ∈ ls, f.kept.size ≤ maxLen ∧ f.loose.size ≤ maxLen := by
  have hC : Tryz.prog.cellsOf 47 = 3 := by kernel_rfl
  have hI : Tryz.prog.cellsOf 3 = 1 := by kernel_rfl
  rcases open_slice Tryz.underlying22 h with ⟨hcs, _⟩ | ⟨y, l, c, m, n, D, Pl, hcs, _, hl, hm, hmm, _, hcell⟩
  · simp [Value.cells] at hcs
    obtain ⟨rfl, rfl, rfl⟩ := hcs
    exact ⟨[], rfl, FilsAt.nil _ _ _, fun _ => rfl, Nat.le_refl _, Nat.zero_le _, fun _ h => nomatch h⟩
  · simp [Value.cells] at hcs
    obtain ⟨rfl, rfl, rfl⟩ := hcs
    simp only [if_true] at hmm
    have hall : ∀ i : Nat, ∃ p : Fil, i < len → ((w.cell? (y.add (i * 3)) = some (.int .i64 p.most) ∧ w.cell? ((y.add (i * 3)).add 1) = some (.string p.kept) ∧ w.cell? ((y.add (i * 3)).add 2) = some (.string p.loose)) ∧ p.kept.size ≤ maxLen ∧ p.loose.size ≤ maxLen) := by
      intro i
      by_cases hi : i < len
      · obtain ⟨cs', hc, ht'⟩ := hcell i (by omega)
        rw [hC] at hc
        obtain ⟨_, hlen', hat⟩ := World.cells?_some hc
        obtain ⟨c0, c1, c2, rfl⟩ := listThree14 hlen'
        obtain ⟨xs, n', _, _, _, hlen, hx⟩ := DataW.trod_struct Tryz.underlying47 ht'
        match xs, hlen with
        | [y0, y1, y2], _ =>
          have t0 := hx 0 _ rfl
          have t1 := hx 1 _ rfl
          have t2 := hx 2 _ rfl
          simp only [List.getElem?_cons_zero, List.getElem?_cons_succ] at t0 t1 t2
          obtain ⟨b, e0, _, w0⟩ := DataW.trod_int Tryz.underlying3 t0
          obtain ⟨f, e1, _, w1⟩ := DataW.trod_string Tryz.underlying9 t1
          obtain ⟨t, e2, _, w2⟩ := DataW.trod_string Tryz.underlying9 t2
          cases e0
          cases e1
          cases e2
          refine ⟨⟨b, f, t⟩, fun _ => ⟨⟨?_, ?_, ?_⟩, w1, w2⟩⟩
          · have := hat 0 (by omega)
            rw [show (y.add (i * 3)).add 0 = y.add (i * 3) by simp [Addr.add]] at this
            simpa using this
          · simpa using hat 1 (by omega)
          · simpa using hat 2 (by omega)
      · exact ⟨⟨0, ⟨#[]⟩, ⟨#[]⟩⟩, fun h => absurd h hi⟩
    obtain ⟨F, hF⟩ := Classical.skolem.1 hall
    refine ⟨(List.range len).map F, by simp, fun i hi => ?_, (fun h => by cases h), by omega, by omega, fun f hf => ?_⟩
    rotate_left
    · obtain ⟨i, hi, rfl⟩ := List.mem_map.1 hf
      exact (hF i (by simpa using hi)).2
    have hi' : i < len := by simpa using hi
    obtain ⟨b, off, spot⟩ := y
    obtain ⟨⟨h0, h1, h2⟩, _⟩ := hF i hi'
    have hspot : spot = none := by simpa [Addr.add] using World.cell?_spot (hF 0 (by omega)).1.1
    subst hspot
    rw [Go.WideShapes.add_plain] at h0 h1 h2
    rw [Go.WideShapes.add_plain] at h1 h2
    refine ⟨b, off, rfl, World.block_lt_of_cell? w _ h0, ⟨?_, ?_, ?_⟩⟩
    · simpa using h0
    · simpa using h1
    · simpa using h2

set_option maxRecDepth 100000 in
theorem segsv_open {r : Reach} {b0 : Nat} {v : Value} {d : DataW H} {p : List MemPlace} (hv : Value.okWide Tryz.prog w r b0 24 v) (h : DataW.Trod enc Tryz.prog w base (fun _ => true) true 24 v d p) :
    ∃ m n A cap, ∃ ls : List Fil, v = .agg #[.int .i64 m, .int .i64 n, .slice A ls.length cap] ∧ FilsAt w w.heap.size A ls ∧ RoomyF A ls cap ∧ ls.length ≤ maxLen ∧ ∀ f ∈ ls, f.kept.size ≤ maxLen ∧ f.loose.size ≤ maxLen := by
  have hC : Tryz.prog.cellsOf 24 = 3 := by kernel_rfl
  obtain ⟨cs, rfl, hsz⟩ := okWide_struct Tryz.underlying24 hv
  obtain ⟨c0, c1, c2, rfl⟩ := arrayThree14 (hsz.trans hC)
  obtain ⟨fuel, hf⟩ := h
  obtain ⟨xs, n, _, _, _, hlen, hx⟩ := DataW.trod_struct Tryz.underlying24 hf
  match xs, hlen with
  | [y0, y1, y2], _ =>
    have t0 := hx 0 _ rfl
    have t1 := hx 1 _ rfl
    have t2 := hx 2 _ rfl
    simp only [Value.cells, List.getElem?_cons_zero, List.getElem?_cons_succ] at t0 t1 t2
    obtain ⟨a0, e0, _, w0⟩ := DataW.trod_int Tryz.underlying3 t0
    obtain ⟨a1, e1, _, w1⟩ := DataW.trod_int Tryz.underlying3 t1
    cases e0
    cases e1
    have hS1 : Tryz.prog.cellsOf 22 = 1 := by kernel_rfl
    have t3 : DataW.trod enc Tryz.prog w base (fun _ => true) true n 22 (List.take (Tryz.prog.cellsOf 22) [c2]) = some y2 := t2
    rw [hS1] at t3
    replace t3 : DataW.trod enc Tryz.prog w base (fun _ => true) true n 22 [c2] = some y2 := t3
    clear t2
    rcases open_slice Tryz.underlying22 t3 with ⟨hcs, _⟩ | ⟨y, l, c, m, n, D, Pl, hcs, _⟩
    · have e : c2 = .slice none 0 0 := by simpa using hcs
      subst e
      obtain ⟨ls, hl, h1, h2, h3, h4, h5⟩ := fils_open14 (a := none) (len := 0) (cap := 0) t3
      exact ⟨a0, a1, none, 0, ls, by rw [hl], h1, ⟨h2, by rw [hl]; exact h3⟩, by rw [hl]; exact h4, h5⟩
    · have e : c2 = .slice (some y) l c := by simpa using hcs
      subst e
      obtain ⟨ls, hl, h1, h2, h3, h4, h5⟩ := fils_open14 (a := some y) (len := l) (cap := c) t3
      exact ⟨a0, a1, some y, c, ls, by rw [hl], h1, ⟨h2, by rw [hl]; exact h3⟩, by rw [hl]; exact h4, h5⟩
end
end Go.Proofs.YtlnchfnmpamliaaGreat

namespace Go.Proofs.YtlnchfnmpamliaaGreat
set_option maxRecDepth 10000
open Go.RowKit
namespace Sg

theorem digs_one {n : Nat} (h : 0 < n) (h2 : n < 250) : Wm.digs n = [UInt8.ofNat n] := by
  rw [Wm.digs_pos h, Nat.mod_eq_of_lt h2, Nat.div_eq_of_lt h2, Wm.digs_zero]
theorem lay_one {n : Nat} (h : 0 < n) (h2 : n < 250) : Wm.lay (n : Int) = [UInt8.ofNat n, 255] := by
  unfold Wm.lay; rw [Int.natAbs_natCast, digs_one h h2]
  have : ¬ ((n : Int) < 0) := by omega
  simp [Wm.endB, this]
theorem rec_len {n : Nat} (h : 0 < n) (h2 : n < 250) (x : UInt8) (hs : 0 < Sm.ofL [1, 255, 3, 255, UInt8.ofNat n, 255, x]) : 9 ≤ (Rc.rec1 (n : Int) [x]).length ∧ (Rc.rec1 (n : Int) [x]).length ≤ 12 := by
  have e1 := lay_one h h2
  have e2 : Fm.ahead 1 (Wm.lay (n : Int) ++ [x]) = [1, 255, 3, 255, UInt8.ofNat n, 255, x] := by
    unfold Fm.ahead Fm.textL
    rw [e1]
    have e3 : Wm.lay 1 = [1, 255] := lay_one (n := 1) (by decide) (by decide)
    have e4 : Wm.lay (([UInt8.ofNat n, 255] ++ [x] : List UInt8).length : Int) = [3, 255] := lay_one (n := 3) (by decide) (by decide)
    rw [e3, e4]; rfl
  unfold Rc.rec1 Fm.frame
  rw [e2]
  have hl : 2 ≤ (Wm.lay (Sm.ofL [1, 255, 3, 255, UInt8.ofNat n, 255, x] : Int)).length := by
    unfold Wm.lay; rw [Int.natAbs_natCast, Wm.digs_pos hs]; simp
  have hu : (Wm.lay (Sm.ofL [1, 255, 3, 255, UInt8.ofNat n, 255, x] : Int)).length ≤ 5 := Rc.lay_short (Rc.nOk_iff.2 (by have := Sm.ofL_lt [1, 255, 3, 255, UInt8.ofNat n, 255, x]; omega))
  simp only [List.length_append, List.length_cons, List.length_nil]
  omega
def r5 : List UInt8 := Rc.rec1 5 [97]
def r6 : List UInt8 := Rc.rec1 6 [98]
def r7 : List UInt8 := Rc.rec1 7 [99]
theorem r5_len : 9 ≤ r5.length ∧ r5.length ≤ 12 := rec_len (n := 5) (by decide) (by decide) 97 (by decide +kernel)
theorem r6_len : 9 ≤ r6.length ∧ r6.length ≤ 12 := rec_len (n := 6) (by decide) (by decide) 98 (by decide +kernel)
theorem r7_len : 9 ≤ r7.length ∧ r7.length ≤ 12 := rec_len (n := 7) (by decide) (by decide) 99 (by decide +kernel)
/-- One more record that there is room for, or is not. -/
theorem one_room {sz fi : Int} {a : List Fil} {f : Fil} {ts : List (List UInt8)} {t r : List UInt8} (hrd : rd (a ++ [f]) fi = (ts, true)) (hp : Rc.putE (fi + ts.length) t = 0) (hr : Rc.rec1 (fi + ts.length) t = r) (hl : (r.length : Int) ≤ sz) (h : ((Fi.read f).size : Int) + r.length ≤ sz) :
    oneE ⟨sz, fi, a ++ [f]⟩ t = 0 ∧ one ⟨sz, fi, a ++ [f]⟩ t = ⟨sz, fi, a ++ [⟨f.most, f.kept, f.loose ++ strOf r⟩]⟩ := by
  have e : oneE ⟨sz, fi, a ++ [f]⟩ t = 0 := by
    unfold oneE; simp only; rw [hrd, lastF_split]; simp only
    rw [hr, if_pos trivial, if_pos hp, if_neg (by omega), if_pos h]
  refine ⟨e, ?_⟩
  unfold one; rw [if_pos e]; simp only; rw [hrd]; simp only; rw [hr]
  unfold oneF; simp only; rw [lastF_split, if_pos h, onLast_split]
theorem one_next {sz fi : Int} {a : List Fil} {f : Fil} {ts : List (List UInt8)} {t r : List UInt8} (hrd : rd (a ++ [f]) fi = (ts, true)) (hp : Rc.putE (fi + ts.length) t = 0) (hr : Rc.rec1 (fi + ts.length) t = r) (hl : (r.length : Int) ≤ sz) (h : ¬ ((Fi.read f).size : Int) + r.length ≤ sz) (h20 : (a ++ [f]).length < 20) :
    oneE ⟨sz, fi, a ++ [f]⟩ t = 0 ∧ one ⟨sz, fi, a ++ [f]⟩ t = ⟨sz, fi, (a ++ [Fi.sync f]) ++ [⟨sz, ⟨#[]⟩, strOf r⟩]⟩ := by
  have e : oneE ⟨sz, fi, a ++ [f]⟩ t = 0 := by
    unfold oneE; simp only; rw [hrd, lastF_split]; simp only
    rw [hr, if_pos trivial, if_pos hp, if_neg (by omega), if_neg h, if_neg (by omega)]
  refine ⟨e, ?_⟩
  unfold one; rw [if_pos e]; simp only; rw [hrd]; simp only; rw [hr]
  unfold oneF; simp only; rw [lastF_split, if_neg h, onLast_split]
def f0 : Fil := ⟨25, ⟨#[]⟩, ⟨#[]⟩⟩
def f1 : Fil := ⟨25, ⟨#[]⟩, ⟨#[]⟩ ++ strOf r5⟩
def f2 : Fil := ⟨25, ⟨#[]⟩, (⟨#[]⟩ ++ strOf r5) ++ strOf r6⟩
def f3 : Fil := ⟨25, ⟨#[]⟩, strOf r7⟩
def pA : Seg := ⟨25, 5, [Fi.sync f2, f3]⟩
def pB : Seg := ⟨25, 7, [f3]⟩
def abc : List ByteArray := [⟨#[97]⟩, ⟨#[98]⟩, ⟨#[99]⟩]
theorem s0_ok : newE 25 5 = 0 := by unfold newE; rw [if_pos (by decide)]
theorem new_19 : newE 19 5 = 1 ∧ new 19 5 = no := by
  have h : ¬ is (newS 19 5) = true := by decide
  exact ⟨by unfold newE; rw [if_neg h], by unfold new; rw [if_neg h]⟩
theorem part_steps : go (newS 25 5) (abc.map bl) = (pA, 0) ∧ rd [f2] 5 = ([[97], [98]], true) ∧ rd [Fi.sync f2, f3] 5 = ([[97], [98], [99]], true) ∧ is pA = true := by
  obtain ⟨_, i0, d0⟩ := new_ok s0_ok
  have l5 := r5_len
  have l6 := r6_len
  have l7 := r7_len
  have e0 : newS 25 5 = ⟨25, 5, [] ++ [f0]⟩ := rfl
  rw [e0] at i0 d0
  have z1 : (Fi.read f0).size = 0 := rfl
  have d0' : rd ([] ++ [f0]) 5 = ([], true) := d0
  have a1 := one_room (sz := 25) (fi := 5) (a := []) (f := f0) (t := [97]) (r := r5) d0' (by decide) rfl (by omega) (by rw [z1]; omega)
  have o1 := one_ok i0 a1.1
  rw [a1.2] at o1
  have d1 := o1.2.1
  simp only at d1
  rw [d0'] at d1
  have z2 : (Fi.read f1).size = r5.length := by rw [Fi.read_size]; show 0 + (⟨#[]⟩ ++ strOf r5 : ByteArray).size = _; rw [ByteArray.size_append, strOf_size]; show 0 + (0 + r5.length) = _; omega
  have d1' : rd ([] ++ [f1]) 5 = ([[97]], true) := d1
  have a2 := one_room (sz := 25) (fi := 5) (a := []) (f := f1) (t := [98]) (r := r6) d1' (by decide) rfl (by omega) (by rw [z2]; omega)
  have i1 : is ⟨25, 5, [] ++ [f1]⟩ = true := o1.1
  have o2 := one_ok i1 a2.1
  have e2 : one ⟨25, 5, [] ++ [f1]⟩ [98] = ⟨25, 5, [] ++ [f2]⟩ := a2.2
  rw [e2] at o2
  have d2 := o2.2.1
  simp only at d2
  rw [d1'] at d2
  have d2' : rd ([] ++ [f2]) 5 = ([[97], [98]], true) := d2
  have z3 : (Fi.read f2).size = r5.length + r6.length := by rw [Fi.read_size]; show 0 + ((⟨#[]⟩ ++ strOf r5) ++ strOf r6 : ByteArray).size = _; rw [ByteArray.size_append, ByteArray.size_append, strOf_size, strOf_size]; show 0 + (0 + r5.length + r6.length) = _; omega
  have a3 := one_next (sz := 25) (fi := 5) (a := []) (f := f2) (t := [99]) (r := r7) d2' (by decide) rfl (by omega) (by rw [z3]; omega) (by decide)
  have o3 := one_ok o2.1 a3.1
  have e3 : one ⟨25, 5, [] ++ [f2]⟩ [99] = pA := a3.2
  rw [e3] at o3
  have d3 := o3.2.1
  simp only at d3
  rw [d2'] at d3
  refine ⟨?_, d2', d3, o3.1⟩
  have h1 : go (newS 25 5) (abc.map bl) = go (one (newS 25 5) [97]) [[98], [99]] := go_yes (by rw [e0]; exact a1.1)
  rw [h1, e0, a1.2]
  have h2 : go (⟨25, 5, [] ++ [⟨f0.most, f0.kept, f0.loose ++ strOf r5⟩]⟩ : Seg) [[98], [99]] = go (one ⟨25, 5, [] ++ [f1]⟩ [98]) [[99]] := go_yes a2.1
  rw [h2, e2]
  have h3 : go (⟨25, 5, [] ++ [f2]⟩ : Seg) [[99]] = go (one ⟨25, 5, [] ++ [f2]⟩ [99]) [] := go_yes a3.1
  rw [h3, e3]; rfl
theorem f2_is : Fi.is f2 = true := by
  have l5 := r5_len
  have l6 := r6_len
  unfold Fi.is; rw [decide_eq_true_iff]
  refine ⟨by decide, by decide, ?_⟩
  show ((0 : Nat) : Int) + (((⟨#[]⟩ ++ strOf r5) ++ strOf r6 : ByteArray).size : Nat) ≤ 25
  rw [ByteArray.size_append, ByteArray.size_append, strOf_size, strOf_size]
  show ((0 : Nat) : Int) + ((0 + r5.length + r6.length : Nat) : Int) ≤ 25
  omega
theorem pA_add : addE (newS 25 5) abc = 0 ∧ add (newS 25 5) abc = pA := by
  obtain ⟨_, i0, d0⟩ := new_ok s0_ok
  have hg := part_steps.1
  have e : addE (newS 25 5) abc = 0 := by unfold addE; rw [if_pos i0, d0, hg]; rfl
  refine ⟨e, ?_⟩
  unfold add; rw [if_pos e, hg]
theorem pA_is : is pA = true := part_steps.2.2.2
theorem pA_rd : rd pA.fs pA.fi = ([[97], [98], [99]], true) := part_steps.2.2.1
theorem first_sc : whole (Fi.sync f2) 5 = true ∧ (sc (Fi.sync f2) 5).1 = [[97], [98]] := by
  have h := part_steps.2.1
  rw [rd_one] at h
  have s := sc_same (sync_read f2_is).1 5
  rw [s.1, s.2]
  simp only [Prod.mk.injEq] at h
  exact ⟨h.2, h.1⟩
theorem pA_drop6 : drop pA 6 = pA := by
  rw [drop_ok pA_is]
  have h := first_sc
  have e : dropL 6 pA.fs pA.fi = (5, [Fi.sync f2, f3]) := by
    show dropL 6 [Fi.sync f2, f3] 5 = _
    simp only [dropL]
    rw [if_neg (by rw [h.2]; rintro ⟨_, h2, _⟩; simp at h2)]
  rw [e]; rfl
theorem pA_drop7 : drop pA 7 = pB := by
  rw [drop_ok pA_is]
  have h := first_sc
  have e : dropL 7 pA.fs pA.fi = (7, [f3]) := by
    show dropL 7 [Fi.sync f2, f3] 5 = _
    simp only [dropL]
    rw [if_pos ⟨h.1, by rw [h.2]; decide, by rw [h.2]; decide⟩, h.2]; rfl
  rw [e]; rfl
theorem pB_is : is pB = true ∧ texts pB = [⟨#[99]⟩] := by
  obtain ⟨h1, k, h2, h3, h4, _⟩ := drop_is pA_is (by rw [pA_rd]) 7
  rw [pA_drop7] at h1 h3 h4
  have hk : k = 2 := by have : (7 : Int) = 5 + (k : Nat) := h3; omega
  subst hk
  refine ⟨h1, ?_⟩
  unfold texts; rw [if_pos h1, h4, pA_rd]; rfl
theorem pA_texts : texts pA = abc := by unfold texts; rw [if_pos pA_is, pA_rd]; rfl
theorem s0_is : is (newS 25 5) = true := (new_ok s0_ok).2.1
end Sg
end Go.Proofs.YtlnchfnmpamliaaGreat
