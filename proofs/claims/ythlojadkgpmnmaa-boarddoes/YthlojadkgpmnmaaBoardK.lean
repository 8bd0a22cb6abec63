/-
  Layer 8 (board): boards in memory; what the laws ask of board's and alarm's functions (BoardC shows it of the program).
-/
import Derived.Test.YthlojadkgpmnmaaState
import Derived.Test.YthlojadkgpmnmaaBoardM
import Derived.Test.YthlojadkgpmnmaaRankRow
import Derived.Test.YthlojadkgpmnmaaAlarmTwo
import Derived.Test.YthlojadkgpmnmaaRefRank2
namespace Go.Proofs.Ythlojadkgpmnmaa
open Go.RowKit

/-- A board's cells. -/
def bdV (m n : Int) (A : Option Addr) (l c : Nat) : Array Value := #[.int .i64 m, .int .i64 n, .slice A l c]
theorem bd_one (m n : Int) (A : Option Addr) (l c : Nat) : (bdV m n A l c).all (·.oneCell') = true := by simp [bdV, Value.oneCell']
/-- Alarms that lie there. -/
def rowF (A : Option Addr) (ls : List Alm) : Fact := ⟨fun w => AlmsAt w w.heap.size A ls, fun _ _ h hb => h.on hb⟩
/-- Alarms of one's own. -/
def ownF (base : Nat) (v : Value) (ls : List Alm) : Fact := ⟨fun w => OwnA w base v ls, fun _ _ h hb => h.below hb⟩
/-- Numbers that lie there. -/
def numF (A : Option Addr) (zs : List Int) : Fact := ⟨fun w => IntsAt w w.heap.size A zs, fun _ _ h hb => h.on hb⟩

/-- What a call ends with that hands back a board of its own, and an error. -/
def GivesB (w : World) (b : Brd) (l : Nat) (er : Int) (e : Ending) (w' : World) : Prop :=
  ∃ A c, e = .returned (.tuple #[.agg #[.int .i64 b.most, .int .i64 b.now, .slice A l c], .int .i64 er]) ∧ OwnA w' w.heap.size (.slice A l c) b.als ∧ Below w.heap.size w w'
theorem OwnA.alms {w : World} {base : Nat} {A : Option Addr} {l c : Nat} {ls : List Alm} (h : OwnA w base (.slice A l c) ls) : AlmsAt w w.heap.size A ls ∧ (A = none → c = 0) := by
  obtain ⟨A', c', e, h1, h2, _⟩ := h.slice
  cases e
  exact ⟨h1, h2⟩
theorem OwnA.len {w : World} {base : Nat} {A : Option Addr} {l c : Nat} {ls : List Alm} (h : OwnA w base (.slice A l c) ls) : l = ls.length := by
  obtain ⟨A', c', e, h1, h2, _⟩ := h.slice
  cases e
  rfl

/-- What is asked of a board that is told. -/
def Told (w : World) (A : Option Addr) (l c : Nat) (ls : List Alm) : Prop := l = ls.length ∧ AlmsAt w w.heap.size A ls ∧ (A = none → c = 0) ∧ l ≤ 1000

structure BoardK : Prop where
  new : ∀ (m : Int) (l : Nat) (w : World) (_h : l = (Bd.new m).als.length), Calls Try.prog 18 #[.int .i64 m] w (GivesB w (Bd.new m) l (Bd.newE m))
  is : ∀ (m n : Int) (A : Option Addr) (l c : Nat) (ls : List Alm) (w : World) (_h : Told w A l c ls),
    Calls Try.prog 27 #[.agg #[.int .i64 m, .int .i64 n, .slice A l c]] w fun e w' => e = .returned (.bool (Bd.isB m n ls)) ∧ Below w.heap.size w w'
  get : ∀ (m n : Int) (A : Option Addr) (l c : Nat) (ls : List Alm) (b ch : Int) (w : World) (_h : Told w A l c ls),
    Calls Try.prog 16 #[.agg #[.int .i64 m, .int .i64 n, .slice A l c], .agg #[.int .i64 b, .int .i64 ch]] w fun e w' => e = .returned (.tuple #[.agg (sixV (Bd.getA b ch ls).1), .bool (Bd.getA b ch ls).2]) ∧ Below w.heap.size w w'
  put : ∀ (m n : Int) (A : Option Addr) (l c : Nat) (ls : List Alm) (x : Alm) (q : Nat) (w : World) (_h : Told w A l c ls) (_hq : q = (Bd.put m n ls x).als.length),
    Calls Try.prog 10 #[.agg #[.int .i64 m, .int .i64 n, .slice A l c], .agg (sixV x)] w (GivesB w (Bd.put m n ls x) q (Bd.putE m n ls x))
  drop : ∀ (m n : Int) (A : Option Addr) (l c : Nat) (ls : List Alm) (b ch : Int) (q : Nat) (w : World) (_h : Told w A l c ls) (_hq : q = (Bd.drop m n ls b ch).als.length),
    Calls Try.prog 12 #[.agg #[.int .i64 m, .int .i64 n, .slice A l c], .agg #[.int .i64 b, .int .i64 ch]] w (GivesB w (Bd.drop m n ls b ch) q (Bd.dropE m n ls b ch))
  pass : ∀ (m n : Int) (A : Option Addr) (l c : Nat) (ls : List Alm) (t : Int) (q : Nat) (w : World) (_h : Told w A l c ls) (_hq : q = (Bd.pass m n ls t).als.length),
    Calls Try.prog 14 #[.agg #[.int .i64 m, .int .i64 n, .slice A l c], .int .i64 t] w (GivesB w (Bd.pass m n ls t) q (Bd.passE m n ls t))
  gather : ∀ (m n : Int) (A : Option Addr) (l c : Nat) (ls : List Alm) (B : Option Addr) (k cb : Nat) (zs : List Int) (w : World) (_h : Told w A l c ls) (_hk : k = zs.length) (_hB : IntsAt w w.heap.size B zs) (_hk2 : k ≤ 1000),
    Calls Try.prog 21 #[.agg #[.int .i64 m, .int .i64 n, .slice A l c], .slice B k cb] w (OwnedA w (Bd.ofL zs ls))
  opn : ∀ (b c prio t : Int) (w : World), Calls Try.prog 45 #[.agg #[.int .i64 b, .int .i64 c], .int .i64 prio, .int .i64 t] w fun e w' => e = .returned (.tuple #[.agg (sixV (Am.opn b c prio t)), .int .i64 (Am.openE b c prio t)]) ∧ Below w.heap.size w w'

/-- Boards that are the same. -/
def SameK : Prop := ∀ (m n : Int) (A B : Option Addr) (l c c2 : Nat) (ls : List Alm) (w : World) (_h : l = ls.length) (_h1 : AlmsAt w w.heap.size A ls) (_h2 : AlmsAt w w.heap.size B ls) (_h3 : l ≤ 1000),
    Calls Try.prog 20 #[.agg #[.int .i64 m, .int .i64 n, .slice A l c], .agg #[.int .i64 m, .int .i64 n, .slice B l c2]] w fun e w' => e = .returned (.bool true) ∧ Below w.heap.size w w'
end Go.Proofs.Ythlojadkgpmnmaa
