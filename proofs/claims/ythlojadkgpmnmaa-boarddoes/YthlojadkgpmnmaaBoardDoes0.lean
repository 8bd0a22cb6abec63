/-
  Layer 8 (board): what the law BoardDoes asks of the reference, and words for its walk.
-/
import Derived.Test.YthlojadkgpmnmaaBoardSmudge
import Derived.Test.YthlojadkgpmnmaaState2
namespace Go.Proofs.Ythlojadkgpmnmaa
open Go.RowKit

/-- What a call ends with that hands back a board of its own. -/
def OwnB0 (w : World) (m n : Int) (l : Nat) (ls : List Alm) (e : Ending) (w' : World) : Prop :=
  ∃ A c, e = .returned (.agg #[.int .i64 m, .int .i64 n, .slice A l c]) ∧ OwnA w' w.heap.size (.slice A l c) ls ∧ Below w.heap.size w w'
/-- .. numbers of its own. -/
def OwnI0 (w : World) (n : Nat) (zs : List Int) (e : Ending) (w' : World) : Prop :=
  ∃ A c, e = .returned (.slice A n c) ∧ IntsAt w' w'.heap.size A zs ∧ Below w.heap.size w w'
/-- .. alarms of its own, that many. -/
def OwnL0 (w : World) (n : Nat) (ls : List Alm) (e : Ending) (w' : World) : Prop :=
  ∃ A c, e = .returned (.slice A n c) ∧ OwnA w' w.heap.size (.slice A n c) ls ∧ Below w.heap.size w w'
theorem OwnedA.l0 {w : World} {n : Nat} {ls : List Alm} {e : Ending} {w' : World} (h : OwnedA w ls e w') (hn : n = ls.length) : OwnL0 w n ls e w' := by
  obtain ⟨v, rfl, ho, hB⟩ := h
  obtain ⟨A, c, rfl, hA, h0, _⟩ := ho.slice
  subst hn
  exact ⟨A, c, rfl, ho, hB⟩

structure RefK : Prop where
  own : ∀ (m n : Int) (A : Option Addr) (l c : Nat) (ls : List Alm) (w : World) (_h : Told w A l c ls), Calls Try.prog 9 #[.agg #[.int .i64 m, .int .i64 n, .slice A l c]] w (OwnB0 w m n l ls)
  is : ∀ (m n : Int) (A : Option Addr) (l c : Nat) (ls : List Alm) (w : World) (_h : Told w A l c ls), Calls Try.prog 28 #[.agg #[.int .i64 m, .int .i64 n, .slice A l c]] w fun e w' => e = .returned (.bool (Bd.isB m n ls)) ∧ Below w.heap.size w w'
  get : ∀ (m n : Int) (A : Option Addr) (l c : Nat) (ls : List Alm) (b ch : Int) (w : World) (_h : Told w A l c ls), Calls Try.prog 17 #[.agg #[.int .i64 m, .int .i64 n, .slice A l c], .agg #[.int .i64 b, .int .i64 ch]] w fun e w' => e = .returned (.tuple #[.agg (sixV (Bd.getA b ch ls).1), .bool (Bd.getA b ch ls).2]) ∧ Below w.heap.size w w'
  put : ∀ (m n : Int) (A : Option Addr) (l c : Nat) (ls : List Alm) (x : Alm) (q : Nat) (w : World) (_h : Told w A l c ls) (_hc : l ≤ c) (_hq : q = (Bd.put m n ls x).als.length), Calls Try.prog 11 #[.agg #[.int .i64 m, .int .i64 n, .slice A l c], .agg (sixV x)] w (GivesB w (Bd.put m n ls x) q (Bd.putE m n ls x))
  drop : ∀ (m n : Int) (A : Option Addr) (l c : Nat) (ls : List Alm) (b ch : Int) (q : Nat) (w : World) (_h : Told w A l c ls) (_hq : q = (Bd.drop m n ls b ch).als.length), Calls Try.prog 13 #[.agg #[.int .i64 m, .int .i64 n, .slice A l c], .agg #[.int .i64 b, .int .i64 ch]] w (GivesB w (Bd.drop m n ls b ch) q (Bd.dropE m n ls b ch))
  pass : ∀ (m n : Int) (A : Option Addr) (l c : Nat) (ls : List Alm) (t : Int) (q : Nat) (w : World) (_h : Told w A l c ls) (_hq : q = (Bd.pass m n ls t).als.length), Calls Try.prog 15 #[.agg #[.int .i64 m, .int .i64 n, .slice A l c], .int .i64 t] w (GivesB w (Bd.pass m n ls t) q (Bd.passE m n ls t))
  new : ∀ (m : Int) (l : Nat) (w : World) (_h : l = (Bd.new m).als.length), Calls Try.prog 19 #[.int .i64 m] w (GivesB w (Bd.new m) l (Bd.newE m))
  gather : ∀ (m n : Int) (A : Option Addr) (l c : Nat) (ls : List Alm) (B : Option Addr) (k cb : Nat) (zs : List Int) (w : World) (_h : Told w A l c ls) (_hk : k = zs.length) (_hB : IntsAt w w.heap.size B zs) (_hk2 : k ≤ 1000), Calls Try.prog 23 #[.agg #[.int .i64 m, .int .i64 n, .slice A l c], .slice B k cb] w (OwnedA w (Bd.ofL zs ls))
  ints : ∀ (B : Option Addr) (k cb : Nat) (zs : List Int) (w : World) (_hk : k = zs.length) (_hB : IntsAt w w.heap.size B zs) (_h0 : B = none → cb = 0) (_hk2 : k ≤ 1000), Calls Try.prog 24 #[.slice B k cb] w (OwnI0 w k zs)

/-- From here on. -/
theorem St.restart {w0 w : World} {L : List (Nat × Array Value)} {M : List Fact} (h : St w0 w L M) : St w w L M := ⟨h.live, h.facts, Below.refl _ _⟩
theorem OwnA.lt8 {w : World} {base : Nat} {v : Value} {ls : List Alm} (h : OwnA w base v ls) : ∀ k, v.ownBlock = some k → k < w.heap.size := fun k hk => (World.ownsRow.lt h k hk).2
theorem OwnA.ge10 {w : World} {base : Nat} {v : Value} {ls : List Alm} (h : OwnA w base v ls) : ∀ k, v.ownBlock = some k → base ≤ k := fun k hk => (World.ownsRow.lt h k hk).1
theorem own_apart8 {a b : Value} {n : Nat} (h1 : ∀ k, a.ownBlock = some k → k < n) (h2 : ∀ k, b.ownBlock = some k → n ≤ k) : b.ownBlock = none ∨ b.ownBlock ≠ a.ownBlock := by
  cases hb : b.ownBlock with
  | none => exact Or.inl rfl
  | some k =>
    refine Or.inr (fun e => ?_)
    have := h1 k e.symm
    have := h2 k hb
    omega
theorem OwnA.kept8 {w w' : World} {base : Nat} {v : Value} {ls : List Alm} {row : Option Nat} (h : OwnA w base v ls) (hg : w.grownBy w' row) (hne : v.ownBlock = none ∨ v.ownBlock ≠ row) : OwnA w' base v ls := World.ownsRow.kept h hg hne
/-- A row of alarms is no block of three cells. -/
theorem OwnA.ne3 {w : World} {base : Nat} {v : Value} {ls : List Alm} (h : OwnA w base v ls) {k : Nat} {cs : Array Value} {t : TypeId} (hk : w.heap[k]? = some (.cells cs t (0, 0))) (h3 : cs.size = 3) : some k ≠ v.ownBlock := by
  rcases h.2 with ⟨rfl, _⟩ | ⟨g, cap, cur, rfl, _, hg, _, _, hs, _⟩
  · intro e; cases e
  · intro e
    have e : k = g := Option.some.inj e
    subst e
    rw [hk] at hg
    cases hg
    omega
/-- Boards stay while a row of alarms is turned. -/
theorem St.smudged {w0 w w' : World} {L : List (Nat × Array Value)} {M : List Fact} (h : St w0 w L M) (L' : List (Nat × Array Value)) (hL : ∀ x ∈ L', x ∈ L) (h3 : ∀ x ∈ L', x.2.size = 3) {base : Nat} {v : Value} {ls : List Alm} (hO : OwnA w base v ls) (hg : w.grownBy w' v.ownBlock) (hb : w0.heap.size ≤ base) : St w0 w' L' [] :=
  ⟨fun x hx => by
    obtain ⟨t, ht⟩ := h.live x (hL x hx)
    exact ⟨t, (hg.block x.1 (Array.getElem?_eq_some_iff.1 ht).1 (hO.ne3 ht (h3 x hx))).trans ht⟩, (fun _ h => nomatch h), h.below.grown hg h.below.size (fun k hk => Nat.le_trans hb (hO.ge10 k hk))⟩
end Go.Proofs.Ythlojadkgpmnmaa
