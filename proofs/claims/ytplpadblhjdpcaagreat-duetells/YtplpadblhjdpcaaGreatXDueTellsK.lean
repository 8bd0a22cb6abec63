/-
  Layer 9 (due): what the law DueTells asks of the document's answers.
-/
import Derived.Test.YtplpadblhjdpcaaGreatXJa
import Derived.Test.YtplpadblhjdpcaaGreatXRefSameK
namespace Go.Proofs.YtplpadblhjdpcaaGreat
set_option maxRecDepth 10000
open Go.RowKit

structure RefK9 : Prop where
  ownB : ∀ (m n : Int) (A : Option Addr) (l c : Nat) (ls : List Alm) (w : World) (_h : Told w A l c ls), Calls Tryz.prog 5 #[.agg #[.int .i64 m, .int .i64 n, .slice A l c]] w fun e w' => ∃ A' c', e = .returned (.agg #[.int .i64 m, .int .i64 n, .slice A' l c']) ∧ OwnA w' w.heap.size (.slice A' l c') ls ∧ Below w.heap.size w w'
  ownT : ∀ (A : Option Addr) (l c : Nat) (ts : List Trn) (w : World) (_hl : l = ts.length) (_hA : TrnsAt w w.heap.size A ts) (_h0 : A = none → c = 0) (_hf : l ≤ 1000), Calls Tryz.prog 6 #[.slice A l c] w (OwnedT w l ts)
  turns : ∀ (m n : Int) (A : Option Addr) (l c : Nat) (ls : List Alm) (t : Int) (q : Nat) (w : World) (_h : Told w A l c ls) (_hq : q = (Du.turns m n ls t).length), Calls Tryz.prog 8 #[.agg #[.int .i64 m, .int .i64 n, .slice A l c], .int .i64 t] w (GivesT w q (Du.turns m n ls t) (Du.turnsE m n ls t))
  next : ∀ (m n : Int) (A : Option Addr) (l c : Nat) (ls : List Alm) (w : World) (_h : Told w A l c ls), Calls Tryz.prog 10 #[.agg #[.int .i64 m, .int .i64 n, .slice A l c]] w fun e w' => e = .returned (.tuple #[.int .i64 (Du.firstA ls).un, .bool (Du.firstB ls)]) ∧ Below w.heap.size w w'
  at' : ∀ (m n : Int) (A : Option Addr) (l c : Nat) (ls : List Alm) (b ch t : Int) (w : World) (_h : Told w A l c ls), Calls Tryz.prog 12 #[.agg #[.int .i64 m, .int .i64 n, .slice A l c], .agg #[.int .i64 b, .int .i64 ch], .int .i64 t] w fun e w' => e = .returned (.tuple #[.int .i64 (Du.atP b ch t ls), .bool (Bd.has b ch ls)]) ∧ Below w.heap.size w w'
  first : ∀ (A : Option Addr) (l c : Nat) (ls : List Alm) (w : World) (_h : Told w A l c ls), Calls Tryz.prog 14 #[.slice A l c] w fun e w' => e = .returned (.tuple #[.agg (sixV (Du.firstA ls)), .bool (Du.firstB ls)]) ∧ Below w.heap.size w w'
  order : ∀ (A : Option Addr) (l c : Nat) (ts : List Trn) (w : World) (_hl : l = ts.length) (_hA : TrnsAt w w.heap.size A ts) (_h0 : A = none → c = 0) (_hf : l ≤ 1000), Calls Tryz.prog 18 #[.slice A l c] w (OwnedT w l (Du.order ts))
end Go.Proofs.YtplpadblhjdpcaaGreat
