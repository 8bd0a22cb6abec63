/-
  Layer 8 (board): boards that are the same.
-/
import Derived.Test.YtpgichlaghhdeaaGreatDoorXJb
import Derived.Test.YtpgichlaghhdeaaGreatDoorXJl
namespace Go.Proofs.YtpgichlaghhdeaaGreatDoor
set_option maxRecDepth 10000
open Go.RowKit

/-- Boards that are the same. -/
def SameK : Prop := ∀ (m n : Int) (A B : Option Addr) (l c c2 : Nat) (ls : List Alm) (w : World) (_h : l = ls.length) (_h1 : AlmsAt w w.heap.size A ls) (_h2 : AlmsAt w w.heap.size B ls) (_h3 : l ≤ 1000),
    Calls Tryz.prog 23 #[.agg #[.int .i64 m, .int .i64 n, .slice A l c], .agg #[.int .i64 m, .int .i64 n, .slice B l c2]] w fun e w' => e = .returned (.bool true) ∧ Below w.heap.size w w'
end Go.Proofs.YtpgichlaghhdeaaGreatDoor
