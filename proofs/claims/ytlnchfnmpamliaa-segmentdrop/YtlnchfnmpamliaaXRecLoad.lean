/-
  Layer 13 (record): loads under a guard; two files that are the same.
-/
import Derived.Test.YtlnchfnmpamliaaChecked
import Derived.Test.YtlnchfnmpamliaaXRecK
import Derived.Test.YtlnchfnmpamliaaXJb
import Derived.BigQuiet
import Derived.Deep.QuietTactic
namespace Go.Proofs.Ytlnchfnmpamliaa
set_option maxRecDepth 10000
open Go.RowKit

theorem run_eql_file13 (w : World) (a : Int) (b c : ByteArray) : (binOp .eql 44 (.agg #[.int .i64 a, .string b, .string c]) (.agg #[.int .i64 a, .string b, .string c])).run Try.prog w = .ok (.bool true) w := by
  go_simp
theorem fil_one13 (a : Int) (b c : ByteArray) : (#[.int .i64 a, .string b, .string c] : Array Value).all (·.oneCell') = true := by simp [Value.oneCell']
theorem Rc.okAll_len {n : Int} {ls : List (List UInt8)} (h : Rc.okAll n ls) : ls.length ≤ 1000000001 := by
  rcases ((Rc.okAll_iff n ls).1 h).1 with rfl | ⟨h1, h2⟩
  · exact Nat.zero_le _
  · omega
end Go.Proofs.Ytlnchfnmpamliaa
