/-
  Layer 12 (file): what the laws ask of file's functions. E is what they ask of the world (or nothing).
-/
import Derived.Test.YteepemibmjpnfaaChecked
import Derived.Test.YteepemibmjpnfaaFileM
import Derived.Test.YteepemibmjpnfaaState
namespace Go.Proofs.Yteepemibmjpnfaa
set_option maxRecDepth 10000
open Go.RowKit

/-! ### the document's rows, reckoned -/
def fi0 : Fil := ⟨5, ⟨#[]⟩, ⟨#[]⟩⟩
def fi1 : Fil := ⟨5, ⟨#[]⟩, ⟨#[97, 98]⟩⟩
def fi2 : Fil := ⟨5, ⟨#[97, 98]⟩, ⟨#[]⟩⟩
def fi3 : Fil := ⟨5, ⟨#[97, 98]⟩, ⟨#[99, 100]⟩⟩
def fi4 : Fil := ⟨5, ⟨#[97, 98, 99]⟩, ⟨#[]⟩⟩
theorem fi_new : Fi.new 5 = fi0 ∧ Fi.newE 5 = 0 := ⟨rfl, rfl⟩
theorem fi_is : Fi.is fi0 = true ∧ Fi.is fi1 = true ∧ Fi.is fi2 = true ∧ Fi.is fi3 = true := by decide
theorem fi_add1 : Fi.add fi0 [⟨#[97]⟩, ⟨#[98]⟩] = fi1 ∧ Fi.addE fi0 [⟨#[97]⟩, ⟨#[98]⟩] = 0 := ⟨rfl, rfl⟩
theorem fi_sync : Fi.sync fi1 = fi2 ∧ Fi.badE fi1 = 0 := ⟨rfl, rfl⟩
theorem fi_add2 : Fi.add fi2 [⟨#[99, 100]⟩] = fi3 ∧ Fi.addE fi2 [⟨#[99, 100]⟩] = 0 := ⟨rfl, rfl⟩
theorem fi_crash1 : Fi.crash fi3 1 = fi4 ∧ Fi.badE fi3 = 0 := ⟨rfl, rfl⟩
theorem fi_crash0 : Fi.crash fi3 0 = fi2 := rfl
theorem fi_add3 : Fi.add fi3 [⟨#[120, 121]⟩] = Fi.no ∧ Fi.addE fi3 [⟨#[120, 121]⟩] = 81 := ⟨rfl, rfl⟩
theorem fi_cut : Fi.cut fi3 3 = fi4 ∧ Fi.cutE fi3 3 = 0 := ⟨rfl, rfl⟩
theorem fi_read : Fi.read fi4 = ⟨#[97, 98, 99]⟩ ∧ Fi.read fi2 = ⟨#[97, 98]⟩ := ⟨rfl, rfl⟩
theorem fi_smalls : Fi.small fi0 ∧ Fi.small fi1 ∧ Fi.small fi2 ∧ Fi.small fi3 ∧ Fi.small fi4 := by unfold Fi.small; decide
theorem run_eql_fil4 (w : World) : (binOp .eql 23 (.agg (filV fi4)) (.agg #[.int .i64 5, .string ⟨#[97, 98, 99]⟩, .string ⟨#[]⟩])).run Try.prog w = .ok (.bool true) w := by
  unfold filV fi4
  go_simp
end Go.Proofs.Yteepemibmjpnfaa
