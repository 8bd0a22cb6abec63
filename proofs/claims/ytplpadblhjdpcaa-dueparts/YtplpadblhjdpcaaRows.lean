/-
  No cell of these rows narrows 'for every input' (looked for: loops, veiled, ifaces, maps, wideKeys, modest, calm, conditions, laid).
  DERIVED. THE GIVEN ROWS OF THIS SEAT. 4 by the template 'for every input the law returns true; each argument reads behind the call as it read before'; 0 by the template 'total and deterministic' (their statements: YtplpadblhjdpcaaTotals.lean).
  GIVEN WITH THE SEED: the statements are not yours to turn. If you find one false, say at which input.
  Laid BY PROGRAM, IN A SANDBOX (cutbox-rows.mjs): the forced cells as the released guide's own fill.sh prints them over the translation 9496b49cb4ab2efe… (all of the seat's roots in one cut). By AI agents, Wed Nov 11 2026. No macro, syntax, notation, axiom, sorry.
-/
import Derived.Test.YtplpadblhjdpcaaChecked
import GoSem.Claim
import GoSem.ClaimJoined
import GoSem.ClaimMapViews
import Derived.JoinedTies
import Derived.KernelRfl
namespace Go.Proofs.Ytplpadblhjdpcaa
/- THE CELL 'sum', in the pinned program and in every row, IS THE sha256 OF THE DUMP (.gsa) THAT YtplpadblhjdpcaaProg.lean LOADS. Nothing in Lean hashes anything: it is a label: what it is worth is what the hold of that sum in a sandbox is worth. -/
noncomputable def Try.pinned : Pinned := { name := "ytplpadblhjdpcaa", sum := "9496b49cb4ab2efe26137ada7e7e0ab522c372cbe53aa2b3c9a9bb68ce01760a", checked := Try.checked }
namespace Rows
def none {H : Type} : Left H := { results := [], args := [] }

/-- 'watchmanlaw09.DuePass': WHATEVER THE INPUT: true; the input reads as it did. -/
def duePassSpec : ChangeSpec := { name := "duePass", fn := fun _ => fun
  | [d1, d2] => { results := [.lit (.bool true)], args := [d1, d2] }
  | _ => none }
def duePassRow : OpenClaim := { program := "ytplpadblhjdpcaa", sum := "9496b49cb4ab2efe26137ada7e7e0ab522c372cbe53aa2b3c9a9bb68ce01760a", func := "watchman/watchmanlaw09.DuePass", spec := "duePass", inPlace := ["slices.overlaps[watchman/api.Alarm]"], unfollowed := true, recurses := true, apart := false }
def DuePassSaid : Prop := duePassRow.holds Try.pinned (OpenSpec.ofChange duePassSpec)

/-- ITS FALSE NEIGHBOUR: 'it returns false'. Refute it at one input. -/
def duePassWrong : ChangeSpec := { name := "duePass", fn := fun _ => fun
  | [d1, d2] => { results := [.lit (.bool false)], args := [d1, d2] }
  | _ => none }
def DuePassWrongFalsely : Prop := duePassRow.holds Try.pinned (OpenSpec.ofChange duePassWrong)

/-- 'watchmanlaw09.DueNext': WHATEVER THE INPUT: true; the input reads as it did. -/
def dueNextSpec : ChangeSpec := { name := "dueNext", fn := fun _ => fun
  | [d1, d2] => { results := [.lit (.bool true)], args := [d1, d2] }
  | _ => none }
def dueNextRow : OpenClaim := { program := "ytplpadblhjdpcaa", sum := "9496b49cb4ab2efe26137ada7e7e0ab522c372cbe53aa2b3c9a9bb68ce01760a", func := "watchman/watchmanlaw09.DueNext", spec := "dueNext", inPlace := ["slices.overlaps[watchman/api.Alarm]"], unfollowed := true, recurses := true, apart := false }
def DueNextSaid : Prop := dueNextRow.holds Try.pinned (OpenSpec.ofChange dueNextSpec)

/-- ITS FALSE NEIGHBOUR: 'it returns false'. Refute it at one input. -/
def dueNextWrong : ChangeSpec := { name := "dueNext", fn := fun _ => fun
  | [d1, d2] => { results := [.lit (.bool false)], args := [d1, d2] }
  | _ => none }
def DueNextWrongFalsely : Prop := dueNextRow.holds Try.pinned (OpenSpec.ofChange dueNextWrong)

/-- 'watchmanlaw09.DueParts': WHATEVER THE INPUT: true; the input reads as it did. -/
def duePartsSpec : ChangeSpec := { name := "dueParts", fn := fun _ => fun
  | [d1, d2, d3] => { results := [.lit (.bool true)], args := [d1, d2, d3] }
  | _ => none }
def duePartsRow : OpenClaim := { program := "ytplpadblhjdpcaa", sum := "9496b49cb4ab2efe26137ada7e7e0ab522c372cbe53aa2b3c9a9bb68ce01760a", func := "watchman/watchmanlaw09.DueParts", spec := "dueParts", inPlace := ["slices.overlaps[watchman/api.Alarm]"], unfollowed := true, recurses := true, apart := false }
def DuePartsSaid : Prop := duePartsRow.holds Try.pinned (OpenSpec.ofChange duePartsSpec)

/-- ITS FALSE NEIGHBOUR: 'it returns false'. Refute it at one input. -/
def duePartsWrong : ChangeSpec := { name := "dueParts", fn := fun _ => fun
  | [d1, d2, d3] => { results := [.lit (.bool false)], args := [d1, d2, d3] }
  | _ => none }
def DuePartsWrongFalsely : Prop := duePartsRow.holds Try.pinned (OpenSpec.ofChange duePartsWrong)

/-- 'watchmanlaw09.DueOrder': WHATEVER THE INPUT: true; the input reads as it did. -/
def dueOrderSpec : ChangeSpec := { name := "dueOrder", fn := fun _ => fun
  | [d] => { results := [.lit (.bool true)], args := [d] }
  | _ => none }
def dueOrderRow : OpenClaim := { program := "ytplpadblhjdpcaa", sum := "9496b49cb4ab2efe26137ada7e7e0ab522c372cbe53aa2b3c9a9bb68ce01760a", func := "watchman/watchmanlaw09.DueOrder", spec := "dueOrder", inPlace := ["slices.overlaps[watchman/api.Alarm]"], unfollowed := true, recurses := true, apart := false }
def DueOrderSaid : Prop := dueOrderRow.holds Try.pinned (OpenSpec.ofChange dueOrderSpec)

/-- ITS FALSE NEIGHBOUR: 'it returns false'. Refute it at one input. -/
def dueOrderWrong : ChangeSpec := { name := "dueOrder", fn := fun _ => fun
  | [d] => { results := [.lit (.bool false)], args := [d] }
  | _ => none }
def DueOrderWrongFalsely : Prop := dueOrderRow.holds Try.pinned (OpenSpec.ofChange dueOrderWrong)

/- THE SECOND FORM. 'bulk': how many values and letters a reading holds, each counted each time it is reached (what is shared counts as often as it is met; a slice's spare places count too). A statement '..UptoSaid' is the law's where the arguments, and the package variables that the reading takes, are together of bulk at most 1048576: NARROWER than '..Said'. Prove '..Said' where nothing that the law and all that it calls make is longer than what came in: it says more and counts as full. Else prove '..UptoSaid'. A law counts once. -/
mutual
def uptoBulk {H : Type} : DataW H → Nat
  | .lit (.string bytes) => bytes.length + 1
  | .lit _ => 1
  | .nil => 1
  | .ptr d => uptoBulk d + 1
  | .slice elems spare => uptoBulkAll elems + uptoBulkAll spare + 1
  | .agg parts => uptoBulkAll parts + 1
  | .iface _ d => uptoBulk d + 1
  | .map entries => uptoBulkEntries entries + 1
  | .held _ => 1
def uptoBulkAll {H : Type} : List (DataW H) → Nat
  | [] => 0
  | d :: r => uptoBulk d + uptoBulkAll r
def uptoBulkEntries {H : Type} : List (Lit × DataW H) → Nat
  | [] => 0
  | x :: r => uptoBulkEntry x + uptoBulkEntries r
def uptoBulkEntry {H : Type} : Lit × DataW H → Nat
  | (.string bytes, d) => bytes.length + uptoBulk d + 1
  | (_, d) => uptoBulk d + 1
 end
def uptoSmall : (H : Type) → List (DataW H) → Bool := fun _ ds => decide (uptoBulkAll ds ≤ 1048576)
def OpenSpec.upto (s : _root_.Go.ChangeSpec) : _root_.Go.OpenSpec := { _root_.Go.OpenSpec.ofChange s with cond := some uptoSmall }

/-- 'watchmanlaw09.DuePass', WHERE WHAT IT READS IS OF BULK AT MOST 1048576: true; the input reads as it did. -/
def duePassUptoRow : OpenClaim := { program := "ytplpadblhjdpcaa", sum := "9496b49cb4ab2efe26137ada7e7e0ab522c372cbe53aa2b3c9a9bb68ce01760a", func := "watchman/watchmanlaw09.DuePass", spec := "duePass", inPlace := ["slices.overlaps[watchman/api.Alarm]"], unfollowed := true, recurses := true, apart := false, narrowed := true }
def DuePassUptoSaid : Prop := duePassUptoRow.holds Try.pinned (OpenSpec.upto duePassSpec)

/-- 'watchmanlaw09.DueNext', WHERE WHAT IT READS IS OF BULK AT MOST 1048576: true; the input reads as it did. -/
def dueNextUptoRow : OpenClaim := { program := "ytplpadblhjdpcaa", sum := "9496b49cb4ab2efe26137ada7e7e0ab522c372cbe53aa2b3c9a9bb68ce01760a", func := "watchman/watchmanlaw09.DueNext", spec := "dueNext", inPlace := ["slices.overlaps[watchman/api.Alarm]"], unfollowed := true, recurses := true, apart := false, narrowed := true }
def DueNextUptoSaid : Prop := dueNextUptoRow.holds Try.pinned (OpenSpec.upto dueNextSpec)

/-- 'watchmanlaw09.DueParts', WHERE WHAT IT READS IS OF BULK AT MOST 1048576: true; the input reads as it did. -/
def duePartsUptoRow : OpenClaim := { program := "ytplpadblhjdpcaa", sum := "9496b49cb4ab2efe26137ada7e7e0ab522c372cbe53aa2b3c9a9bb68ce01760a", func := "watchman/watchmanlaw09.DueParts", spec := "dueParts", inPlace := ["slices.overlaps[watchman/api.Alarm]"], unfollowed := true, recurses := true, apart := false, narrowed := true }
def DuePartsUptoSaid : Prop := duePartsUptoRow.holds Try.pinned (OpenSpec.upto duePartsSpec)

/-- 'watchmanlaw09.DueOrder', WHERE WHAT IT READS IS OF BULK AT MOST 1048576: true; the input reads as it did. -/
def dueOrderUptoRow : OpenClaim := { program := "ytplpadblhjdpcaa", sum := "9496b49cb4ab2efe26137ada7e7e0ab522c372cbe53aa2b3c9a9bb68ce01760a", func := "watchman/watchmanlaw09.DueOrder", spec := "dueOrder", inPlace := ["slices.overlaps[watchman/api.Alarm]"], unfollowed := true, recurses := true, apart := false, narrowed := true }
def DueOrderUptoSaid : Prop := dueOrderUptoRow.holds Try.pinned (OpenSpec.upto dueOrderSpec)

end Rows
end Go.Proofs.Ytplpadblhjdpcaa
