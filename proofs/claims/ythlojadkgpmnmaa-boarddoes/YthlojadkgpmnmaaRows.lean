/-
  No cell of these rows narrows 'for every input' (looked for: loops, veiled, ifaces, maps, wideKeys, modest, calm, conditions, laid).
  DERIVED. THE GIVEN ROWS OF THIS SEAT. 5 by the template 'for every input the law returns true; each argument reads behind the call as it read before'; 0 by the template 'total and deterministic' (their statements: YthlojadkgpmnmaaTotals.lean).
  GIVEN WITH THE SEED: the statements are not yours to turn. If you find one false, say at which input.
  Laid BY PROGRAM, IN A SANDBOX (cutbox-rows.mjs): the forced cells as the released guide's own fill.sh prints them over the translation 0bec91e0e27ff244… (all of the seat's roots in one cut). By AI agents, Wed Nov 11 2026. No macro, syntax, notation, axiom, sorry.
-/
import Derived.Test.YthlojadkgpmnmaaChecked
import GoSem.Claim
import GoSem.ClaimJoined
import GoSem.ClaimMapViews
import Derived.JoinedTies
import Derived.KernelRfl
namespace Go.Proofs.Ythlojadkgpmnmaa
/- THE CELL 'sum', in the pinned program and in every row, IS THE sha256 OF THE DUMP (.gsa) THAT YthlojadkgpmnmaaProg.lean LOADS. Nothing in Lean hashes anything: it is a label: what it is worth is what the hold of that sum in a sandbox is worth. -/
noncomputable def Try.pinned : Pinned := { name := "ythlojadkgpmnmaa", sum := "0bec91e0e27ff244d145ede8c8bf1627cff5eb3cec10aaa26993c188e6ea1aee", checked := Try.checked }
namespace Rows
def none {H : Type} : Left H := { results := [], args := [] }

/-- 'watchmanlaw08.BoardDoes': WHATEVER THE INPUT: true; the input reads as it did. -/
def boardDoesSpec : ChangeSpec := { name := "boardDoes", fn := fun _ => fun
  | [d1, d2, d3, d4, d5, d6] => { results := [.lit (.bool true)], args := [d1, d2, d3, d4, d5, d6] }
  | _ => none }
def boardDoesRow : OpenClaim := { program := "ythlojadkgpmnmaa", sum := "0bec91e0e27ff244d145ede8c8bf1627cff5eb3cec10aaa26993c188e6ea1aee", func := "watchman/watchmanlaw08.BoardDoes", spec := "boardDoes", inPlace := ["slices.overlaps[watchman/api.Alarm]"], apart := false }
def BoardDoesSaid : Prop := boardDoesRow.holds Try.pinned (OpenSpec.ofChange boardDoesSpec)

/-- ITS FALSE NEIGHBOUR: 'it returns false'. Refute it at one input. -/
def boardDoesWrong : ChangeSpec := { name := "boardDoes", fn := fun _ => fun
  | [d1, d2, d3, d4, d5, d6] => { results := [.lit (.bool false)], args := [d1, d2, d3, d4, d5, d6] }
  | _ => none }
def BoardDoesWrongFalsely : Prop := boardDoesRow.holds Try.pinned (OpenSpec.ofChange boardDoesWrong)

/-- 'watchmanlaw08.BoardPuts': WHATEVER THE INPUT: true; the input reads as it did. -/
def boardPutsSpec : ChangeSpec := { name := "boardPuts", fn := fun _ => fun
  | [d1, d2, d3] => { results := [.lit (.bool true)], args := [d1, d2, d3] }
  | _ => none }
def boardPutsRow : OpenClaim := { program := "ythlojadkgpmnmaa", sum := "0bec91e0e27ff244d145ede8c8bf1627cff5eb3cec10aaa26993c188e6ea1aee", func := "watchman/watchmanlaw08.BoardPuts", spec := "boardPuts", inPlace := ["slices.overlaps[watchman/api.Alarm]"], apart := false }
def BoardPutsSaid : Prop := boardPutsRow.holds Try.pinned (OpenSpec.ofChange boardPutsSpec)

/-- ITS FALSE NEIGHBOUR: 'it returns false'. Refute it at one input. -/
def boardPutsWrong : ChangeSpec := { name := "boardPuts", fn := fun _ => fun
  | [d1, d2, d3] => { results := [.lit (.bool false)], args := [d1, d2, d3] }
  | _ => none }
def BoardPutsWrongFalsely : Prop := boardPutsRow.holds Try.pinned (OpenSpec.ofChange boardPutsWrong)

/-- 'watchmanlaw08.BoardPass': WHATEVER THE INPUT: true; the input reads as it did. -/
def boardPassSpec : ChangeSpec := { name := "boardPass", fn := fun _ => fun
  | [d1, d2, d3] => { results := [.lit (.bool true)], args := [d1, d2, d3] }
  | _ => none }
def boardPassRow : OpenClaim := { program := "ythlojadkgpmnmaa", sum := "0bec91e0e27ff244d145ede8c8bf1627cff5eb3cec10aaa26993c188e6ea1aee", func := "watchman/watchmanlaw08.BoardPass", spec := "boardPass", inPlace := ["slices.overlaps[watchman/api.Alarm]"], apart := false }
def BoardPassSaid : Prop := boardPassRow.holds Try.pinned (OpenSpec.ofChange boardPassSpec)

/-- ITS FALSE NEIGHBOUR: 'it returns false'. Refute it at one input. -/
def boardPassWrong : ChangeSpec := { name := "boardPass", fn := fun _ => fun
  | [d1, d2, d3] => { results := [.lit (.bool false)], args := [d1, d2, d3] }
  | _ => none }
def BoardPassWrongFalsely : Prop := boardPassRow.holds Try.pinned (OpenSpec.ofChange boardPassWrong)

/-- 'watchmanlaw08.BoardBeds': WHATEVER THE INPUT: true; the input reads as it did. -/
def boardBedsSpec : ChangeSpec := { name := "boardBeds", fn := fun _ => fun
  | [d1, d2] => { results := [.lit (.bool true)], args := [d1, d2] }
  | _ => none }
def boardBedsRow : OpenClaim := { program := "ythlojadkgpmnmaa", sum := "0bec91e0e27ff244d145ede8c8bf1627cff5eb3cec10aaa26993c188e6ea1aee", func := "watchman/watchmanlaw08.BoardBeds", spec := "boardBeds", inPlace := ["slices.overlaps[watchman/api.Alarm]"], apart := false }
def BoardBedsSaid : Prop := boardBedsRow.holds Try.pinned (OpenSpec.ofChange boardBedsSpec)

/-- ITS FALSE NEIGHBOUR: 'it returns false'. Refute it at one input. -/
def boardBedsWrong : ChangeSpec := { name := "boardBeds", fn := fun _ => fun
  | [d1, d2] => { results := [.lit (.bool false)], args := [d1, d2] }
  | _ => none }
def BoardBedsWrongFalsely : Prop := boardBedsRow.holds Try.pinned (OpenSpec.ofChange boardBedsWrong)

/-- 'watchmanlaw08.BoardOrder': WHATEVER THE INPUT: true; the input reads as it did. -/
def boardOrderSpec : ChangeSpec := { name := "boardOrder", fn := fun _ => fun
  | [d1, d2, d3] => { results := [.lit (.bool true)], args := [d1, d2, d3] }
  | _ => none }
def boardOrderRow : OpenClaim := { program := "ythlojadkgpmnmaa", sum := "0bec91e0e27ff244d145ede8c8bf1627cff5eb3cec10aaa26993c188e6ea1aee", func := "watchman/watchmanlaw08.BoardOrder", spec := "boardOrder", inPlace := ["slices.overlaps[watchman/api.Alarm]"], apart := false }
def BoardOrderSaid : Prop := boardOrderRow.holds Try.pinned (OpenSpec.ofChange boardOrderSpec)

/-- ITS FALSE NEIGHBOUR: 'it returns false'. Refute it at one input. -/
def boardOrderWrong : ChangeSpec := { name := "boardOrder", fn := fun _ => fun
  | [d1, d2, d3] => { results := [.lit (.bool false)], args := [d1, d2, d3] }
  | _ => none }
def BoardOrderWrongFalsely : Prop := boardOrderRow.holds Try.pinned (OpenSpec.ofChange boardOrderWrong)

/- THE SECOND FORM. 'bulk': how many values and letters a reading holds, each counted each time it is reached (what is shared counts as often as it is met; a slice's spare places count too). A statement '..UptoSaid' is the law's where the arguments, and the package variables that the reading takes, are together of bulk at most 1048576: NARROWER than '..Said'. Prove '..Said' where nothing that the law and all that it calls make is longer than what came in: it says more and counts as full. Else prove '..UptoSaid'. A law counts once. -/
mutual
def uptoBulk {H : Type} : DataW H → Nat
  | .lit (.string bytes) => bytes.length + 1
  | .lit _ => 1
  | .nil => 1
  | .ptr d => uptoBulk d + 1
  | .slice elems spare => uptoBulkAll elems + uptoBulkAll spare + 1
  | .agg parts => uptoBulkAll parts + 1
  | .iface _ d => uptoBulk d + 1
  | .map entries => uptoBulkEntries entries + 1
  | .held _ => 1
def uptoBulkAll {H : Type} : List (DataW H) → Nat
  | [] => 0
  | d :: r => uptoBulk d + uptoBulkAll r
def uptoBulkEntries {H : Type} : List (Lit × DataW H) → Nat
  | [] => 0
  | x :: r => uptoBulkEntry x + uptoBulkEntries r
def uptoBulkEntry {H : Type} : Lit × DataW H → Nat
  | (.string bytes, d) => bytes.length + uptoBulk d + 1
  | (_, d) => uptoBulk d + 1
 end
def uptoSmall : (H : Type) → List (DataW H) → Bool := fun _ ds => decide (uptoBulkAll ds ≤ 1048576)
def OpenSpec.upto (s : _root_.Go.ChangeSpec) : _root_.Go.OpenSpec := { _root_.Go.OpenSpec.ofChange s with cond := some uptoSmall }

/-- 'watchmanlaw08.BoardDoes', WHERE WHAT IT READS IS OF BULK AT MOST 1048576: true; the input reads as it did. -/
def boardDoesUptoRow : OpenClaim := { program := "ythlojadkgpmnmaa", sum := "0bec91e0e27ff244d145ede8c8bf1627cff5eb3cec10aaa26993c188e6ea1aee", func := "watchman/watchmanlaw08.BoardDoes", spec := "boardDoes", inPlace := ["slices.overlaps[watchman/api.Alarm]"], apart := false, narrowed := true }
def BoardDoesUptoSaid : Prop := boardDoesUptoRow.holds Try.pinned (OpenSpec.upto boardDoesSpec)

/-- 'watchmanlaw08.BoardPuts', WHERE WHAT IT READS IS OF BULK AT MOST 1048576: true; the input reads as it did. -/
def boardPutsUptoRow : OpenClaim := { program := "ythlojadkgpmnmaa", sum := "0bec91e0e27ff244d145ede8c8bf1627cff5eb3cec10aaa26993c188e6ea1aee", func := "watchman/watchmanlaw08.BoardPuts", spec := "boardPuts", inPlace := ["slices.overlaps[watchman/api.Alarm]"], apart := false, narrowed := true }
def BoardPutsUptoSaid : Prop := boardPutsUptoRow.holds Try.pinned (OpenSpec.upto boardPutsSpec)

/-- 'watchmanlaw08.BoardPass', WHERE WHAT IT READS IS OF BULK AT MOST 1048576: true; the input reads as it did. -/
def boardPassUptoRow : OpenClaim := { program := "ythlojadkgpmnmaa", sum := "0bec91e0e27ff244d145ede8c8bf1627cff5eb3cec10aaa26993c188e6ea1aee", func := "watchman/watchmanlaw08.BoardPass", spec := "boardPass", inPlace := ["slices.overlaps[watchman/api.Alarm]"], apart := false, narrowed := true }
def BoardPassUptoSaid : Prop := boardPassUptoRow.holds Try.pinned (OpenSpec.upto boardPassSpec)

/-- 'watchmanlaw08.BoardBeds', WHERE WHAT IT READS IS OF BULK AT MOST 1048576: true; the input reads as it did. -/
def boardBedsUptoRow : OpenClaim := { program := "ythlojadkgpmnmaa", sum := "0bec91e0e27ff244d145ede8c8bf1627cff5eb3cec10aaa26993c188e6ea1aee", func := "watchman/watchmanlaw08.BoardBeds", spec := "boardBeds", inPlace := ["slices.overlaps[watchman/api.Alarm]"], apart := false, narrowed := true }
def BoardBedsUptoSaid : Prop := boardBedsUptoRow.holds Try.pinned (OpenSpec.upto boardBedsSpec)

/-- 'watchmanlaw08.BoardOrder', WHERE WHAT IT READS IS OF BULK AT MOST 1048576: true; the input reads as it did. -/
def boardOrderUptoRow : OpenClaim := { program := "ythlojadkgpmnmaa", sum := "0bec91e0e27ff244d145ede8c8bf1627cff5eb3cec10aaa26993c188e6ea1aee", func := "watchman/watchmanlaw08.BoardOrder", spec := "boardOrder", inPlace := ["slices.overlaps[watchman/api.Alarm]"], apart := false, narrowed := true }
def BoardOrderUptoSaid : Prop := boardOrderUptoRow.holds Try.pinned (OpenSpec.upto boardOrderSpec)

end Rows
end Go.Proofs.Ythlojadkgpmnmaa
