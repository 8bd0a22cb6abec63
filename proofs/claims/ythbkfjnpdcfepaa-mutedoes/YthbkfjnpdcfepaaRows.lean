/-
  No cell of these rows narrows 'for every input' (looked for: loops, veiled, ifaces, maps, wideKeys, modest, calm, conditions, laid).
  DERIVED. THE GIVEN ROWS OF THIS SEAT. 4 by the template 'for every input the law returns true; each argument reads behind the call as it read before'; 0 by the template 'total and deterministic' (their statements: YthbkfjnpdcfepaaTotals.lean).
  GIVEN WITH THE SEED: the statements are not yours to turn. If you find one false, say at which input.
  Laid BY PROGRAM, IN A SANDBOX (cutbox-rows.mjs): the forced cells as the released guide's own fill.sh prints them over the translation a99a8e8c399d99fd… (all of the seat's roots in one cut). By AI agents, Wed Nov 11 2026. No macro, syntax, notation, axiom, sorry.
-/
import Derived.Test.YthbkfjnpdcfepaaChecked
import GoSem.Claim
import GoSem.ClaimJoined
import GoSem.ClaimMapViews
import Derived.JoinedTies
import Derived.KernelRfl
namespace Go.Proofs.Ythbkfjnpdcfepaa
/- THE CELL 'sum', in the pinned program and in every row, IS THE sha256 OF THE DUMP (.gsa) THAT YthbkfjnpdcfepaaProg.lean LOADS. Nothing in Lean hashes anything: it is a label: what it is worth is what the hold of that sum in a sandbox is worth. -/
noncomputable def Try.pinned : Pinned := { name := "ythbkfjnpdcfepaa", sum := "a99a8e8c399d99fd66b74d7f110ef85f1e2ce92791b4af47a6e2016c32a7af10", checked := Try.checked }
namespace Rows
def none {H : Type} : Left H := { results := [], args := [] }

/-- 'watchmanlaw10.MuteDoes': WHATEVER THE INPUT: true; the input reads as it did. -/
def muteDoesSpec : ChangeSpec := { name := "muteDoes", fn := fun _ => fun
  | [d1, d2, d3, d4] => { results := [.lit (.bool true)], args := [d1, d2, d3, d4] }
  | _ => none }
def muteDoesRow : OpenClaim := { program := "ythbkfjnpdcfepaa", sum := "a99a8e8c399d99fd66b74d7f110ef85f1e2ce92791b4af47a6e2016c32a7af10", func := "watchman/watchmanlaw10.MuteDoes", spec := "muteDoes", unfollowed := true, recurses := true, apart := false }
def MuteDoesSaid : Prop := muteDoesRow.holds Try.pinned (OpenSpec.ofChange muteDoesSpec)

/-- ITS FALSE NEIGHBOUR: 'it returns false'. Refute it at one input. -/
def muteDoesWrong : ChangeSpec := { name := "muteDoes", fn := fun _ => fun
  | [d1, d2, d3, d4] => { results := [.lit (.bool false)], args := [d1, d2, d3, d4] }
  | _ => none }
def MuteDoesWrongFalsely : Prop := muteDoesRow.holds Try.pinned (OpenSpec.ofChange muteDoesWrong)

/-- 'watchmanlaw10.MuteTimes': WHATEVER THE INPUT: true; the input reads as it did. -/
def muteTimesSpec : ChangeSpec := { name := "muteTimes", fn := fun _ => fun
  | [d1, d2, d3, d4] => { results := [.lit (.bool true)], args := [d1, d2, d3, d4] }
  | _ => none }
def muteTimesRow : OpenClaim := { program := "ythbkfjnpdcfepaa", sum := "a99a8e8c399d99fd66b74d7f110ef85f1e2ce92791b4af47a6e2016c32a7af10", func := "watchman/watchmanlaw10.MuteTimes", spec := "muteTimes", unfollowed := true, recurses := true, apart := false }
def MuteTimesSaid : Prop := muteTimesRow.holds Try.pinned (OpenSpec.ofChange muteTimesSpec)

/-- ITS FALSE NEIGHBOUR: 'it returns false'. Refute it at one input. -/
def muteTimesWrong : ChangeSpec := { name := "muteTimes", fn := fun _ => fun
  | [d1, d2, d3, d4] => { results := [.lit (.bool false)], args := [d1, d2, d3, d4] }
  | _ => none }
def MuteTimesWrongFalsely : Prop := muteTimesRow.holds Try.pinned (OpenSpec.ofChange muteTimesWrong)

/-- 'watchmanlaw10.MuteOrder': WHATEVER THE INPUT: true; the input reads as it did. -/
def muteOrderSpec : ChangeSpec := { name := "muteOrder", fn := fun _ => fun
  | [d1, d2] => { results := [.lit (.bool true)], args := [d1, d2] }
  | _ => none }
def muteOrderRow : OpenClaim := { program := "ythbkfjnpdcfepaa", sum := "a99a8e8c399d99fd66b74d7f110ef85f1e2ce92791b4af47a6e2016c32a7af10", func := "watchman/watchmanlaw10.MuteOrder", spec := "muteOrder", unfollowed := true, recurses := true, apart := false }
def MuteOrderSaid : Prop := muteOrderRow.holds Try.pinned (OpenSpec.ofChange muteOrderSpec)

/-- ITS FALSE NEIGHBOUR: 'it returns false'. Refute it at one input. -/
def muteOrderWrong : ChangeSpec := { name := "muteOrder", fn := fun _ => fun
  | [d1, d2] => { results := [.lit (.bool false)], args := [d1, d2] }
  | _ => none }
def MuteOrderWrongFalsely : Prop := muteOrderRow.holds Try.pinned (OpenSpec.ofChange muteOrderWrong)

/-- 'watchmanlaw10.MuteTotal': WHATEVER THE INPUT: true; the input reads as it did. -/
def muteTotalSpec : ChangeSpec := { name := "muteTotal", fn := fun _ => fun
  | [d1, d2, d3] => { results := [.lit (.bool true)], args := [d1, d2, d3] }
  | _ => none }
def muteTotalRow : OpenClaim := { program := "ythbkfjnpdcfepaa", sum := "a99a8e8c399d99fd66b74d7f110ef85f1e2ce92791b4af47a6e2016c32a7af10", func := "watchman/watchmanlaw10.MuteTotal", spec := "muteTotal", unfollowed := true, recurses := true, apart := false }
def MuteTotalSaid : Prop := muteTotalRow.holds Try.pinned (OpenSpec.ofChange muteTotalSpec)

/-- ITS FALSE NEIGHBOUR: 'it returns false'. Refute it at one input. -/
def muteTotalWrong : ChangeSpec := { name := "muteTotal", fn := fun _ => fun
  | [d1, d2, d3] => { results := [.lit (.bool false)], args := [d1, d2, d3] }
  | _ => none }
def MuteTotalWrongFalsely : Prop := muteTotalRow.holds Try.pinned (OpenSpec.ofChange muteTotalWrong)

/- THE SECOND FORM. 'bulk': how many values and letters a reading holds, each counted each time it is reached (what is shared counts as often as it is met; a slice's spare places count too). A statement '..UptoSaid' is the law's where the arguments, and the package variables that the reading takes, are together of bulk at most 1048576: NARROWER than '..Said'. Prove '..Said' where nothing that the law and all that it calls make is longer than what came in: it says more and counts as full. Else prove '..UptoSaid'. A law counts once. -/
mutual
def uptoBulk {H : Type} : DataW H → Nat
  | .lit (.string bytes) => bytes.length + 1
  | .lit _ => 1
  | .nil => 1
  | .ptr d => uptoBulk d + 1
  | .slice elems spare => uptoBulkAll elems + uptoBulkAll spare + 1
  | .agg parts => uptoBulkAll parts + 1
  | .iface _ d => uptoBulk d + 1
  | .map entries => uptoBulkEntries entries + 1
  | .held _ => 1
def uptoBulkAll {H : Type} : List (DataW H) → Nat
  | [] => 0
  | d :: r => uptoBulk d + uptoBulkAll r
def uptoBulkEntries {H : Type} : List (Lit × DataW H) → Nat
  | [] => 0
  | x :: r => uptoBulkEntry x + uptoBulkEntries r
def uptoBulkEntry {H : Type} : Lit × DataW H → Nat
  | (.string bytes, d) => bytes.length + uptoBulk d + 1
  | (_, d) => uptoBulk d + 1
 end
def uptoSmall : (H : Type) → List (DataW H) → Bool := fun _ ds => decide (uptoBulkAll ds ≤ 1048576)
def OpenSpec.upto (s : _root_.Go.ChangeSpec) : _root_.Go.OpenSpec := { _root_.Go.OpenSpec.ofChange s with cond := some uptoSmall }

/-- 'watchmanlaw10.MuteDoes', WHERE WHAT IT READS IS OF BULK AT MOST 1048576: true; the input reads as it did. -/
def muteDoesUptoRow : OpenClaim := { program := "ythbkfjnpdcfepaa", sum := "a99a8e8c399d99fd66b74d7f110ef85f1e2ce92791b4af47a6e2016c32a7af10", func := "watchman/watchmanlaw10.MuteDoes", spec := "muteDoes", unfollowed := true, recurses := true, apart := false, narrowed := true }
def MuteDoesUptoSaid : Prop := muteDoesUptoRow.holds Try.pinned (OpenSpec.upto muteDoesSpec)

/-- 'watchmanlaw10.MuteTimes', WHERE WHAT IT READS IS OF BULK AT MOST 1048576: true; the input reads as it did. -/
def muteTimesUptoRow : OpenClaim := { program := "ythbkfjnpdcfepaa", sum := "a99a8e8c399d99fd66b74d7f110ef85f1e2ce92791b4af47a6e2016c32a7af10", func := "watchman/watchmanlaw10.MuteTimes", spec := "muteTimes", unfollowed := true, recurses := true, apart := false, narrowed := true }
def MuteTimesUptoSaid : Prop := muteTimesUptoRow.holds Try.pinned (OpenSpec.upto muteTimesSpec)

/-- 'watchmanlaw10.MuteOrder', WHERE WHAT IT READS IS OF BULK AT MOST 1048576: true; the input reads as it did. -/
def muteOrderUptoRow : OpenClaim := { program := "ythbkfjnpdcfepaa", sum := "a99a8e8c399d99fd66b74d7f110ef85f1e2ce92791b4af47a6e2016c32a7af10", func := "watchman/watchmanlaw10.MuteOrder", spec := "muteOrder", unfollowed := true, recurses := true, apart := false, narrowed := true }
def MuteOrderUptoSaid : Prop := muteOrderUptoRow.holds Try.pinned (OpenSpec.upto muteOrderSpec)

/-- 'watchmanlaw10.MuteTotal', WHERE WHAT IT READS IS OF BULK AT MOST 1048576: true; the input reads as it did. -/
def muteTotalUptoRow : OpenClaim := { program := "ythbkfjnpdcfepaa", sum := "a99a8e8c399d99fd66b74d7f110ef85f1e2ce92791b4af47a6e2016c32a7af10", func := "watchman/watchmanlaw10.MuteTotal", spec := "muteTotal", unfollowed := true, recurses := true, apart := false, narrowed := true }
def MuteTotalUptoSaid : Prop := muteTotalUptoRow.holds Try.pinned (OpenSpec.upto muteTotalSpec)

end Rows
end Go.Proofs.Ythbkfjnpdcfepaa
