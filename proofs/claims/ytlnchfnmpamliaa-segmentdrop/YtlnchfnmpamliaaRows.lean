/-
  No cell of these rows narrows 'for every input' (looked for: loops, veiled, ifaces, maps, wideKeys, modest, calm, conditions, laid).
  DERIVED. THE GIVEN ROWS OF THIS SEAT. 5 by the template 'for every input the law returns true; each argument reads behind the call as it read before'; 0 by the template 'total and deterministic' (their statements: YtlnchfnmpamliaaTotals.lean).
  GIVEN WITH THE SEED: the statements are not yours to turn. If you find one false, say at which input.
  Laid BY PROGRAM, IN A SANDBOX (cutbox-rows.mjs): the forced cells as the released guide's own fill.sh prints them over the translation 91f9ff51cb0c089e… (all of the seat's roots in one cut). By AI agents, Wed Nov 11 2026. No macro, syntax, notation, axiom, sorry.
-/
import Derived.Test.YtlnchfnmpamliaaChecked
import GoSem.Claim
import GoSem.ClaimJoined
import GoSem.ClaimMapViews
import Derived.JoinedTies
import Derived.KernelRfl
namespace Go.Proofs.Ytlnchfnmpamliaa
/- THE CELL 'sum', in the pinned program and in every row, IS THE sha256 OF THE DUMP (.gsa) THAT YtlnchfnmpamliaaProg.lean LOADS. Nothing in Lean hashes anything: it is a label: what it is worth is what the hold of that sum in a sandbox is worth. -/
noncomputable def Try.pinned : Pinned := { name := "ytlnchfnmpamliaa", sum := "91f9ff51cb0c089e302ff4d68d3474e67054c2cf861d60cc4bfd1ef4aa10d4cd", checked := Try.checked }
namespace Rows
def none {H : Type} : Left H := { results := [], args := [] }

/-- 'watchmanlaw14.SegmentBack': WHATEVER THE INPUT: true; the input reads as it did. -/
def segmentBackSpec : ChangeSpec := { name := "segmentBack", fn := fun _ => fun
  | [d1, d2, d3, d4] => { results := [.lit (.bool true)], args := [d1, d2, d3, d4] }
  | _ => none }
def segmentBackRow : OpenClaim := { program := "ytlnchfnmpamliaa", sum := "91f9ff51cb0c089e302ff4d68d3474e67054c2cf861d60cc4bfd1ef4aa10d4cd", func := "watchman/watchmanlaw14.SegmentBack", spec := "segmentBack", inPlace := ["internal/abi.NoEscape", "internal/bytealg.MakeNoZero"], unfollowed := true, recurses := true, apart := false }
def SegmentBackSaid : Prop := segmentBackRow.holds Try.pinned (OpenSpec.ofChange segmentBackSpec)

/-- ITS FALSE NEIGHBOUR: 'it returns false'. Refute it at one input. -/
def segmentBackWrong : ChangeSpec := { name := "segmentBack", fn := fun _ => fun
  | [d1, d2, d3, d4] => { results := [.lit (.bool false)], args := [d1, d2, d3, d4] }
  | _ => none }
def SegmentBackWrongFalsely : Prop := segmentBackRow.holds Try.pinned (OpenSpec.ofChange segmentBackWrong)

/-- 'watchmanlaw14.SegmentCrash': WHATEVER THE INPUT: true; the input reads as it did. -/
def segmentCrashSpec : ChangeSpec := { name := "segmentCrash", fn := fun _ => fun
  | [d1, d2, d3, d4, d5, d6] => { results := [.lit (.bool true)], args := [d1, d2, d3, d4, d5, d6] }
  | _ => none }
def segmentCrashRow : OpenClaim := { program := "ytlnchfnmpamliaa", sum := "91f9ff51cb0c089e302ff4d68d3474e67054c2cf861d60cc4bfd1ef4aa10d4cd", func := "watchman/watchmanlaw14.SegmentCrash", spec := "segmentCrash", inPlace := ["internal/abi.NoEscape", "internal/bytealg.MakeNoZero"], unfollowed := true, recurses := true, apart := false }
def SegmentCrashSaid : Prop := segmentCrashRow.holds Try.pinned (OpenSpec.ofChange segmentCrashSpec)

/-- ITS FALSE NEIGHBOUR: 'it returns false'. Refute it at one input. -/
def segmentCrashWrong : ChangeSpec := { name := "segmentCrash", fn := fun _ => fun
  | [d1, d2, d3, d4, d5, d6] => { results := [.lit (.bool false)], args := [d1, d2, d3, d4, d5, d6] }
  | _ => none }
def SegmentCrashWrongFalsely : Prop := segmentCrashRow.holds Try.pinned (OpenSpec.ofChange segmentCrashWrong)

/-- 'watchmanlaw14.SegmentDrop': WHATEVER THE INPUT: true; the input reads as it did. -/
def segmentDropSpec : ChangeSpec := { name := "segmentDrop", fn := fun _ => fun
  | [d1, d2, d3, d4, d5, d6] => { results := [.lit (.bool true)], args := [d1, d2, d3, d4, d5, d6] }
  | _ => none }
def segmentDropRow : OpenClaim := { program := "ytlnchfnmpamliaa", sum := "91f9ff51cb0c089e302ff4d68d3474e67054c2cf861d60cc4bfd1ef4aa10d4cd", func := "watchman/watchmanlaw14.SegmentDrop", spec := "segmentDrop", inPlace := ["internal/abi.NoEscape", "internal/bytealg.MakeNoZero"], unfollowed := true, recurses := true, apart := false }
def SegmentDropSaid : Prop := segmentDropRow.holds Try.pinned (OpenSpec.ofChange segmentDropSpec)

/-- ITS FALSE NEIGHBOUR: 'it returns false'. Refute it at one input. -/
def segmentDropWrong : ChangeSpec := { name := "segmentDrop", fn := fun _ => fun
  | [d1, d2, d3, d4, d5, d6] => { results := [.lit (.bool false)], args := [d1, d2, d3, d4, d5, d6] }
  | _ => none }
def SegmentDropWrongFalsely : Prop := segmentDropRow.holds Try.pinned (OpenSpec.ofChange segmentDropWrong)

/-- 'watchmanlaw14.SegmentMend': WHATEVER THE INPUT: true; the input reads as it did. -/
def segmentMendSpec : ChangeSpec := { name := "segmentMend", fn := fun _ => fun
  | [d] => { results := [.lit (.bool true)], args := [d] }
  | _ => none }
def segmentMendRow : OpenClaim := { program := "ytlnchfnmpamliaa", sum := "91f9ff51cb0c089e302ff4d68d3474e67054c2cf861d60cc4bfd1ef4aa10d4cd", func := "watchman/watchmanlaw14.SegmentMend", spec := "segmentMend", inPlace := ["internal/abi.NoEscape", "internal/bytealg.MakeNoZero"], unfollowed := true, recurses := true, apart := false }
def SegmentMendSaid : Prop := segmentMendRow.holds Try.pinned (OpenSpec.ofChange segmentMendSpec)

/-- ITS FALSE NEIGHBOUR: 'it returns false'. Refute it at one input. -/
def segmentMendWrong : ChangeSpec := { name := "segmentMend", fn := fun _ => fun
  | [d] => { results := [.lit (.bool false)], args := [d] }
  | _ => none }
def SegmentMendWrongFalsely : Prop := segmentMendRow.holds Try.pinned (OpenSpec.ofChange segmentMendWrong)

/-- 'watchmanlaw14.SegmentSync': WHATEVER THE INPUT: true; the input reads as it did. -/
def segmentSyncSpec : ChangeSpec := { name := "segmentSync", fn := fun _ => fun
  | [d1, d2] => { results := [.lit (.bool true)], args := [d1, d2] }
  | _ => none }
def segmentSyncRow : OpenClaim := { program := "ytlnchfnmpamliaa", sum := "91f9ff51cb0c089e302ff4d68d3474e67054c2cf861d60cc4bfd1ef4aa10d4cd", func := "watchman/watchmanlaw14.SegmentSync", spec := "segmentSync", inPlace := ["internal/abi.NoEscape", "internal/bytealg.MakeNoZero"], unfollowed := true, recurses := true, apart := false }
def SegmentSyncSaid : Prop := segmentSyncRow.holds Try.pinned (OpenSpec.ofChange segmentSyncSpec)

/-- ITS FALSE NEIGHBOUR: 'it returns false'. Refute it at one input. -/
def segmentSyncWrong : ChangeSpec := { name := "segmentSync", fn := fun _ => fun
  | [d1, d2] => { results := [.lit (.bool false)], args := [d1, d2] }
  | _ => none }
def SegmentSyncWrongFalsely : Prop := segmentSyncRow.holds Try.pinned (OpenSpec.ofChange segmentSyncWrong)

/- THE SECOND FORM. 'bulk': how many values and letters a reading holds, each counted each time it is reached (what is shared counts as often as it is met; a slice's spare places count too). A statement '..UptoSaid' is the law's where the arguments, and the package variables that the reading takes, are together of bulk at most 1048576: NARROWER than '..Said'. Prove '..Said' where nothing that the law and all that it calls make is longer than what came in: it says more and counts as full. Else prove '..UptoSaid'. A law counts once. -/
mutual
def uptoBulk {H : Type} : DataW H → Nat
  | .lit (.string bytes) => bytes.length + 1
  | .lit _ => 1
  | .nil => 1
  | .ptr d => uptoBulk d + 1
  | .slice elems spare => uptoBulkAll elems + uptoBulkAll spare + 1
  | .agg parts => uptoBulkAll parts + 1
  | .iface _ d => uptoBulk d + 1
  | .map entries => uptoBulkEntries entries + 1
  | .held _ => 1
def uptoBulkAll {H : Type} : List (DataW H) → Nat
  | [] => 0
  | d :: r => uptoBulk d + uptoBulkAll r
def uptoBulkEntries {H : Type} : List (Lit × DataW H) → Nat
  | [] => 0
  | x :: r => uptoBulkEntry x + uptoBulkEntries r
def uptoBulkEntry {H : Type} : Lit × DataW H → Nat
  | (.string bytes, d) => bytes.length + uptoBulk d + 1
  | (_, d) => uptoBulk d + 1
 end
def uptoSmall : (H : Type) → List (DataW H) → Bool := fun _ ds => decide (uptoBulkAll ds ≤ 1048576)
def OpenSpec.upto (s : _root_.Go.ChangeSpec) : _root_.Go.OpenSpec := { _root_.Go.OpenSpec.ofChange s with cond := some uptoSmall }

/-- 'watchmanlaw14.SegmentBack', WHERE WHAT IT READS IS OF BULK AT MOST 1048576: true; the input reads as it did. -/
def segmentBackUptoRow : OpenClaim := { program := "ytlnchfnmpamliaa", sum := "91f9ff51cb0c089e302ff4d68d3474e67054c2cf861d60cc4bfd1ef4aa10d4cd", func := "watchman/watchmanlaw14.SegmentBack", spec := "segmentBack", inPlace := ["internal/abi.NoEscape", "internal/bytealg.MakeNoZero"], unfollowed := true, recurses := true, apart := false, narrowed := true }
def SegmentBackUptoSaid : Prop := segmentBackUptoRow.holds Try.pinned (OpenSpec.upto segmentBackSpec)

/-- 'watchmanlaw14.SegmentCrash', WHERE WHAT IT READS IS OF BULK AT MOST 1048576: true; the input reads as it did. -/
def segmentCrashUptoRow : OpenClaim := { program := "ytlnchfnmpamliaa", sum := "91f9ff51cb0c089e302ff4d68d3474e67054c2cf861d60cc4bfd1ef4aa10d4cd", func := "watchman/watchmanlaw14.SegmentCrash", spec := "segmentCrash", inPlace := ["internal/abi.NoEscape", "internal/bytealg.MakeNoZero"], unfollowed := true, recurses := true, apart := false, narrowed := true }
def SegmentCrashUptoSaid : Prop := segmentCrashUptoRow.holds Try.pinned (OpenSpec.upto segmentCrashSpec)

/-- 'watchmanlaw14.SegmentDrop', WHERE WHAT IT READS IS OF BULK AT MOST 1048576: true; the input reads as it did. -/
def segmentDropUptoRow : OpenClaim := { program := "ytlnchfnmpamliaa", sum := "91f9ff51cb0c089e302ff4d68d3474e67054c2cf861d60cc4bfd1ef4aa10d4cd", func := "watchman/watchmanlaw14.SegmentDrop", spec := "segmentDrop", inPlace := ["internal/abi.NoEscape", "internal/bytealg.MakeNoZero"], unfollowed := true, recurses := true, apart := false, narrowed := true }
def SegmentDropUptoSaid : Prop := segmentDropUptoRow.holds Try.pinned (OpenSpec.upto segmentDropSpec)

/-- 'watchmanlaw14.SegmentMend', WHERE WHAT IT READS IS OF BULK AT MOST 1048576: true; the input reads as it did. -/
def segmentMendUptoRow : OpenClaim := { program := "ytlnchfnmpamliaa", sum := "91f9ff51cb0c089e302ff4d68d3474e67054c2cf861d60cc4bfd1ef4aa10d4cd", func := "watchman/watchmanlaw14.SegmentMend", spec := "segmentMend", inPlace := ["internal/abi.NoEscape", "internal/bytealg.MakeNoZero"], unfollowed := true, recurses := true, apart := false, narrowed := true }
def SegmentMendUptoSaid : Prop := segmentMendUptoRow.holds Try.pinned (OpenSpec.upto segmentMendSpec)

/-- 'watchmanlaw14.SegmentSync', WHERE WHAT IT READS IS OF BULK AT MOST 1048576: true; the input reads as it did. -/
def segmentSyncUptoRow : OpenClaim := { program := "ytlnchfnmpamliaa", sum := "91f9ff51cb0c089e302ff4d68d3474e67054c2cf861d60cc4bfd1ef4aa10d4cd", func := "watchman/watchmanlaw14.SegmentSync", spec := "segmentSync", inPlace := ["internal/abi.NoEscape", "internal/bytealg.MakeNoZero"], unfollowed := true, recurses := true, apart := false, narrowed := true }
def SegmentSyncUptoSaid : Prop := segmentSyncUptoRow.holds Try.pinned (OpenSpec.upto segmentSyncSpec)

end Rows
end Go.Proofs.Ytlnchfnmpamliaa
