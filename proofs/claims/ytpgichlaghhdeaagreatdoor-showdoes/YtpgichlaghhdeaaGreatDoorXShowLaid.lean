/-
  Layer 11 (show): what the listed variables, and the world's shape, give.
-/
import Derived.Test.YtpgichlaghhdeaaGreatDoorRows
import Derived.Test.YtpgichlaghhdeaaGreatDoorXShowW2
import Derived.Lib.LaidTab
import Derived.LaidMore
import Derived.Lay
import Derived.LaidHandle
import Derived.MakeChecks
import Derived.Stop.Joined
import Derived.Stop.LaidErr
import Derived.ProofKit
namespace Go.Proofs.YtpgichlaghhdeaaGreatDoor
set_option maxRecDepth 10000
open Go.ChangeShapes Go.WideShapes Go.ChangeAt Go.RowKit

/-- What the rows list. -/
def laidL : List (String × DataW Unit) := Rows.showBackRow.laid
theorem gS : Tryz.prog.globalNamed "strconv.ErrSyntax" = some 1 := by kernel_rfl
theorem gR : Tryz.prog.globalNamed "strconv.ErrRange" = some 2 := by kernel_rfl
theorem gP : Tryz.prog.globalNamed "internal/strconv.uint64pow10" = some 3 := by kernel_rfl
theorem gSType : (Tryz.prog.globals[1]?).map (·.type) = some 117 := by kernel_rfl
theorem gRType : (Tryz.prog.globals[2]?).map (·.type) = some 117 := by kernel_rfl
theorem gPType : (Tryz.prog.globals[3]?).map (·.type) = some 195 := by kernel_rfl
theorem cellsE : Tryz.prog.cellsOf 207 = 1 := by kernel_rfl
theorem cellsS : Tryz.prog.cellsOf 9 = 1 := by kernel_rfl
theorem starE : "*" ++ "errors.errorString" = "*errors.errorString" := by decide
theorem rowE (u : TypeId) (h : Tryz.prog.typeName? 3 u = some "*errors.errorString") : u = 205 :=
  typeName_ptr_named (nm := "errors.errorString") (by rw [starE]; kernel_rfl) (by kernel_rfl) (by decide) u (by rw [starE]; exact h)

theorem libs_of_laid {W : World} (h : laidMetH Tryz.prog laidL W) (hs : W.ShapedOpen Tryz.prog) : Libs W := by
  rw [MakeChecks.laidMetH_plain _ _ _ (by kernel_rfl)] at h
  have h2 := h.tail.tail
  have h4 := h2.tail.tail
  obtain ⟨a, s, hv, -, -, -⟩ := laid_sentinel h4 gR gRType Tryz.underlying117 rowE Tryz.underlying205 Tryz.underlying207 rfl rfl Tryz.underlying9 cellsE cellsS
  obtain ⟨a', s', hv', -, -, -⟩ := laid_sentinel h4.tail gS gSType Tryz.underlying117 rowE Tryz.underlying205 Tryz.underlying207 rfl rfl Tryz.underlying9 cellsE cellsS
  refine ⟨⟨⟨_, by have h0 := World.var?_cell gS hv' 0; simpa using h0, .inr ⟨_, _, rfl⟩⟩, ⟨_, by have h0 := World.var?_cell gR hv 0; simpa using h0, .inr ⟨_, _, rfl⟩⟩⟩, ?_, Tryz.laysM147.s1_3 W hs⟩
  exact Lib.tabIs_of_head (k := .u64) (zs := Lib.pow10Tab) gP gPType Tryz.underlying195 Tryz.underlying153 (by kernel_rfl) (by kernel_rfl) h2

/-- The world in which the listed variables lie meets the condition. -/
theorem laid_met (os : Os) (args : Array Value) : laidMetH Tryz.prog laidL ((World.laidAll Tryz.prog os laidL).forCall (fun _ _ => 0) ⟨#[], args, []⟩).memory := by
  rw [MakeChecks.laidMetH_plain _ _ _ (by kernel_rfl)]
  exact laidMet_laidAll _ (by kernel_rfl) (by kernel_rfl)

variable {H : Type} {enc : TypeId × Value → H}
/-- The row's step, where the walk wants the listed variables and the world's shape. -/
theorem step_shaped {os : Os} {f : FuncId} {fn : Func} {s : ChangeSpec} {X : World → Array Value → Prop} (hX : ∀ (w w' : World) (args : Array Value), w.heap = w'.heap → X w args → X w' args)
    (own : ownKnob Tryz.checked.prog.godebug = none) (started : os.Started) (noInit : Tryz.checked.prog.inits.idxOf? f = none) (hfn : Tryz.checked.prog.funcs[f]? = some fn)
    (witness : ∃ (w : World) (tape : Tape) (i : Input), w.os = os ∧ (w.forCall tape i).Shaped Tryz.checked.prog ∧ i.vars = [] ∧ Input.okWide Tryz.checked.prog (w.forCall tape i) .any w.heap.size f i ∧
      ((s.pre enc Tryz.checked.prog fn [] false (w.forCall tape i).memory i.args ∧ X (w.forCall tape i).memory i.args) ∧ sizedMet enc Tryz.checked.prog fn (OpenSpec.ofChange s) false (w.forCall tape i).memory i.args) ∧ ({} : Assume).holds Tryz.checked.prog (lone (Frame.enter Tryz.checked.prog f i.args .normal) [] (w.forCall tape i)))
    (go : ∀ (W : World) (base : Nat) (args : Array Value) (ds gs : List (DataW H)) (before : List MemPlace),
      (∀ (j : Nat) t v, fn.params[j]? = some t → args[j]? = some v → Value.okWide Tryz.checked.prog W .any base t v) → DataW.Whole enc Tryz.checked.prog fn.params.toList s.vars false W args.toList ds gs before →
      X W args → W.ShapedOpen Tryz.checked.prog → Calls Tryz.checked.prog f args W fun e W' => ∃ v, e = .returned v ∧ s.post enc Tryz.checked.prog fn false true false false W args v W') :
    ReturnsInHanded {} Tryz.checked os f .any (fun w args => (s.pre enc Tryz.checked.prog fn [] false w args ∧ X w args) ∧ sizedMet enc Tryz.checked.prog fn (OpenSpec.ofChange s) false w args) (s.post enc Tryz.checked.prog fn false true false false) := by
  refine returnsInHanded_of_calls own started noInit witness (fun w tape i _ hs _ hok hp _ => ?_)
  obtain ⟨_, _, _, fn2, hf2, _, _, _, _, hval⟩ := hok
  cases Option.some.inj (hf2.symm.trans hfn)
  obtain ⟨⟨⟨ds, gs, bf, hw, _⟩, hx⟩, _⟩ := hp
  refine (go _ _ _ ds gs bf hval (DataW.Whole.of_heap (w' := w.forCall tape i) (by rfl) hw) (hX _ _ _ (by rfl) hx) hs).mono (fun e W' h => ?_)
  obtain ⟨v, rfl, hq⟩ := h
  exact ChangeSpec.post_blind hq
end Go.Proofs.YtpgichlaghhdeaaGreatDoor
