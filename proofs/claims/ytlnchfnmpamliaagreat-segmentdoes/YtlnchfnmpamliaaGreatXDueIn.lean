/-
  Words for walks in a round of a range over a function: a region there is walked as a region anywhere.
-/
import Derived.RangeFuncNested
import Derived.RangeFuncBound
import Derived.RangeFuncCalls
import Derived.RangeFuncLeaves
import Derived.RangeFuncBox
import Derived.Shelf.Abstract
import Derived.Shelf.RegionOpen
import Derived.WalkKit
import Derived.OwnWalkIn
import Derived.TacticsInMore
import Derived.LoopNIn
import Derived.LoopIn
import Derived.Maps.AppendAt
import Derived.Deep.RegionHeld3
namespace Go.Proofs.YtlnchfnmpamliaaGreat
set_option maxRecDepth 10000
open Go.RowKit Go.Shelf

/-- An operation that is no defer statement. -/
def noDefer (o : Oper) : Bool := match o.op with | .defer _ => false | _ => true
theorem noDefer_ne {o : Oper} (h : noDefer o = true) : ∀ c, o.op ≠ .defer c := by
  intro c e
  unfold noDefer at h
  rw [e] at h
  cases h

section
variable {l n : Nat} {P : Program} {ops : Array Oper} {Q : Exit → Act → World → Prop} {md : Region.Mode}

theorem rowsIn_round {row : String} {args : Array Value} {w : World} {R : Value → World → Prop} (h : Rows P row args w R) : RowsIn (Fence.wide.inRound l) n P row args w R :=
  fun c cs _ => let ⟨v, w', r, s⟩ := h c cs; ⟨v, w', r, stepsIn_wide.2 s⟩
theorem callsIn_round {f : FuncId} {args : Array Value} {w : World} {R : Ending → World → Prop} (h : Calls P f args w R) : CallsIn (Fence.wide.inRound l) n P f args w R :=
  CallsIn.inRound l (callsIn_wide.2 h)

theorem uponIn_of_upon {o : Oper} {a : Act} {K : Act → World → Prop} (r : Result Next) (h : o.upon P a K Q r) : o.uponIn (Fence.wide.inRound l) n P a K Q r := by
  have hw : (Fence.wide.inRound l).depth.isSome = true → 1 ≤ n := fun hd => nomatch hd
  cases r with
  | ok v w' => cases v <;> first | exact h | exact ⟨hw, callsIn_round h⟩ | exact ⟨hw, rowsIn_round h⟩ | exact h.elim
  | halt v w' => cases v <;> first | exact h | exact h.elim

theorem operIn_of_oper {o : Oper} (hd : noDefer o = true) {a : Act} {w : World} {K : Act → World → Prop} (h : o.wp P a w K Q) : o.wpIn (Fence.wide.inRound l) n P a w K Q := by
  refine ⟨fun _ _ => trivial, ?_⟩
  rw [Fence.inRound_round, Oper.semAt_some l a.eval o (noDefer_ne hd)]
  exact uponIn_of_upon _ h

theorem wpAnyIn_of_any (hd : ∀ (i : Nat) (o : Oper), ops[i]? = some o → noDefer o = true) (hQ : ¬ LetsOut Q) : ∀ (fuel : Nat) (listed : Array Bool) (a : Act) (w : World), wpAny P md ops Q fuel listed a w → wpAnyIn (Fence.wide.inRound l) n P md ops Q fuel listed a w
  | 0, _, _, _, h => h
  | fuel + 1, listed, a, w, h => ⟨h.1, fun i hi => by
    have k := h.2 i hi
    unfold wpOp at k
    unfold wpOpIn
    cases ho : ops[i]? with
    | none => rw [ho] at k; exact wpAnyIn_of_any hd hQ fuel _ a w k
    | some o =>
      rw [ho] at k
      simp only at k ⊢
      by_cases hw : Region.wanted o (yielded ops a.tmps) = true
      · rw [if_pos hw] at k ⊢
        rcases k with k | ⟨_, k⟩
        · exact Oper.wpIn_mono (fun a w => wpAnyIn_of_any hd hQ fuel _ a w) (operIn_of_oper (hd i o ho) k)
        · exact absurd k hQ
      · rw [if_neg hw] at k ⊢
        exact ⟨fun _ _ => trivial, wpAnyIn_of_any hd hQ fuel _ _ w k⟩⟩

theorem wpListIn_of_list (hQ : ¬ LetsOut Q) : ∀ (rest : List Oper), (∀ o ∈ rest, noDefer o = true) → ∀ (a : Act) (w : World), wpList P ops Q rest a w → wpListIn (Fence.wide.inRound l) n P ops Q rest a w
  | [], _, _, _, h => h
  | o :: rest, hd, a, w, h => by
    unfold wpList at h
    unfold wpListIn
    by_cases hw : Region.wanted o (yielded ops a.tmps) = true
    · rw [if_pos hw] at h ⊢
      rcases h with k | ⟨_, k⟩
      · exact Oper.wpIn_mono (fun a w => wpListIn_of_list hQ rest (fun o ho => hd o (List.mem_cons_of_mem _ ho)) a w) (operIn_of_oper (hd o (by simp)) k)
      · exact absurd k hQ
    · rw [if_neg hw] at h ⊢
      exact ⟨fun _ _ => trivial, wpListIn_of_list hQ rest (fun o ho => hd o (List.mem_cons_of_mem _ ho)) _ w h⟩

theorem noDefer_all (h : ops.toList.all noDefer = true) : ∀ (i : Nat) (o : Oper), ops[i]? = some o → noDefer o = true := by
  intro i o ho
  have hm : o ∈ ops.toList := by rw [← Array.getElem?_toList] at ho; exact List.mem_of_getElem? ho
  exact List.all_eq_true.1 h o hm

/-- A region that draws its order, in a round. -/
theorem wpIn_region_heldR {id : Nat} {a : Act} {w : World} {S : World → Prop} (hd : ops.toList.all noDefer = true) (hQ : ¬ LetsOut Q) (hm : P.follows .mixedOrders = true) (hS : S w.drew)
    (h : S w.drew → wpAnyH P .any ops Q S ops.size (Array.replicate ops.size false) a w.drew) : (Code.region id ops true).wpIn (Fence.wide.inRound l) n P Q a w :=
  wpIn_region_any hm (wpAnyIn_of_any (noDefer_all hd) hQ _ _ _ _ (wpAny_of_held _ _ _ _ (h hS)))
/-- A region that does not. -/
theorem wpIn_region_litR {id : Nat} {os : List Oper} {a : Act} {w : World} (hd : os.all noDefer = true) (hQ : ¬ LetsOut Q) (h : wpList P os.toArray Q os a w) : (Code.region id os.toArray false).wpIn (Fence.wide.inRound l) n P Q a w :=
  wpIn_region_lit (wpListIn_of_list hQ os (List.all_eq_true.1 hd) a w h)
end

/-- New blocks alone, as the range's words have it. -/
theorem grown_of_below {w w' : World} (h : Below w.heap.size w w') : w.grownBy w' none := ⟨h.os, h.tape, h.output, h.size, fun k hk _ => h.block k hk⟩
theorem keeps_of_below {w w' : World} (h : Below w.heap.size w w') : KeepsOthers w w' := KeepsOthers.of_grownBy (grown_of_below h) (fun j o e _ => by cases e)
end Go.Proofs.YtlnchfnmpamliaaGreat
