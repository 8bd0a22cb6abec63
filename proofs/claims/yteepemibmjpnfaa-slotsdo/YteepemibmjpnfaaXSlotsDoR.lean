/-
  Layer 15 (slots): the law SlotsDo beside the references (printed by tools/gen-refslo4.py).
-/
import Derived.Test.YteepemibmjpnfaaXSlotsDo
import Derived.Test.YteepemibmjpnfaaXRefSlo4
namespace Go.Proofs.Yteepemibmjpnfaa
set_option maxRecDepth 10000
open Go.RowKit

theorem slotsDo_walk {E : World → Prop} (HS : Hid (SlotsK E)) (HC : Hid (SlottedK E)) (s : Slo) (t : ByteArray) (d n : Int) (a b : ByteArray) (w : World) (hE : E w) :
    Calls Try.prog 3 #[.agg (Sl.v s), .string t, .int .i64 d, .int .i64 n, .string a, .string b] w fun e w' => e = .returned (.bool true) ∧ Below w.heap.size w w' := by
  have pf := fun W => Lib.hid (far15_any s t W)
  cases hf : Sl.farB s t
  case true => rw [hf] at pf; exact slotsDo_far HS s.a.most s.b.most s.a.kept s.a.loose s.b.kept s.b.loose t d n a b w hE pf
  rw [hf] at pf
  obtain ⟨hsm, ht⟩ := Sl.small_far hf
  by_cases j1 : (600 : Int) < (a.size : Int)
  · exact slotsDo_a HS s.a.most s.b.most s.a.kept s.a.loose s.b.kept s.b.loose t d n a b w hE (eq_true j1) pf
  by_cases j2 : (600 : Int) < (b.size : Int)
  · exact slotsDo_b HS s.a.most s.b.most s.a.kept s.a.loose s.b.kept s.b.loose t d n a b w hE (eq_false j1) (eq_true j2) pf
  have h1 : s.a.kept.size ≤ 9000 ∧ s.a.loose.size ≤ 9000 := hsm.1
  have h2 : s.b.kept.size ≤ 9000 ∧ s.b.loose.size ≤ 9000 := hsm.2
  exact slotsDo_go HS HC s.a.most s.b.most s.a.kept s.a.loose s.b.kept s.b.loose t d n a b w hE (eq_false j1) (eq_false j2) _ _ _ _ _ _ _ _ _ _ (Sl.save s (bl t) d).a.most (Sl.save s (bl t) d).b.most (Sl.save s (bl t) d).a.kept (Sl.save s (bl t) d).a.loose (Sl.save s (bl t) d).b.kept (Sl.save s (bl t) d).b.loose (Sl.crash s n).a.most (Sl.crash s n).b.most (Sl.crash s n).a.kept (Sl.crash s n).a.loose (Sl.crash s n).b.kept (Sl.crash s n).b.loose (Sl.newS n).a.most (Sl.newS n).b.most (Sl.newS n).a.kept (Sl.newS n).a.loose (Sl.newS n).b.kept (Sl.newS n).b.loose pf
    (fun W h => Lib.hid (HS.out.load s W h hsm)) (fun W => Lib.hid (SLLoad_any s W h1 h2))
    (fun W h => Lib.hid (HS.out.save s t d W h hsm ht)) (fun W => Lib.hid (SLSave_any s t d W h1 h2))
    (fun W h => Lib.hid (HS.out.crash s n W h hsm)) (fun W => Lib.hid (SLCrash_any s n W h1 h2))
    (fun W h => Lib.hid (HS.out.better a b W h (by omega) (by omega))) (fun W => Lib.hid (SLBetter_any a b W (by omega) (by omega)))
    (fun W h => Lib.hid (HS.out.new n W h)) (fun W => Lib.hid (SLNew_any n W))
end Go.Proofs.Yteepemibmjpnfaa
