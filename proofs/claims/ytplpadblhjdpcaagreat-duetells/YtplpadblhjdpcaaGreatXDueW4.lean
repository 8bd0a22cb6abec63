/-
  Layer 9 (due): the alarms that wait, one by one: waiting and its iterator.
-/
import Derived.Test.YtplpadblhjdpcaaGreatXDueW1
import Derived.Test.YtplpadblhjdpcaaGreatXDueIn
namespace Go.Proofs.YtplpadblhjdpcaaGreat
set_option maxRecDepth 10000
open Go.RowKit Go.Shelf

attribute [local go_sem] Oper.semAt_some

namespace Du
/-- The alarms that wait. -/
def wl (ls : List Alm) : List Alm := ls.filter waits
theorem wl_take {ls : List Alm} {k : Nat} (h : k < ls.length) : wl (ls.take (k + 1)) = wl (ls.take k) ++ (if waits ls[k] then [ls[k]] else []) := by
  unfold wl
  rw [List.take_succ_eq_append_getElem h, List.filter_append]
  cases h : waits ls[k] <;> simp [h]
theorem wl_pre (ls : List Alm) (k : Nat) : wl (ls.take k) <+: wl ls := (List.take_prefix k ls).filter _
end Du

theorem below_mono {B B' : Nat} {w w' : World} (h : Below B w w') (hB : B' ≤ B) : Below B' w w' := h.mono hB

set_option maxHeartbeats 2000000 in
theorem dwaiting1_in (n lp Bn n₀ B0 : Nat) (A : Option Addr) (l c : Nat) (ls : List Alm) (hl : l = ls.length) (hf : l ≤ 1000) (P : Alm → Prop) (hP : ∀ x ∈ ls, P x) (J Jx : List Alm → World → Prop) (hJ : AbidesFrom B0 J)
    (hY : ∀ pre x W, P x → J pre W → pre.length < (Du.wl ls).length → YieldAt Fence.wide (n - 1) Tryz.prog lp #[.iface 78 (.agg (sixV x))] W fun e W' =>
      (e = .returned (.bool true) ∧ J (pre ++ [x]) W' ∧ Below n₀ W W') ∨ (e = .returned (.bool false) ∧ Jx (pre ++ [x]) W'))
    (W : World) (hBn : W.cell? ⟨Bn, 0, none⟩ = some (.slice A l c)) (hA : AlmsAt W n₀ A ls) (hn0 : n₀ ≤ W.heap.size) (h0 : J [] W) :
    CallsIn Fence.wide n Tryz.prog 44 #[.func (.yield lp) #[] #[], .pointer (some ⟨Bn, 0, none⟩)] W fun e W' => (∃ v, e = .returned v) ∧
      ((∃ ys, ys = Du.wl ls ∧ J ys W') ∨ (∃ pre, pre <+: Du.wl ls ∧ Jx pre W')) := by
  have HA := Lib.hid hA
  have H0 := Lib.hid h0
  have Hn := Lib.hid hn0
  have Hl := Lib.hid hl
  have Hf := Lib.hid hf
  have HJ := Lib.hid hJ
  have HY := Lib.hid hY
  have HPa := Lib.hid hP
  clear hA h0 hn0 hl hf hJ hY hP
  refine callsIn_of_wp Tryz.func44 rfl trivial ?_ rfl
  simp only [Tryz.ntmps44, List.size_toArray, List.length_cons, List.length_nil, Nat.reduceAdd, Nat.reduceSub, Array.replicate_succ, Array.replicate_zero, List.push_toArray, List.append_toArray, List.nil_append, List.cons_append]
  gi_wp2
  gi_loopw [8] (fun i wr => ∃ k : Nat, k ≤ l ∧ i = .int .i64 (k : Int) ∧ Hid (AlmsAt wr n₀ A ls) ∧ Hid (n₀ ≤ wr.heap.size) ∧ Hid (J (Du.wl (ls.take k)) wr)) (fun i _ => l - (intOf i).toNat)
  case atStart => exact ⟨0, Nat.zero_le _, rfl, HA, Hn, Lib.hid (by have := H0.out; simpa [Du.wl] using this)⟩
  case round =>
    obtain ⟨k, hk, rfl, HAr, Hnr, HJr⟩ := hrel
    by_cases hlt : k < l
    · have kl : k < ls.length := by rw [← Hl.out]; exact hlt
      obtain ⟨b0, o0, rfl, hb0, h6⟩ := HAr.out k kl
      have Ht := Lib.hid (Du.wl_take kl)
      have Hp := Lib.hid (Du.wl_pre ls (k + 1))
      obtain ⟨x, hx⟩ : ∃ x, x = ls[k] := ⟨_, rfl⟩
      rw [← hx] at h6 Ht
      have HPx : Hid (P x) := Lib.hid (by rw [hx]; exact HPa.out _ (List.getElem_mem kl))
      obtain ⟨x0, x1, x2, x3, x4, x5⟩ := x
      have d0 := h6.c0
      have d1 := h6.c1
      have d2 := h6.c2
      have d3 := h6.c3
      have d4 := h6.c4
      have d5 := h6.c5
      simp only at d0 d1 d2 d3 d4 d5
      have i1 : (k : Int) < (l : Int) := by omega
      have i3 : (0 : Int) ≤ (k : Int) := by omega
      have Ik : Hid (wrap64 ((k : Int) + 1) = (k : Int) + 1) := Lib.hid (by have := Hf.out; unfold wrap64; omega)
      have Hk := Lib.hid hlt
      clear h6 kl hk hlt hb0 hx
      have g := fun W => dwaits_any x0 x1 x2 x3 x4 x5 W
      have HN := Lib.hid (below_new2 wr (.cells #[.int .i64 x0, .int .i64 x1, .int .i64 x2, .int .i64 x3, .int .i64 x4, .int .i64 x5] 38) (.cells #[.int .i64 x0, .int .i64 x1, .int .i64 x2, .int .i64 x3, .int .i64 x4, .int .i64 x5] 78))
      have K5 := Lib.hid (Six.new1 wr (.cells #[.int .i64 x0, .int .i64 x1, .int .i64 x2, .int .i64 x3, .int .i64 x4, .int .i64 x5] 38) x0 x1 x2 x3 x4 x5 78)
      gi_wp2_with fail
      obtain ⟨z, hz⟩ : ∃ z, z = Du.waits ⟨x0, x1, x2, x3, x4, x5⟩ := ⟨_, rfl⟩
      rw [← hz] at Ht
      simp only [← hz] at g
      clear hz
      refine ⟨trivial, (fun hd => nomatch hd), callsIn_wide.2 ((g _).mono ?_)⟩
      rintro e w2 ⟨rfl, hB⟩
      have HB := Lib.hid (below2 HN.out hB)
      have HJ2 := Lib.hid (HJ.out _ _ w2 none HJr.out (grown_of_below HB.out) (fun r e => nomatch e))
      have HA2 := Lib.hid (HAr.out.below HB.out Hnr.out)
      have Hn2 := Lib.hid (Nat.le_trans Hnr.out HB.out.size)
      replace K5 := Lib.hid (K5.out.below hB)
      clear hB g HJr HAr d0 d1 d2 d3 d4 d5
      cases z
      · have He : Hid (Du.wl (ls.take (k + 1)) = Du.wl (ls.take k)) := Lib.hid (by rw [Ht.out]; simp)
        clear Ht Hp K5
        gi_wp2
        refine ⟨fun _ h => (by cases h), ?_⟩
        gi_wp2
        go_roundw
        case rel => exact ⟨k + 1, Hk.out, by first | rfl | (rw [Ik.out]; rfl), HA2, Hn2, by rw [He.out]; exact HJ2⟩
        case measure => have := Hk.out; (try rw [Ik.out]); simp [intOf]; omega
      · have He : Hid (Du.wl (ls.take (k + 1)) = Du.wl (ls.take k) ++ [⟨x0, x1, x2, x3, x4, x5⟩]) := Lib.hid (by rw [Ht.out]; simp)
        rw [He.out] at Hp
        obtain ⟨fn, tmps, assign, body, hy, hR⟩ := HY.out (Du.wl (ls.take k)) ⟨x0, x1, x2, x3, x4, x5⟩ w2 HPx.out HJ2.out (by have := Hp.out.length_le; simp at this; omega)
        dsimp only [sixV] at hy
        have c0 := K5.out.c0
        have c1 := K5.out.c1
        have c2 := K5.out.c2
        have c3 := K5.out.c3
        have c4 := K5.out.c4
        have c5 := K5.out.c5
        simp only at c0 c1 c2 c3 c4 c5
        clear Ht K5
        gi_wp2_with fail
        refine ⟨(fun hd => nomatch hd), hR.mono ?_⟩
        rintro e W3 (⟨rfl, hJ3, hk3⟩ | ⟨rfl, hJx3⟩)
        · have HJ3 := Lib.hid hJ3
          have HA3 := Lib.hid (HA2.out.below hk3 (Nat.le_refl _))
          have Hn3 := Lib.hid (Nat.le_trans Hn2.out hk3.size)
          clear hJ3 hk3 hR hy c0 c1 c2 c3 c4 c5
          gi_wp2
          go_roundw
          case rel => exact ⟨k + 1, Hk.out, by first | rfl | (rw [Ik.out]; rfl), HA3, Hn3, by rw [He.out]; exact HJ3⟩
          case measure => have := Hk.out; (try rw [Ik.out]); simp [intOf]; omega
        · have HX := Lib.hid hJx3
          clear hJx3 hR hy c0 c1 c2 c3 c4 c5
          gi_wp2
          refine bodyPost_ret (results_none rfl _ _ _) rfl ?_
          exact ⟨⟨_, rfl⟩, .inr ⟨_, Hp.out, HX.out⟩⟩
    · have ik : ((k : Int) < (l : Int)) = False := eq_false (by omega)
      have He : Hid (ls.take k = ls) := Lib.hid (List.take_of_length_le (by have := Hl.out; omega))
      clear hk hlt
      rw [He.out] at HJr
      gi_wp2
      go_end0
      exact ⟨⟨_, rfl⟩, .inl ⟨_, rfl, HJr.out⟩⟩

theorem dwaiting_in (n : Nat) (A : Option Addr) (l c : Nat) (w : World) :
    CallsIn Fence.wide n Tryz.prog 23 #[.slice A l c] w fun e w' => e = .returned (.func (.func 44) #[] #[.pointer (some ⟨w.heap.size, 0, none⟩)]) ∧ w' = w.alloc (.cells #[.slice A l c] 22) := by
  refine callsIn_wide.2 ?_
  go_enter Tryz.func23, Tryz.ntmps23
  go_wp2
  go_ret
  exact ⟨rfl, rfl⟩

theorem dwaiting_stops (n Bn n₀ : Nat) (A : Option Addr) (l c : Nat) (ls : List Alm) (hl : l = ls.length) (hf : l ≤ 1000) (w : World) (hn0 : n₀ ≤ w.heap.size) (hBn : Bn < w.heap.size) (hc : w.cell? ⟨Bn, 0, none⟩ = some (.slice A l c)) (hA : AlmsAt w n₀ A ls) :
    SeqStopsK Fence.wide n Tryz.prog 44 #[.pointer (some ⟨Bn, 0, none⟩)] (fun x : Alm => #[Value.iface 78 (.agg (sixV x))]) (Below n₀) (fun ys => ys = Du.wl ls) (fun pre => pre <+: Du.wl ls) (Du.wl ls).length w := fun lp J Jx W hW hJ _ hY h0 =>
  dwaiting1_in n lp Bn n₀ _ A l c ls hl hf (fun _ => True) (fun _ _ => trivial) J Jx hJ (fun pre x W _ => hY pre x W) W ((hW.cell (p := ⟨Bn, 0, none⟩) hBn).trans hc) (hA.below hW hn0) (Nat.le_trans hn0 hW.size) h0

/-- The same of alarms that are all of one kind: so much the loop's body may know. -/
theorem dwaiting_stopsP (P : Alm → Prop) (n Bn n₀ : Nat) (A : Option Addr) (l c : Nat) (ls : List Alm) (hP : ∀ x ∈ ls, P x) (hl : l = ls.length) (hf : l ≤ 1000) (w : World) (hn0 : n₀ ≤ w.heap.size) (hBn : Bn < w.heap.size) (hc : w.cell? ⟨Bn, 0, none⟩ = some (.slice A l c)) (hA : AlmsAt w n₀ A ls) :
    SeqStopsK Fence.wide n Tryz.prog 44 #[.pointer (some ⟨Bn, 0, none⟩)] (fun x : { x : Alm // P x } => #[Value.iface 78 (.agg (sixV x.1))]) (Below n₀) (fun ys => ys.map (·.1) = Du.wl ls) (fun pre => pre.map (·.1) <+: Du.wl ls) (Du.wl ls).length w := fun lp J Jx W hW hJ _ hY h0 => by
  refine (dwaiting1_in n lp Bn n₀ W.heap.size A l c ls hl hf P hP (fun pre V => ∃ ps : List { x : Alm // P x }, ps.map (·.1) = pre ∧ J ps V) (fun pre V => ∃ ps : List { x : Alm // P x }, ps.map (·.1) = pre ∧ Jx ps V)
    (fun pre V V' row ⟨ps, e, h⟩ hg hr => ⟨ps, e, hJ ps V V' row h hg hr⟩) ?_ W ((hW.cell (p := ⟨Bn, 0, none⟩) hBn).trans hc) (hA.below hW hn0) (Nat.le_trans hn0 hW.size) ⟨[], rfl, h0⟩).mono ?_
  · rintro pre x V hx ⟨ps, rfl, hj⟩ hlt
    refine YieldAt.mono (hY ps ⟨x, hx⟩ V hj (by simpa using hlt)) ?_
    rintro e V' (⟨rfl, h1, h2⟩ | ⟨rfl, h1⟩)
    · exact .inl ⟨rfl, ⟨ps ++ [⟨x, hx⟩], by simp, h1⟩, h2⟩
    · exact .inr ⟨rfl, ⟨ps ++ [⟨x, hx⟩], by simp, h1⟩⟩
  · rintro e V' ⟨hv, ⟨ys, rfl, ps, e1, h1⟩ | ⟨pre, hp, ps, e1, h1⟩⟩
    · exact ⟨hv, .inl ⟨ps, e1, h1⟩⟩
    · exact ⟨hv, .inr ⟨ps, (by show List.map _ ps <+: _; rw [e1]; exact hp), h1⟩⟩
end Go.Proofs.YtplpadblhjdpcaaGreat
