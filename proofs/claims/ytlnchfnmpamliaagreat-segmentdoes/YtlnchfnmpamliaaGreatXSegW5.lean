/-
  Layer 14 (segment): the landed code: Read.
-/
import Derived.Test.YtlnchfnmpamliaaGreatXSegW4
namespace Go.Proofs.YtlnchfnmpamliaaGreat
set_option maxRecDepth 10000
open Go.RowKit

/-- The texts of the first j parts. -/
def txs (ms : List Prm) (j : Nat) : List ByteArray := ((ms.take j).flatMap (fun m => m.p.ts)).map strOf
theorem txs_zero (ms : List Prm) : txs ms 0 = [] := by simp [txs]
theorem txs_succ {ms : List Prm} {j : Nat} (h : j < ms.length) : txs ms (j + 1) = txs ms j ++ ms[j].p.ts.map strOf := by
  unfold txs
  rw [List.take_succ_eq_append_getElem h, List.flatMap_append, List.map_append, List.flatMap_cons, List.flatMap_nil, List.append_nil]
theorem txs_all (ms : List Prm) : txs ms ms.length = ((ms.map Prm.p).flatMap Prt.ts).map strOf := by
  unfold txs
  rw [List.take_length, List.flatMap_map]
theorem txs_le (ms : List Prm) (j : Nat) : (txs ms j).length ≤ ((ms.map Prm.p).flatMap Prt.ts).length := by
  unfold txs
  rw [List.length_map, List.flatMap_map]
  have h : ms.flatMap (fun m => m.p.ts) = (ms.take j).flatMap (fun m => m.p.ts) ++ (ms.drop j).flatMap (fun m => m.p.ts) := by rw [← List.flatMap_append, List.take_append_drop]
  rw [h, List.length_append]; omega

set_option maxRecDepth 10000 in
set_option maxHeartbeats 2000000 in
theorem sread_any (sz fi : Int) (A : Option Addr) (n c : Nat) (fs : List Fil) (w : World) (hA : FilsAt w w.heap.size A fs) (hs : Sg.small ⟨sz, fi, fs⟩) (hn : n = fs.length) :
    Calls Tryz.prog 6 #[.agg #[.int .i64 sz, .int .i64 fi, .slice A n c]] w fun e w' => ∃ A' c', e = .returned (.tuple #[.slice A' (Sg.texts ⟨sz, fi, fs⟩).length c', .int .i64 (Sg.badE ⟨sz, fi, fs⟩)]) ∧ StrsAt w' w'.heap.size A' (Sg.texts ⟨sz, fi, fs⟩) ∧ (Sg.texts ⟨sz, fi, fs⟩).length ≤ c' ∧ Below w.heap.size w w' := by
  have p1 := fun W (h : FilsAt W W.heap.size A fs) => sgis_any sz fi A n c fs W h hs hn
  have S0 := Lib.hid (((St.start w).more (filF14 A w.heap.size fs) ⟨hA, Nat.le_refl _⟩).new #[.int .i64 sz, .int .i64 fi, .slice A n c] 24)
  by_cases hi : Sg.is ⟨sz, fi, fs⟩ = true
  · have e1 : Sg.texts ⟨sz, fi, fs⟩ = (Sg.rd fs fi).1.map strOf := by unfold Sg.texts; rw [if_pos hi]
    have e2 : Sg.badE ⟨sz, fi, fs⟩ = 0 := by unfold Sg.badE; rw [if_pos hi]
    rw [e1, e2]
    simp only [hi] at p1
    have hb := (Sg.is_iff.1 hi).1
    simp only at hb
    have p2 := fun W (h : FilsAt W W.heap.size A fs) => parts_any sz fi A n c fs W h (Sg.files_is hi) (by omega) hb.2.1 hn
    unfold PartsS at p2
    have hpt := Sg.partsL_texts fs fi
    have hcnt := Sg.rd_cnt (Sg.files_is hi) fi
    have hpl := Sg.partsL_len fs fi
    simp only at hcnt
    obtain ⟨ps, hps⟩ : ∃ ps, ps = Sg.partsL fs fi := ⟨_, rfl⟩
    rw [← hps] at p2 hpt hpl
    obtain ⟨N, hN⟩ : ∃ N, N = ps.length := ⟨_, rfl⟩
    rw [← hN] at p2
    have HN := Lib.hid hN
    have HT := Lib.hid hpt
    have Hc : Hid ((ps.flatMap Prt.ts).length ≤ 80000) := Lib.hid (by rw [hpt]; omega)
    have HN20 : Hid (N ≤ 20) := Lib.hid (by omega)
    clear e1 e2 hi hA hs hn hb hcnt hpl hps hN hpt
    go_enter Tryz.func6, Tryz.ntmps6
    go_wp2_with fail
    refine (p1 _ ((S0.out.fact 0 rfl).1.more (S0.out.fact 0 rfl).2)).mono ?_
    rintro e w1 ⟨rfl, hB⟩
    have S1 := Lib.hid (S0.out.on hB)
    clear p1 hB S0
    go_wp2_with (refine wpList_load_st rfl 24 _ rfl S1.out 0 _ _ rfl rfl _ Tryz.underlying24 rfl (by rfl) ?_)
    refine (p2 _ ((S1.out.fact 0 rfl).1.more (S1.out.fact 0 rfl).2)).mono ?_
    rintro e w2 ⟨ms, A2, c2, rfl, hms, hO, hT, hB⟩
    have HB2 := Lib.hid (S1.out.on hB).below
    have HO := Lib.hid hO
    have HTx := Lib.hid hT
    have Hms := Lib.hid hms
    have HmN : Hid (ms.length = N) := Lib.hid (by rw [HN.out, ← hms, List.length_map])
    clear p2 hB S1 hms hO hT
    go_wp2_with fail
    go_loopw [4, 13] (fun v i wr => ∃ j : Nat, j ≤ N ∧ i = .int .i64 (j : Int) ∧ Hid (OwnTs w2 wr v (txs ms j))) (fun _ i _ => N - (intOf i).toNat)
    case atStart => exact ⟨0, Nat.zero_le _, rfl, Lib.hid (by rw [txs_zero]; exact OwnTs.nil w2)⟩
    case round =>
      obtain ⟨j, hj, rfl, HV⟩ := hrel
      obtain ⟨X, hX⟩ : ∃ X, X = (txs ms j).length := ⟨_, rfl⟩
      obtain ⟨Av, cv, rfl, _, _, _⟩ := HV.out.slice hX
      clear hX
      by_cases hlt : j < N
      · have hlt' : j < ms.length := by rw [HmN.out]; exact hlt
        have hB := HV.out.2
        obtain ⟨g, rfl, hg, _, h6⟩ := (HO.out.below hB).at hlt'
        have hsu := txs_succ hlt'
        have htx := HTx.out.on hB _ (List.getElem_mem hlt')
        have hle := txs_le ms (j + 1)
        rw [Hms.out] at hle
        obtain ⟨⟨⟨⟨xm, xk, xl⟩, n1, ts, q⟩, A3, c3⟩, hx⟩ : ∃ x, x = ms[j] := ⟨_, rfl⟩
        rw [← hx] at h6 hsu htx
        simp only at hsu htx
        have e0 := h6.c0
        have e1 := h6.c1
        have e2 := h6.c2
        have e3 := h6.c3
        have e4 := h6.c4
        have e5 := h6.c5
        simp only at e0 e1 e2 e3 e4 e5
        obtain ⟨L, hL⟩ : ∃ L, L = ts.length := ⟨_, rfl⟩
        rw [← hL] at e4
        have HL : Hid (L = (ts.map strOf).length) := Lib.hid (by rw [List.length_map]; exact hL)
        have Hsu := Lib.hid hsu
        have Htx := Lib.hid htx
        have Hsum : Hid ((txs ms j).length + (ts.map strOf).length ≤ 100000) := Lib.hid (by rw [← List.length_append, ← hsu]; have := Hc.out; omega)
        have HVa : Hid (Value.int .i64 ((j : Int) + 1) = Value.int .i64 ((j + 1 : Nat) : Int)) := Lib.hid (by rw [Int.natCast_succ])
        have HMe : Hid (N - (intOf (Value.int .i64 ((j : Int) + 1))).toNat < N - (intOf (Value.int .i64 (j : Int))).toNat) := Lib.hid (by simp only [intOf]; omega)
        have Hiw : Hid (wrap64 ((j : Int) + 1) = (j : Int) + 1) := Lib.hid (by have := HN20.out; unfold wrap64; omega)
        have HW : ∀ cs t, Hid (OwnTs w2 (wr.alloc (.cells cs t)) (.slice Av X cv) (txs ms j) ∧ StrsAt (wr.alloc (.cells cs t)) (wr.alloc (.cells cs t)).heap.size A3 (ts.map strOf)) := fun cs t => Lib.hid ⟨⟨owns_below HV.out.1 (below_new wr _), HV.out.2.trans ((below_new wr _).mono HV.out.2.size)⟩, (Htx.out.1.below (below_new wr _) (Nat.le_refl _)).more (below_new wr _).size⟩
        clear hL hle hx h6 hsu htx hg hB
        go_wp2_with (at_builtin; refine wpList_append_strs rfl _ _ rfl w2 _ (txs ms j) (ts.map strOf) (txs ms (j + 1)) Hsu.out.symm rfl (HW _ _).out.1 A3 L c3 HL.out rfl (HW _ _).out.2 Htx.out.2.1 Hsum.out ?_; intro v4 w4 hO4; have HO4 := Lib.hid hO4; clear hO4)
        go_roundw
        case rel => exact ⟨j + 1, hlt, by rw [Hiw.out]; exact HVa.out, HO4⟩
        case measure => rw [Hiw.out]; exact HMe.out
      · have hje : j = N := by omega
        have HR : Hid (txs ms j = (Sg.rd fs fi).1.map strOf) := Lib.hid (by rw [hje, ← HmN.out, txs_all, Hms.out, HT.out])
        clear hje
        go_wp2
        go_ret2
        have h := HV.out
        rw [HR.out] at h
        obtain ⟨A9, c9, he, h1, h2, h3⟩ := h.slice rfl
        refine ⟨A9, c9, ?_, h2, h1, below2 HB2.out h3⟩
        rw [← he]; rfl
  · have e1 : Sg.texts ⟨sz, fi, fs⟩ = [] := by unfold Sg.texts; rw [if_neg hi]
    have e2 : Sg.badE ⟨sz, fi, fs⟩ = 1 := by unfold Sg.badE; rw [if_neg hi]
    rw [e1, e2]
    rw [Bool.not_eq_true] at hi
    simp only [hi] at p1
    clear e1 e2 hi hA hs hn
    go_enter Tryz.func6, Tryz.ntmps6
    go_wp2_with fail
    refine (p1 _ ((S0.out.fact 0 rfl).1.more (S0.out.fact 0 rfl).2)).mono ?_
    rintro e w1 ⟨rfl, hB⟩
    have Hb := Lib.hid (S0.out.on hB).below
    clear p1 hB S0
    go_wp2
    go_ret2
    exact ⟨none, 0, rfl, StrsAt.nil _ _ _, Nat.le_refl _, Hb.out⟩
end Go.Proofs.YtlnchfnmpamliaaGreat
