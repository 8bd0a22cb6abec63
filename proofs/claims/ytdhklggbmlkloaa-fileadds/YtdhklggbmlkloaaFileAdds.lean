/-
  Layer 12 (file): the law FileAdds, over the structure (printed by tools/gen-fileadds.py).
-/
import Derived.Test.YtdhklggbmlkloaaFileFar
import Derived.Test.YtdhklggbmlkloaaFileTwice
import Derived.Test.YtdhklggbmlkloaaFileAddM
import Derived.Deep.DeepCutAuto
namespace Go.Proofs.Ytdhklggbmlkloaa
set_option maxRecDepth 10000
open Go.RowKit

theorem fileAdds_big (m : Int) (k l : ByteArray) (A : Option Addr) (N cap : Nat) (w : World) (hb : decide (2000 < k.size ∨ 2000 < l.size) = true) : Calls Try.prog 4 #[.agg #[.int .i64 m, .string k, .string l], .slice A N cap] w fun e w' => e = .returned (.bool true) ∧ Below w.heap.size w w' := by
  have p1 := fun W => FRBig_any m k l W
  rw [hb] at p1
  clear hb
  go_enter Try.func4, Try.ntmps4
  go_wp2_with fail
  refine (p1 _).mono ?_
  rintro e w1 ⟨rfl, hB⟩
  have Hb := Lib.hid (below2 (below_new w _) hB)
  clear hB p1
  go_wp2
  go_ret
  exact ⟨rfl, Hb.out⟩
theorem fileAdds_far (m : Int) (k l : ByteArray) (A : Option Addr) (N cap : Nat) (ss : List ByteArray) (w : World) (hb : decide (2000 < k.size ∨ 2000 < l.size) = false) (hA : StrsAt w w.heap.size A ss)
    (pf : ∀ W, StrsAt W W.heap.size A ss → Hid (Calls Try.prog 9 #[.slice A N cap] W fun e w' => e = .returned (.bool true) ∧ Below W.heap.size W w')) : Calls Try.prog 4 #[.agg #[.int .i64 m, .string k, .string l], .slice A N cap] w fun e w' => e = .returned (.bool true) ∧ Below w.heap.size w w' := by
  have p1 := fun W => FRBig_any m k l W
  rw [hb] at p1
  have HA := Lib.hid hA
  clear hb hA
  go_enter Try.func4, Try.ntmps4
  go_wp2_with fail
  refine (p1 _).mono ?_
  rintro e w1 ⟨rfl, hB⟩
  have Hb := Lib.hid (below2 (below_new w _) hB)
  clear hB p1
  go_wp2_with fail
  refine (pf _ ((HA.out.below Hb.out (Nat.le_refl _)).more Hb.out.size)).out.mono ?_
  rintro e w2 ⟨rfl, hB⟩
  have Hb2 := Lib.hid (below2 Hb.out hB)
  clear hB pf
  go_wp2
  go_ret
  exact ⟨rfl, Hb2.out⟩

theorem StrsAt.at12 {w : World} {B b off : Nat} {ss : List ByteArray} (h : StrsAt w B (some ⟨b, off, none⟩) ss) (i : Nat) (hi : i < ss.length) : w.cell? ⟨b, off + i, none⟩ = some (.string ss[i]) := by
  obtain ⟨b', off', e, _, hc⟩ := h i hi
  cases e
  exact hc
/-- What holds ahead of each text: what was laid, the first error, the file. -/
def AddsRel (u : World) (pb N : Nat) (ss : List ByteArray) (B : Nat → Fil) (G : Nat → Int) (all g i : Value) (wr : World) : Prop :=
  ∃ j : Nat, j ≤ N ∧ i = .int .i64 (j : Int) ∧ all = .string (Fi.all (ss.take j)) ∧ g = .int .i64 (G j) ∧ Hid (Below u.heap.size u wr) ∧ Hid (∃ t, wr.heap[pb]? = some (.cells (filV (B j)) t (0, 0)))

set_option maxHeartbeats 4000000 in
theorem fileAdds_errg {E : World → Prop} (HS : Hid (FileK E)) (HC : Hid (FiledK E)) (m : Int) (k l : ByteArray) (A : Option Addr) (N cap : Nat) (ss : List ByteArray) (w : World) (hE : E w) (hb : decide (2000 < k.size ∨ 2000 < l.size) = false) (hA : StrsAt w w.heap.size A ss) (hN : N = ss.length) (hN60 : N ≤ 60) (hz : ∀ s ∈ ss, s.size ≤ 300) (ae : Int) (g0 : Int) (jae : (ae != 0) = true) (jg : (g0 != 0) = true)
    (B : Nat → Fil) (G H : Nat → Int) (hB0 : B 0 = ⟨m, k, l⟩) (hG0 : G 0 = 0) (hG : ∀ j, j < N → G (j + 1) = if H j ≠ 0 ∧ G j = 0 then H j else G j) (hgN : G N = g0)
    (KA : ∀ (W : World) (_h : E W) (_hA : StrsAt W W.heap.size A ss), Hid (Calls Try.prog 11 #[.agg #[.int .i64 m, .string k, .string l], .slice A N cap] W fun e w' => e = .returned (.tuple #[.agg #[.int .i64 0, .string ⟨#[]⟩, .string ⟨#[]⟩], .int .i64 ae]) ∧ Below W.heap.size W w'))
    (KL : ∀ (j : Nat) (_hj : j < N) (s : ByteArray) (_hs : ss[j]? = some s) (W : World) (A1 : Addr) (_h : E W) (_hA : StrsAt W W.heap.size (some A1) [s]), Hid (Calls Try.prog 11 #[.agg (filV (B j)), .slice (some A1) 1 1] W fun e w' => e = .returned (.tuple #[.agg (filV (B (j + 1))), .int .i64 (H j)]) ∧ Below W.heap.size W w'))
    (pf : ∀ (W : World) (_hA : StrsAt W W.heap.size A ss), Hid (Calls Try.prog 9 #[.slice A N cap] W fun e w' => e = .returned (.bool false) ∧ Below W.heap.size W w'))
    (KR : ∀ (W : World) (_h : E W), Hid (Calls Try.prog 24 #[.agg #[.int .i64 0, .string ⟨#[]⟩, .string ⟨#[]⟩]] W fun e w' => e = .returned (.string ⟨#[]⟩) ∧ Below W.heap.size W w')) :
    Calls Try.prog 4 #[.agg #[.int .i64 m, .string k, .string l], .slice A N cap] w fun e w' => e = .returned (.bool true) ∧ Below w.heap.size w w' := by
  have p1 := fun W => Lib.hid (FRBig_any m k l W)
  rw [hb] at p1
  have S0 := Lib.hid ((((St.start w).more (strsF12 A w.heap.size ss) ⟨hA, Nat.le_refl _⟩).more (eFi HS) hE).new #[.int .i64 m, .string k, .string l] 23)
  have HN := Lib.hid hN
  have Hz := Lib.hid hz
  have HB0 := Lib.hid hB0
  have HG0 := Lib.hid hG0
  have HG := Lib.hid hG
  clear hb hE hA hN hz hB0 hG0 hG
  go_enter Try.func4, Try.ntmps4
  go_wp2_with (refine wpList_load_st rfl 23 _ rfl S0.out 0 _ _ rfl rfl _ Try.underlying23 rfl (by rfl) ?_)
  refine (p1 _).out.mono ?_
  rintro e w1 ⟨rfl, hB⟩
  have S1 := Lib.hid (S0.out.on hB)
  clear hB S0
  clear p1
  obtain ⟨p0, hp0⟩ : ∃ p, p = w.heap.size := ⟨_, rfl⟩
  rw [← hp0] at S1 ⊢
  clear hp0
  go_wp2_with fail
  refine (pf w1 ((S1.out.fact 1 rfl).1.more (S1.out.fact 1 rfl).2)).out.mono ?_
  rintro e w2 ⟨rfl, hB⟩
  have S2 := Lib.hid (S1.out.on hB)
  clear hB S1
  clear pf
  go_wp2_with (refine wpList_load_st rfl 23 _ rfl S2.out 0 _ _ rfl rfl _ Try.underlying23 rfl (by rfl) ?_)
  refine (KA w2 (S2.out.fact 0 rfl) ((S2.out.fact 1 rfl).1.more (S2.out.fact 1 rfl).2)).out.mono ?_
  rintro e w3 ⟨rfl, hB⟩
  have S3 := Lib.hid (S2.out.on hB)
  clear hB S2
  clear KA
  go_wp2_with (first
    | (refine wpList_store_st rfl 23 _ _ rfl S3.out _ #[.int .i64 0, .string ⟨#[]⟩, .string ⟨#[]⟩] _ rfl rfl (by rfl) rfl (fil_one3 _ _ _) ?_; intro pa w4 hp hS hBn; (try rw [← hp]); have S4 := Lib.hid hS; clear hS hp hBn)
    | (refine wpList_load_st rfl 23 _ rfl S4.out 1 _ _ rfl rfl _ Try.underlying23 rfl (by rfl) ?_)
    | (refine wpList_store_st rfl 23 _ _ rfl S4.out _ #[.int .i64 m, .string k, .string l] _ rfl rfl (by rfl) rfl (fil_one3 _ _ _) ?_; intro pb w5 hp hS hBn; (try rw [← hp]); have S5 := Lib.hid hS; have HB5 := Lib.hid hBn; have Hpb := Lib.hid hp; clear hS hp hBn))
  go_loopw [8, 9, 10] (fun all g i wr => AddsRel w4 pb N ss B G all g i wr) (fun _ _ i _ => N - (intOf i).toNat)
  case atStart =>
    refine ⟨0, Nat.zero_le _, rfl, ?_, ?_, HB5, Lib.hid ?_⟩
    · rw [List.take_zero, Fi.all_nil]
    · rw [HG0.out]
    · rw [HB0.out]; obtain ⟨t, ht⟩ := S5.out.live (pb, #[.int .i64 m, .string k, .string l]) (by simp); exact ⟨t, ht⟩
  case round =>
    obtain ⟨j, hj, rfl, rfl, rfl, HBu, HP⟩ := hrel
    clear HB5 S5 HB0 HG0
    by_cases hlt : j < N
    · obtain ⟨b, off, rfl, hb, hc⟩ := (S4.out.fact 1 rfl).1 j (by rw [← HN.out]; exact hlt)
      clear hb hc
      obtain ⟨⟨bm, bk, bl⟩, hBj⟩ : ∃ X, X = B j := ⟨_, rfl⟩
      obtain ⟨⟨cm, ck, cl⟩, hBj2⟩ : ∃ X, X = B (j + 1) := ⟨_, rfl⟩
      obtain ⟨he, hHj⟩ : ∃ X, X = H j := ⟨_, rfl⟩
      obtain ⟨g, hGj⟩ : ∃ X, X = G j := ⟨_, rfl⟩
      have HgG : Hid (G (j + 1) = if he ≠ 0 ∧ g = 0 then he else g) := by rw [hHj, hGj]; exact Lib.hid (HG.out j hlt)
      have hjl : j < ss.length := by rw [← HN.out]; exact hlt
      obtain ⟨s, hs⟩ : ∃ s, s = ss[j] := ⟨_, rfl⟩
      have hzs : s.size ≤ 300 := by rw [hs]; exact Hz.out _ (List.getElem_mem hjl)
      have KJ := fun W A1 h hA => KL j hlt s (by rw [hs]; exact List.getElem?_eq_getElem hjl) W A1 h hA
      rw [← hBj, ← hBj2, ← hHj] at KJ
      rw [← hBj] at HP
      rw [← hGj]
      obtain ⟨z, hz⟩ : ∃ z, z = Fi.all (ss.take j) := ⟨_, rfl⟩
      have hzz : z.size ≤ 18000 := by rw [hz]; exact Fi.all_small ss (by rw [← HN.out]; exact hN60) Hz.out j
      have hcat : ¬ 9223372036854775807 < z.size + s.size := by omega
      have Hzs : Hid (Fi.all (ss.take (j + 1)) = z ++ s) := Lib.hid (by rw [List.take_succ_eq_append_getElem hjl, Fi.all_snoc, ← hz, ← hs])
      rw [← hz]
      have Hc : Hid (∀ W : World, StrsAt W p0 (some ⟨b, off, none⟩) ss → W.cell? ⟨b, off + j, none⟩ = some (.string s)) := Lib.hid (fun W h => by rw [hs]; exact h.at12 j hjl)
      have HBj2 := Lib.hid hBj2
      have Hcat := Lib.hid hcat
      have Hj1 : Hid (j + 1 ≤ N) := Lib.hid hlt
      clear hBj hBj2 hHj hGj hs hz hzs hzz hjl KL Hz HN hcat hj HG
      have SR := Lib.hid ((S4.out.on HBu.out).add (k := pb) (cs := #[.int .i64 bm, .string bk, .string bl]) HP.out)
      clear HP
      go_wp2_with fail
      go_cut [11, 12] (fun pv hv wx => ∃ pc, pv = .pointer (some ⟨pc, 0, none⟩) ∧ hv = .int .i64 he ∧ Hid (St w wx ((pc, #[.int .i64 cm, .string ck, .string cl]) :: [(pb, #[.int .i64 bm, .string bk, .string bl]), (pa, #[.int .i64 0, .string ⟨#[]⟩, .string ⟨#[]⟩]), (p0, #[.int .i64 m, .string k, .string l])]) [eFi HS, strsF12 (some ⟨b, off, none⟩) p0 ss]) ∧ Hid (Below w4.heap.size w4 wx))
      case first =>
        have hS0 : St w wr.drew [(pb, #[.int .i64 bm, .string bk, .string bl]), (pa, #[.int .i64 0, .string ⟨#[]⟩, .string ⟨#[]⟩]), (p0, #[.int .i64 m, .string k, .string l])] [eFi HS, strsF12 (some ⟨b, off, none⟩) p0 ss] := SR.out.drew
        refine wp_region_held_drew (S := (fun W : World => St w W [(pb, #[.int .i64 bm, .string bk, .string bl]), (pa, #[.int .i64 0, .string ⟨#[]⟩, .string ⟨#[]⟩]), (p0, #[.int .i64 m, .string k, .string l])] [eFi HS, strsF12 (some ⟨b, off, none⟩) p0 ss])) (by kernel_rfl) hS0 (fun hHeld => ?_)
        have HBr := Lib.hid (below_drew12 (Below.refl wr.heap.size wr))
        have hS := hS0
        clear hS0
        generalize hWd : wr.drew = Wd at hS HBr hHeld ⊢
        clear hWd
        refine wpAnyH_take (i := 0) (oi := { dst := some 33, op := Op.load 23 (Operand.tmp 7), type := 23, pos := _, after := #[], guard := none }) (v := ?_) rfl (by kernel_rfl) (by kernel_rfl) (by kernel_rfl) (fun _ _ _ h => h) (Or.inl ⟨by rfl, ?hy⟩) hHeld ?_
        case hy => intro w0 hSw; have d0 := hSw.cell 0 rfl 0 rfl; have d1 := hSw.cell 0 rfl 1 rfl; have d2 := hSw.cell 0 rfl 2 rfl; clear hSw; go_simp; (try with_reducible rfl)
        (try simp only [Act.put, List.setIfInBounds_toArray, List.set_cons_zero, List.set_cons_succ])
        refine wpAnyH_take (i := 1) (oi := { dst := some 34, op := Op.move (Operand.tmp 1), type := 24, pos := _, after := #[], guard := none }) (v := ?_) rfl (by kernel_rfl) (by kernel_rfl) (by kernel_rfl) (fun _ _ _ h => h) (Or.inl ⟨by rfl, ?hy⟩) hHeld ?_
        case hy => intro w0 hSw; (try dsimp only at hSw); go_simp; (try with_reducible rfl)
        (try simp only [Act.put, List.setIfInBounds_toArray, List.set_cons_zero, List.set_cons_succ])
        refine wpAnyH_take (i := 2) (oi := { dst := some 35, op := Op.move (Operand.tmp 10), type := 3, pos := _, after := #[], guard := none }) (v := ?_) rfl (by kernel_rfl) (by kernel_rfl) (by kernel_rfl) (fun _ _ _ h => h) (Or.inl ⟨by rfl, ?hy⟩) hHeld ?_
        case hy => intro w0 hSw; (try dsimp only at hSw); go_simp; (try with_reducible rfl)
        (try simp only [Act.put, List.setIfInBounds_toArray, List.set_cons_zero, List.set_cons_succ])
        refine wpAnyH_take (i := 3) (oi := { dst := some 36, op := Op.indexAddr 24 (Operand.tmp 34) (Operand.tmp 35), type := 0, pos := _, after := #[{ on := 1, ground := Ground.data }, { on := 2, ground := Ground.data }], guard := none }) (v := ?_) rfl (by kernel_rfl) (by kernel_rfl) (by kernel_rfl) (fun _ _ _ h => h) (Or.inl ⟨by rfl, ?hy⟩) hHeld ?_
        case hy => intro w0 hSw; (try dsimp only at hSw); go_simp; (try with_reducible rfl)
        (try simp only [Act.put, List.setIfInBounds_toArray, List.set_cons_zero, List.set_cons_succ])
        refine wpAnyH_take (i := 4) (oi := { dst := some 37, op := Op.load 9 (Operand.tmp 36), type := 9, pos := _, after := #[{ on := 3, ground := Ground.data }], guard := none }) (v := ?_) rfl (by kernel_rfl) (by kernel_rfl) (by kernel_rfl) (fun _ _ _ h => h) (Or.inl ⟨by rfl, ?hy⟩) hHeld ?_
        case hy => intro w0 hSw; have hcx := Hc.out w0 (hSw.fact 1 rfl).1; clear hSw; go_simp; (try with_reducible rfl)
        (try simp only [Act.put, List.setIfInBounds_toArray, List.set_cons_zero, List.set_cons_succ])
        refine wpAnyH_ready (rs := [5, 10]) (by kernel_rfl) (by simp) ?_
        refine AllReadyH.cons (o := { dst := some 38, op := Op.buildSlice 24 1 #[(0, Operand.tmp 37)], type := 24, pos := _, after := #[{ on := 4, ground := Ground.data }], guard := none }) rfl (fun K hK => ?_) (AllReadyH.cons (o := { dst := some 11, op := Op.alloc 23, type := 0, pos := _, after := #[], guard := none }) rfl (fun K hK => ?_) AllReadyH.nil)
        · go_simp
          have hs5 : StrsAt (Wd.alloc (.cells #[.string s] 9)) (Wd.alloc (.cells #[.string s] 9)).heap.size (some ⟨Wd.heap.size, 0, none⟩) [s] := by simpa using StrsAt.new Wd [s] 9
          replace hS := hS.on (below_new Wd (.cells #[.string s] 9))
          replace HBr := Lib.hid (below2 HBr.out (below_new Wd (.cells #[.string s] 9)))
          generalize hWb : Wd.alloc (.cells #[.string s] 9) = Vb at hs5 hS HBr ⊢
          clear hWb
          refine hK.out _ _ hS (fun hHeld => ?_)
          clear hK K
          (try simp only [Act.put, List.setIfInBounds_toArray, List.set_cons_zero, List.set_cons_succ])
          refine wpAnyH_ready (rs := [6, 10]) (by kernel_rfl) (by simp) ?_
          refine AllReadyH.cons (o := { dst := some 39, op := Op.call { callee := Callee.value (Operand.func 11), args := #[Operand.tmp 33, Operand.tmp 38], argTypes := #[23, 24] }, type := 29, pos := _, after := #[{ on := 0, ground := Ground.data }, { on := 5, ground := Ground.data }], guard := none }) rfl (fun K hK => ?_) (AllReadyH.cons (o := { dst := some 11, op := Op.alloc 23, type := 0, pos := _, after := #[], guard := none }) rfl (fun K hK => ?_) AllReadyH.nil)
          · go_simp
            refine (KJ _ _ (hS.fact 0 rfl) hs5).out.mono ?_
            rintro e y1 ⟨rfl, hB'⟩
            replace hS := hS.on hB'
            replace HBr := Lib.hid (below2 HBr.out hB')
            clear hB' hs5
            go_wp2_with fail
            refine hK.out _ _ hS (fun hHeld => ?_)
            clear hK K
            (try simp only [Act.put, List.setIfInBounds_toArray, List.set_cons_zero, List.set_cons_succ])
            refine wpAnyH_take (i := 7) (oi := { dst := some 32, op := Op.move (Operand.tmp 39), type := 29, pos := _, after := #[{ on := 6, ground := Ground.data }], guard := none }) (v := ?_) rfl (by kernel_rfl) (by kernel_rfl) (by kernel_rfl) (fun _ _ _ h => h) (Or.inl ⟨by rfl, ?hy⟩) hHeld ?_
            case hy => intro w0 hSw; (try dsimp only at hSw); go_simp; (try with_reducible rfl)
            (try simp only [Act.put, List.setIfInBounds_toArray, List.set_cons_zero, List.set_cons_succ])
            refine wpAnyH_take (i := 8) (oi := { dst := some 40, op := Op.extract (Operand.tmp 32) 0, type := 23, pos := _, after := #[{ on := 7, ground := Ground.data }], guard := none }) (v := ?_) rfl (by kernel_rfl) (by kernel_rfl) (by kernel_rfl) (fun _ _ _ h => h) (Or.inl ⟨by rfl, ?hy⟩) hHeld ?_
            case hy => intro w0 hSw; (try dsimp only at hSw); go_simp; (try with_reducible rfl)
            (try simp only [Act.put, List.setIfInBounds_toArray, List.set_cons_zero, List.set_cons_succ])
            refine wpAnyH_take (i := 9) (oi := { dst := some 41, op := Op.extract (Operand.tmp 32) 1, type := 28, pos := _, after := #[{ on := 7, ground := Ground.data }, { on := 11, ground := Ground.gcOnly Departure.lateStores }], guard := none }) (v := ?_) rfl (by kernel_rfl) (by kernel_rfl) (by kernel_rfl) (fun _ _ _ h => h) (Or.inl ⟨by rfl, ?hy⟩) hHeld ?_
            case hy => intro w0 hSw; (try dsimp only at hSw); go_simp; (try with_reducible rfl)
            (try simp only [Act.put, List.setIfInBounds_toArray, List.set_cons_zero, List.set_cons_succ])
            refine wpAnyH_ready (rs := [10]) (by kernel_rfl) (by simp) ?_
            refine AllReadyH.cons (o := { dst := some 11, op := Op.alloc 23, type := 0, pos := _, after := #[], guard := none }) rfl (fun K hK => ?_) AllReadyH.nil
            go_simp
            have hN := hS.new #[.int .i64 0, .string ⟨#[]⟩, .string ⟨#[]⟩] 23
            replace hS := hS.on (below_new y1 (.cells #[.int .i64 0, .string ⟨#[]⟩, .string ⟨#[]⟩] 23))
            obtain ⟨pc, hpc⟩ : ∃ x, x = y1.heap.size := ⟨_, rfl⟩
            have Hpc : Hid (wr.heap.size ≤ pc) := Lib.hid (by rw [hpc]; exact HBr.out.size)
            replace HBr := Lib.hid (below2 HBr.out (below_new y1 (.cells #[.int .i64 0, .string ⟨#[]⟩, .string ⟨#[]⟩] 23)))
            rw [← hpc] at hN ⊢
            clear hpc
            generalize hWa : y1.alloc (.cells #[.int .i64 0, .string ⟨#[]⟩, .string ⟨#[]⟩] 23) = Va at hS HBr hN ⊢
            clear hWa
            refine hK.out _ _ hS (fun hHeld => ?_)
            clear hK K
            (try simp only [Act.put, List.setIfInBounds_toArray, List.set_cons_zero, List.set_cons_succ])
            refine wpAnyH_ready (rs := [11]) (by kernel_rfl) (by simp) ?_
            refine AllReadyH.cons (o := { dst := none, op := Op.store 23 (Operand.tmp 11) (Operand.tmp 40), type := 0, pos := _, after := #[{ on := 10, ground := Ground.data }, { on := 8, ground := Ground.data }, { on := 6, ground := Ground.chain }, { on := 0, ground := Ground.phase }, { on := 1, ground := Ground.phase }, { on := 2, ground := Ground.phase }, { on := 3, ground := Ground.phase }, { on := 4, ground := Ground.phase }, { on := 5, ground := Ground.phase }, { on := 6, ground := Ground.phase }, { on := 7, ground := Ground.phase }, { on := 8, ground := Ground.phase }, { on := 9, ground := Ground.textOnly Departure.lateStores }, { on := 10, ground := Ground.phase }], guard := none }) rfl (fun K hK => ?_) AllReadyH.nil
            rw [if_pos (by rfl)]
            obtain ⟨tz, hz⟩ := hN.live (pc, #[.int .i64 0, .string ⟨#[]⟩, .string ⟨#[]⟩]) (by simp)
            refine wp_store_row 23 _ _ rfl pc #[.int .i64 cm, .string ck, .string cl] rfl rfl tz _ hz (by rfl) rfl (fil_one3 _ _ _) ?_
            have hb3 := below_setRow HBr.out Hpc.out #[.int .i64 cm, .string ck, .string cl]
            have hc3 := setRow_heap _ _ _ #[.int .i64 cm, .string ck, .string cl] _ _ hz
            clear hz hN hS
            have hS := SR.out.on hb3
            refine hK.out _ _ hS (fun hHeld => ?_)
            clear hK K
            (try simp only [Act.put])
            refine wpAnyH_take (i := 12) (oi := { dst := some 12, op := Op.assign (Operand.tmp 41), type := 28, pos := _, after := #[{ on := 9, ground := Ground.data }, { on := 11, ground := Ground.chain }, { on := 0, ground := Ground.phase }, { on := 1, ground := Ground.phase }, { on := 2, ground := Ground.phase }, { on := 3, ground := Ground.phase }, { on := 4, ground := Ground.phase }, { on := 5, ground := Ground.phase }, { on := 6, ground := Ground.phase }, { on := 7, ground := Ground.phase }, { on := 8, ground := Ground.phase }, { on := 9, ground := Ground.phase }, { on := 10, ground := Ground.phase }, { on := 11, ground := Ground.phase }], guard := none }) (v := ?_) rfl (by kernel_rfl) (by kernel_rfl) (by kernel_rfl) (fun _ _ _ h => h) (Or.inl ⟨by rfl, ?hy⟩) hHeld ?_
            case hy => intro w0 hSw; (try dsimp only at hSw); go_simp; (try with_reducible rfl)
            (try simp only [Act.put, List.setIfInBounds_toArray, List.set_cons_zero, List.set_cons_succ])
            refine wpAnyH_done (by kernel_rfl) ?_ _
            clear hHeld
            go_wp2_with fail
            go_meet
            exact ⟨pc, rfl, rfl, Lib.hid (hS.add ⟨_, hc3⟩), Lib.hid (below2 HBu.out hb3)⟩
          · go_simp
            have hN := hS.new #[.int .i64 0, .string ⟨#[]⟩, .string ⟨#[]⟩] 23
            replace hS := hS.on (below_new Vb (.cells #[.int .i64 0, .string ⟨#[]⟩, .string ⟨#[]⟩] 23))
            replace hs5 := (hs5.below (below_new Vb (.cells #[.int .i64 0, .string ⟨#[]⟩, .string ⟨#[]⟩] 23)) (Nat.le_refl _)).more (below_new Vb (.cells #[.int .i64 0, .string ⟨#[]⟩, .string ⟨#[]⟩] 23)).size
            obtain ⟨pc, hpc⟩ : ∃ x, x = Vb.heap.size := ⟨_, rfl⟩
            have Hpc : Hid (wr.heap.size ≤ pc) := Lib.hid (by rw [hpc]; exact HBr.out.size)
            replace HBr := Lib.hid (below2 HBr.out (below_new Vb (.cells #[.int .i64 0, .string ⟨#[]⟩, .string ⟨#[]⟩] 23)))
            rw [← hpc] at hN ⊢
            clear hpc
            generalize hWa : Vb.alloc (.cells #[.int .i64 0, .string ⟨#[]⟩, .string ⟨#[]⟩] 23) = Va at hs5 hS HBr hN ⊢
            clear hWa
            refine hK.out _ _ hS (fun hHeld => ?_)
            clear hK K
            (try simp only [Act.put, List.setIfInBounds_toArray, List.set_cons_zero, List.set_cons_succ])
            refine wpAnyH_ready (rs := [6]) (by kernel_rfl) (by simp) ?_
            refine AllReadyH.cons (o := { dst := some 39, op := Op.call { callee := Callee.value (Operand.func 11), args := #[Operand.tmp 33, Operand.tmp 38], argTypes := #[23, 24] }, type := 29, pos := _, after := #[{ on := 0, ground := Ground.data }, { on := 5, ground := Ground.data }], guard := none }) rfl (fun K hK => ?_) AllReadyH.nil
            go_simp
            refine (KJ _ _ (hS.fact 0 rfl) hs5).out.mono ?_
            rintro e y1 ⟨rfl, hB'⟩
            replace hS := hS.on hB'
            replace HBr := Lib.hid (below2 HBr.out hB')
            replace hN := hN.on hB'
            clear hB' hs5
            go_wp2_with fail
            refine hK.out _ _ hS (fun hHeld => ?_)
            clear hK K
            (try simp only [Act.put, List.setIfInBounds_toArray, List.set_cons_zero, List.set_cons_succ])
            refine wpAnyH_take (i := 7) (oi := { dst := some 32, op := Op.move (Operand.tmp 39), type := 29, pos := _, after := #[{ on := 6, ground := Ground.data }], guard := none }) (v := ?_) rfl (by kernel_rfl) (by kernel_rfl) (by kernel_rfl) (fun _ _ _ h => h) (Or.inl ⟨by rfl, ?hy⟩) hHeld ?_
            case hy => intro w0 hSw; (try dsimp only at hSw); go_simp; (try with_reducible rfl)
            (try simp only [Act.put, List.setIfInBounds_toArray, List.set_cons_zero, List.set_cons_succ])
            refine wpAnyH_take (i := 8) (oi := { dst := some 40, op := Op.extract (Operand.tmp 32) 0, type := 23, pos := _, after := #[{ on := 7, ground := Ground.data }], guard := none }) (v := ?_) rfl (by kernel_rfl) (by kernel_rfl) (by kernel_rfl) (fun _ _ _ h => h) (Or.inl ⟨by rfl, ?hy⟩) hHeld ?_
            case hy => intro w0 hSw; (try dsimp only at hSw); go_simp; (try with_reducible rfl)
            (try simp only [Act.put, List.setIfInBounds_toArray, List.set_cons_zero, List.set_cons_succ])
            refine wpAnyH_take (i := 9) (oi := { dst := some 41, op := Op.extract (Operand.tmp 32) 1, type := 28, pos := _, after := #[{ on := 7, ground := Ground.data }, { on := 11, ground := Ground.gcOnly Departure.lateStores }], guard := none }) (v := ?_) rfl (by kernel_rfl) (by kernel_rfl) (by kernel_rfl) (fun _ _ _ h => h) (Or.inl ⟨by rfl, ?hy⟩) hHeld ?_
            case hy => intro w0 hSw; (try dsimp only at hSw); go_simp; (try with_reducible rfl)
            (try simp only [Act.put, List.setIfInBounds_toArray, List.set_cons_zero, List.set_cons_succ])
            refine wpAnyH_ready (rs := [11]) (by kernel_rfl) (by simp) ?_
            refine AllReadyH.cons (o := { dst := none, op := Op.store 23 (Operand.tmp 11) (Operand.tmp 40), type := 0, pos := _, after := #[{ on := 10, ground := Ground.data }, { on := 8, ground := Ground.data }, { on := 6, ground := Ground.chain }, { on := 0, ground := Ground.phase }, { on := 1, ground := Ground.phase }, { on := 2, ground := Ground.phase }, { on := 3, ground := Ground.phase }, { on := 4, ground := Ground.phase }, { on := 5, ground := Ground.phase }, { on := 6, ground := Ground.phase }, { on := 7, ground := Ground.phase }, { on := 8, ground := Ground.phase }, { on := 9, ground := Ground.textOnly Departure.lateStores }, { on := 10, ground := Ground.phase }], guard := none }) rfl (fun K hK => ?_) AllReadyH.nil
            rw [if_pos (by rfl)]
            obtain ⟨tz, hz⟩ := hN.live (pc, #[.int .i64 0, .string ⟨#[]⟩, .string ⟨#[]⟩]) (by simp)
            refine wp_store_row 23 _ _ rfl pc #[.int .i64 cm, .string ck, .string cl] rfl rfl tz _ hz (by rfl) rfl (fil_one3 _ _ _) ?_
            have hb3 := below_setRow HBr.out Hpc.out #[.int .i64 cm, .string ck, .string cl]
            have hc3 := setRow_heap _ _ _ #[.int .i64 cm, .string ck, .string cl] _ _ hz
            clear hz hN hS
            have hS := SR.out.on hb3
            refine hK.out _ _ hS (fun hHeld => ?_)
            clear hK K
            (try simp only [Act.put])
            refine wpAnyH_take (i := 12) (oi := { dst := some 12, op := Op.assign (Operand.tmp 41), type := 28, pos := _, after := #[{ on := 9, ground := Ground.data }, { on := 11, ground := Ground.chain }, { on := 0, ground := Ground.phase }, { on := 1, ground := Ground.phase }, { on := 2, ground := Ground.phase }, { on := 3, ground := Ground.phase }, { on := 4, ground := Ground.phase }, { on := 5, ground := Ground.phase }, { on := 6, ground := Ground.phase }, { on := 7, ground := Ground.phase }, { on := 8, ground := Ground.phase }, { on := 9, ground := Ground.phase }, { on := 10, ground := Ground.phase }, { on := 11, ground := Ground.phase }], guard := none }) (v := ?_) rfl (by kernel_rfl) (by kernel_rfl) (by kernel_rfl) (fun _ _ _ h => h) (Or.inl ⟨by rfl, ?hy⟩) hHeld ?_
            case hy => intro w0 hSw; (try dsimp only at hSw); go_simp; (try with_reducible rfl)
            (try simp only [Act.put, List.setIfInBounds_toArray, List.set_cons_zero, List.set_cons_succ])
            refine wpAnyH_done (by kernel_rfl) ?_ _
            clear hHeld
            go_wp2_with fail
            go_meet
            exact ⟨pc, rfl, rfl, Lib.hid (hS.add ⟨_, hc3⟩), Lib.hid (below2 HBu.out hb3)⟩
        · go_simp
          have hN := hS.new #[.int .i64 0, .string ⟨#[]⟩, .string ⟨#[]⟩] 23
          replace hS := hS.on (below_new Wd (.cells #[.int .i64 0, .string ⟨#[]⟩, .string ⟨#[]⟩] 23))
          obtain ⟨pc, hpc⟩ : ∃ x, x = Wd.heap.size := ⟨_, rfl⟩
          have Hpc : Hid (wr.heap.size ≤ pc) := Lib.hid (by rw [hpc]; exact HBr.out.size)
          replace HBr := Lib.hid (below2 HBr.out (below_new Wd (.cells #[.int .i64 0, .string ⟨#[]⟩, .string ⟨#[]⟩] 23)))
          rw [← hpc] at hN ⊢
          clear hpc
          generalize hWa : Wd.alloc (.cells #[.int .i64 0, .string ⟨#[]⟩, .string ⟨#[]⟩] 23) = Va at hS HBr hN ⊢
          clear hWa
          refine hK.out _ _ hS (fun hHeld => ?_)
          clear hK K
          (try simp only [Act.put, List.setIfInBounds_toArray, List.set_cons_zero, List.set_cons_succ])
          refine wpAnyH_ready (rs := [5]) (by kernel_rfl) (by simp) ?_
          refine AllReadyH.cons (o := { dst := some 38, op := Op.buildSlice 24 1 #[(0, Operand.tmp 37)], type := 24, pos := _, after := #[{ on := 4, ground := Ground.data }], guard := none }) rfl (fun K hK => ?_) AllReadyH.nil
          go_simp
          have hs5 : StrsAt (Va.alloc (.cells #[.string s] 9)) (Va.alloc (.cells #[.string s] 9)).heap.size (some ⟨Va.heap.size, 0, none⟩) [s] := by simpa using StrsAt.new Va [s] 9
          replace hS := hS.on (below_new Va (.cells #[.string s] 9))
          replace HBr := Lib.hid (below2 HBr.out (below_new Va (.cells #[.string s] 9)))
          replace hN := hN.on (below_new Va (.cells #[.string s] 9))
          generalize hWb : Va.alloc (.cells #[.string s] 9) = Vb at hs5 hS HBr hN ⊢
          clear hWb
          refine hK.out _ _ hS (fun hHeld => ?_)
          clear hK K
          (try simp only [Act.put, List.setIfInBounds_toArray, List.set_cons_zero, List.set_cons_succ])
          refine wpAnyH_ready (rs := [6]) (by kernel_rfl) (by simp) ?_
          refine AllReadyH.cons (o := { dst := some 39, op := Op.call { callee := Callee.value (Operand.func 11), args := #[Operand.tmp 33, Operand.tmp 38], argTypes := #[23, 24] }, type := 29, pos := _, after := #[{ on := 0, ground := Ground.data }, { on := 5, ground := Ground.data }], guard := none }) rfl (fun K hK => ?_) AllReadyH.nil
          go_simp
          refine (KJ _ _ (hS.fact 0 rfl) hs5).out.mono ?_
          rintro e y1 ⟨rfl, hB'⟩
          replace hS := hS.on hB'
          replace HBr := Lib.hid (below2 HBr.out hB')
          replace hN := hN.on hB'
          clear hB' hs5
          go_wp2_with fail
          refine hK.out _ _ hS (fun hHeld => ?_)
          clear hK K
          (try simp only [Act.put, List.setIfInBounds_toArray, List.set_cons_zero, List.set_cons_succ])
          refine wpAnyH_take (i := 7) (oi := { dst := some 32, op := Op.move (Operand.tmp 39), type := 29, pos := _, after := #[{ on := 6, ground := Ground.data }], guard := none }) (v := ?_) rfl (by kernel_rfl) (by kernel_rfl) (by kernel_rfl) (fun _ _ _ h => h) (Or.inl ⟨by rfl, ?hy⟩) hHeld ?_
          case hy => intro w0 hSw; (try dsimp only at hSw); go_simp; (try with_reducible rfl)
          (try simp only [Act.put, List.setIfInBounds_toArray, List.set_cons_zero, List.set_cons_succ])
          refine wpAnyH_take (i := 8) (oi := { dst := some 40, op := Op.extract (Operand.tmp 32) 0, type := 23, pos := _, after := #[{ on := 7, ground := Ground.data }], guard := none }) (v := ?_) rfl (by kernel_rfl) (by kernel_rfl) (by kernel_rfl) (fun _ _ _ h => h) (Or.inl ⟨by rfl, ?hy⟩) hHeld ?_
          case hy => intro w0 hSw; (try dsimp only at hSw); go_simp; (try with_reducible rfl)
          (try simp only [Act.put, List.setIfInBounds_toArray, List.set_cons_zero, List.set_cons_succ])
          refine wpAnyH_take (i := 9) (oi := { dst := some 41, op := Op.extract (Operand.tmp 32) 1, type := 28, pos := _, after := #[{ on := 7, ground := Ground.data }, { on := 11, ground := Ground.gcOnly Departure.lateStores }], guard := none }) (v := ?_) rfl (by kernel_rfl) (by kernel_rfl) (by kernel_rfl) (fun _ _ _ h => h) (Or.inl ⟨by rfl, ?hy⟩) hHeld ?_
          case hy => intro w0 hSw; (try dsimp only at hSw); go_simp; (try with_reducible rfl)
          (try simp only [Act.put, List.setIfInBounds_toArray, List.set_cons_zero, List.set_cons_succ])
          refine wpAnyH_ready (rs := [11]) (by kernel_rfl) (by simp) ?_
          refine AllReadyH.cons (o := { dst := none, op := Op.store 23 (Operand.tmp 11) (Operand.tmp 40), type := 0, pos := _, after := #[{ on := 10, ground := Ground.data }, { on := 8, ground := Ground.data }, { on := 6, ground := Ground.chain }, { on := 0, ground := Ground.phase }, { on := 1, ground := Ground.phase }, { on := 2, ground := Ground.phase }, { on := 3, ground := Ground.phase }, { on := 4, ground := Ground.phase }, { on := 5, ground := Ground.phase }, { on := 6, ground := Ground.phase }, { on := 7, ground := Ground.phase }, { on := 8, ground := Ground.phase }, { on := 9, ground := Ground.textOnly Departure.lateStores }, { on := 10, ground := Ground.phase }], guard := none }) rfl (fun K hK => ?_) AllReadyH.nil
          rw [if_pos (by rfl)]
          obtain ⟨tz, hz⟩ := hN.live (pc, #[.int .i64 0, .string ⟨#[]⟩, .string ⟨#[]⟩]) (by simp)
          refine wp_store_row 23 _ _ rfl pc #[.int .i64 cm, .string ck, .string cl] rfl rfl tz _ hz (by rfl) rfl (fil_one3 _ _ _) ?_
          have hb3 := below_setRow HBr.out Hpc.out #[.int .i64 cm, .string ck, .string cl]
          have hc3 := setRow_heap _ _ _ #[.int .i64 cm, .string ck, .string cl] _ _ hz
          clear hz hN hS
          have hS := SR.out.on hb3
          refine hK.out _ _ hS (fun hHeld => ?_)
          clear hK K
          (try simp only [Act.put])
          refine wpAnyH_take (i := 12) (oi := { dst := some 12, op := Op.assign (Operand.tmp 41), type := 28, pos := _, after := #[{ on := 9, ground := Ground.data }, { on := 11, ground := Ground.chain }, { on := 0, ground := Ground.phase }, { on := 1, ground := Ground.phase }, { on := 2, ground := Ground.phase }, { on := 3, ground := Ground.phase }, { on := 4, ground := Ground.phase }, { on := 5, ground := Ground.phase }, { on := 6, ground := Ground.phase }, { on := 7, ground := Ground.phase }, { on := 8, ground := Ground.phase }, { on := 9, ground := Ground.phase }, { on := 10, ground := Ground.phase }, { on := 11, ground := Ground.phase }], guard := none }) (v := ?_) rfl (by kernel_rfl) (by kernel_rfl) (by kernel_rfl) (fun _ _ _ h => h) (Or.inl ⟨by rfl, ?hy⟩) hHeld ?_
          case hy => intro w0 hSw; (try dsimp only at hSw); go_simp; (try with_reducible rfl)
          (try simp only [Act.put, List.setIfInBounds_toArray, List.set_cons_zero, List.set_cons_succ])
          refine wpAnyH_done (by kernel_rfl) ?_ _
          clear hHeld
          go_wp2_with fail
          go_meet
          exact ⟨pc, rfl, rfl, Lib.hid (hS.add ⟨_, hc3⟩), Lib.hid (below2 HBu.out hb3)⟩
      case rest =>
        obtain ⟨pc, rfl, rfl, S9, HB9⟩ := hcut
        clear KJ SR HBu
        obtain ⟨tb, hbk⟩ := S9.out.live (pb, #[.int .i64 bm, .string bk, .string bl]) (by simp)
        have Hbk := Lib.hid hbk
        clear hbk
        have HF1 := Lib.hid (S4.out.fact 1 rfl)
        have Hpu : Hid (w4.heap.size ≤ pb) := Lib.hid (Nat.le_of_eq Hpb.out.symm)
        have hcases : (he = 0) ∨ (he ≠ 0 ∧ g = 0) ∨ (he ≠ 0 ∧ g ≠ 0) := by
          by_cases h1 : he = 0
          · exact Or.inl h1
          · by_cases h2 : g = 0
            · exact Or.inr (Or.inl ⟨h1, h2⟩)
            · exact Or.inr (Or.inr ⟨h1, h2⟩)
        rcases hcases with h1 | ⟨h1, h2⟩ | ⟨h1, h2⟩
        · subst h1
          have HgE : Hid (G (j + 1) = g) := Lib.hid (by rw [HgG.out, if_neg (fun hh => hh.1 rfl)])
          clear HgG
          go_wp2_with (first
            | (refine wpList_load_st rfl 23 _ rfl S9.out 0 _ _ rfl rfl _ Try.underlying23 rfl (by rfl) ?_)
            | (refine wpList_store_row rfl 23 _ _ rfl pb #[.int .i64 cm, .string ck, .string cl] rfl rfl tb #[.int .i64 bm, .string bk, .string bl] Hbk.out (by rfl) rfl (fil_one3 _ _ _) ?_
               have HBs := Lib.hid (below_setRow HB9.out Hpu.out #[.int .i64 cm, .string ck, .string cl])
               have HPs := Lib.hid (setRow_heap _ _ _ #[.int .i64 cm, .string ck, .string cl] _ _ Hbk.out)
               obtain ⟨w10, hw10⟩ : ∃ x, x = wc.setRow pb #[.int .i64 cm, .string ck, .string cl] := ⟨_, rfl⟩
               rw [← hw10] at HBs HPs ⊢
               clear hw10
               have hc14 := Hc.out w10 (HF1.out.1.below HBs.out HF1.out.2)
               have hcat := Hcat.out))
          go_roundw
          case rel =>
            refine ⟨j + 1, Hj1.out, by go_num, by rw [Hzs.out], by rw [HgE.out], HBs, Lib.hid ⟨tb, ?_⟩⟩
            rw [← HBj2.out]; exact HPs.out
          case measure => simp [intOf]; omega
        · subst h2
          have HgE : Hid (G (j + 1) = he) := Lib.hid (by rw [HgG.out, if_pos ⟨h1, rfl⟩])
          have j1 : (he != 0) = true := by simpa using h1
          clear h1
          clear HgG
          go_wp2_with (first
            | (refine wpList_load_st rfl 23 _ rfl S9.out 0 _ _ rfl rfl _ Try.underlying23 rfl (by rfl) ?_)
            | (refine wpList_store_row rfl 23 _ _ rfl pb #[.int .i64 cm, .string ck, .string cl] rfl rfl tb #[.int .i64 bm, .string bk, .string bl] Hbk.out (by rfl) rfl (fil_one3 _ _ _) ?_
               have HBs := Lib.hid (below_setRow HB9.out Hpu.out #[.int .i64 cm, .string ck, .string cl])
               have HPs := Lib.hid (setRow_heap _ _ _ #[.int .i64 cm, .string ck, .string cl] _ _ Hbk.out)
               obtain ⟨w10, hw10⟩ : ∃ x, x = wc.setRow pb #[.int .i64 cm, .string ck, .string cl] := ⟨_, rfl⟩
               rw [← hw10] at HBs HPs ⊢
               clear hw10
               have hc14 := Hc.out w10 (HF1.out.1.below HBs.out HF1.out.2)
               have hcat := Hcat.out))
          go_roundw
          case rel =>
            refine ⟨j + 1, Hj1.out, by go_num, by rw [Hzs.out], by rw [HgE.out], HBs, Lib.hid ⟨tb, ?_⟩⟩
            rw [← HBj2.out]; exact HPs.out
          case measure => simp [intOf]; omega
        · have HgE : Hid (G (j + 1) = g) := Lib.hid (by rw [HgG.out, if_neg (fun hh => h2 hh.2)])
          have j1 : (he != 0) = true := by simpa using h1
          have j2 : (g == 0) = false := by simpa using h2
          clear h1 h2
          clear HgG
          go_wp2_with (first
            | (refine wpList_load_st rfl 23 _ rfl S9.out 0 _ _ rfl rfl _ Try.underlying23 rfl (by rfl) ?_)
            | (refine wpList_store_row rfl 23 _ _ rfl pb #[.int .i64 cm, .string ck, .string cl] rfl rfl tb #[.int .i64 bm, .string bk, .string bl] Hbk.out (by rfl) rfl (fil_one3 _ _ _) ?_
               have HBs := Lib.hid (below_setRow HB9.out Hpu.out #[.int .i64 cm, .string ck, .string cl])
               have HPs := Lib.hid (setRow_heap _ _ _ #[.int .i64 cm, .string ck, .string cl] _ _ Hbk.out)
               obtain ⟨w10, hw10⟩ : ∃ x, x = wc.setRow pb #[.int .i64 cm, .string ck, .string cl] := ⟨_, rfl⟩
               rw [← hw10] at HBs HPs ⊢
               clear hw10
               have hc14 := Hc.out w10 (HF1.out.1.below HBs.out HF1.out.2)
               have hcat := Hcat.out))
          go_roundw
          case rel =>
            refine ⟨j + 1, Hj1.out, by go_num, by rw [Hzs.out], by rw [HgE.out], HBs, Lib.hid ⟨tb, ?_⟩⟩
            rw [← HBj2.out]; exact HPs.out
          case measure => simp [intOf]; omega
    · obtain rfl : j = N := by omega
      obtain ⟨⟨bm, bk, bl⟩, hBj⟩ : ∃ X, X = B j := ⟨_, rfl⟩
      rw [← hBj] at HP
      have SR := Lib.hid ((S4.out.on HBu.out).add (k := pb) (cs := #[.int .i64 bm, .string bk, .string bl]) HP.out)
      have htk : ss.take j = ss := by rw [HN.out, List.take_length]
      rw [htk]
      clear HP KL HG htk HN HBu
      rw [hgN]
      clear hBj hgN
      go_wp2_with fail
      refine (HC.out wr (SR.out.fact 0 rfl)).mono ?_
      rintro e w6 ⟨rfl, hB⟩
      have S6 := Lib.hid (SR.out.on hB)
      clear hB SR
      go_wp2_with (refine wpList_loadg_st (by rfl) 23 _ rfl S6.out 1 _ _ rfl rfl _ Try.underlying23 rfl (by rfl) ?_)
      refine (KR w6 (S6.out.fact 0 rfl)).out.mono ?_
      rintro e w7 ⟨rfl, hB⟩
      have S7 := Lib.hid (S6.out.on hB)
      clear hB S6
      go_wp2
      go_ret
      exact ⟨rfl, S7.out.below⟩

set_option maxHeartbeats 4000000 in
theorem fileAdds_err0 {E : World → Prop} (HS : Hid (FileK E)) (HC : Hid (FiledK E)) (m : Int) (k l : ByteArray) (A : Option Addr) (N cap : Nat) (ss : List ByteArray) (w : World) (hE : E w) (hb : decide (2000 < k.size ∨ 2000 < l.size) = false) (hA : StrsAt w w.heap.size A ss) (hN : N = ss.length) (hN60 : N ≤ 60) (hz : ∀ s ∈ ss, s.size ≤ 300) (ae : Int) (jae : (ae != 0) = true) (jN : ((N : Int) == 0) = true)
    (B : Nat → Fil) (G H : Nat → Int) (hB0 : B 0 = ⟨m, k, l⟩) (hG0 : G 0 = 0) (hG : ∀ j, j < N → G (j + 1) = if H j ≠ 0 ∧ G j = 0 then H j else G j) (hgN : G N = 0)
    (KA : ∀ (W : World) (_h : E W) (_hA : StrsAt W W.heap.size A ss), Hid (Calls Try.prog 11 #[.agg #[.int .i64 m, .string k, .string l], .slice A N cap] W fun e w' => e = .returned (.tuple #[.agg #[.int .i64 0, .string ⟨#[]⟩, .string ⟨#[]⟩], .int .i64 ae]) ∧ Below W.heap.size W w'))
    (KL : ∀ (j : Nat) (_hj : j < N) (s : ByteArray) (_hs : ss[j]? = some s) (W : World) (A1 : Addr) (_h : E W) (_hA : StrsAt W W.heap.size (some A1) [s]), Hid (Calls Try.prog 11 #[.agg (filV (B j)), .slice (some A1) 1 1] W fun e w' => e = .returned (.tuple #[.agg (filV (B (j + 1))), .int .i64 (H j)]) ∧ Below W.heap.size W w'))
    (pf : ∀ (W : World) (_hA : StrsAt W W.heap.size A ss), Hid (Calls Try.prog 9 #[.slice A N cap] W fun e w' => e = .returned (.bool false) ∧ Below W.heap.size W w'))
    (KR : ∀ (W : World) (_h : E W), Hid (Calls Try.prog 24 #[.agg #[.int .i64 0, .string ⟨#[]⟩, .string ⟨#[]⟩]] W fun e w' => e = .returned (.string ⟨#[]⟩) ∧ Below W.heap.size W w')) :
    Calls Try.prog 4 #[.agg #[.int .i64 m, .string k, .string l], .slice A N cap] w fun e w' => e = .returned (.bool true) ∧ Below w.heap.size w w' := by
  have p1 := fun W => Lib.hid (FRBig_any m k l W)
  rw [hb] at p1
  have S0 := Lib.hid ((((St.start w).more (strsF12 A w.heap.size ss) ⟨hA, Nat.le_refl _⟩).more (eFi HS) hE).new #[.int .i64 m, .string k, .string l] 23)
  have HN := Lib.hid hN
  have Hz := Lib.hid hz
  have HB0 := Lib.hid hB0
  have HG0 := Lib.hid hG0
  have HG := Lib.hid hG
  clear hb hE hA hN hz hB0 hG0 hG
  go_enter Try.func4, Try.ntmps4
  go_wp2_with (refine wpList_load_st rfl 23 _ rfl S0.out 0 _ _ rfl rfl _ Try.underlying23 rfl (by rfl) ?_)
  refine (p1 _).out.mono ?_
  rintro e w1 ⟨rfl, hB⟩
  have S1 := Lib.hid (S0.out.on hB)
  clear hB S0
  clear p1
  obtain ⟨p0, hp0⟩ : ∃ p, p = w.heap.size := ⟨_, rfl⟩
  rw [← hp0] at S1 ⊢
  clear hp0
  go_wp2_with fail
  refine (pf w1 ((S1.out.fact 1 rfl).1.more (S1.out.fact 1 rfl).2)).out.mono ?_
  rintro e w2 ⟨rfl, hB⟩
  have S2 := Lib.hid (S1.out.on hB)
  clear hB S1
  clear pf
  go_wp2_with (refine wpList_load_st rfl 23 _ rfl S2.out 0 _ _ rfl rfl _ Try.underlying23 rfl (by rfl) ?_)
  refine (KA w2 (S2.out.fact 0 rfl) ((S2.out.fact 1 rfl).1.more (S2.out.fact 1 rfl).2)).out.mono ?_
  rintro e w3 ⟨rfl, hB⟩
  have S3 := Lib.hid (S2.out.on hB)
  clear hB S2
  clear KA
  go_wp2_with (first
    | (refine wpList_store_st rfl 23 _ _ rfl S3.out _ #[.int .i64 0, .string ⟨#[]⟩, .string ⟨#[]⟩] _ rfl rfl (by rfl) rfl (fil_one3 _ _ _) ?_; intro pa w4 hp hS hBn; (try rw [← hp]); have S4 := Lib.hid hS; clear hS hp hBn)
    | (refine wpList_load_st rfl 23 _ rfl S4.out 1 _ _ rfl rfl _ Try.underlying23 rfl (by rfl) ?_)
    | (refine wpList_store_st rfl 23 _ _ rfl S4.out _ #[.int .i64 m, .string k, .string l] _ rfl rfl (by rfl) rfl (fil_one3 _ _ _) ?_; intro pb w5 hp hS hBn; (try rw [← hp]); have S5 := Lib.hid hS; have HB5 := Lib.hid hBn; have Hpb := Lib.hid hp; clear hS hp hBn))
  go_loopw [8, 9, 10] (fun all g i wr => AddsRel w4 pb N ss B G all g i wr) (fun _ _ i _ => N - (intOf i).toNat)
  case atStart =>
    refine ⟨0, Nat.zero_le _, rfl, ?_, ?_, HB5, Lib.hid ?_⟩
    · rw [List.take_zero, Fi.all_nil]
    · rw [HG0.out]
    · rw [HB0.out]; obtain ⟨t, ht⟩ := S5.out.live (pb, #[.int .i64 m, .string k, .string l]) (by simp); exact ⟨t, ht⟩
  case round =>
    obtain ⟨j, hj, rfl, rfl, rfl, HBu, HP⟩ := hrel
    clear HB5 S5 HB0 HG0
    by_cases hlt : j < N
    · obtain ⟨b, off, rfl, hb, hc⟩ := (S4.out.fact 1 rfl).1 j (by rw [← HN.out]; exact hlt)
      clear hb hc
      obtain ⟨⟨bm, bk, bl⟩, hBj⟩ : ∃ X, X = B j := ⟨_, rfl⟩
      obtain ⟨⟨cm, ck, cl⟩, hBj2⟩ : ∃ X, X = B (j + 1) := ⟨_, rfl⟩
      obtain ⟨he, hHj⟩ : ∃ X, X = H j := ⟨_, rfl⟩
      obtain ⟨g, hGj⟩ : ∃ X, X = G j := ⟨_, rfl⟩
      have HgG : Hid (G (j + 1) = if he ≠ 0 ∧ g = 0 then he else g) := by rw [hHj, hGj]; exact Lib.hid (HG.out j hlt)
      have hjl : j < ss.length := by rw [← HN.out]; exact hlt
      obtain ⟨s, hs⟩ : ∃ s, s = ss[j] := ⟨_, rfl⟩
      have hzs : s.size ≤ 300 := by rw [hs]; exact Hz.out _ (List.getElem_mem hjl)
      have KJ := fun W A1 h hA => KL j hlt s (by rw [hs]; exact List.getElem?_eq_getElem hjl) W A1 h hA
      rw [← hBj, ← hBj2, ← hHj] at KJ
      rw [← hBj] at HP
      rw [← hGj]
      obtain ⟨z, hz⟩ : ∃ z, z = Fi.all (ss.take j) := ⟨_, rfl⟩
      have hzz : z.size ≤ 18000 := by rw [hz]; exact Fi.all_small ss (by rw [← HN.out]; exact hN60) Hz.out j
      have hcat : ¬ 9223372036854775807 < z.size + s.size := by omega
      have Hzs : Hid (Fi.all (ss.take (j + 1)) = z ++ s) := Lib.hid (by rw [List.take_succ_eq_append_getElem hjl, Fi.all_snoc, ← hz, ← hs])
      rw [← hz]
      have Hc : Hid (∀ W : World, StrsAt W p0 (some ⟨b, off, none⟩) ss → W.cell? ⟨b, off + j, none⟩ = some (.string s)) := Lib.hid (fun W h => by rw [hs]; exact h.at12 j hjl)
      have HBj2 := Lib.hid hBj2
      have Hcat := Lib.hid hcat
      have Hj1 : Hid (j + 1 ≤ N) := Lib.hid hlt
      clear hBj hBj2 hHj hGj hs hz hzs hzz hjl KL Hz HN hcat hj HG
      have SR := Lib.hid ((S4.out.on HBu.out).add (k := pb) (cs := #[.int .i64 bm, .string bk, .string bl]) HP.out)
      clear HP
      go_wp2_with fail
      go_cut [11, 12] (fun pv hv wx => ∃ pc, pv = .pointer (some ⟨pc, 0, none⟩) ∧ hv = .int .i64 he ∧ Hid (St w wx ((pc, #[.int .i64 cm, .string ck, .string cl]) :: [(pb, #[.int .i64 bm, .string bk, .string bl]), (pa, #[.int .i64 0, .string ⟨#[]⟩, .string ⟨#[]⟩]), (p0, #[.int .i64 m, .string k, .string l])]) [eFi HS, strsF12 (some ⟨b, off, none⟩) p0 ss]) ∧ Hid (Below w4.heap.size w4 wx))
      case first =>
        have hS0 : St w wr.drew [(pb, #[.int .i64 bm, .string bk, .string bl]), (pa, #[.int .i64 0, .string ⟨#[]⟩, .string ⟨#[]⟩]), (p0, #[.int .i64 m, .string k, .string l])] [eFi HS, strsF12 (some ⟨b, off, none⟩) p0 ss] := SR.out.drew
        refine wp_region_held_drew (S := (fun W : World => St w W [(pb, #[.int .i64 bm, .string bk, .string bl]), (pa, #[.int .i64 0, .string ⟨#[]⟩, .string ⟨#[]⟩]), (p0, #[.int .i64 m, .string k, .string l])] [eFi HS, strsF12 (some ⟨b, off, none⟩) p0 ss])) (by kernel_rfl) hS0 (fun hHeld => ?_)
        have HBr := Lib.hid (below_drew12 (Below.refl wr.heap.size wr))
        have hS := hS0
        clear hS0
        generalize hWd : wr.drew = Wd at hS HBr hHeld ⊢
        clear hWd
        refine wpAnyH_take (i := 0) (oi := { dst := some 33, op := Op.load 23 (Operand.tmp 7), type := 23, pos := _, after := #[], guard := none }) (v := ?_) rfl (by kernel_rfl) (by kernel_rfl) (by kernel_rfl) (fun _ _ _ h => h) (Or.inl ⟨by rfl, ?hy⟩) hHeld ?_
        case hy => intro w0 hSw; have d0 := hSw.cell 0 rfl 0 rfl; have d1 := hSw.cell 0 rfl 1 rfl; have d2 := hSw.cell 0 rfl 2 rfl; clear hSw; go_simp; (try with_reducible rfl)
        (try simp only [Act.put, List.setIfInBounds_toArray, List.set_cons_zero, List.set_cons_succ])
        refine wpAnyH_take (i := 1) (oi := { dst := some 34, op := Op.move (Operand.tmp 1), type := 24, pos := _, after := #[], guard := none }) (v := ?_) rfl (by kernel_rfl) (by kernel_rfl) (by kernel_rfl) (fun _ _ _ h => h) (Or.inl ⟨by rfl, ?hy⟩) hHeld ?_
        case hy => intro w0 hSw; (try dsimp only at hSw); go_simp; (try with_reducible rfl)
        (try simp only [Act.put, List.setIfInBounds_toArray, List.set_cons_zero, List.set_cons_succ])
        refine wpAnyH_take (i := 2) (oi := { dst := some 35, op := Op.move (Operand.tmp 10), type := 3, pos := _, after := #[], guard := none }) (v := ?_) rfl (by kernel_rfl) (by kernel_rfl) (by kernel_rfl) (fun _ _ _ h => h) (Or.inl ⟨by rfl, ?hy⟩) hHeld ?_
        case hy => intro w0 hSw; (try dsimp only at hSw); go_simp; (try with_reducible rfl)
        (try simp only [Act.put, List.setIfInBounds_toArray, List.set_cons_zero, List.set_cons_succ])
        refine wpAnyH_take (i := 3) (oi := { dst := some 36, op := Op.indexAddr 24 (Operand.tmp 34) (Operand.tmp 35), type := 0, pos := _, after := #[{ on := 1, ground := Ground.data }, { on := 2, ground := Ground.data }], guard := none }) (v := ?_) rfl (by kernel_rfl) (by kernel_rfl) (by kernel_rfl) (fun _ _ _ h => h) (Or.inl ⟨by rfl, ?hy⟩) hHeld ?_
        case hy => intro w0 hSw; (try dsimp only at hSw); go_simp; (try with_reducible rfl)
        (try simp only [Act.put, List.setIfInBounds_toArray, List.set_cons_zero, List.set_cons_succ])
        refine wpAnyH_take (i := 4) (oi := { dst := some 37, op := Op.load 9 (Operand.tmp 36), type := 9, pos := _, after := #[{ on := 3, ground := Ground.data }], guard := none }) (v := ?_) rfl (by kernel_rfl) (by kernel_rfl) (by kernel_rfl) (fun _ _ _ h => h) (Or.inl ⟨by rfl, ?hy⟩) hHeld ?_
        case hy => intro w0 hSw; have hcx := Hc.out w0 (hSw.fact 1 rfl).1; clear hSw; go_simp; (try with_reducible rfl)
        (try simp only [Act.put, List.setIfInBounds_toArray, List.set_cons_zero, List.set_cons_succ])
        refine wpAnyH_ready (rs := [5, 10]) (by kernel_rfl) (by simp) ?_
        refine AllReadyH.cons (o := { dst := some 38, op := Op.buildSlice 24 1 #[(0, Operand.tmp 37)], type := 24, pos := _, after := #[{ on := 4, ground := Ground.data }], guard := none }) rfl (fun K hK => ?_) (AllReadyH.cons (o := { dst := some 11, op := Op.alloc 23, type := 0, pos := _, after := #[], guard := none }) rfl (fun K hK => ?_) AllReadyH.nil)
        · go_simp
          have hs5 : StrsAt (Wd.alloc (.cells #[.string s] 9)) (Wd.alloc (.cells #[.string s] 9)).heap.size (some ⟨Wd.heap.size, 0, none⟩) [s] := by simpa using StrsAt.new Wd [s] 9
          replace hS := hS.on (below_new Wd (.cells #[.string s] 9))
          replace HBr := Lib.hid (below2 HBr.out (below_new Wd (.cells #[.string s] 9)))
          generalize hWb : Wd.alloc (.cells #[.string s] 9) = Vb at hs5 hS HBr ⊢
          clear hWb
          refine hK.out _ _ hS (fun hHeld => ?_)
          clear hK K
          (try simp only [Act.put, List.setIfInBounds_toArray, List.set_cons_zero, List.set_cons_succ])
          refine wpAnyH_ready (rs := [6, 10]) (by kernel_rfl) (by simp) ?_
          refine AllReadyH.cons (o := { dst := some 39, op := Op.call { callee := Callee.value (Operand.func 11), args := #[Operand.tmp 33, Operand.tmp 38], argTypes := #[23, 24] }, type := 29, pos := _, after := #[{ on := 0, ground := Ground.data }, { on := 5, ground := Ground.data }], guard := none }) rfl (fun K hK => ?_) (AllReadyH.cons (o := { dst := some 11, op := Op.alloc 23, type := 0, pos := _, after := #[], guard := none }) rfl (fun K hK => ?_) AllReadyH.nil)
          · go_simp
            refine (KJ _ _ (hS.fact 0 rfl) hs5).out.mono ?_
            rintro e y1 ⟨rfl, hB'⟩
            replace hS := hS.on hB'
            replace HBr := Lib.hid (below2 HBr.out hB')
            clear hB' hs5
            go_wp2_with fail
            refine hK.out _ _ hS (fun hHeld => ?_)
            clear hK K
            (try simp only [Act.put, List.setIfInBounds_toArray, List.set_cons_zero, List.set_cons_succ])
            refine wpAnyH_take (i := 7) (oi := { dst := some 32, op := Op.move (Operand.tmp 39), type := 29, pos := _, after := #[{ on := 6, ground := Ground.data }], guard := none }) (v := ?_) rfl (by kernel_rfl) (by kernel_rfl) (by kernel_rfl) (fun _ _ _ h => h) (Or.inl ⟨by rfl, ?hy⟩) hHeld ?_
            case hy => intro w0 hSw; (try dsimp only at hSw); go_simp; (try with_reducible rfl)
            (try simp only [Act.put, List.setIfInBounds_toArray, List.set_cons_zero, List.set_cons_succ])
            refine wpAnyH_take (i := 8) (oi := { dst := some 40, op := Op.extract (Operand.tmp 32) 0, type := 23, pos := _, after := #[{ on := 7, ground := Ground.data }], guard := none }) (v := ?_) rfl (by kernel_rfl) (by kernel_rfl) (by kernel_rfl) (fun _ _ _ h => h) (Or.inl ⟨by rfl, ?hy⟩) hHeld ?_
            case hy => intro w0 hSw; (try dsimp only at hSw); go_simp; (try with_reducible rfl)
            (try simp only [Act.put, List.setIfInBounds_toArray, List.set_cons_zero, List.set_cons_succ])
            refine wpAnyH_take (i := 9) (oi := { dst := some 41, op := Op.extract (Operand.tmp 32) 1, type := 28, pos := _, after := #[{ on := 7, ground := Ground.data }, { on := 11, ground := Ground.gcOnly Departure.lateStores }], guard := none }) (v := ?_) rfl (by kernel_rfl) (by kernel_rfl) (by kernel_rfl) (fun _ _ _ h => h) (Or.inl ⟨by rfl, ?hy⟩) hHeld ?_
            case hy => intro w0 hSw; (try dsimp only at hSw); go_simp; (try with_reducible rfl)
            (try simp only [Act.put, List.setIfInBounds_toArray, List.set_cons_zero, List.set_cons_succ])
            refine wpAnyH_ready (rs := [10]) (by kernel_rfl) (by simp) ?_
            refine AllReadyH.cons (o := { dst := some 11, op := Op.alloc 23, type := 0, pos := _, after := #[], guard := none }) rfl (fun K hK => ?_) AllReadyH.nil
            go_simp
            have hN := hS.new #[.int .i64 0, .string ⟨#[]⟩, .string ⟨#[]⟩] 23
            replace hS := hS.on (below_new y1 (.cells #[.int .i64 0, .string ⟨#[]⟩, .string ⟨#[]⟩] 23))
            obtain ⟨pc, hpc⟩ : ∃ x, x = y1.heap.size := ⟨_, rfl⟩
            have Hpc : Hid (wr.heap.size ≤ pc) := Lib.hid (by rw [hpc]; exact HBr.out.size)
            replace HBr := Lib.hid (below2 HBr.out (below_new y1 (.cells #[.int .i64 0, .string ⟨#[]⟩, .string ⟨#[]⟩] 23)))
            rw [← hpc] at hN ⊢
            clear hpc
            generalize hWa : y1.alloc (.cells #[.int .i64 0, .string ⟨#[]⟩, .string ⟨#[]⟩] 23) = Va at hS HBr hN ⊢
            clear hWa
            refine hK.out _ _ hS (fun hHeld => ?_)
            clear hK K
            (try simp only [Act.put, List.setIfInBounds_toArray, List.set_cons_zero, List.set_cons_succ])
            refine wpAnyH_ready (rs := [11]) (by kernel_rfl) (by simp) ?_
            refine AllReadyH.cons (o := { dst := none, op := Op.store 23 (Operand.tmp 11) (Operand.tmp 40), type := 0, pos := _, after := #[{ on := 10, ground := Ground.data }, { on := 8, ground := Ground.data }, { on := 6, ground := Ground.chain }, { on := 0, ground := Ground.phase }, { on := 1, ground := Ground.phase }, { on := 2, ground := Ground.phase }, { on := 3, ground := Ground.phase }, { on := 4, ground := Ground.phase }, { on := 5, ground := Ground.phase }, { on := 6, ground := Ground.phase }, { on := 7, ground := Ground.phase }, { on := 8, ground := Ground.phase }, { on := 9, ground := Ground.textOnly Departure.lateStores }, { on := 10, ground := Ground.phase }], guard := none }) rfl (fun K hK => ?_) AllReadyH.nil
            rw [if_pos (by rfl)]
            obtain ⟨tz, hz⟩ := hN.live (pc, #[.int .i64 0, .string ⟨#[]⟩, .string ⟨#[]⟩]) (by simp)
            refine wp_store_row 23 _ _ rfl pc #[.int .i64 cm, .string ck, .string cl] rfl rfl tz _ hz (by rfl) rfl (fil_one3 _ _ _) ?_
            have hb3 := below_setRow HBr.out Hpc.out #[.int .i64 cm, .string ck, .string cl]
            have hc3 := setRow_heap _ _ _ #[.int .i64 cm, .string ck, .string cl] _ _ hz
            clear hz hN hS
            have hS := SR.out.on hb3
            refine hK.out _ _ hS (fun hHeld => ?_)
            clear hK K
            (try simp only [Act.put])
            refine wpAnyH_take (i := 12) (oi := { dst := some 12, op := Op.assign (Operand.tmp 41), type := 28, pos := _, after := #[{ on := 9, ground := Ground.data }, { on := 11, ground := Ground.chain }, { on := 0, ground := Ground.phase }, { on := 1, ground := Ground.phase }, { on := 2, ground := Ground.phase }, { on := 3, ground := Ground.phase }, { on := 4, ground := Ground.phase }, { on := 5, ground := Ground.phase }, { on := 6, ground := Ground.phase }, { on := 7, ground := Ground.phase }, { on := 8, ground := Ground.phase }, { on := 9, ground := Ground.phase }, { on := 10, ground := Ground.phase }, { on := 11, ground := Ground.phase }], guard := none }) (v := ?_) rfl (by kernel_rfl) (by kernel_rfl) (by kernel_rfl) (fun _ _ _ h => h) (Or.inl ⟨by rfl, ?hy⟩) hHeld ?_
            case hy => intro w0 hSw; (try dsimp only at hSw); go_simp; (try with_reducible rfl)
            (try simp only [Act.put, List.setIfInBounds_toArray, List.set_cons_zero, List.set_cons_succ])
            refine wpAnyH_done (by kernel_rfl) ?_ _
            clear hHeld
            go_wp2_with fail
            go_meet
            exact ⟨pc, rfl, rfl, Lib.hid (hS.add ⟨_, hc3⟩), Lib.hid (below2 HBu.out hb3)⟩
          · go_simp
            have hN := hS.new #[.int .i64 0, .string ⟨#[]⟩, .string ⟨#[]⟩] 23
            replace hS := hS.on (below_new Vb (.cells #[.int .i64 0, .string ⟨#[]⟩, .string ⟨#[]⟩] 23))
            replace hs5 := (hs5.below (below_new Vb (.cells #[.int .i64 0, .string ⟨#[]⟩, .string ⟨#[]⟩] 23)) (Nat.le_refl _)).more (below_new Vb (.cells #[.int .i64 0, .string ⟨#[]⟩, .string ⟨#[]⟩] 23)).size
            obtain ⟨pc, hpc⟩ : ∃ x, x = Vb.heap.size := ⟨_, rfl⟩
            have Hpc : Hid (wr.heap.size ≤ pc) := Lib.hid (by rw [hpc]; exact HBr.out.size)
            replace HBr := Lib.hid (below2 HBr.out (below_new Vb (.cells #[.int .i64 0, .string ⟨#[]⟩, .string ⟨#[]⟩] 23)))
            rw [← hpc] at hN ⊢
            clear hpc
            generalize hWa : Vb.alloc (.cells #[.int .i64 0, .string ⟨#[]⟩, .string ⟨#[]⟩] 23) = Va at hs5 hS HBr hN ⊢
            clear hWa
            refine hK.out _ _ hS (fun hHeld => ?_)
            clear hK K
            (try simp only [Act.put, List.setIfInBounds_toArray, List.set_cons_zero, List.set_cons_succ])
            refine wpAnyH_ready (rs := [6]) (by kernel_rfl) (by simp) ?_
            refine AllReadyH.cons (o := { dst := some 39, op := Op.call { callee := Callee.value (Operand.func 11), args := #[Operand.tmp 33, Operand.tmp 38], argTypes := #[23, 24] }, type := 29, pos := _, after := #[{ on := 0, ground := Ground.data }, { on := 5, ground := Ground.data }], guard := none }) rfl (fun K hK => ?_) AllReadyH.nil
            go_simp
            refine (KJ _ _ (hS.fact 0 rfl) hs5).out.mono ?_
            rintro e y1 ⟨rfl, hB'⟩
            replace hS := hS.on hB'
            replace HBr := Lib.hid (below2 HBr.out hB')
            replace hN := hN.on hB'
            clear hB' hs5
            go_wp2_with fail
            refine hK.out _ _ hS (fun hHeld => ?_)
            clear hK K
            (try simp only [Act.put, List.setIfInBounds_toArray, List.set_cons_zero, List.set_cons_succ])
            refine wpAnyH_take (i := 7) (oi := { dst := some 32, op := Op.move (Operand.tmp 39), type := 29, pos := _, after := #[{ on := 6, ground := Ground.data }], guard := none }) (v := ?_) rfl (by kernel_rfl) (by kernel_rfl) (by kernel_rfl) (fun _ _ _ h => h) (Or.inl ⟨by rfl, ?hy⟩) hHeld ?_
            case hy => intro w0 hSw; (try dsimp only at hSw); go_simp; (try with_reducible rfl)
            (try simp only [Act.put, List.setIfInBounds_toArray, List.set_cons_zero, List.set_cons_succ])
            refine wpAnyH_take (i := 8) (oi := { dst := some 40, op := Op.extract (Operand.tmp 32) 0, type := 23, pos := _, after := #[{ on := 7, ground := Ground.data }], guard := none }) (v := ?_) rfl (by kernel_rfl) (by kernel_rfl) (by kernel_rfl) (fun _ _ _ h => h) (Or.inl ⟨by rfl, ?hy⟩) hHeld ?_
            case hy => intro w0 hSw; (try dsimp only at hSw); go_simp; (try with_reducible rfl)
            (try simp only [Act.put, List.setIfInBounds_toArray, List.set_cons_zero, List.set_cons_succ])
            refine wpAnyH_take (i := 9) (oi := { dst := some 41, op := Op.extract (Operand.tmp 32) 1, type := 28, pos := _, after := #[{ on := 7, ground := Ground.data }, { on := 11, ground := Ground.gcOnly Departure.lateStores }], guard := none }) (v := ?_) rfl (by kernel_rfl) (by kernel_rfl) (by kernel_rfl) (fun _ _ _ h => h) (Or.inl ⟨by rfl, ?hy⟩) hHeld ?_
            case hy => intro w0 hSw; (try dsimp only at hSw); go_simp; (try with_reducible rfl)
            (try simp only [Act.put, List.setIfInBounds_toArray, List.set_cons_zero, List.set_cons_succ])
            refine wpAnyH_ready (rs := [11]) (by kernel_rfl) (by simp) ?_
            refine AllReadyH.cons (o := { dst := none, op := Op.store 23 (Operand.tmp 11) (Operand.tmp 40), type := 0, pos := _, after := #[{ on := 10, ground := Ground.data }, { on := 8, ground := Ground.data }, { on := 6, ground := Ground.chain }, { on := 0, ground := Ground.phase }, { on := 1, ground := Ground.phase }, { on := 2, ground := Ground.phase }, { on := 3, ground := Ground.phase }, { on := 4, ground := Ground.phase }, { on := 5, ground := Ground.phase }, { on := 6, ground := Ground.phase }, { on := 7, ground := Ground.phase }, { on := 8, ground := Ground.phase }, { on := 9, ground := Ground.textOnly Departure.lateStores }, { on := 10, ground := Ground.phase }], guard := none }) rfl (fun K hK => ?_) AllReadyH.nil
            rw [if_pos (by rfl)]
            obtain ⟨tz, hz⟩ := hN.live (pc, #[.int .i64 0, .string ⟨#[]⟩, .string ⟨#[]⟩]) (by simp)
            refine wp_store_row 23 _ _ rfl pc #[.int .i64 cm, .string ck, .string cl] rfl rfl tz _ hz (by rfl) rfl (fil_one3 _ _ _) ?_
            have hb3 := below_setRow HBr.out Hpc.out #[.int .i64 cm, .string ck, .string cl]
            have hc3 := setRow_heap _ _ _ #[.int .i64 cm, .string ck, .string cl] _ _ hz
            clear hz hN hS
            have hS := SR.out.on hb3
            refine hK.out _ _ hS (fun hHeld => ?_)
            clear hK K
            (try simp only [Act.put])
            refine wpAnyH_take (i := 12) (oi := { dst := some 12, op := Op.assign (Operand.tmp 41), type := 28, pos := _, after := #[{ on := 9, ground := Ground.data }, { on := 11, ground := Ground.chain }, { on := 0, ground := Ground.phase }, { on := 1, ground := Ground.phase }, { on := 2, ground := Ground.phase }, { on := 3, ground := Ground.phase }, { on := 4, ground := Ground.phase }, { on := 5, ground := Ground.phase }, { on := 6, ground := Ground.phase }, { on := 7, ground := Ground.phase }, { on := 8, ground := Ground.phase }, { on := 9, ground := Ground.phase }, { on := 10, ground := Ground.phase }, { on := 11, ground := Ground.phase }], guard := none }) (v := ?_) rfl (by kernel_rfl) (by kernel_rfl) (by kernel_rfl) (fun _ _ _ h => h) (Or.inl ⟨by rfl, ?hy⟩) hHeld ?_
            case hy => intro w0 hSw; (try dsimp only at hSw); go_simp; (try with_reducible rfl)
            (try simp only [Act.put, List.setIfInBounds_toArray, List.set_cons_zero, List.set_cons_succ])
            refine wpAnyH_done (by kernel_rfl) ?_ _
            clear hHeld
            go_wp2_with fail
            go_meet
            exact ⟨pc, rfl, rfl, Lib.hid (hS.add ⟨_, hc3⟩), Lib.hid (below2 HBu.out hb3)⟩
        · go_simp
          have hN := hS.new #[.int .i64 0, .string ⟨#[]⟩, .string ⟨#[]⟩] 23
          replace hS := hS.on (below_new Wd (.cells #[.int .i64 0, .string ⟨#[]⟩, .string ⟨#[]⟩] 23))
          obtain ⟨pc, hpc⟩ : ∃ x, x = Wd.heap.size := ⟨_, rfl⟩
          have Hpc : Hid (wr.heap.size ≤ pc) := Lib.hid (by rw [hpc]; exact HBr.out.size)
          replace HBr := Lib.hid (below2 HBr.out (below_new Wd (.cells #[.int .i64 0, .string ⟨#[]⟩, .string ⟨#[]⟩] 23)))
          rw [← hpc] at hN ⊢
          clear hpc
          generalize hWa : Wd.alloc (.cells #[.int .i64 0, .string ⟨#[]⟩, .string ⟨#[]⟩] 23) = Va at hS HBr hN ⊢
          clear hWa
          refine hK.out _ _ hS (fun hHeld => ?_)
          clear hK K
          (try simp only [Act.put, List.setIfInBounds_toArray, List.set_cons_zero, List.set_cons_succ])
          refine wpAnyH_ready (rs := [5]) (by kernel_rfl) (by simp) ?_
          refine AllReadyH.cons (o := { dst := some 38, op := Op.buildSlice 24 1 #[(0, Operand.tmp 37)], type := 24, pos := _, after := #[{ on := 4, ground := Ground.data }], guard := none }) rfl (fun K hK => ?_) AllReadyH.nil
          go_simp
          have hs5 : StrsAt (Va.alloc (.cells #[.string s] 9)) (Va.alloc (.cells #[.string s] 9)).heap.size (some ⟨Va.heap.size, 0, none⟩) [s] := by simpa using StrsAt.new Va [s] 9
          replace hS := hS.on (below_new Va (.cells #[.string s] 9))
          replace HBr := Lib.hid (below2 HBr.out (below_new Va (.cells #[.string s] 9)))
          replace hN := hN.on (below_new Va (.cells #[.string s] 9))
          generalize hWb : Va.alloc (.cells #[.string s] 9) = Vb at hs5 hS HBr hN ⊢
          clear hWb
          refine hK.out _ _ hS (fun hHeld => ?_)
          clear hK K
          (try simp only [Act.put, List.setIfInBounds_toArray, List.set_cons_zero, List.set_cons_succ])
          refine wpAnyH_ready (rs := [6]) (by kernel_rfl) (by simp) ?_
          refine AllReadyH.cons (o := { dst := some 39, op := Op.call { callee := Callee.value (Operand.func 11), args := #[Operand.tmp 33, Operand.tmp 38], argTypes := #[23, 24] }, type := 29, pos := _, after := #[{ on := 0, ground := Ground.data }, { on := 5, ground := Ground.data }], guard := none }) rfl (fun K hK => ?_) AllReadyH.nil
          go_simp
          refine (KJ _ _ (hS.fact 0 rfl) hs5).out.mono ?_
          rintro e y1 ⟨rfl, hB'⟩
          replace hS := hS.on hB'
          replace HBr := Lib.hid (below2 HBr.out hB')
          replace hN := hN.on hB'
          clear hB' hs5
          go_wp2_with fail
          refine hK.out _ _ hS (fun hHeld => ?_)
          clear hK K
          (try simp only [Act.put, List.setIfInBounds_toArray, List.set_cons_zero, List.set_cons_succ])
          refine wpAnyH_take (i := 7) (oi := { dst := some 32, op := Op.move (Operand.tmp 39), type := 29, pos := _, after := #[{ on := 6, ground := Ground.data }], guard := none }) (v := ?_) rfl (by kernel_rfl) (by kernel_rfl) (by kernel_rfl) (fun _ _ _ h => h) (Or.inl ⟨by rfl, ?hy⟩) hHeld ?_
          case hy => intro w0 hSw; (try dsimp only at hSw); go_simp; (try with_reducible rfl)
          (try simp only [Act.put, List.setIfInBounds_toArray, List.set_cons_zero, List.set_cons_succ])
          refine wpAnyH_take (i := 8) (oi := { dst := some 40, op := Op.extract (Operand.tmp 32) 0, type := 23, pos := _, after := #[{ on := 7, ground := Ground.data }], guard := none }) (v := ?_) rfl (by kernel_rfl) (by kernel_rfl) (by kernel_rfl) (fun _ _ _ h => h) (Or.inl ⟨by rfl, ?hy⟩) hHeld ?_
          case hy => intro w0 hSw; (try dsimp only at hSw); go_simp; (try with_reducible rfl)
          (try simp only [Act.put, List.setIfInBounds_toArray, List.set_cons_zero, List.set_cons_succ])
          refine wpAnyH_take (i := 9) (oi := { dst := some 41, op := Op.extract (Operand.tmp 32) 1, type := 28, pos := _, after := #[{ on := 7, ground := Ground.data }, { on := 11, ground := Ground.gcOnly Departure.lateStores }], guard := none }) (v := ?_) rfl (by kernel_rfl) (by kernel_rfl) (by kernel_rfl) (fun _ _ _ h => h) (Or.inl ⟨by rfl, ?hy⟩) hHeld ?_
          case hy => intro w0 hSw; (try dsimp only at hSw); go_simp; (try with_reducible rfl)
          (try simp only [Act.put, List.setIfInBounds_toArray, List.set_cons_zero, List.set_cons_succ])
          refine wpAnyH_ready (rs := [11]) (by kernel_rfl) (by simp) ?_
          refine AllReadyH.cons (o := { dst := none, op := Op.store 23 (Operand.tmp 11) (Operand.tmp 40), type := 0, pos := _, after := #[{ on := 10, ground := Ground.data }, { on := 8, ground := Ground.data }, { on := 6, ground := Ground.chain }, { on := 0, ground := Ground.phase }, { on := 1, ground := Ground.phase }, { on := 2, ground := Ground.phase }, { on := 3, ground := Ground.phase }, { on := 4, ground := Ground.phase }, { on := 5, ground := Ground.phase }, { on := 6, ground := Ground.phase }, { on := 7, ground := Ground.phase }, { on := 8, ground := Ground.phase }, { on := 9, ground := Ground.textOnly Departure.lateStores }, { on := 10, ground := Ground.phase }], guard := none }) rfl (fun K hK => ?_) AllReadyH.nil
          rw [if_pos (by rfl)]
          obtain ⟨tz, hz⟩ := hN.live (pc, #[.int .i64 0, .string ⟨#[]⟩, .string ⟨#[]⟩]) (by simp)
          refine wp_store_row 23 _ _ rfl pc #[.int .i64 cm, .string ck, .string cl] rfl rfl tz _ hz (by rfl) rfl (fil_one3 _ _ _) ?_
          have hb3 := below_setRow HBr.out Hpc.out #[.int .i64 cm, .string ck, .string cl]
          have hc3 := setRow_heap _ _ _ #[.int .i64 cm, .string ck, .string cl] _ _ hz
          clear hz hN hS
          have hS := SR.out.on hb3
          refine hK.out _ _ hS (fun hHeld => ?_)
          clear hK K
          (try simp only [Act.put])
          refine wpAnyH_take (i := 12) (oi := { dst := some 12, op := Op.assign (Operand.tmp 41), type := 28, pos := _, after := #[{ on := 9, ground := Ground.data }, { on := 11, ground := Ground.chain }, { on := 0, ground := Ground.phase }, { on := 1, ground := Ground.phase }, { on := 2, ground := Ground.phase }, { on := 3, ground := Ground.phase }, { on := 4, ground := Ground.phase }, { on := 5, ground := Ground.phase }, { on := 6, ground := Ground.phase }, { on := 7, ground := Ground.phase }, { on := 8, ground := Ground.phase }, { on := 9, ground := Ground.phase }, { on := 10, ground := Ground.phase }, { on := 11, ground := Ground.phase }], guard := none }) (v := ?_) rfl (by kernel_rfl) (by kernel_rfl) (by kernel_rfl) (fun _ _ _ h => h) (Or.inl ⟨by rfl, ?hy⟩) hHeld ?_
          case hy => intro w0 hSw; (try dsimp only at hSw); go_simp; (try with_reducible rfl)
          (try simp only [Act.put, List.setIfInBounds_toArray, List.set_cons_zero, List.set_cons_succ])
          refine wpAnyH_done (by kernel_rfl) ?_ _
          clear hHeld
          go_wp2_with fail
          go_meet
          exact ⟨pc, rfl, rfl, Lib.hid (hS.add ⟨_, hc3⟩), Lib.hid (below2 HBu.out hb3)⟩
      case rest =>
        obtain ⟨pc, rfl, rfl, S9, HB9⟩ := hcut
        clear KJ SR HBu
        obtain ⟨tb, hbk⟩ := S9.out.live (pb, #[.int .i64 bm, .string bk, .string bl]) (by simp)
        have Hbk := Lib.hid hbk
        clear hbk
        have HF1 := Lib.hid (S4.out.fact 1 rfl)
        have Hpu : Hid (w4.heap.size ≤ pb) := Lib.hid (Nat.le_of_eq Hpb.out.symm)
        have hcases : (he = 0) ∨ (he ≠ 0 ∧ g = 0) ∨ (he ≠ 0 ∧ g ≠ 0) := by
          by_cases h1 : he = 0
          · exact Or.inl h1
          · by_cases h2 : g = 0
            · exact Or.inr (Or.inl ⟨h1, h2⟩)
            · exact Or.inr (Or.inr ⟨h1, h2⟩)
        rcases hcases with h1 | ⟨h1, h2⟩ | ⟨h1, h2⟩
        · subst h1
          have HgE : Hid (G (j + 1) = g) := Lib.hid (by rw [HgG.out, if_neg (fun hh => hh.1 rfl)])
          clear HgG
          go_wp2_with (first
            | (refine wpList_load_st rfl 23 _ rfl S9.out 0 _ _ rfl rfl _ Try.underlying23 rfl (by rfl) ?_)
            | (refine wpList_store_row rfl 23 _ _ rfl pb #[.int .i64 cm, .string ck, .string cl] rfl rfl tb #[.int .i64 bm, .string bk, .string bl] Hbk.out (by rfl) rfl (fil_one3 _ _ _) ?_
               have HBs := Lib.hid (below_setRow HB9.out Hpu.out #[.int .i64 cm, .string ck, .string cl])
               have HPs := Lib.hid (setRow_heap _ _ _ #[.int .i64 cm, .string ck, .string cl] _ _ Hbk.out)
               obtain ⟨w10, hw10⟩ : ∃ x, x = wc.setRow pb #[.int .i64 cm, .string ck, .string cl] := ⟨_, rfl⟩
               rw [← hw10] at HBs HPs ⊢
               clear hw10
               have hc14 := Hc.out w10 (HF1.out.1.below HBs.out HF1.out.2)
               have hcat := Hcat.out))
          go_roundw
          case rel =>
            refine ⟨j + 1, Hj1.out, by go_num, by rw [Hzs.out], by rw [HgE.out], HBs, Lib.hid ⟨tb, ?_⟩⟩
            rw [← HBj2.out]; exact HPs.out
          case measure => simp [intOf]; omega
        · subst h2
          have HgE : Hid (G (j + 1) = he) := Lib.hid (by rw [HgG.out, if_pos ⟨h1, rfl⟩])
          have j1 : (he != 0) = true := by simpa using h1
          clear h1
          clear HgG
          go_wp2_with (first
            | (refine wpList_load_st rfl 23 _ rfl S9.out 0 _ _ rfl rfl _ Try.underlying23 rfl (by rfl) ?_)
            | (refine wpList_store_row rfl 23 _ _ rfl pb #[.int .i64 cm, .string ck, .string cl] rfl rfl tb #[.int .i64 bm, .string bk, .string bl] Hbk.out (by rfl) rfl (fil_one3 _ _ _) ?_
               have HBs := Lib.hid (below_setRow HB9.out Hpu.out #[.int .i64 cm, .string ck, .string cl])
               have HPs := Lib.hid (setRow_heap _ _ _ #[.int .i64 cm, .string ck, .string cl] _ _ Hbk.out)
               obtain ⟨w10, hw10⟩ : ∃ x, x = wc.setRow pb #[.int .i64 cm, .string ck, .string cl] := ⟨_, rfl⟩
               rw [← hw10] at HBs HPs ⊢
               clear hw10
               have hc14 := Hc.out w10 (HF1.out.1.below HBs.out HF1.out.2)
               have hcat := Hcat.out))
          go_roundw
          case rel =>
            refine ⟨j + 1, Hj1.out, by go_num, by rw [Hzs.out], by rw [HgE.out], HBs, Lib.hid ⟨tb, ?_⟩⟩
            rw [← HBj2.out]; exact HPs.out
          case measure => simp [intOf]; omega
        · have HgE : Hid (G (j + 1) = g) := Lib.hid (by rw [HgG.out, if_neg (fun hh => h2 hh.2)])
          have j1 : (he != 0) = true := by simpa using h1
          have j2 : (g == 0) = false := by simpa using h2
          clear h1 h2
          clear HgG
          go_wp2_with (first
            | (refine wpList_load_st rfl 23 _ rfl S9.out 0 _ _ rfl rfl _ Try.underlying23 rfl (by rfl) ?_)
            | (refine wpList_store_row rfl 23 _ _ rfl pb #[.int .i64 cm, .string ck, .string cl] rfl rfl tb #[.int .i64 bm, .string bk, .string bl] Hbk.out (by rfl) rfl (fil_one3 _ _ _) ?_
               have HBs := Lib.hid (below_setRow HB9.out Hpu.out #[.int .i64 cm, .string ck, .string cl])
               have HPs := Lib.hid (setRow_heap _ _ _ #[.int .i64 cm, .string ck, .string cl] _ _ Hbk.out)
               obtain ⟨w10, hw10⟩ : ∃ x, x = wc.setRow pb #[.int .i64 cm, .string ck, .string cl] := ⟨_, rfl⟩
               rw [← hw10] at HBs HPs ⊢
               clear hw10
               have hc14 := Hc.out w10 (HF1.out.1.below HBs.out HF1.out.2)
               have hcat := Hcat.out))
          go_roundw
          case rel =>
            refine ⟨j + 1, Hj1.out, by go_num, by rw [Hzs.out], by rw [HgE.out], HBs, Lib.hid ⟨tb, ?_⟩⟩
            rw [← HBj2.out]; exact HPs.out
          case measure => simp [intOf]; omega
    · obtain rfl : j = N := by omega
      obtain ⟨⟨bm, bk, bl⟩, hBj⟩ : ∃ X, X = B j := ⟨_, rfl⟩
      rw [← hBj] at HP
      have SR := Lib.hid ((S4.out.on HBu.out).add (k := pb) (cs := #[.int .i64 bm, .string bk, .string bl]) HP.out)
      have htk : ss.take j = ss := by rw [HN.out, List.take_length]
      rw [htk]
      clear HP KL HG htk HN HBu
      rw [hgN]
      clear hBj hgN
      go_wp2_with fail
      refine (HC.out wr (SR.out.fact 0 rfl)).mono ?_
      rintro e w6 ⟨rfl, hB⟩
      have S6 := Lib.hid (SR.out.on hB)
      clear hB SR
      go_wp2_with (refine wpList_loadg_st (by rfl) 23 _ rfl S6.out 1 _ _ rfl rfl _ Try.underlying23 rfl (by rfl) ?_)
      refine (KR w6 (S6.out.fact 0 rfl)).out.mono ?_
      rintro e w7 ⟨rfl, hB⟩
      have S7 := Lib.hid (S6.out.on hB)
      clear hB S6
      go_wp2
      go_ret
      exact ⟨rfl, S7.out.below⟩

set_option maxHeartbeats 4000000 in
theorem fileAdds_ok0 {E : World → Prop} (HS : Hid (FileK E)) (HC : Hid (FiledK E)) (m : Int) (k l : ByteArray) (A : Option Addr) (N cap : Nat) (ss : List ByteArray) (w : World) (hE : E w) (hb : decide (2000 < k.size ∨ 2000 < l.size) = false) (hA : StrsAt w w.heap.size A ss) (hN : N = ss.length) (hN60 : N ≤ 60) (hz : ∀ s ∈ ss, s.size ≤ 300) (y r z : ByteArray) (jN : ((N : Int) == 0) = true)
    (B : Nat → Fil) (G H : Nat → Int) (hB0 : B 0 = ⟨m, k, l⟩) (hG0 : G 0 = 0) (hG : ∀ j, j < N → G (j + 1) = if H j ≠ 0 ∧ G j = 0 then H j else G j) (hgN : G N = 0) (hBN : B N = ⟨m, k, y⟩) (hzN : Fi.all ss = z) (Hcz : Hid (¬ 9223372036854775807 < r.size + z.size))
    (KA : ∀ (W : World) (_h : E W) (_hA : StrsAt W W.heap.size A ss), Hid (Calls Try.prog 11 #[.agg #[.int .i64 m, .string k, .string l], .slice A N cap] W fun e w' => e = .returned (.tuple #[.agg #[.int .i64 m, .string k, .string y], .int .i64 0]) ∧ Below W.heap.size W w'))
    (KL : ∀ (j : Nat) (_hj : j < N) (s : ByteArray) (_hs : ss[j]? = some s) (W : World) (A1 : Addr) (_h : E W) (_hA : StrsAt W W.heap.size (some A1) [s]), Hid (Calls Try.prog 11 #[.agg (filV (B j)), .slice (some A1) 1 1] W fun e w' => e = .returned (.tuple #[.agg (filV (B (j + 1))), .int .i64 (H j)]) ∧ Below W.heap.size W w'))
    (pf : ∀ (W : World) (_hA : StrsAt W W.heap.size A ss), Hid (Calls Try.prog 9 #[.slice A N cap] W fun e w' => e = .returned (.bool false) ∧ Below W.heap.size W w'))
    (KR : ∀ (W : World) (_h : E W), Hid (Calls Try.prog 24 #[.agg #[.int .i64 m, .string k, .string y]] W fun e w' => e = .returned (.string (r ++ z)) ∧ Below W.heap.size W w'))
    (KF : ∀ (W : World) (_h : E W), Hid (Calls Try.prog 24 #[.agg #[.int .i64 m, .string k, .string l]] W fun e w' => e = .returned (.string r) ∧ Below W.heap.size W w'))
    (KI : ∀ (W : World) (_h : E W), Hid (Calls Try.prog 22 #[.agg #[.int .i64 m, .string k, .string y]] W fun e w' => e = .returned (.bool true) ∧ Below W.heap.size W w')) :
    Calls Try.prog 4 #[.agg #[.int .i64 m, .string k, .string l], .slice A N cap] w fun e w' => e = .returned (.bool true) ∧ Below w.heap.size w w' := by
  have p1 := fun W => Lib.hid (FRBig_any m k l W)
  rw [hb] at p1
  have S0 := Lib.hid ((((St.start w).more (strsF12 A w.heap.size ss) ⟨hA, Nat.le_refl _⟩).more (eFi HS) hE).new #[.int .i64 m, .string k, .string l] 23)
  have HN := Lib.hid hN
  have Hz := Lib.hid hz
  have HB0 := Lib.hid hB0
  have HG0 := Lib.hid hG0
  have HG := Lib.hid hG
  clear hb hE hA hN hz hB0 hG0 hG
  go_enter Try.func4, Try.ntmps4
  go_wp2_with (refine wpList_load_st rfl 23 _ rfl S0.out 0 _ _ rfl rfl _ Try.underlying23 rfl (by rfl) ?_)
  refine (p1 _).out.mono ?_
  rintro e w1 ⟨rfl, hB⟩
  have S1 := Lib.hid (S0.out.on hB)
  clear hB S0
  clear p1
  obtain ⟨p0, hp0⟩ : ∃ p, p = w.heap.size := ⟨_, rfl⟩
  rw [← hp0] at S1 ⊢
  clear hp0
  go_wp2_with fail
  refine (pf w1 ((S1.out.fact 1 rfl).1.more (S1.out.fact 1 rfl).2)).out.mono ?_
  rintro e w2 ⟨rfl, hB⟩
  have S2 := Lib.hid (S1.out.on hB)
  clear hB S1
  clear pf
  go_wp2_with (refine wpList_load_st rfl 23 _ rfl S2.out 0 _ _ rfl rfl _ Try.underlying23 rfl (by rfl) ?_)
  refine (KA w2 (S2.out.fact 0 rfl) ((S2.out.fact 1 rfl).1.more (S2.out.fact 1 rfl).2)).out.mono ?_
  rintro e w3 ⟨rfl, hB⟩
  have S3 := Lib.hid (S2.out.on hB)
  clear hB S2
  clear KA
  go_wp2_with (first
    | (refine wpList_store_st rfl 23 _ _ rfl S3.out _ #[.int .i64 m, .string k, .string y] _ rfl rfl (by rfl) rfl (fil_one3 _ _ _) ?_; intro pa w4 hp hS hBn; (try rw [← hp]); have S4 := Lib.hid hS; clear hS hp hBn)
    | (refine wpList_load_st rfl 23 _ rfl S4.out 1 _ _ rfl rfl _ Try.underlying23 rfl (by rfl) ?_)
    | (refine wpList_store_st rfl 23 _ _ rfl S4.out _ #[.int .i64 m, .string k, .string l] _ rfl rfl (by rfl) rfl (fil_one3 _ _ _) ?_; intro pb w5 hp hS hBn; (try rw [← hp]); have S5 := Lib.hid hS; have HB5 := Lib.hid hBn; have Hpb := Lib.hid hp; clear hS hp hBn))
  go_loopw [8, 9, 10] (fun all g i wr => AddsRel w4 pb N ss B G all g i wr) (fun _ _ i _ => N - (intOf i).toNat)
  case atStart =>
    refine ⟨0, Nat.zero_le _, rfl, ?_, ?_, HB5, Lib.hid ?_⟩
    · rw [List.take_zero, Fi.all_nil]
    · rw [HG0.out]
    · rw [HB0.out]; obtain ⟨t, ht⟩ := S5.out.live (pb, #[.int .i64 m, .string k, .string l]) (by simp); exact ⟨t, ht⟩
  case round =>
    obtain ⟨j, hj, rfl, rfl, rfl, HBu, HP⟩ := hrel
    clear HB5 S5 HB0 HG0
    by_cases hlt : j < N
    · obtain ⟨b, off, rfl, hb, hc⟩ := (S4.out.fact 1 rfl).1 j (by rw [← HN.out]; exact hlt)
      clear hb hc
      obtain ⟨⟨bm, bk, bl⟩, hBj⟩ : ∃ X, X = B j := ⟨_, rfl⟩
      obtain ⟨⟨cm, ck, cl⟩, hBj2⟩ : ∃ X, X = B (j + 1) := ⟨_, rfl⟩
      obtain ⟨he, hHj⟩ : ∃ X, X = H j := ⟨_, rfl⟩
      obtain ⟨g, hGj⟩ : ∃ X, X = G j := ⟨_, rfl⟩
      have HgG : Hid (G (j + 1) = if he ≠ 0 ∧ g = 0 then he else g) := by rw [hHj, hGj]; exact Lib.hid (HG.out j hlt)
      have hjl : j < ss.length := by rw [← HN.out]; exact hlt
      obtain ⟨s, hs⟩ : ∃ s, s = ss[j] := ⟨_, rfl⟩
      have hzs : s.size ≤ 300 := by rw [hs]; exact Hz.out _ (List.getElem_mem hjl)
      have KJ := fun W A1 h hA => KL j hlt s (by rw [hs]; exact List.getElem?_eq_getElem hjl) W A1 h hA
      rw [← hBj, ← hBj2, ← hHj] at KJ
      rw [← hBj] at HP
      rw [← hGj]
      obtain ⟨z, hz⟩ : ∃ z, z = Fi.all (ss.take j) := ⟨_, rfl⟩
      have hzz : z.size ≤ 18000 := by rw [hz]; exact Fi.all_small ss (by rw [← HN.out]; exact hN60) Hz.out j
      have hcat : ¬ 9223372036854775807 < z.size + s.size := by omega
      have Hzs : Hid (Fi.all (ss.take (j + 1)) = z ++ s) := Lib.hid (by rw [List.take_succ_eq_append_getElem hjl, Fi.all_snoc, ← hz, ← hs])
      rw [← hz]
      have Hc : Hid (∀ W : World, StrsAt W p0 (some ⟨b, off, none⟩) ss → W.cell? ⟨b, off + j, none⟩ = some (.string s)) := Lib.hid (fun W h => by rw [hs]; exact h.at12 j hjl)
      have HBj2 := Lib.hid hBj2
      have Hcat := Lib.hid hcat
      have Hj1 : Hid (j + 1 ≤ N) := Lib.hid hlt
      clear hBj hBj2 hHj hGj hs hz hzs hzz hjl KL Hz HN hcat hj HG
      have SR := Lib.hid ((S4.out.on HBu.out).add (k := pb) (cs := #[.int .i64 bm, .string bk, .string bl]) HP.out)
      clear HP
      go_wp2_with fail
      go_cut [11, 12] (fun pv hv wx => ∃ pc, pv = .pointer (some ⟨pc, 0, none⟩) ∧ hv = .int .i64 he ∧ Hid (St w wx ((pc, #[.int .i64 cm, .string ck, .string cl]) :: [(pb, #[.int .i64 bm, .string bk, .string bl]), (pa, #[.int .i64 m, .string k, .string y]), (p0, #[.int .i64 m, .string k, .string l])]) [eFi HS, strsF12 (some ⟨b, off, none⟩) p0 ss]) ∧ Hid (Below w4.heap.size w4 wx))
      case first =>
        have hS0 : St w wr.drew [(pb, #[.int .i64 bm, .string bk, .string bl]), (pa, #[.int .i64 m, .string k, .string y]), (p0, #[.int .i64 m, .string k, .string l])] [eFi HS, strsF12 (some ⟨b, off, none⟩) p0 ss] := SR.out.drew
        refine wp_region_held_drew (S := (fun W : World => St w W [(pb, #[.int .i64 bm, .string bk, .string bl]), (pa, #[.int .i64 m, .string k, .string y]), (p0, #[.int .i64 m, .string k, .string l])] [eFi HS, strsF12 (some ⟨b, off, none⟩) p0 ss])) (by kernel_rfl) hS0 (fun hHeld => ?_)
        have HBr := Lib.hid (below_drew12 (Below.refl wr.heap.size wr))
        have hS := hS0
        clear hS0
        generalize hWd : wr.drew = Wd at hS HBr hHeld ⊢
        clear hWd
        refine wpAnyH_take (i := 0) (oi := { dst := some 33, op := Op.load 23 (Operand.tmp 7), type := 23, pos := _, after := #[], guard := none }) (v := ?_) rfl (by kernel_rfl) (by kernel_rfl) (by kernel_rfl) (fun _ _ _ h => h) (Or.inl ⟨by rfl, ?hy⟩) hHeld ?_
        case hy => intro w0 hSw; have d0 := hSw.cell 0 rfl 0 rfl; have d1 := hSw.cell 0 rfl 1 rfl; have d2 := hSw.cell 0 rfl 2 rfl; clear hSw; go_simp; (try with_reducible rfl)
        (try simp only [Act.put, List.setIfInBounds_toArray, List.set_cons_zero, List.set_cons_succ])
        refine wpAnyH_take (i := 1) (oi := { dst := some 34, op := Op.move (Operand.tmp 1), type := 24, pos := _, after := #[], guard := none }) (v := ?_) rfl (by kernel_rfl) (by kernel_rfl) (by kernel_rfl) (fun _ _ _ h => h) (Or.inl ⟨by rfl, ?hy⟩) hHeld ?_
        case hy => intro w0 hSw; (try dsimp only at hSw); go_simp; (try with_reducible rfl)
        (try simp only [Act.put, List.setIfInBounds_toArray, List.set_cons_zero, List.set_cons_succ])
        refine wpAnyH_take (i := 2) (oi := { dst := some 35, op := Op.move (Operand.tmp 10), type := 3, pos := _, after := #[], guard := none }) (v := ?_) rfl (by kernel_rfl) (by kernel_rfl) (by kernel_rfl) (fun _ _ _ h => h) (Or.inl ⟨by rfl, ?hy⟩) hHeld ?_
        case hy => intro w0 hSw; (try dsimp only at hSw); go_simp; (try with_reducible rfl)
        (try simp only [Act.put, List.setIfInBounds_toArray, List.set_cons_zero, List.set_cons_succ])
        refine wpAnyH_take (i := 3) (oi := { dst := some 36, op := Op.indexAddr 24 (Operand.tmp 34) (Operand.tmp 35), type := 0, pos := _, after := #[{ on := 1, ground := Ground.data }, { on := 2, ground := Ground.data }], guard := none }) (v := ?_) rfl (by kernel_rfl) (by kernel_rfl) (by kernel_rfl) (fun _ _ _ h => h) (Or.inl ⟨by rfl, ?hy⟩) hHeld ?_
        case hy => intro w0 hSw; (try dsimp only at hSw); go_simp; (try with_reducible rfl)
        (try simp only [Act.put, List.setIfInBounds_toArray, List.set_cons_zero, List.set_cons_succ])
        refine wpAnyH_take (i := 4) (oi := { dst := some 37, op := Op.load 9 (Operand.tmp 36), type := 9, pos := _, after := #[{ on := 3, ground := Ground.data }], guard := none }) (v := ?_) rfl (by kernel_rfl) (by kernel_rfl) (by kernel_rfl) (fun _ _ _ h => h) (Or.inl ⟨by rfl, ?hy⟩) hHeld ?_
        case hy => intro w0 hSw; have hcx := Hc.out w0 (hSw.fact 1 rfl).1; clear hSw; go_simp; (try with_reducible rfl)
        (try simp only [Act.put, List.setIfInBounds_toArray, List.set_cons_zero, List.set_cons_succ])
        refine wpAnyH_ready (rs := [5, 10]) (by kernel_rfl) (by simp) ?_
        refine AllReadyH.cons (o := { dst := some 38, op := Op.buildSlice 24 1 #[(0, Operand.tmp 37)], type := 24, pos := _, after := #[{ on := 4, ground := Ground.data }], guard := none }) rfl (fun K hK => ?_) (AllReadyH.cons (o := { dst := some 11, op := Op.alloc 23, type := 0, pos := _, after := #[], guard := none }) rfl (fun K hK => ?_) AllReadyH.nil)
        · go_simp
          have hs5 : StrsAt (Wd.alloc (.cells #[.string s] 9)) (Wd.alloc (.cells #[.string s] 9)).heap.size (some ⟨Wd.heap.size, 0, none⟩) [s] := by simpa using StrsAt.new Wd [s] 9
          replace hS := hS.on (below_new Wd (.cells #[.string s] 9))
          replace HBr := Lib.hid (below2 HBr.out (below_new Wd (.cells #[.string s] 9)))
          generalize hWb : Wd.alloc (.cells #[.string s] 9) = Vb at hs5 hS HBr ⊢
          clear hWb
          refine hK.out _ _ hS (fun hHeld => ?_)
          clear hK K
          (try simp only [Act.put, List.setIfInBounds_toArray, List.set_cons_zero, List.set_cons_succ])
          refine wpAnyH_ready (rs := [6, 10]) (by kernel_rfl) (by simp) ?_
          refine AllReadyH.cons (o := { dst := some 39, op := Op.call { callee := Callee.value (Operand.func 11), args := #[Operand.tmp 33, Operand.tmp 38], argTypes := #[23, 24] }, type := 29, pos := _, after := #[{ on := 0, ground := Ground.data }, { on := 5, ground := Ground.data }], guard := none }) rfl (fun K hK => ?_) (AllReadyH.cons (o := { dst := some 11, op := Op.alloc 23, type := 0, pos := _, after := #[], guard := none }) rfl (fun K hK => ?_) AllReadyH.nil)
          · go_simp
            refine (KJ _ _ (hS.fact 0 rfl) hs5).out.mono ?_
            rintro e y1 ⟨rfl, hB'⟩
            replace hS := hS.on hB'
            replace HBr := Lib.hid (below2 HBr.out hB')
            clear hB' hs5
            go_wp2_with fail
            refine hK.out _ _ hS (fun hHeld => ?_)
            clear hK K
            (try simp only [Act.put, List.setIfInBounds_toArray, List.set_cons_zero, List.set_cons_succ])
            refine wpAnyH_take (i := 7) (oi := { dst := some 32, op := Op.move (Operand.tmp 39), type := 29, pos := _, after := #[{ on := 6, ground := Ground.data }], guard := none }) (v := ?_) rfl (by kernel_rfl) (by kernel_rfl) (by kernel_rfl) (fun _ _ _ h => h) (Or.inl ⟨by rfl, ?hy⟩) hHeld ?_
            case hy => intro w0 hSw; (try dsimp only at hSw); go_simp; (try with_reducible rfl)
            (try simp only [Act.put, List.setIfInBounds_toArray, List.set_cons_zero, List.set_cons_succ])
            refine wpAnyH_take (i := 8) (oi := { dst := some 40, op := Op.extract (Operand.tmp 32) 0, type := 23, pos := _, after := #[{ on := 7, ground := Ground.data }], guard := none }) (v := ?_) rfl (by kernel_rfl) (by kernel_rfl) (by kernel_rfl) (fun _ _ _ h => h) (Or.inl ⟨by rfl, ?hy⟩) hHeld ?_
            case hy => intro w0 hSw; (try dsimp only at hSw); go_simp; (try with_reducible rfl)
            (try simp only [Act.put, List.setIfInBounds_toArray, List.set_cons_zero, List.set_cons_succ])
            refine wpAnyH_take (i := 9) (oi := { dst := some 41, op := Op.extract (Operand.tmp 32) 1, type := 28, pos := _, after := #[{ on := 7, ground := Ground.data }, { on := 11, ground := Ground.gcOnly Departure.lateStores }], guard := none }) (v := ?_) rfl (by kernel_rfl) (by kernel_rfl) (by kernel_rfl) (fun _ _ _ h => h) (Or.inl ⟨by rfl, ?hy⟩) hHeld ?_
            case hy => intro w0 hSw; (try dsimp only at hSw); go_simp; (try with_reducible rfl)
            (try simp only [Act.put, List.setIfInBounds_toArray, List.set_cons_zero, List.set_cons_succ])
            refine wpAnyH_ready (rs := [10]) (by kernel_rfl) (by simp) ?_
            refine AllReadyH.cons (o := { dst := some 11, op := Op.alloc 23, type := 0, pos := _, after := #[], guard := none }) rfl (fun K hK => ?_) AllReadyH.nil
            go_simp
            have hN := hS.new #[.int .i64 0, .string ⟨#[]⟩, .string ⟨#[]⟩] 23
            replace hS := hS.on (below_new y1 (.cells #[.int .i64 0, .string ⟨#[]⟩, .string ⟨#[]⟩] 23))
            obtain ⟨pc, hpc⟩ : ∃ x, x = y1.heap.size := ⟨_, rfl⟩
            have Hpc : Hid (wr.heap.size ≤ pc) := Lib.hid (by rw [hpc]; exact HBr.out.size)
            replace HBr := Lib.hid (below2 HBr.out (below_new y1 (.cells #[.int .i64 0, .string ⟨#[]⟩, .string ⟨#[]⟩] 23)))
            rw [← hpc] at hN ⊢
            clear hpc
            generalize hWa : y1.alloc (.cells #[.int .i64 0, .string ⟨#[]⟩, .string ⟨#[]⟩] 23) = Va at hS HBr hN ⊢
            clear hWa
            refine hK.out _ _ hS (fun hHeld => ?_)
            clear hK K
            (try simp only [Act.put, List.setIfInBounds_toArray, List.set_cons_zero, List.set_cons_succ])
            refine wpAnyH_ready (rs := [11]) (by kernel_rfl) (by simp) ?_
            refine AllReadyH.cons (o := { dst := none, op := Op.store 23 (Operand.tmp 11) (Operand.tmp 40), type := 0, pos := _, after := #[{ on := 10, ground := Ground.data }, { on := 8, ground := Ground.data }, { on := 6, ground := Ground.chain }, { on := 0, ground := Ground.phase }, { on := 1, ground := Ground.phase }, { on := 2, ground := Ground.phase }, { on := 3, ground := Ground.phase }, { on := 4, ground := Ground.phase }, { on := 5, ground := Ground.phase }, { on := 6, ground := Ground.phase }, { on := 7, ground := Ground.phase }, { on := 8, ground := Ground.phase }, { on := 9, ground := Ground.textOnly Departure.lateStores }, { on := 10, ground := Ground.phase }], guard := none }) rfl (fun K hK => ?_) AllReadyH.nil
            rw [if_pos (by rfl)]
            obtain ⟨tz, hz⟩ := hN.live (pc, #[.int .i64 0, .string ⟨#[]⟩, .string ⟨#[]⟩]) (by simp)
            refine wp_store_row 23 _ _ rfl pc #[.int .i64 cm, .string ck, .string cl] rfl rfl tz _ hz (by rfl) rfl (fil_one3 _ _ _) ?_
            have hb3 := below_setRow HBr.out Hpc.out #[.int .i64 cm, .string ck, .string cl]
            have hc3 := setRow_heap _ _ _ #[.int .i64 cm, .string ck, .string cl] _ _ hz
            clear hz hN hS
            have hS := SR.out.on hb3
            refine hK.out _ _ hS (fun hHeld => ?_)
            clear hK K
            (try simp only [Act.put])
            refine wpAnyH_take (i := 12) (oi := { dst := some 12, op := Op.assign (Operand.tmp 41), type := 28, pos := _, after := #[{ on := 9, ground := Ground.data }, { on := 11, ground := Ground.chain }, { on := 0, ground := Ground.phase }, { on := 1, ground := Ground.phase }, { on := 2, ground := Ground.phase }, { on := 3, ground := Ground.phase }, { on := 4, ground := Ground.phase }, { on := 5, ground := Ground.phase }, { on := 6, ground := Ground.phase }, { on := 7, ground := Ground.phase }, { on := 8, ground := Ground.phase }, { on := 9, ground := Ground.phase }, { on := 10, ground := Ground.phase }, { on := 11, ground := Ground.phase }], guard := none }) (v := ?_) rfl (by kernel_rfl) (by kernel_rfl) (by kernel_rfl) (fun _ _ _ h => h) (Or.inl ⟨by rfl, ?hy⟩) hHeld ?_
            case hy => intro w0 hSw; (try dsimp only at hSw); go_simp; (try with_reducible rfl)
            (try simp only [Act.put, List.setIfInBounds_toArray, List.set_cons_zero, List.set_cons_succ])
            refine wpAnyH_done (by kernel_rfl) ?_ _
            clear hHeld
            go_wp2_with fail
            go_meet
            exact ⟨pc, rfl, rfl, Lib.hid (hS.add ⟨_, hc3⟩), Lib.hid (below2 HBu.out hb3)⟩
          · go_simp
            have hN := hS.new #[.int .i64 0, .string ⟨#[]⟩, .string ⟨#[]⟩] 23
            replace hS := hS.on (below_new Vb (.cells #[.int .i64 0, .string ⟨#[]⟩, .string ⟨#[]⟩] 23))
            replace hs5 := (hs5.below (below_new Vb (.cells #[.int .i64 0, .string ⟨#[]⟩, .string ⟨#[]⟩] 23)) (Nat.le_refl _)).more (below_new Vb (.cells #[.int .i64 0, .string ⟨#[]⟩, .string ⟨#[]⟩] 23)).size
            obtain ⟨pc, hpc⟩ : ∃ x, x = Vb.heap.size := ⟨_, rfl⟩
            have Hpc : Hid (wr.heap.size ≤ pc) := Lib.hid (by rw [hpc]; exact HBr.out.size)
            replace HBr := Lib.hid (below2 HBr.out (below_new Vb (.cells #[.int .i64 0, .string ⟨#[]⟩, .string ⟨#[]⟩] 23)))
            rw [← hpc] at hN ⊢
            clear hpc
            generalize hWa : Vb.alloc (.cells #[.int .i64 0, .string ⟨#[]⟩, .string ⟨#[]⟩] 23) = Va at hs5 hS HBr hN ⊢
            clear hWa
            refine hK.out _ _ hS (fun hHeld => ?_)
            clear hK K
            (try simp only [Act.put, List.setIfInBounds_toArray, List.set_cons_zero, List.set_cons_succ])
            refine wpAnyH_ready (rs := [6]) (by kernel_rfl) (by simp) ?_
            refine AllReadyH.cons (o := { dst := some 39, op := Op.call { callee := Callee.value (Operand.func 11), args := #[Operand.tmp 33, Operand.tmp 38], argTypes := #[23, 24] }, type := 29, pos := _, after := #[{ on := 0, ground := Ground.data }, { on := 5, ground := Ground.data }], guard := none }) rfl (fun K hK => ?_) AllReadyH.nil
            go_simp
            refine (KJ _ _ (hS.fact 0 rfl) hs5).out.mono ?_
            rintro e y1 ⟨rfl, hB'⟩
            replace hS := hS.on hB'
            replace HBr := Lib.hid (below2 HBr.out hB')
            replace hN := hN.on hB'
            clear hB' hs5
            go_wp2_with fail
            refine hK.out _ _ hS (fun hHeld => ?_)
            clear hK K
            (try simp only [Act.put, List.setIfInBounds_toArray, List.set_cons_zero, List.set_cons_succ])
            refine wpAnyH_take (i := 7) (oi := { dst := some 32, op := Op.move (Operand.tmp 39), type := 29, pos := _, after := #[{ on := 6, ground := Ground.data }], guard := none }) (v := ?_) rfl (by kernel_rfl) (by kernel_rfl) (by kernel_rfl) (fun _ _ _ h => h) (Or.inl ⟨by rfl, ?hy⟩) hHeld ?_
            case hy => intro w0 hSw; (try dsimp only at hSw); go_simp; (try with_reducible rfl)
            (try simp only [Act.put, List.setIfInBounds_toArray, List.set_cons_zero, List.set_cons_succ])
            refine wpAnyH_take (i := 8) (oi := { dst := some 40, op := Op.extract (Operand.tmp 32) 0, type := 23, pos := _, after := #[{ on := 7, ground := Ground.data }], guard := none }) (v := ?_) rfl (by kernel_rfl) (by kernel_rfl) (by kernel_rfl) (fun _ _ _ h => h) (Or.inl ⟨by rfl, ?hy⟩) hHeld ?_
            case hy => intro w0 hSw; (try dsimp only at hSw); go_simp; (try with_reducible rfl)
            (try simp only [Act.put, List.setIfInBounds_toArray, List.set_cons_zero, List.set_cons_succ])
            refine wpAnyH_take (i := 9) (oi := { dst := some 41, op := Op.extract (Operand.tmp 32) 1, type := 28, pos := _, after := #[{ on := 7, ground := Ground.data }, { on := 11, ground := Ground.gcOnly Departure.lateStores }], guard := none }) (v := ?_) rfl (by kernel_rfl) (by kernel_rfl) (by kernel_rfl) (fun _ _ _ h => h) (Or.inl ⟨by rfl, ?hy⟩) hHeld ?_
            case hy => intro w0 hSw; (try dsimp only at hSw); go_simp; (try with_reducible rfl)
            (try simp only [Act.put, List.setIfInBounds_toArray, List.set_cons_zero, List.set_cons_succ])
            refine wpAnyH_ready (rs := [11]) (by kernel_rfl) (by simp) ?_
            refine AllReadyH.cons (o := { dst := none, op := Op.store 23 (Operand.tmp 11) (Operand.tmp 40), type := 0, pos := _, after := #[{ on := 10, ground := Ground.data }, { on := 8, ground := Ground.data }, { on := 6, ground := Ground.chain }, { on := 0, ground := Ground.phase }, { on := 1, ground := Ground.phase }, { on := 2, ground := Ground.phase }, { on := 3, ground := Ground.phase }, { on := 4, ground := Ground.phase }, { on := 5, ground := Ground.phase }, { on := 6, ground := Ground.phase }, { on := 7, ground := Ground.phase }, { on := 8, ground := Ground.phase }, { on := 9, ground := Ground.textOnly Departure.lateStores }, { on := 10, ground := Ground.phase }], guard := none }) rfl (fun K hK => ?_) AllReadyH.nil
            rw [if_pos (by rfl)]
            obtain ⟨tz, hz⟩ := hN.live (pc, #[.int .i64 0, .string ⟨#[]⟩, .string ⟨#[]⟩]) (by simp)
            refine wp_store_row 23 _ _ rfl pc #[.int .i64 cm, .string ck, .string cl] rfl rfl tz _ hz (by rfl) rfl (fil_one3 _ _ _) ?_
            have hb3 := below_setRow HBr.out Hpc.out #[.int .i64 cm, .string ck, .string cl]
            have hc3 := setRow_heap _ _ _ #[.int .i64 cm, .string ck, .string cl] _ _ hz
            clear hz hN hS
            have hS := SR.out.on hb3
            refine hK.out _ _ hS (fun hHeld => ?_)
            clear hK K
            (try simp only [Act.put])
            refine wpAnyH_take (i := 12) (oi := { dst := some 12, op := Op.assign (Operand.tmp 41), type := 28, pos := _, after := #[{ on := 9, ground := Ground.data }, { on := 11, ground := Ground.chain }, { on := 0, ground := Ground.phase }, { on := 1, ground := Ground.phase }, { on := 2, ground := Ground.phase }, { on := 3, ground := Ground.phase }, { on := 4, ground := Ground.phase }, { on := 5, ground := Ground.phase }, { on := 6, ground := Ground.phase }, { on := 7, ground := Ground.phase }, { on := 8, ground := Ground.phase }, { on := 9, ground := Ground.phase }, { on := 10, ground := Ground.phase }, { on := 11, ground := Ground.phase }], guard := none }) (v := ?_) rfl (by kernel_rfl) (by kernel_rfl) (by kernel_rfl) (fun _ _ _ h => h) (Or.inl ⟨by rfl, ?hy⟩) hHeld ?_
            case hy => intro w0 hSw; (try dsimp only at hSw); go_simp; (try with_reducible rfl)
            (try simp only [Act.put, List.setIfInBounds_toArray, List.set_cons_zero, List.set_cons_succ])
            refine wpAnyH_done (by kernel_rfl) ?_ _
            clear hHeld
            go_wp2_with fail
            go_meet
            exact ⟨pc, rfl, rfl, Lib.hid (hS.add ⟨_, hc3⟩), Lib.hid (below2 HBu.out hb3)⟩
        · go_simp
          have hN := hS.new #[.int .i64 0, .string ⟨#[]⟩, .string ⟨#[]⟩] 23
          replace hS := hS.on (below_new Wd (.cells #[.int .i64 0, .string ⟨#[]⟩, .string ⟨#[]⟩] 23))
          obtain ⟨pc, hpc⟩ : ∃ x, x = Wd.heap.size := ⟨_, rfl⟩
          have Hpc : Hid (wr.heap.size ≤ pc) := Lib.hid (by rw [hpc]; exact HBr.out.size)
          replace HBr := Lib.hid (below2 HBr.out (below_new Wd (.cells #[.int .i64 0, .string ⟨#[]⟩, .string ⟨#[]⟩] 23)))
          rw [← hpc] at hN ⊢
          clear hpc
          generalize hWa : Wd.alloc (.cells #[.int .i64 0, .string ⟨#[]⟩, .string ⟨#[]⟩] 23) = Va at hS HBr hN ⊢
          clear hWa
          refine hK.out _ _ hS (fun hHeld => ?_)
          clear hK K
          (try simp only [Act.put, List.setIfInBounds_toArray, List.set_cons_zero, List.set_cons_succ])
          refine wpAnyH_ready (rs := [5]) (by kernel_rfl) (by simp) ?_
          refine AllReadyH.cons (o := { dst := some 38, op := Op.buildSlice 24 1 #[(0, Operand.tmp 37)], type := 24, pos := _, after := #[{ on := 4, ground := Ground.data }], guard := none }) rfl (fun K hK => ?_) AllReadyH.nil
          go_simp
          have hs5 : StrsAt (Va.alloc (.cells #[.string s] 9)) (Va.alloc (.cells #[.string s] 9)).heap.size (some ⟨Va.heap.size, 0, none⟩) [s] := by simpa using StrsAt.new Va [s] 9
          replace hS := hS.on (below_new Va (.cells #[.string s] 9))
          replace HBr := Lib.hid (below2 HBr.out (below_new Va (.cells #[.string s] 9)))
          replace hN := hN.on (below_new Va (.cells #[.string s] 9))
          generalize hWb : Va.alloc (.cells #[.string s] 9) = Vb at hs5 hS HBr hN ⊢
          clear hWb
          refine hK.out _ _ hS (fun hHeld => ?_)
          clear hK K
          (try simp only [Act.put, List.setIfInBounds_toArray, List.set_cons_zero, List.set_cons_succ])
          refine wpAnyH_ready (rs := [6]) (by kernel_rfl) (by simp) ?_
          refine AllReadyH.cons (o := { dst := some 39, op := Op.call { callee := Callee.value (Operand.func 11), args := #[Operand.tmp 33, Operand.tmp 38], argTypes := #[23, 24] }, type := 29, pos := _, after := #[{ on := 0, ground := Ground.data }, { on := 5, ground := Ground.data }], guard := none }) rfl (fun K hK => ?_) AllReadyH.nil
          go_simp
          refine (KJ _ _ (hS.fact 0 rfl) hs5).out.mono ?_
          rintro e y1 ⟨rfl, hB'⟩
          replace hS := hS.on hB'
          replace HBr := Lib.hid (below2 HBr.out hB')
          replace hN := hN.on hB'
          clear hB' hs5
          go_wp2_with fail
          refine hK.out _ _ hS (fun hHeld => ?_)
          clear hK K
          (try simp only [Act.put, List.setIfInBounds_toArray, List.set_cons_zero, List.set_cons_succ])
          refine wpAnyH_take (i := 7) (oi := { dst := some 32, op := Op.move (Operand.tmp 39), type := 29, pos := _, after := #[{ on := 6, ground := Ground.data }], guard := none }) (v := ?_) rfl (by kernel_rfl) (by kernel_rfl) (by kernel_rfl) (fun _ _ _ h => h) (Or.inl ⟨by rfl, ?hy⟩) hHeld ?_
          case hy => intro w0 hSw; (try dsimp only at hSw); go_simp; (try with_reducible rfl)
          (try simp only [Act.put, List.setIfInBounds_toArray, List.set_cons_zero, List.set_cons_succ])
          refine wpAnyH_take (i := 8) (oi := { dst := some 40, op := Op.extract (Operand.tmp 32) 0, type := 23, pos := _, after := #[{ on := 7, ground := Ground.data }], guard := none }) (v := ?_) rfl (by kernel_rfl) (by kernel_rfl) (by kernel_rfl) (fun _ _ _ h => h) (Or.inl ⟨by rfl, ?hy⟩) hHeld ?_
          case hy => intro w0 hSw; (try dsimp only at hSw); go_simp; (try with_reducible rfl)
          (try simp only [Act.put, List.setIfInBounds_toArray, List.set_cons_zero, List.set_cons_succ])
          refine wpAnyH_take (i := 9) (oi := { dst := some 41, op := Op.extract (Operand.tmp 32) 1, type := 28, pos := _, after := #[{ on := 7, ground := Ground.data }, { on := 11, ground := Ground.gcOnly Departure.lateStores }], guard := none }) (v := ?_) rfl (by kernel_rfl) (by kernel_rfl) (by kernel_rfl) (fun _ _ _ h => h) (Or.inl ⟨by rfl, ?hy⟩) hHeld ?_
          case hy => intro w0 hSw; (try dsimp only at hSw); go_simp; (try with_reducible rfl)
          (try simp only [Act.put, List.setIfInBounds_toArray, List.set_cons_zero, List.set_cons_succ])
          refine wpAnyH_ready (rs := [11]) (by kernel_rfl) (by simp) ?_
          refine AllReadyH.cons (o := { dst := none, op := Op.store 23 (Operand.tmp 11) (Operand.tmp 40), type := 0, pos := _, after := #[{ on := 10, ground := Ground.data }, { on := 8, ground := Ground.data }, { on := 6, ground := Ground.chain }, { on := 0, ground := Ground.phase }, { on := 1, ground := Ground.phase }, { on := 2, ground := Ground.phase }, { on := 3, ground := Ground.phase }, { on := 4, ground := Ground.phase }, { on := 5, ground := Ground.phase }, { on := 6, ground := Ground.phase }, { on := 7, ground := Ground.phase }, { on := 8, ground := Ground.phase }, { on := 9, ground := Ground.textOnly Departure.lateStores }, { on := 10, ground := Ground.phase }], guard := none }) rfl (fun K hK => ?_) AllReadyH.nil
          rw [if_pos (by rfl)]
          obtain ⟨tz, hz⟩ := hN.live (pc, #[.int .i64 0, .string ⟨#[]⟩, .string ⟨#[]⟩]) (by simp)
          refine wp_store_row 23 _ _ rfl pc #[.int .i64 cm, .string ck, .string cl] rfl rfl tz _ hz (by rfl) rfl (fil_one3 _ _ _) ?_
          have hb3 := below_setRow HBr.out Hpc.out #[.int .i64 cm, .string ck, .string cl]
          have hc3 := setRow_heap _ _ _ #[.int .i64 cm, .string ck, .string cl] _ _ hz
          clear hz hN hS
          have hS := SR.out.on hb3
          refine hK.out _ _ hS (fun hHeld => ?_)
          clear hK K
          (try simp only [Act.put])
          refine wpAnyH_take (i := 12) (oi := { dst := some 12, op := Op.assign (Operand.tmp 41), type := 28, pos := _, after := #[{ on := 9, ground := Ground.data }, { on := 11, ground := Ground.chain }, { on := 0, ground := Ground.phase }, { on := 1, ground := Ground.phase }, { on := 2, ground := Ground.phase }, { on := 3, ground := Ground.phase }, { on := 4, ground := Ground.phase }, { on := 5, ground := Ground.phase }, { on := 6, ground := Ground.phase }, { on := 7, ground := Ground.phase }, { on := 8, ground := Ground.phase }, { on := 9, ground := Ground.phase }, { on := 10, ground := Ground.phase }, { on := 11, ground := Ground.phase }], guard := none }) (v := ?_) rfl (by kernel_rfl) (by kernel_rfl) (by kernel_rfl) (fun _ _ _ h => h) (Or.inl ⟨by rfl, ?hy⟩) hHeld ?_
          case hy => intro w0 hSw; (try dsimp only at hSw); go_simp; (try with_reducible rfl)
          (try simp only [Act.put, List.setIfInBounds_toArray, List.set_cons_zero, List.set_cons_succ])
          refine wpAnyH_done (by kernel_rfl) ?_ _
          clear hHeld
          go_wp2_with fail
          go_meet
          exact ⟨pc, rfl, rfl, Lib.hid (hS.add ⟨_, hc3⟩), Lib.hid (below2 HBu.out hb3)⟩
      case rest =>
        obtain ⟨pc, rfl, rfl, S9, HB9⟩ := hcut
        clear KJ SR HBu
        obtain ⟨tb, hbk⟩ := S9.out.live (pb, #[.int .i64 bm, .string bk, .string bl]) (by simp)
        have Hbk := Lib.hid hbk
        clear hbk
        have HF1 := Lib.hid (S4.out.fact 1 rfl)
        have Hpu : Hid (w4.heap.size ≤ pb) := Lib.hid (Nat.le_of_eq Hpb.out.symm)
        have hcases : (he = 0) ∨ (he ≠ 0 ∧ g = 0) ∨ (he ≠ 0 ∧ g ≠ 0) := by
          by_cases h1 : he = 0
          · exact Or.inl h1
          · by_cases h2 : g = 0
            · exact Or.inr (Or.inl ⟨h1, h2⟩)
            · exact Or.inr (Or.inr ⟨h1, h2⟩)
        rcases hcases with h1 | ⟨h1, h2⟩ | ⟨h1, h2⟩
        · subst h1
          have HgE : Hid (G (j + 1) = g) := Lib.hid (by rw [HgG.out, if_neg (fun hh => hh.1 rfl)])
          clear HgG
          go_wp2_with (first
            | (refine wpList_load_st rfl 23 _ rfl S9.out 0 _ _ rfl rfl _ Try.underlying23 rfl (by rfl) ?_)
            | (refine wpList_store_row rfl 23 _ _ rfl pb #[.int .i64 cm, .string ck, .string cl] rfl rfl tb #[.int .i64 bm, .string bk, .string bl] Hbk.out (by rfl) rfl (fil_one3 _ _ _) ?_
               have HBs := Lib.hid (below_setRow HB9.out Hpu.out #[.int .i64 cm, .string ck, .string cl])
               have HPs := Lib.hid (setRow_heap _ _ _ #[.int .i64 cm, .string ck, .string cl] _ _ Hbk.out)
               obtain ⟨w10, hw10⟩ : ∃ x, x = wc.setRow pb #[.int .i64 cm, .string ck, .string cl] := ⟨_, rfl⟩
               rw [← hw10] at HBs HPs ⊢
               clear hw10
               have hc14 := Hc.out w10 (HF1.out.1.below HBs.out HF1.out.2)
               have hcat := Hcat.out))
          go_roundw
          case rel =>
            refine ⟨j + 1, Hj1.out, by go_num, by rw [Hzs.out], by rw [HgE.out], HBs, Lib.hid ⟨tb, ?_⟩⟩
            rw [← HBj2.out]; exact HPs.out
          case measure => simp [intOf]; omega
        · subst h2
          have HgE : Hid (G (j + 1) = he) := Lib.hid (by rw [HgG.out, if_pos ⟨h1, rfl⟩])
          have j1 : (he != 0) = true := by simpa using h1
          clear h1
          clear HgG
          go_wp2_with (first
            | (refine wpList_load_st rfl 23 _ rfl S9.out 0 _ _ rfl rfl _ Try.underlying23 rfl (by rfl) ?_)
            | (refine wpList_store_row rfl 23 _ _ rfl pb #[.int .i64 cm, .string ck, .string cl] rfl rfl tb #[.int .i64 bm, .string bk, .string bl] Hbk.out (by rfl) rfl (fil_one3 _ _ _) ?_
               have HBs := Lib.hid (below_setRow HB9.out Hpu.out #[.int .i64 cm, .string ck, .string cl])
               have HPs := Lib.hid (setRow_heap _ _ _ #[.int .i64 cm, .string ck, .string cl] _ _ Hbk.out)
               obtain ⟨w10, hw10⟩ : ∃ x, x = wc.setRow pb #[.int .i64 cm, .string ck, .string cl] := ⟨_, rfl⟩
               rw [← hw10] at HBs HPs ⊢
               clear hw10
               have hc14 := Hc.out w10 (HF1.out.1.below HBs.out HF1.out.2)
               have hcat := Hcat.out))
          go_roundw
          case rel =>
            refine ⟨j + 1, Hj1.out, by go_num, by rw [Hzs.out], by rw [HgE.out], HBs, Lib.hid ⟨tb, ?_⟩⟩
            rw [← HBj2.out]; exact HPs.out
          case measure => simp [intOf]; omega
        · have HgE : Hid (G (j + 1) = g) := Lib.hid (by rw [HgG.out, if_neg (fun hh => h2 hh.2)])
          have j1 : (he != 0) = true := by simpa using h1
          have j2 : (g == 0) = false := by simpa using h2
          clear h1 h2
          clear HgG
          go_wp2_with (first
            | (refine wpList_load_st rfl 23 _ rfl S9.out 0 _ _ rfl rfl _ Try.underlying23 rfl (by rfl) ?_)
            | (refine wpList_store_row rfl 23 _ _ rfl pb #[.int .i64 cm, .string ck, .string cl] rfl rfl tb #[.int .i64 bm, .string bk, .string bl] Hbk.out (by rfl) rfl (fil_one3 _ _ _) ?_
               have HBs := Lib.hid (below_setRow HB9.out Hpu.out #[.int .i64 cm, .string ck, .string cl])
               have HPs := Lib.hid (setRow_heap _ _ _ #[.int .i64 cm, .string ck, .string cl] _ _ Hbk.out)
               obtain ⟨w10, hw10⟩ : ∃ x, x = wc.setRow pb #[.int .i64 cm, .string ck, .string cl] := ⟨_, rfl⟩
               rw [← hw10] at HBs HPs ⊢
               clear hw10
               have hc14 := Hc.out w10 (HF1.out.1.below HBs.out HF1.out.2)
               have hcat := Hcat.out))
          go_roundw
          case rel =>
            refine ⟨j + 1, Hj1.out, by go_num, by rw [Hzs.out], by rw [HgE.out], HBs, Lib.hid ⟨tb, ?_⟩⟩
            rw [← HBj2.out]; exact HPs.out
          case measure => simp [intOf]; omega
    · obtain rfl : j = N := by omega
      obtain ⟨⟨bm, bk, bl⟩, hBj⟩ : ∃ X, X = B j := ⟨_, rfl⟩
      rw [← hBj] at HP
      have SR := Lib.hid ((S4.out.on HBu.out).add (k := pb) (cs := #[.int .i64 bm, .string bk, .string bl]) HP.out)
      have htk : ss.take j = ss := by rw [HN.out, List.take_length]
      rw [htk]
      clear HP KL HG htk HN HBu
      have hBN2 := hBj.trans hBN
      cases hBN2
      rw [hgN, hzN]
      clear hBj hgN hBN hzN
      go_wp2_with fail
      have hS : St w wr.drew [(pb, #[.int .i64 m, .string k, .string y]), (pa, #[.int .i64 m, .string k, .string y]), (p0, #[.int .i64 m, .string k, .string l])] [eFi HS, strsF12 A p0 ss] := SR.out.drew
      clear SR
      refine wp_region_held_drew (S := (fun W : World => St w W [(pb, #[.int .i64 m, .string k, .string y]), (pa, #[.int .i64 m, .string k, .string y]), (p0, #[.int .i64 m, .string k, .string l])] [eFi HS, strsF12 A p0 ss])) (by kernel_rfl) hS (fun hHeld => ?_)
      refine wpAnyH_ready (rs := [0]) (by kernel_rfl) (by simp) ?_
      refine AllReadyH.cons (o := { dst := some 73, op := Op.call { callee := Callee.value (Operand.func 21), args := #[], argTypes := #[] }, type := 4, pos := _, after := #[], guard := none }) rfl (fun K hK => ?_) AllReadyH.nil
      go_simp
      refine (HC.out _ (hS.fact 0 rfl)).mono ?_
      rintro e y1 ⟨rfl, hB'⟩
      replace hS := hS.on hB'
      clear hB'
      go_wp2_with fail
      refine hK.out _ _ hS (fun hHeld => ?_)
      clear hK K
      (try simp only [Act.put, List.setIfInBounds_toArray, List.set_cons_zero, List.set_cons_succ])
      refine wpAnyH_take (i := 1) (oi := { dst := some 74, op := Op.move (Operand.tmp 73), type := 4, pos := _, after := #[{ on := 0, ground := Ground.data }, { on := 0, ground := Ground.chain }], guard := none }) (v := ?_) rfl (by kernel_rfl) (by kernel_rfl) (by kernel_rfl) (fun _ _ _ h => h) (Or.inl ⟨by rfl, ?hy⟩) hHeld ?_
      case hy => intro w0 hSw; (try dsimp only at hSw); go_simp; (try with_reducible rfl)
      (try simp only [Act.put, List.setIfInBounds_toArray, List.set_cons_zero, List.set_cons_succ])
      refine wpAnyH_take (i := 2) (oi := { dst := some 75, op := Op.move (Operand.tmp 9), type := 28, pos := _, after := #[{ on := 1, ground := Ground.guard }], guard := some (1, true) }) (v := ?_) rfl (by kernel_rfl) (by kernel_rfl) (by kernel_rfl) (fun _ _ _ h => h) (Or.inl ⟨by rfl, ?hy⟩) hHeld ?_
      case hy => intro w0 hSw; (try dsimp only at hSw); go_simp; (try with_reducible rfl)
      (try simp only [Act.put, List.setIfInBounds_toArray, List.set_cons_zero, List.set_cons_succ])
      refine wpAnyH_take (i := 3) (oi := { dst := some 76, op := Op.binOp BinOp.eql 28 (Operand.tmp 75) (Operand.const (Value.int IntKind.i64 0)) 28, type := 4, pos := _, after := #[{ on := 2, ground := Ground.data }, { on := 1, ground := Ground.guard }], guard := some (1, true) }) (v := ?_) rfl (by kernel_rfl) (by kernel_rfl) (by kernel_rfl) (fun _ _ _ h => h) (Or.inl ⟨by rfl, ?hy⟩) hHeld ?_
      case hy => intro w0 hSw; (try dsimp only at hSw); go_simp; (try with_reducible rfl)
      (try simp only [Act.put, List.setIfInBounds_toArray, List.set_cons_zero, List.set_cons_succ])
      refine wpAnyH_take (i := 4) (oi := { dst := some 77, op := Op.pick (Operand.tmp 74) (Operand.tmp 76) (Operand.const (Value.bool false)), type := 4, pos := _, after := #[{ on := 1, ground := Ground.data }, { on := 3, ground := Ground.data }], guard := none }) (v := ?_) rfl (by kernel_rfl) (by kernel_rfl) (by kernel_rfl) (fun _ _ _ h => h) (Or.inl ⟨by rfl, ?hy⟩) hHeld ?_
      case hy => intro w0 hSw; (try dsimp only at hSw); go_simp; (try with_reducible rfl)
      (try simp only [Act.put, List.setIfInBounds_toArray, List.set_cons_zero, List.set_cons_succ])
      refine wpAnyH_take (i := 5) (oi := { dst := some 78, op := Op.move (Operand.tmp 77), type := 4, pos := _, after := #[{ on := 4, ground := Ground.data }, { on := 1, ground := Ground.chain }], guard := none }) (v := ?_) rfl (by kernel_rfl) (by kernel_rfl) (by kernel_rfl) (fun _ _ _ h => h) (Or.inl ⟨by rfl, ?hy⟩) hHeld ?_
      case hy => intro w0 hSw; (try dsimp only at hSw); go_simp; (try with_reducible rfl)
      (try simp only [Act.put, List.setIfInBounds_toArray, List.set_cons_zero, List.set_cons_succ])
      refine wpAnyH_take (i := 6) (oi := { dst := some 79, op := Op.load 23 (Operand.tmp 5), type := 23, pos := _, after := #[{ on := 5, ground := Ground.guard }], guard := some (5, true) }) (v := ?_) rfl (by kernel_rfl) (by kernel_rfl) (by kernel_rfl) (fun _ _ _ h => h) (Or.inl ⟨by rfl, ?hy⟩) hHeld ?_
      case hy => intro w0 hSw; have d0 := hSw.cell 1 rfl 0 rfl; have d1 := hSw.cell 1 rfl 1 rfl; have d2 := hSw.cell 1 rfl 2 rfl; clear hSw; go_simp; (try with_reducible rfl)
      (try simp only [Act.put, List.setIfInBounds_toArray, List.set_cons_zero, List.set_cons_succ])
      refine wpAnyH_take (i := 8) (oi := { dst := some 81, op := Op.load 23 (Operand.tmp 2), type := 23, pos := _, after := #[{ on := 5, ground := Ground.guard }], guard := some (5, true) }) (v := ?_) rfl (by kernel_rfl) (by kernel_rfl) (by kernel_rfl) (fun _ _ _ h => h) (Or.inl ⟨by rfl, ?hy⟩) hHeld ?_
      case hy => intro w0 hSw; have d0 := hSw.cell 2 rfl 0 rfl; have d1 := hSw.cell 2 rfl 1 rfl; have d2 := hSw.cell 2 rfl 2 rfl; clear hSw; go_simp; (try with_reducible rfl)
      (try simp only [Act.put, List.setIfInBounds_toArray, List.set_cons_zero, List.set_cons_succ])
      refine wpAnyH_take (i := 10) (oi := { dst := some 83, op := Op.move (Operand.tmp 8), type := 9, pos := _, after := #[{ on := 5, ground := Ground.guard }], guard := some (5, true) }) (v := ?_) rfl (by kernel_rfl) (by kernel_rfl) (by kernel_rfl) (fun _ _ _ h => h) (Or.inl ⟨by rfl, ?hy⟩) hHeld ?_
      case hy => intro w0 hSw; (try dsimp only at hSw); go_simp; (try with_reducible rfl)
      (try simp only [Act.put, List.setIfInBounds_toArray, List.set_cons_zero, List.set_cons_succ])
      refine wpAnyH_ready (rs := [7]) (by kernel_rfl) (by simp) ?_
      refine AllReadyH.cons (o := { dst := some 80, op := Op.call { callee := Callee.value (Operand.func 24), args := #[Operand.tmp 79], argTypes := #[23] }, type := 9, pos := _, after := #[{ on := 6, ground := Ground.data }, { on := 5, ground := Ground.chain }, { on := 5, ground := Ground.guard }], guard := some (5, true) }) rfl (fun K hK => ?_) AllReadyH.nil
      go_simp
      refine (KR _ (hS.fact 0 rfl)).out.mono ?_
      rintro e y2 ⟨rfl, hB'⟩
      replace hS := hS.on hB'
      clear hB'
      go_wp2_with fail
      refine hK.out _ _ hS (fun hHeld => ?_)
      clear hK K
      (try simp only [Act.put, List.setIfInBounds_toArray, List.set_cons_zero, List.set_cons_succ])
      refine wpAnyH_ready (rs := [9]) (by kernel_rfl) (by simp) ?_
      refine AllReadyH.cons (o := { dst := some 82, op := Op.call { callee := Callee.value (Operand.func 24), args := #[Operand.tmp 81], argTypes := #[23] }, type := 9, pos := _, after := #[{ on := 8, ground := Ground.data }, { on := 7, ground := Ground.chain }, { on := 5, ground := Ground.guard }], guard := some (5, true) }) rfl (fun K hK => ?_) AllReadyH.nil
      go_simp
      refine (KF _ (hS.fact 0 rfl)).out.mono ?_
      rintro e y3 ⟨rfl, hB'⟩
      replace hS := hS.on hB'
      clear hB'
      go_wp2_with fail
      refine hK.out _ _ hS (fun hHeld => ?_)
      clear hK K
      (try simp only [Act.put, List.setIfInBounds_toArray, List.set_cons_zero, List.set_cons_succ])
      refine wpAnyH_take (i := 11) (oi := { dst := some 84, op := Op.binOp BinOp.add 9 (Operand.tmp 82) (Operand.tmp 83) 9, type := 9, pos := _, after := #[{ on := 9, ground := Ground.data }, { on := 10, ground := Ground.data }, { on := 5, ground := Ground.guard }], guard := some (5, true) }) (v := ?_) rfl (by kernel_rfl) (by kernel_rfl) (by kernel_rfl) (fun _ _ _ h => h) (Or.inl ⟨by rfl, ?hy⟩) hHeld ?_
      case hy => intro w0 hSw; (try dsimp only at hSw); have hcat := Hcz.out; go_simp; (try with_reducible rfl)
      (try simp only [Act.put, List.setIfInBounds_toArray, List.set_cons_zero, List.set_cons_succ])
      refine wpAnyH_take (i := 12) (oi := { dst := some 85, op := Op.binOp BinOp.eql 9 (Operand.tmp 80) (Operand.tmp 84) 9, type := 4, pos := _, after := #[{ on := 7, ground := Ground.data }, { on := 11, ground := Ground.data }, { on := 5, ground := Ground.guard }], guard := some (5, true) }) (v := ?_) rfl (by kernel_rfl) (by kernel_rfl) (by kernel_rfl) (fun _ _ _ h => h) (Or.inl ⟨by rfl, ?hy⟩) hHeld ?_
      case hy => intro w0 hSw; (try dsimp only at hSw); go_simp; (try with_reducible rfl)
      (try simp only [Act.put, List.setIfInBounds_toArray, List.set_cons_zero, List.set_cons_succ])
      refine wpAnyH_take (i := 13) (oi := { dst := some 86, op := Op.pick (Operand.tmp 78) (Operand.tmp 85) (Operand.const (Value.bool false)), type := 4, pos := _, after := #[{ on := 5, ground := Ground.data }, { on := 12, ground := Ground.data }], guard := none }) (v := ?_) rfl (by kernel_rfl) (by kernel_rfl) (by kernel_rfl) (fun _ _ _ h => h) (Or.inl ⟨by rfl, ?hy⟩) hHeld ?_
      case hy => intro w0 hSw; (try dsimp only at hSw); go_simp; (try with_reducible rfl)
      (try simp only [Act.put, List.setIfInBounds_toArray, List.set_cons_zero, List.set_cons_succ])
      refine wpAnyH_take (i := 14) (oi := { dst := some 87, op := Op.move (Operand.tmp 86), type := 4, pos := _, after := #[{ on := 13, ground := Ground.data }, { on := 9, ground := Ground.chain }], guard := none }) (v := ?_) rfl (by kernel_rfl) (by kernel_rfl) (by kernel_rfl) (fun _ _ _ h => h) (Or.inl ⟨by rfl, ?hy⟩) hHeld ?_
      case hy => intro w0 hSw; (try dsimp only at hSw); go_simp; (try with_reducible rfl)
      (try simp only [Act.put, List.setIfInBounds_toArray, List.set_cons_zero, List.set_cons_succ])
      refine wpAnyH_take (i := 15) (oi := { dst := some 88, op := Op.move (Operand.tmp 1), type := 24, pos := _, after := #[{ on := 14, ground := Ground.guard }], guard := some (14, true) }) (v := ?_) rfl (by kernel_rfl) (by kernel_rfl) (by kernel_rfl) (fun _ _ _ h => h) (Or.inl ⟨by rfl, ?hy⟩) hHeld ?_
      case hy => intro w0 hSw; (try dsimp only at hSw); go_simp; (try with_reducible rfl)
      (try simp only [Act.put, List.setIfInBounds_toArray, List.set_cons_zero, List.set_cons_succ])
      refine wpAnyH_take (i := 16) (oi := { dst := some 89, op := Op.call { callee := Callee.builtin Builtin.len, args := #[Operand.tmp 88], argTypes := #[24] }, type := 3, pos := _, after := #[{ on := 15, ground := Ground.data }, { on := 14, ground := Ground.guard }], guard := some (14, true) }) (v := ?_) rfl (by kernel_rfl) (by kernel_rfl) (by kernel_rfl) (fun _ _ _ h => h) (Or.inl ⟨by rfl, ?hy⟩) hHeld ?_
      case hy => intro w0 hSw; (try dsimp only at hSw); go_simp; (try with_reducible rfl)
      (try simp only [Act.put, List.setIfInBounds_toArray, List.set_cons_zero, List.set_cons_succ])
      refine wpAnyH_take (i := 17) (oi := { dst := some 90, op := Op.binOp BinOp.eql 3 (Operand.tmp 89) (Operand.const (Value.int IntKind.i64 0)) 3, type := 4, pos := _, after := #[{ on := 16, ground := Ground.data }, { on := 14, ground := Ground.guard }], guard := some (14, true) }) (v := ?_) rfl (by kernel_rfl) (by kernel_rfl) (by kernel_rfl) (fun _ _ _ h => h) (Or.inl ⟨by rfl, ?hy⟩) hHeld ?_
      case hy => intro w0 hSw; clear hSw; go_simp; (try simp only [jN]); (try with_reducible rfl)
      (try simp only [Act.put, List.setIfInBounds_toArray, List.set_cons_zero, List.set_cons_succ])
      refine wpAnyH_take (i := 18) (oi := { dst := some 91, op := Op.move (Operand.tmp 90), type := 4, pos := _, after := #[{ on := 17, ground := Ground.data }, { on := 14, ground := Ground.chain }, { on := 14, ground := Ground.guard }], guard := some (14, true) }) (v := ?_) rfl (by kernel_rfl) (by kernel_rfl) (by kernel_rfl) (fun _ _ _ h => h) (Or.inl ⟨by rfl, ?hy⟩) hHeld ?_
      case hy => intro w0 hSw; (try dsimp only at hSw); go_simp; (try with_reducible rfl)
      (try simp only [Act.put, List.setIfInBounds_toArray, List.set_cons_zero, List.set_cons_succ])
      refine wpAnyH_take (i := 19) (oi := { dst := some 92, op := Op.load 23 (Operand.tmp 5), type := 23, pos := _, after := #[{ on := 18, ground := Ground.guard }], guard := some (18, false) }) (v := undef) rfl (by kernel_rfl) (by kernel_rfl) (by kernel_rfl) (fun _ _ _ h => h) (Or.inr ⟨by rfl, rfl⟩) hHeld ?_
      (try simp only [Act.put, List.setIfInBounds_toArray, List.set_cons_zero, List.set_cons_succ])
      refine wpAnyH_take (i := 20) (oi := { dst := some 93, op := Op.load 23 (Operand.tmp 7), type := 23, pos := _, after := #[{ on := 18, ground := Ground.guard }], guard := some (18, false) }) (v := undef) rfl (by kernel_rfl) (by kernel_rfl) (by kernel_rfl) (fun _ _ _ h => h) (Or.inr ⟨by rfl, rfl⟩) hHeld ?_
      (try simp only [Act.put, List.setIfInBounds_toArray, List.set_cons_zero, List.set_cons_succ])
      refine wpAnyH_take (i := 21) (oi := { dst := some 94, op := Op.binOp BinOp.eql 23 (Operand.tmp 92) (Operand.tmp 93) 23, type := 4, pos := _, after := #[{ on := 19, ground := Ground.data }, { on := 20, ground := Ground.data }, { on := 18, ground := Ground.guard }], guard := some (18, false) }) (v := undef) rfl (by kernel_rfl) (by kernel_rfl) (by kernel_rfl) (fun _ _ _ h => h) (Or.inr ⟨by rfl, rfl⟩) hHeld ?_
      (try simp only [Act.put, List.setIfInBounds_toArray, List.set_cons_zero, List.set_cons_succ])
      refine wpAnyH_take (i := 22) (oi := { dst := some 95, op := Op.pick (Operand.tmp 91) (Operand.const (Value.bool true)) (Operand.tmp 94), type := 4, pos := _, after := #[{ on := 18, ground := Ground.data }, { on := 21, ground := Ground.data }, { on := 14, ground := Ground.guard }], guard := some (14, true) }) (v := ?_) rfl (by kernel_rfl) (by kernel_rfl) (by kernel_rfl) (fun _ _ _ h => h) (Or.inl ⟨by rfl, ?hy⟩) hHeld ?_
      case hy => intro w0 hSw; (try dsimp only at hSw); go_simp; (try with_reducible rfl)
      (try simp only [Act.put, List.setIfInBounds_toArray, List.set_cons_zero, List.set_cons_succ])
      refine wpAnyH_take (i := 23) (oi := { dst := some 96, op := Op.pick (Operand.tmp 87) (Operand.tmp 95) (Operand.const (Value.bool false)), type := 4, pos := _, after := #[{ on := 14, ground := Ground.data }, { on := 22, ground := Ground.data }], guard := none }) (v := ?_) rfl (by kernel_rfl) (by kernel_rfl) (by kernel_rfl) (fun _ _ _ h => h) (Or.inl ⟨by rfl, ?hy⟩) hHeld ?_
      case hy => intro w0 hSw; (try dsimp only at hSw); go_simp; (try with_reducible rfl)
      (try simp only [Act.put, List.setIfInBounds_toArray, List.set_cons_zero, List.set_cons_succ])
      refine wpAnyH_take (i := 24) (oi := { dst := some 97, op := Op.move (Operand.tmp 96), type := 4, pos := _, after := #[{ on := 23, ground := Ground.data }, { on := 18, ground := Ground.chain }], guard := none }) (v := ?_) rfl (by kernel_rfl) (by kernel_rfl) (by kernel_rfl) (fun _ _ _ h => h) (Or.inl ⟨by rfl, ?hy⟩) hHeld ?_
      case hy => intro w0 hSw; (try dsimp only at hSw); go_simp; (try with_reducible rfl)
      (try simp only [Act.put, List.setIfInBounds_toArray, List.set_cons_zero, List.set_cons_succ])
      refine wpAnyH_take (i := 25) (oi := { dst := some 98, op := Op.fieldAddr 23 (Operand.tmp 5) 1, type := 0, pos := _, after := #[{ on := 24, ground := Ground.guard }], guard := some (24, true) }) (v := ?_) rfl (by kernel_rfl) (by kernel_rfl) (by kernel_rfl) (fun _ _ _ h => h) (Or.inl ⟨by rfl, ?hy⟩) hHeld ?_
      case hy => intro w0 hSw; (try dsimp only at hSw); go_simp; (try with_reducible rfl)
      (try simp only [Act.put, List.setIfInBounds_toArray, List.set_cons_zero, List.set_cons_succ])
      refine wpAnyH_take (i := 26) (oi := { dst := some 99, op := Op.load 9 (Operand.tmp 98), type := 9, pos := _, after := #[{ on := 25, ground := Ground.data }, { on := 24, ground := Ground.guard }], guard := some (24, true) }) (v := ?_) rfl (by kernel_rfl) (by kernel_rfl) (by kernel_rfl) (fun _ _ _ h => h) (Or.inl ⟨by rfl, ?hy⟩) hHeld ?_
      case hy => intro w0 hSw; have d0 := hSw.cell 1 rfl 0 rfl; have d1 := hSw.cell 1 rfl 1 rfl; have d2 := hSw.cell 1 rfl 2 rfl; clear hSw; go_simp; (try with_reducible rfl)
      (try simp only [Act.put, List.setIfInBounds_toArray, List.set_cons_zero, List.set_cons_succ])
      refine wpAnyH_take (i := 27) (oi := { dst := some 100, op := Op.fieldAddr 23 (Operand.tmp 2) 1, type := 0, pos := _, after := #[{ on := 24, ground := Ground.guard }], guard := some (24, true) }) (v := ?_) rfl (by kernel_rfl) (by kernel_rfl) (by kernel_rfl) (fun _ _ _ h => h) (Or.inl ⟨by rfl, ?hy⟩) hHeld ?_
      case hy => intro w0 hSw; (try dsimp only at hSw); go_simp; (try with_reducible rfl)
      (try simp only [Act.put, List.setIfInBounds_toArray, List.set_cons_zero, List.set_cons_succ])
      refine wpAnyH_take (i := 28) (oi := { dst := some 101, op := Op.load 9 (Operand.tmp 100), type := 9, pos := _, after := #[{ on := 27, ground := Ground.data }, { on := 24, ground := Ground.guard }], guard := some (24, true) }) (v := ?_) rfl (by kernel_rfl) (by kernel_rfl) (by kernel_rfl) (fun _ _ _ h => h) (Or.inl ⟨by rfl, ?hy⟩) hHeld ?_
      case hy => intro w0 hSw; have d0 := hSw.cell 2 rfl 0 rfl; have d1 := hSw.cell 2 rfl 1 rfl; have d2 := hSw.cell 2 rfl 2 rfl; clear hSw; go_simp; (try with_reducible rfl)
      (try simp only [Act.put, List.setIfInBounds_toArray, List.set_cons_zero, List.set_cons_succ])
      refine wpAnyH_take (i := 29) (oi := { dst := some 102, op := Op.binOp BinOp.eql 9 (Operand.tmp 99) (Operand.tmp 101) 9, type := 4, pos := _, after := #[{ on := 26, ground := Ground.data }, { on := 28, ground := Ground.data }, { on := 24, ground := Ground.guard }], guard := some (24, true) }) (v := ?_) rfl (by kernel_rfl) (by kernel_rfl) (by kernel_rfl) (fun _ _ _ h => h) (Or.inl ⟨by rfl, ?hy⟩) hHeld ?_
      case hy => intro w0 hSw; (try dsimp only at hSw); go_simp; (try with_reducible rfl)
      (try simp only [Act.put, List.setIfInBounds_toArray, List.set_cons_zero, List.set_cons_succ])
      refine wpAnyH_take (i := 30) (oi := { dst := some 103, op := Op.pick (Operand.tmp 97) (Operand.tmp 102) (Operand.const (Value.bool false)), type := 4, pos := _, after := #[{ on := 24, ground := Ground.data }, { on := 29, ground := Ground.data }], guard := none }) (v := ?_) rfl (by kernel_rfl) (by kernel_rfl) (by kernel_rfl) (fun _ _ _ h => h) (Or.inl ⟨by rfl, ?hy⟩) hHeld ?_
      case hy => intro w0 hSw; (try dsimp only at hSw); go_simp; (try with_reducible rfl)
      (try simp only [Act.put, List.setIfInBounds_toArray, List.set_cons_zero, List.set_cons_succ])
      refine wpAnyH_take (i := 31) (oi := { dst := some 104, op := Op.move (Operand.tmp 103), type := 4, pos := _, after := #[{ on := 30, ground := Ground.data }, { on := 24, ground := Ground.chain }], guard := none }) (v := ?_) rfl (by kernel_rfl) (by kernel_rfl) (by kernel_rfl) (fun _ _ _ h => h) (Or.inl ⟨by rfl, ?hy⟩) hHeld ?_
      case hy => intro w0 hSw; (try dsimp only at hSw); go_simp; (try with_reducible rfl)
      (try simp only [Act.put, List.setIfInBounds_toArray, List.set_cons_zero, List.set_cons_succ])
      refine wpAnyH_take (i := 32) (oi := { dst := some 105, op := Op.load 23 (Operand.tmp 5), type := 23, pos := _, after := #[{ on := 31, ground := Ground.guard }], guard := some (31, true) }) (v := ?_) rfl (by kernel_rfl) (by kernel_rfl) (by kernel_rfl) (fun _ _ _ h => h) (Or.inl ⟨by rfl, ?hy⟩) hHeld ?_
      case hy => intro w0 hSw; have d0 := hSw.cell 1 rfl 0 rfl; have d1 := hSw.cell 1 rfl 1 rfl; have d2 := hSw.cell 1 rfl 2 rfl; clear hSw; go_simp; (try with_reducible rfl)
      (try simp only [Act.put, List.setIfInBounds_toArray, List.set_cons_zero, List.set_cons_succ])
      refine wpAnyH_ready (rs := [33]) (by kernel_rfl) (by simp) ?_
      refine AllReadyH.cons (o := { dst := some 106, op := Op.call { callee := Callee.value (Operand.func 22), args := #[Operand.tmp 105], argTypes := #[23] }, type := 4, pos := _, after := #[{ on := 32, ground := Ground.data }, { on := 31, ground := Ground.chain }, { on := 31, ground := Ground.guard }], guard := some (31, true) }) rfl (fun K hK => ?_) AllReadyH.nil
      go_simp
      refine (KI _ (hS.fact 0 rfl)).out.mono ?_
      rintro e y4 ⟨rfl, hB'⟩
      replace hS := hS.on hB'
      clear hB'
      go_wp2_with fail
      refine hK.out _ _ hS (fun hHeld => ?_)
      clear hK K
      (try simp only [Act.put, List.setIfInBounds_toArray, List.set_cons_zero, List.set_cons_succ])
      refine wpAnyH_take (i := 34) (oi := { dst := some 107, op := Op.pick (Operand.tmp 104) (Operand.tmp 106) (Operand.const (Value.bool false)), type := 4, pos := _, after := #[{ on := 31, ground := Ground.data }, { on := 33, ground := Ground.data }], guard := none }) (v := ?_) rfl (by kernel_rfl) (by kernel_rfl) (by kernel_rfl) (fun _ _ _ h => h) (Or.inl ⟨by rfl, ?hy⟩) hHeld ?_
      case hy => intro w0 hSw; (try dsimp only at hSw); go_simp; (try with_reducible rfl)
      (try simp only [Act.put, List.setIfInBounds_toArray, List.set_cons_zero, List.set_cons_succ])
      refine wpAnyH_take (i := 35) (oi := { dst := some 4, op := Op.assign (Operand.tmp 107), type := 4, pos := _, after := #[{ on := 34, ground := Ground.data }, { on := 33, ground := Ground.chain }, { on := 0, ground := Ground.phase }, { on := 1, ground := Ground.phase }, { on := 2, ground := Ground.phase }, { on := 3, ground := Ground.phase }, { on := 4, ground := Ground.phase }, { on := 5, ground := Ground.phase }, { on := 6, ground := Ground.phase }, { on := 7, ground := Ground.phase }, { on := 8, ground := Ground.phase }, { on := 9, ground := Ground.phase }, { on := 10, ground := Ground.phase }, { on := 11, ground := Ground.phase }, { on := 12, ground := Ground.phase }, { on := 13, ground := Ground.phase }, { on := 14, ground := Ground.phase }, { on := 15, ground := Ground.phase }, { on := 16, ground := Ground.phase }, { on := 17, ground := Ground.phase }, { on := 18, ground := Ground.phase }, { on := 19, ground := Ground.phase }, { on := 20, ground := Ground.phase }, { on := 21, ground := Ground.phase }, { on := 22, ground := Ground.phase }, { on := 23, ground := Ground.phase }, { on := 24, ground := Ground.phase }, { on := 25, ground := Ground.phase }, { on := 26, ground := Ground.phase }, { on := 27, ground := Ground.phase }, { on := 28, ground := Ground.phase }, { on := 29, ground := Ground.phase }, { on := 30, ground := Ground.phase }, { on := 31, ground := Ground.phase }, { on := 32, ground := Ground.phase }, { on := 33, ground := Ground.phase }, { on := 34, ground := Ground.phase }], guard := none }) (v := ?_) rfl (by kernel_rfl) (by kernel_rfl) (by kernel_rfl) (fun _ _ _ h => h) (Or.inl ⟨by rfl, ?hy⟩) hHeld ?_
      case hy => intro w0 hSw; (try dsimp only at hSw); go_simp; (try with_reducible rfl)
      (try simp only [Act.put, List.setIfInBounds_toArray, List.set_cons_zero, List.set_cons_succ])
      refine wpAnyH_done (by kernel_rfl) ?_ _
      clear hHeld
      have HSe := Lib.hid hS
      clear hS
      go_wp2
      go_ret
      exact ⟨rfl, HSe.out.below⟩

set_option maxHeartbeats 4000000 in
theorem fileAdds_ok1 {E : World → Prop} (HS : Hid (FileK E)) (HC : Hid (FiledK E)) (m : Int) (k l : ByteArray) (A : Option Addr) (N cap : Nat) (ss : List ByteArray) (w : World) (hE : E w) (hb : decide (2000 < k.size ∨ 2000 < l.size) = false) (hA : StrsAt w w.heap.size A ss) (hN : N = ss.length) (hN60 : N ≤ 60) (hz : ∀ s ∈ ss, s.size ≤ 300) (y r z : ByteArray) (jN : ((N : Int) == 0) = false)
    (B : Nat → Fil) (G H : Nat → Int) (hB0 : B 0 = ⟨m, k, l⟩) (hG0 : G 0 = 0) (hG : ∀ j, j < N → G (j + 1) = if H j ≠ 0 ∧ G j = 0 then H j else G j) (hgN : G N = 0) (hBN : B N = ⟨m, k, y⟩) (hzN : Fi.all ss = z) (Hcz : Hid (¬ 9223372036854775807 < r.size + z.size))
    (KA : ∀ (W : World) (_h : E W) (_hA : StrsAt W W.heap.size A ss), Hid (Calls Try.prog 11 #[.agg #[.int .i64 m, .string k, .string l], .slice A N cap] W fun e w' => e = .returned (.tuple #[.agg #[.int .i64 m, .string k, .string y], .int .i64 0]) ∧ Below W.heap.size W w'))
    (KL : ∀ (j : Nat) (_hj : j < N) (s : ByteArray) (_hs : ss[j]? = some s) (W : World) (A1 : Addr) (_h : E W) (_hA : StrsAt W W.heap.size (some A1) [s]), Hid (Calls Try.prog 11 #[.agg (filV (B j)), .slice (some A1) 1 1] W fun e w' => e = .returned (.tuple #[.agg (filV (B (j + 1))), .int .i64 (H j)]) ∧ Below W.heap.size W w'))
    (pf : ∀ (W : World) (_hA : StrsAt W W.heap.size A ss), Hid (Calls Try.prog 9 #[.slice A N cap] W fun e w' => e = .returned (.bool false) ∧ Below W.heap.size W w'))
    (KR : ∀ (W : World) (_h : E W), Hid (Calls Try.prog 24 #[.agg #[.int .i64 m, .string k, .string y]] W fun e w' => e = .returned (.string (r ++ z)) ∧ Below W.heap.size W w'))
    (KF : ∀ (W : World) (_h : E W), Hid (Calls Try.prog 24 #[.agg #[.int .i64 m, .string k, .string l]] W fun e w' => e = .returned (.string r) ∧ Below W.heap.size W w'))
    (KI : ∀ (W : World) (_h : E W), Hid (Calls Try.prog 22 #[.agg #[.int .i64 m, .string k, .string y]] W fun e w' => e = .returned (.bool true) ∧ Below W.heap.size W w')) :
    Calls Try.prog 4 #[.agg #[.int .i64 m, .string k, .string l], .slice A N cap] w fun e w' => e = .returned (.bool true) ∧ Below w.heap.size w w' := by
  have p1 := fun W => Lib.hid (FRBig_any m k l W)
  rw [hb] at p1
  have S0 := Lib.hid ((((St.start w).more (strsF12 A w.heap.size ss) ⟨hA, Nat.le_refl _⟩).more (eFi HS) hE).new #[.int .i64 m, .string k, .string l] 23)
  have HN := Lib.hid hN
  have Hz := Lib.hid hz
  have HB0 := Lib.hid hB0
  have HG0 := Lib.hid hG0
  have HG := Lib.hid hG
  clear hb hE hA hN hz hB0 hG0 hG
  go_enter Try.func4, Try.ntmps4
  go_wp2_with (refine wpList_load_st rfl 23 _ rfl S0.out 0 _ _ rfl rfl _ Try.underlying23 rfl (by rfl) ?_)
  refine (p1 _).out.mono ?_
  rintro e w1 ⟨rfl, hB⟩
  have S1 := Lib.hid (S0.out.on hB)
  clear hB S0
  clear p1
  obtain ⟨p0, hp0⟩ : ∃ p, p = w.heap.size := ⟨_, rfl⟩
  rw [← hp0] at S1 ⊢
  clear hp0
  go_wp2_with fail
  refine (pf w1 ((S1.out.fact 1 rfl).1.more (S1.out.fact 1 rfl).2)).out.mono ?_
  rintro e w2 ⟨rfl, hB⟩
  have S2 := Lib.hid (S1.out.on hB)
  clear hB S1
  clear pf
  go_wp2_with (refine wpList_load_st rfl 23 _ rfl S2.out 0 _ _ rfl rfl _ Try.underlying23 rfl (by rfl) ?_)
  refine (KA w2 (S2.out.fact 0 rfl) ((S2.out.fact 1 rfl).1.more (S2.out.fact 1 rfl).2)).out.mono ?_
  rintro e w3 ⟨rfl, hB⟩
  have S3 := Lib.hid (S2.out.on hB)
  clear hB S2
  clear KA
  go_wp2_with (first
    | (refine wpList_store_st rfl 23 _ _ rfl S3.out _ #[.int .i64 m, .string k, .string y] _ rfl rfl (by rfl) rfl (fil_one3 _ _ _) ?_; intro pa w4 hp hS hBn; (try rw [← hp]); have S4 := Lib.hid hS; clear hS hp hBn)
    | (refine wpList_load_st rfl 23 _ rfl S4.out 1 _ _ rfl rfl _ Try.underlying23 rfl (by rfl) ?_)
    | (refine wpList_store_st rfl 23 _ _ rfl S4.out _ #[.int .i64 m, .string k, .string l] _ rfl rfl (by rfl) rfl (fil_one3 _ _ _) ?_; intro pb w5 hp hS hBn; (try rw [← hp]); have S5 := Lib.hid hS; have HB5 := Lib.hid hBn; have Hpb := Lib.hid hp; clear hS hp hBn))
  go_loopw [8, 9, 10] (fun all g i wr => AddsRel w4 pb N ss B G all g i wr) (fun _ _ i _ => N - (intOf i).toNat)
  case atStart =>
    refine ⟨0, Nat.zero_le _, rfl, ?_, ?_, HB5, Lib.hid ?_⟩
    · rw [List.take_zero, Fi.all_nil]
    · rw [HG0.out]
    · rw [HB0.out]; obtain ⟨t, ht⟩ := S5.out.live (pb, #[.int .i64 m, .string k, .string l]) (by simp); exact ⟨t, ht⟩
  case round =>
    obtain ⟨j, hj, rfl, rfl, rfl, HBu, HP⟩ := hrel
    clear HB5 S5 HB0 HG0
    by_cases hlt : j < N
    · obtain ⟨b, off, rfl, hb, hc⟩ := (S4.out.fact 1 rfl).1 j (by rw [← HN.out]; exact hlt)
      clear hb hc
      obtain ⟨⟨bm, bk, bl⟩, hBj⟩ : ∃ X, X = B j := ⟨_, rfl⟩
      obtain ⟨⟨cm, ck, cl⟩, hBj2⟩ : ∃ X, X = B (j + 1) := ⟨_, rfl⟩
      obtain ⟨he, hHj⟩ : ∃ X, X = H j := ⟨_, rfl⟩
      obtain ⟨g, hGj⟩ : ∃ X, X = G j := ⟨_, rfl⟩
      have HgG : Hid (G (j + 1) = if he ≠ 0 ∧ g = 0 then he else g) := by rw [hHj, hGj]; exact Lib.hid (HG.out j hlt)
      have hjl : j < ss.length := by rw [← HN.out]; exact hlt
      obtain ⟨s, hs⟩ : ∃ s, s = ss[j] := ⟨_, rfl⟩
      have hzs : s.size ≤ 300 := by rw [hs]; exact Hz.out _ (List.getElem_mem hjl)
      have KJ := fun W A1 h hA => KL j hlt s (by rw [hs]; exact List.getElem?_eq_getElem hjl) W A1 h hA
      rw [← hBj, ← hBj2, ← hHj] at KJ
      rw [← hBj] at HP
      rw [← hGj]
      obtain ⟨z, hz⟩ : ∃ z, z = Fi.all (ss.take j) := ⟨_, rfl⟩
      have hzz : z.size ≤ 18000 := by rw [hz]; exact Fi.all_small ss (by rw [← HN.out]; exact hN60) Hz.out j
      have hcat : ¬ 9223372036854775807 < z.size + s.size := by omega
      have Hzs : Hid (Fi.all (ss.take (j + 1)) = z ++ s) := Lib.hid (by rw [List.take_succ_eq_append_getElem hjl, Fi.all_snoc, ← hz, ← hs])
      rw [← hz]
      have Hc : Hid (∀ W : World, StrsAt W p0 (some ⟨b, off, none⟩) ss → W.cell? ⟨b, off + j, none⟩ = some (.string s)) := Lib.hid (fun W h => by rw [hs]; exact h.at12 j hjl)
      have HBj2 := Lib.hid hBj2
      have Hcat := Lib.hid hcat
      have Hj1 : Hid (j + 1 ≤ N) := Lib.hid hlt
      clear hBj hBj2 hHj hGj hs hz hzs hzz hjl KL Hz HN hcat hj HG
      have SR := Lib.hid ((S4.out.on HBu.out).add (k := pb) (cs := #[.int .i64 bm, .string bk, .string bl]) HP.out)
      clear HP
      go_wp2_with fail
      go_cut [11, 12] (fun pv hv wx => ∃ pc, pv = .pointer (some ⟨pc, 0, none⟩) ∧ hv = .int .i64 he ∧ Hid (St w wx ((pc, #[.int .i64 cm, .string ck, .string cl]) :: [(pb, #[.int .i64 bm, .string bk, .string bl]), (pa, #[.int .i64 m, .string k, .string y]), (p0, #[.int .i64 m, .string k, .string l])]) [eFi HS, strsF12 (some ⟨b, off, none⟩) p0 ss]) ∧ Hid (Below w4.heap.size w4 wx))
      case first =>
        have hS0 : St w wr.drew [(pb, #[.int .i64 bm, .string bk, .string bl]), (pa, #[.int .i64 m, .string k, .string y]), (p0, #[.int .i64 m, .string k, .string l])] [eFi HS, strsF12 (some ⟨b, off, none⟩) p0 ss] := SR.out.drew
        refine wp_region_held_drew (S := (fun W : World => St w W [(pb, #[.int .i64 bm, .string bk, .string bl]), (pa, #[.int .i64 m, .string k, .string y]), (p0, #[.int .i64 m, .string k, .string l])] [eFi HS, strsF12 (some ⟨b, off, none⟩) p0 ss])) (by kernel_rfl) hS0 (fun hHeld => ?_)
        have HBr := Lib.hid (below_drew12 (Below.refl wr.heap.size wr))
        have hS := hS0
        clear hS0
        generalize hWd : wr.drew = Wd at hS HBr hHeld ⊢
        clear hWd
        refine wpAnyH_take (i := 0) (oi := { dst := some 33, op := Op.load 23 (Operand.tmp 7), type := 23, pos := _, after := #[], guard := none }) (v := ?_) rfl (by kernel_rfl) (by kernel_rfl) (by kernel_rfl) (fun _ _ _ h => h) (Or.inl ⟨by rfl, ?hy⟩) hHeld ?_
        case hy => intro w0 hSw; have d0 := hSw.cell 0 rfl 0 rfl; have d1 := hSw.cell 0 rfl 1 rfl; have d2 := hSw.cell 0 rfl 2 rfl; clear hSw; go_simp; (try with_reducible rfl)
        (try simp only [Act.put, List.setIfInBounds_toArray, List.set_cons_zero, List.set_cons_succ])
        refine wpAnyH_take (i := 1) (oi := { dst := some 34, op := Op.move (Operand.tmp 1), type := 24, pos := _, after := #[], guard := none }) (v := ?_) rfl (by kernel_rfl) (by kernel_rfl) (by kernel_rfl) (fun _ _ _ h => h) (Or.inl ⟨by rfl, ?hy⟩) hHeld ?_
        case hy => intro w0 hSw; (try dsimp only at hSw); go_simp; (try with_reducible rfl)
        (try simp only [Act.put, List.setIfInBounds_toArray, List.set_cons_zero, List.set_cons_succ])
        refine wpAnyH_take (i := 2) (oi := { dst := some 35, op := Op.move (Operand.tmp 10), type := 3, pos := _, after := #[], guard := none }) (v := ?_) rfl (by kernel_rfl) (by kernel_rfl) (by kernel_rfl) (fun _ _ _ h => h) (Or.inl ⟨by rfl, ?hy⟩) hHeld ?_
        case hy => intro w0 hSw; (try dsimp only at hSw); go_simp; (try with_reducible rfl)
        (try simp only [Act.put, List.setIfInBounds_toArray, List.set_cons_zero, List.set_cons_succ])
        refine wpAnyH_take (i := 3) (oi := { dst := some 36, op := Op.indexAddr 24 (Operand.tmp 34) (Operand.tmp 35), type := 0, pos := _, after := #[{ on := 1, ground := Ground.data }, { on := 2, ground := Ground.data }], guard := none }) (v := ?_) rfl (by kernel_rfl) (by kernel_rfl) (by kernel_rfl) (fun _ _ _ h => h) (Or.inl ⟨by rfl, ?hy⟩) hHeld ?_
        case hy => intro w0 hSw; (try dsimp only at hSw); go_simp; (try with_reducible rfl)
        (try simp only [Act.put, List.setIfInBounds_toArray, List.set_cons_zero, List.set_cons_succ])
        refine wpAnyH_take (i := 4) (oi := { dst := some 37, op := Op.load 9 (Operand.tmp 36), type := 9, pos := _, after := #[{ on := 3, ground := Ground.data }], guard := none }) (v := ?_) rfl (by kernel_rfl) (by kernel_rfl) (by kernel_rfl) (fun _ _ _ h => h) (Or.inl ⟨by rfl, ?hy⟩) hHeld ?_
        case hy => intro w0 hSw; have hcx := Hc.out w0 (hSw.fact 1 rfl).1; clear hSw; go_simp; (try with_reducible rfl)
        (try simp only [Act.put, List.setIfInBounds_toArray, List.set_cons_zero, List.set_cons_succ])
        refine wpAnyH_ready (rs := [5, 10]) (by kernel_rfl) (by simp) ?_
        refine AllReadyH.cons (o := { dst := some 38, op := Op.buildSlice 24 1 #[(0, Operand.tmp 37)], type := 24, pos := _, after := #[{ on := 4, ground := Ground.data }], guard := none }) rfl (fun K hK => ?_) (AllReadyH.cons (o := { dst := some 11, op := Op.alloc 23, type := 0, pos := _, after := #[], guard := none }) rfl (fun K hK => ?_) AllReadyH.nil)
        · go_simp
          have hs5 : StrsAt (Wd.alloc (.cells #[.string s] 9)) (Wd.alloc (.cells #[.string s] 9)).heap.size (some ⟨Wd.heap.size, 0, none⟩) [s] := by simpa using StrsAt.new Wd [s] 9
          replace hS := hS.on (below_new Wd (.cells #[.string s] 9))
          replace HBr := Lib.hid (below2 HBr.out (below_new Wd (.cells #[.string s] 9)))
          generalize hWb : Wd.alloc (.cells #[.string s] 9) = Vb at hs5 hS HBr ⊢
          clear hWb
          refine hK.out _ _ hS (fun hHeld => ?_)
          clear hK K
          (try simp only [Act.put, List.setIfInBounds_toArray, List.set_cons_zero, List.set_cons_succ])
          refine wpAnyH_ready (rs := [6, 10]) (by kernel_rfl) (by simp) ?_
          refine AllReadyH.cons (o := { dst := some 39, op := Op.call { callee := Callee.value (Operand.func 11), args := #[Operand.tmp 33, Operand.tmp 38], argTypes := #[23, 24] }, type := 29, pos := _, after := #[{ on := 0, ground := Ground.data }, { on := 5, ground := Ground.data }], guard := none }) rfl (fun K hK => ?_) (AllReadyH.cons (o := { dst := some 11, op := Op.alloc 23, type := 0, pos := _, after := #[], guard := none }) rfl (fun K hK => ?_) AllReadyH.nil)
          · go_simp
            refine (KJ _ _ (hS.fact 0 rfl) hs5).out.mono ?_
            rintro e y1 ⟨rfl, hB'⟩
            replace hS := hS.on hB'
            replace HBr := Lib.hid (below2 HBr.out hB')
            clear hB' hs5
            go_wp2_with fail
            refine hK.out _ _ hS (fun hHeld => ?_)
            clear hK K
            (try simp only [Act.put, List.setIfInBounds_toArray, List.set_cons_zero, List.set_cons_succ])
            refine wpAnyH_take (i := 7) (oi := { dst := some 32, op := Op.move (Operand.tmp 39), type := 29, pos := _, after := #[{ on := 6, ground := Ground.data }], guard := none }) (v := ?_) rfl (by kernel_rfl) (by kernel_rfl) (by kernel_rfl) (fun _ _ _ h => h) (Or.inl ⟨by rfl, ?hy⟩) hHeld ?_
            case hy => intro w0 hSw; (try dsimp only at hSw); go_simp; (try with_reducible rfl)
            (try simp only [Act.put, List.setIfInBounds_toArray, List.set_cons_zero, List.set_cons_succ])
            refine wpAnyH_take (i := 8) (oi := { dst := some 40, op := Op.extract (Operand.tmp 32) 0, type := 23, pos := _, after := #[{ on := 7, ground := Ground.data }], guard := none }) (v := ?_) rfl (by kernel_rfl) (by kernel_rfl) (by kernel_rfl) (fun _ _ _ h => h) (Or.inl ⟨by rfl, ?hy⟩) hHeld ?_
            case hy => intro w0 hSw; (try dsimp only at hSw); go_simp; (try with_reducible rfl)
            (try simp only [Act.put, List.setIfInBounds_toArray, List.set_cons_zero, List.set_cons_succ])
            refine wpAnyH_take (i := 9) (oi := { dst := some 41, op := Op.extract (Operand.tmp 32) 1, type := 28, pos := _, after := #[{ on := 7, ground := Ground.data }, { on := 11, ground := Ground.gcOnly Departure.lateStores }], guard := none }) (v := ?_) rfl (by kernel_rfl) (by kernel_rfl) (by kernel_rfl) (fun _ _ _ h => h) (Or.inl ⟨by rfl, ?hy⟩) hHeld ?_
            case hy => intro w0 hSw; (try dsimp only at hSw); go_simp; (try with_reducible rfl)
            (try simp only [Act.put, List.setIfInBounds_toArray, List.set_cons_zero, List.set_cons_succ])
            refine wpAnyH_ready (rs := [10]) (by kernel_rfl) (by simp) ?_
            refine AllReadyH.cons (o := { dst := some 11, op := Op.alloc 23, type := 0, pos := _, after := #[], guard := none }) rfl (fun K hK => ?_) AllReadyH.nil
            go_simp
            have hN := hS.new #[.int .i64 0, .string ⟨#[]⟩, .string ⟨#[]⟩] 23
            replace hS := hS.on (below_new y1 (.cells #[.int .i64 0, .string ⟨#[]⟩, .string ⟨#[]⟩] 23))
            obtain ⟨pc, hpc⟩ : ∃ x, x = y1.heap.size := ⟨_, rfl⟩
            have Hpc : Hid (wr.heap.size ≤ pc) := Lib.hid (by rw [hpc]; exact HBr.out.size)
            replace HBr := Lib.hid (below2 HBr.out (below_new y1 (.cells #[.int .i64 0, .string ⟨#[]⟩, .string ⟨#[]⟩] 23)))
            rw [← hpc] at hN ⊢
            clear hpc
            generalize hWa : y1.alloc (.cells #[.int .i64 0, .string ⟨#[]⟩, .string ⟨#[]⟩] 23) = Va at hS HBr hN ⊢
            clear hWa
            refine hK.out _ _ hS (fun hHeld => ?_)
            clear hK K
            (try simp only [Act.put, List.setIfInBounds_toArray, List.set_cons_zero, List.set_cons_succ])
            refine wpAnyH_ready (rs := [11]) (by kernel_rfl) (by simp) ?_
            refine AllReadyH.cons (o := { dst := none, op := Op.store 23 (Operand.tmp 11) (Operand.tmp 40), type := 0, pos := _, after := #[{ on := 10, ground := Ground.data }, { on := 8, ground := Ground.data }, { on := 6, ground := Ground.chain }, { on := 0, ground := Ground.phase }, { on := 1, ground := Ground.phase }, { on := 2, ground := Ground.phase }, { on := 3, ground := Ground.phase }, { on := 4, ground := Ground.phase }, { on := 5, ground := Ground.phase }, { on := 6, ground := Ground.phase }, { on := 7, ground := Ground.phase }, { on := 8, ground := Ground.phase }, { on := 9, ground := Ground.textOnly Departure.lateStores }, { on := 10, ground := Ground.phase }], guard := none }) rfl (fun K hK => ?_) AllReadyH.nil
            rw [if_pos (by rfl)]
            obtain ⟨tz, hz⟩ := hN.live (pc, #[.int .i64 0, .string ⟨#[]⟩, .string ⟨#[]⟩]) (by simp)
            refine wp_store_row 23 _ _ rfl pc #[.int .i64 cm, .string ck, .string cl] rfl rfl tz _ hz (by rfl) rfl (fil_one3 _ _ _) ?_
            have hb3 := below_setRow HBr.out Hpc.out #[.int .i64 cm, .string ck, .string cl]
            have hc3 := setRow_heap _ _ _ #[.int .i64 cm, .string ck, .string cl] _ _ hz
            clear hz hN hS
            have hS := SR.out.on hb3
            refine hK.out _ _ hS (fun hHeld => ?_)
            clear hK K
            (try simp only [Act.put])
            refine wpAnyH_take (i := 12) (oi := { dst := some 12, op := Op.assign (Operand.tmp 41), type := 28, pos := _, after := #[{ on := 9, ground := Ground.data }, { on := 11, ground := Ground.chain }, { on := 0, ground := Ground.phase }, { on := 1, ground := Ground.phase }, { on := 2, ground := Ground.phase }, { on := 3, ground := Ground.phase }, { on := 4, ground := Ground.phase }, { on := 5, ground := Ground.phase }, { on := 6, ground := Ground.phase }, { on := 7, ground := Ground.phase }, { on := 8, ground := Ground.phase }, { on := 9, ground := Ground.phase }, { on := 10, ground := Ground.phase }, { on := 11, ground := Ground.phase }], guard := none }) (v := ?_) rfl (by kernel_rfl) (by kernel_rfl) (by kernel_rfl) (fun _ _ _ h => h) (Or.inl ⟨by rfl, ?hy⟩) hHeld ?_
            case hy => intro w0 hSw; (try dsimp only at hSw); go_simp; (try with_reducible rfl)
            (try simp only [Act.put, List.setIfInBounds_toArray, List.set_cons_zero, List.set_cons_succ])
            refine wpAnyH_done (by kernel_rfl) ?_ _
            clear hHeld
            go_wp2_with fail
            go_meet
            exact ⟨pc, rfl, rfl, Lib.hid (hS.add ⟨_, hc3⟩), Lib.hid (below2 HBu.out hb3)⟩
          · go_simp
            have hN := hS.new #[.int .i64 0, .string ⟨#[]⟩, .string ⟨#[]⟩] 23
            replace hS := hS.on (below_new Vb (.cells #[.int .i64 0, .string ⟨#[]⟩, .string ⟨#[]⟩] 23))
            replace hs5 := (hs5.below (below_new Vb (.cells #[.int .i64 0, .string ⟨#[]⟩, .string ⟨#[]⟩] 23)) (Nat.le_refl _)).more (below_new Vb (.cells #[.int .i64 0, .string ⟨#[]⟩, .string ⟨#[]⟩] 23)).size
            obtain ⟨pc, hpc⟩ : ∃ x, x = Vb.heap.size := ⟨_, rfl⟩
            have Hpc : Hid (wr.heap.size ≤ pc) := Lib.hid (by rw [hpc]; exact HBr.out.size)
            replace HBr := Lib.hid (below2 HBr.out (below_new Vb (.cells #[.int .i64 0, .string ⟨#[]⟩, .string ⟨#[]⟩] 23)))
            rw [← hpc] at hN ⊢
            clear hpc
            generalize hWa : Vb.alloc (.cells #[.int .i64 0, .string ⟨#[]⟩, .string ⟨#[]⟩] 23) = Va at hs5 hS HBr hN ⊢
            clear hWa
            refine hK.out _ _ hS (fun hHeld => ?_)
            clear hK K
            (try simp only [Act.put, List.setIfInBounds_toArray, List.set_cons_zero, List.set_cons_succ])
            refine wpAnyH_ready (rs := [6]) (by kernel_rfl) (by simp) ?_
            refine AllReadyH.cons (o := { dst := some 39, op := Op.call { callee := Callee.value (Operand.func 11), args := #[Operand.tmp 33, Operand.tmp 38], argTypes := #[23, 24] }, type := 29, pos := _, after := #[{ on := 0, ground := Ground.data }, { on := 5, ground := Ground.data }], guard := none }) rfl (fun K hK => ?_) AllReadyH.nil
            go_simp
            refine (KJ _ _ (hS.fact 0 rfl) hs5).out.mono ?_
            rintro e y1 ⟨rfl, hB'⟩
            replace hS := hS.on hB'
            replace HBr := Lib.hid (below2 HBr.out hB')
            replace hN := hN.on hB'
            clear hB' hs5
            go_wp2_with fail
            refine hK.out _ _ hS (fun hHeld => ?_)
            clear hK K
            (try simp only [Act.put, List.setIfInBounds_toArray, List.set_cons_zero, List.set_cons_succ])
            refine wpAnyH_take (i := 7) (oi := { dst := some 32, op := Op.move (Operand.tmp 39), type := 29, pos := _, after := #[{ on := 6, ground := Ground.data }], guard := none }) (v := ?_) rfl (by kernel_rfl) (by kernel_rfl) (by kernel_rfl) (fun _ _ _ h => h) (Or.inl ⟨by rfl, ?hy⟩) hHeld ?_
            case hy => intro w0 hSw; (try dsimp only at hSw); go_simp; (try with_reducible rfl)
            (try simp only [Act.put, List.setIfInBounds_toArray, List.set_cons_zero, List.set_cons_succ])
            refine wpAnyH_take (i := 8) (oi := { dst := some 40, op := Op.extract (Operand.tmp 32) 0, type := 23, pos := _, after := #[{ on := 7, ground := Ground.data }], guard := none }) (v := ?_) rfl (by kernel_rfl) (by kernel_rfl) (by kernel_rfl) (fun _ _ _ h => h) (Or.inl ⟨by rfl, ?hy⟩) hHeld ?_
            case hy => intro w0 hSw; (try dsimp only at hSw); go_simp; (try with_reducible rfl)
            (try simp only [Act.put, List.setIfInBounds_toArray, List.set_cons_zero, List.set_cons_succ])
            refine wpAnyH_take (i := 9) (oi := { dst := some 41, op := Op.extract (Operand.tmp 32) 1, type := 28, pos := _, after := #[{ on := 7, ground := Ground.data }, { on := 11, ground := Ground.gcOnly Departure.lateStores }], guard := none }) (v := ?_) rfl (by kernel_rfl) (by kernel_rfl) (by kernel_rfl) (fun _ _ _ h => h) (Or.inl ⟨by rfl, ?hy⟩) hHeld ?_
            case hy => intro w0 hSw; (try dsimp only at hSw); go_simp; (try with_reducible rfl)
            (try simp only [Act.put, List.setIfInBounds_toArray, List.set_cons_zero, List.set_cons_succ])
            refine wpAnyH_ready (rs := [11]) (by kernel_rfl) (by simp) ?_
            refine AllReadyH.cons (o := { dst := none, op := Op.store 23 (Operand.tmp 11) (Operand.tmp 40), type := 0, pos := _, after := #[{ on := 10, ground := Ground.data }, { on := 8, ground := Ground.data }, { on := 6, ground := Ground.chain }, { on := 0, ground := Ground.phase }, { on := 1, ground := Ground.phase }, { on := 2, ground := Ground.phase }, { on := 3, ground := Ground.phase }, { on := 4, ground := Ground.phase }, { on := 5, ground := Ground.phase }, { on := 6, ground := Ground.phase }, { on := 7, ground := Ground.phase }, { on := 8, ground := Ground.phase }, { on := 9, ground := Ground.textOnly Departure.lateStores }, { on := 10, ground := Ground.phase }], guard := none }) rfl (fun K hK => ?_) AllReadyH.nil
            rw [if_pos (by rfl)]
            obtain ⟨tz, hz⟩ := hN.live (pc, #[.int .i64 0, .string ⟨#[]⟩, .string ⟨#[]⟩]) (by simp)
            refine wp_store_row 23 _ _ rfl pc #[.int .i64 cm, .string ck, .string cl] rfl rfl tz _ hz (by rfl) rfl (fil_one3 _ _ _) ?_
            have hb3 := below_setRow HBr.out Hpc.out #[.int .i64 cm, .string ck, .string cl]
            have hc3 := setRow_heap _ _ _ #[.int .i64 cm, .string ck, .string cl] _ _ hz
            clear hz hN hS
            have hS := SR.out.on hb3
            refine hK.out _ _ hS (fun hHeld => ?_)
            clear hK K
            (try simp only [Act.put])
            refine wpAnyH_take (i := 12) (oi := { dst := some 12, op := Op.assign (Operand.tmp 41), type := 28, pos := _, after := #[{ on := 9, ground := Ground.data }, { on := 11, ground := Ground.chain }, { on := 0, ground := Ground.phase }, { on := 1, ground := Ground.phase }, { on := 2, ground := Ground.phase }, { on := 3, ground := Ground.phase }, { on := 4, ground := Ground.phase }, { on := 5, ground := Ground.phase }, { on := 6, ground := Ground.phase }, { on := 7, ground := Ground.phase }, { on := 8, ground := Ground.phase }, { on := 9, ground := Ground.phase }, { on := 10, ground := Ground.phase }, { on := 11, ground := Ground.phase }], guard := none }) (v := ?_) rfl (by kernel_rfl) (by kernel_rfl) (by kernel_rfl) (fun _ _ _ h => h) (Or.inl ⟨by rfl, ?hy⟩) hHeld ?_
            case hy => intro w0 hSw; (try dsimp only at hSw); go_simp; (try with_reducible rfl)
            (try simp only [Act.put, List.setIfInBounds_toArray, List.set_cons_zero, List.set_cons_succ])
            refine wpAnyH_done (by kernel_rfl) ?_ _
            clear hHeld
            go_wp2_with fail
            go_meet
            exact ⟨pc, rfl, rfl, Lib.hid (hS.add ⟨_, hc3⟩), Lib.hid (below2 HBu.out hb3)⟩
        · go_simp
          have hN := hS.new #[.int .i64 0, .string ⟨#[]⟩, .string ⟨#[]⟩] 23
          replace hS := hS.on (below_new Wd (.cells #[.int .i64 0, .string ⟨#[]⟩, .string ⟨#[]⟩] 23))
          obtain ⟨pc, hpc⟩ : ∃ x, x = Wd.heap.size := ⟨_, rfl⟩
          have Hpc : Hid (wr.heap.size ≤ pc) := Lib.hid (by rw [hpc]; exact HBr.out.size)
          replace HBr := Lib.hid (below2 HBr.out (below_new Wd (.cells #[.int .i64 0, .string ⟨#[]⟩, .string ⟨#[]⟩] 23)))
          rw [← hpc] at hN ⊢
          clear hpc
          generalize hWa : Wd.alloc (.cells #[.int .i64 0, .string ⟨#[]⟩, .string ⟨#[]⟩] 23) = Va at hS HBr hN ⊢
          clear hWa
          refine hK.out _ _ hS (fun hHeld => ?_)
          clear hK K
          (try simp only [Act.put, List.setIfInBounds_toArray, List.set_cons_zero, List.set_cons_succ])
          refine wpAnyH_ready (rs := [5]) (by kernel_rfl) (by simp) ?_
          refine AllReadyH.cons (o := { dst := some 38, op := Op.buildSlice 24 1 #[(0, Operand.tmp 37)], type := 24, pos := _, after := #[{ on := 4, ground := Ground.data }], guard := none }) rfl (fun K hK => ?_) AllReadyH.nil
          go_simp
          have hs5 : StrsAt (Va.alloc (.cells #[.string s] 9)) (Va.alloc (.cells #[.string s] 9)).heap.size (some ⟨Va.heap.size, 0, none⟩) [s] := by simpa using StrsAt.new Va [s] 9
          replace hS := hS.on (below_new Va (.cells #[.string s] 9))
          replace HBr := Lib.hid (below2 HBr.out (below_new Va (.cells #[.string s] 9)))
          replace hN := hN.on (below_new Va (.cells #[.string s] 9))
          generalize hWb : Va.alloc (.cells #[.string s] 9) = Vb at hs5 hS HBr hN ⊢
          clear hWb
          refine hK.out _ _ hS (fun hHeld => ?_)
          clear hK K
          (try simp only [Act.put, List.setIfInBounds_toArray, List.set_cons_zero, List.set_cons_succ])
          refine wpAnyH_ready (rs := [6]) (by kernel_rfl) (by simp) ?_
          refine AllReadyH.cons (o := { dst := some 39, op := Op.call { callee := Callee.value (Operand.func 11), args := #[Operand.tmp 33, Operand.tmp 38], argTypes := #[23, 24] }, type := 29, pos := _, after := #[{ on := 0, ground := Ground.data }, { on := 5, ground := Ground.data }], guard := none }) rfl (fun K hK => ?_) AllReadyH.nil
          go_simp
          refine (KJ _ _ (hS.fact 0 rfl) hs5).out.mono ?_
          rintro e y1 ⟨rfl, hB'⟩
          replace hS := hS.on hB'
          replace HBr := Lib.hid (below2 HBr.out hB')
          replace hN := hN.on hB'
          clear hB' hs5
          go_wp2_with fail
          refine hK.out _ _ hS (fun hHeld => ?_)
          clear hK K
          (try simp only [Act.put, List.setIfInBounds_toArray, List.set_cons_zero, List.set_cons_succ])
          refine wpAnyH_take (i := 7) (oi := { dst := some 32, op := Op.move (Operand.tmp 39), type := 29, pos := _, after := #[{ on := 6, ground := Ground.data }], guard := none }) (v := ?_) rfl (by kernel_rfl) (by kernel_rfl) (by kernel_rfl) (fun _ _ _ h => h) (Or.inl ⟨by rfl, ?hy⟩) hHeld ?_
          case hy => intro w0 hSw; (try dsimp only at hSw); go_simp; (try with_reducible rfl)
          (try simp only [Act.put, List.setIfInBounds_toArray, List.set_cons_zero, List.set_cons_succ])
          refine wpAnyH_take (i := 8) (oi := { dst := some 40, op := Op.extract (Operand.tmp 32) 0, type := 23, pos := _, after := #[{ on := 7, ground := Ground.data }], guard := none }) (v := ?_) rfl (by kernel_rfl) (by kernel_rfl) (by kernel_rfl) (fun _ _ _ h => h) (Or.inl ⟨by rfl, ?hy⟩) hHeld ?_
          case hy => intro w0 hSw; (try dsimp only at hSw); go_simp; (try with_reducible rfl)
          (try simp only [Act.put, List.setIfInBounds_toArray, List.set_cons_zero, List.set_cons_succ])
          refine wpAnyH_take (i := 9) (oi := { dst := some 41, op := Op.extract (Operand.tmp 32) 1, type := 28, pos := _, after := #[{ on := 7, ground := Ground.data }, { on := 11, ground := Ground.gcOnly Departure.lateStores }], guard := none }) (v := ?_) rfl (by kernel_rfl) (by kernel_rfl) (by kernel_rfl) (fun _ _ _ h => h) (Or.inl ⟨by rfl, ?hy⟩) hHeld ?_
          case hy => intro w0 hSw; (try dsimp only at hSw); go_simp; (try with_reducible rfl)
          (try simp only [Act.put, List.setIfInBounds_toArray, List.set_cons_zero, List.set_cons_succ])
          refine wpAnyH_ready (rs := [11]) (by kernel_rfl) (by simp) ?_
          refine AllReadyH.cons (o := { dst := none, op := Op.store 23 (Operand.tmp 11) (Operand.tmp 40), type := 0, pos := _, after := #[{ on := 10, ground := Ground.data }, { on := 8, ground := Ground.data }, { on := 6, ground := Ground.chain }, { on := 0, ground := Ground.phase }, { on := 1, ground := Ground.phase }, { on := 2, ground := Ground.phase }, { on := 3, ground := Ground.phase }, { on := 4, ground := Ground.phase }, { on := 5, ground := Ground.phase }, { on := 6, ground := Ground.phase }, { on := 7, ground := Ground.phase }, { on := 8, ground := Ground.phase }, { on := 9, ground := Ground.textOnly Departure.lateStores }, { on := 10, ground := Ground.phase }], guard := none }) rfl (fun K hK => ?_) AllReadyH.nil
          rw [if_pos (by rfl)]
          obtain ⟨tz, hz⟩ := hN.live (pc, #[.int .i64 0, .string ⟨#[]⟩, .string ⟨#[]⟩]) (by simp)
          refine wp_store_row 23 _ _ rfl pc #[.int .i64 cm, .string ck, .string cl] rfl rfl tz _ hz (by rfl) rfl (fil_one3 _ _ _) ?_
          have hb3 := below_setRow HBr.out Hpc.out #[.int .i64 cm, .string ck, .string cl]
          have hc3 := setRow_heap _ _ _ #[.int .i64 cm, .string ck, .string cl] _ _ hz
          clear hz hN hS
          have hS := SR.out.on hb3
          refine hK.out _ _ hS (fun hHeld => ?_)
          clear hK K
          (try simp only [Act.put])
          refine wpAnyH_take (i := 12) (oi := { dst := some 12, op := Op.assign (Operand.tmp 41), type := 28, pos := _, after := #[{ on := 9, ground := Ground.data }, { on := 11, ground := Ground.chain }, { on := 0, ground := Ground.phase }, { on := 1, ground := Ground.phase }, { on := 2, ground := Ground.phase }, { on := 3, ground := Ground.phase }, { on := 4, ground := Ground.phase }, { on := 5, ground := Ground.phase }, { on := 6, ground := Ground.phase }, { on := 7, ground := Ground.phase }, { on := 8, ground := Ground.phase }, { on := 9, ground := Ground.phase }, { on := 10, ground := Ground.phase }, { on := 11, ground := Ground.phase }], guard := none }) (v := ?_) rfl (by kernel_rfl) (by kernel_rfl) (by kernel_rfl) (fun _ _ _ h => h) (Or.inl ⟨by rfl, ?hy⟩) hHeld ?_
          case hy => intro w0 hSw; (try dsimp only at hSw); go_simp; (try with_reducible rfl)
          (try simp only [Act.put, List.setIfInBounds_toArray, List.set_cons_zero, List.set_cons_succ])
          refine wpAnyH_done (by kernel_rfl) ?_ _
          clear hHeld
          go_wp2_with fail
          go_meet
          exact ⟨pc, rfl, rfl, Lib.hid (hS.add ⟨_, hc3⟩), Lib.hid (below2 HBu.out hb3)⟩
      case rest =>
        obtain ⟨pc, rfl, rfl, S9, HB9⟩ := hcut
        clear KJ SR HBu
        obtain ⟨tb, hbk⟩ := S9.out.live (pb, #[.int .i64 bm, .string bk, .string bl]) (by simp)
        have Hbk := Lib.hid hbk
        clear hbk
        have HF1 := Lib.hid (S4.out.fact 1 rfl)
        have Hpu : Hid (w4.heap.size ≤ pb) := Lib.hid (Nat.le_of_eq Hpb.out.symm)
        have hcases : (he = 0) ∨ (he ≠ 0 ∧ g = 0) ∨ (he ≠ 0 ∧ g ≠ 0) := by
          by_cases h1 : he = 0
          · exact Or.inl h1
          · by_cases h2 : g = 0
            · exact Or.inr (Or.inl ⟨h1, h2⟩)
            · exact Or.inr (Or.inr ⟨h1, h2⟩)
        rcases hcases with h1 | ⟨h1, h2⟩ | ⟨h1, h2⟩
        · subst h1
          have HgE : Hid (G (j + 1) = g) := Lib.hid (by rw [HgG.out, if_neg (fun hh => hh.1 rfl)])
          clear HgG
          go_wp2_with (first
            | (refine wpList_load_st rfl 23 _ rfl S9.out 0 _ _ rfl rfl _ Try.underlying23 rfl (by rfl) ?_)
            | (refine wpList_store_row rfl 23 _ _ rfl pb #[.int .i64 cm, .string ck, .string cl] rfl rfl tb #[.int .i64 bm, .string bk, .string bl] Hbk.out (by rfl) rfl (fil_one3 _ _ _) ?_
               have HBs := Lib.hid (below_setRow HB9.out Hpu.out #[.int .i64 cm, .string ck, .string cl])
               have HPs := Lib.hid (setRow_heap _ _ _ #[.int .i64 cm, .string ck, .string cl] _ _ Hbk.out)
               obtain ⟨w10, hw10⟩ : ∃ x, x = wc.setRow pb #[.int .i64 cm, .string ck, .string cl] := ⟨_, rfl⟩
               rw [← hw10] at HBs HPs ⊢
               clear hw10
               have hc14 := Hc.out w10 (HF1.out.1.below HBs.out HF1.out.2)
               have hcat := Hcat.out))
          go_roundw
          case rel =>
            refine ⟨j + 1, Hj1.out, by go_num, by rw [Hzs.out], by rw [HgE.out], HBs, Lib.hid ⟨tb, ?_⟩⟩
            rw [← HBj2.out]; exact HPs.out
          case measure => simp [intOf]; omega
        · subst h2
          have HgE : Hid (G (j + 1) = he) := Lib.hid (by rw [HgG.out, if_pos ⟨h1, rfl⟩])
          have j1 : (he != 0) = true := by simpa using h1
          clear h1
          clear HgG
          go_wp2_with (first
            | (refine wpList_load_st rfl 23 _ rfl S9.out 0 _ _ rfl rfl _ Try.underlying23 rfl (by rfl) ?_)
            | (refine wpList_store_row rfl 23 _ _ rfl pb #[.int .i64 cm, .string ck, .string cl] rfl rfl tb #[.int .i64 bm, .string bk, .string bl] Hbk.out (by rfl) rfl (fil_one3 _ _ _) ?_
               have HBs := Lib.hid (below_setRow HB9.out Hpu.out #[.int .i64 cm, .string ck, .string cl])
               have HPs := Lib.hid (setRow_heap _ _ _ #[.int .i64 cm, .string ck, .string cl] _ _ Hbk.out)
               obtain ⟨w10, hw10⟩ : ∃ x, x = wc.setRow pb #[.int .i64 cm, .string ck, .string cl] := ⟨_, rfl⟩
               rw [← hw10] at HBs HPs ⊢
               clear hw10
               have hc14 := Hc.out w10 (HF1.out.1.below HBs.out HF1.out.2)
               have hcat := Hcat.out))
          go_roundw
          case rel =>
            refine ⟨j + 1, Hj1.out, by go_num, by rw [Hzs.out], by rw [HgE.out], HBs, Lib.hid ⟨tb, ?_⟩⟩
            rw [← HBj2.out]; exact HPs.out
          case measure => simp [intOf]; omega
        · have HgE : Hid (G (j + 1) = g) := Lib.hid (by rw [HgG.out, if_neg (fun hh => h2 hh.2)])
          have j1 : (he != 0) = true := by simpa using h1
          have j2 : (g == 0) = false := by simpa using h2
          clear h1 h2
          clear HgG
          go_wp2_with (first
            | (refine wpList_load_st rfl 23 _ rfl S9.out 0 _ _ rfl rfl _ Try.underlying23 rfl (by rfl) ?_)
            | (refine wpList_store_row rfl 23 _ _ rfl pb #[.int .i64 cm, .string ck, .string cl] rfl rfl tb #[.int .i64 bm, .string bk, .string bl] Hbk.out (by rfl) rfl (fil_one3 _ _ _) ?_
               have HBs := Lib.hid (below_setRow HB9.out Hpu.out #[.int .i64 cm, .string ck, .string cl])
               have HPs := Lib.hid (setRow_heap _ _ _ #[.int .i64 cm, .string ck, .string cl] _ _ Hbk.out)
               obtain ⟨w10, hw10⟩ : ∃ x, x = wc.setRow pb #[.int .i64 cm, .string ck, .string cl] := ⟨_, rfl⟩
               rw [← hw10] at HBs HPs ⊢
               clear hw10
               have hc14 := Hc.out w10 (HF1.out.1.below HBs.out HF1.out.2)
               have hcat := Hcat.out))
          go_roundw
          case rel =>
            refine ⟨j + 1, Hj1.out, by go_num, by rw [Hzs.out], by rw [HgE.out], HBs, Lib.hid ⟨tb, ?_⟩⟩
            rw [← HBj2.out]; exact HPs.out
          case measure => simp [intOf]; omega
    · obtain rfl : j = N := by omega
      obtain ⟨⟨bm, bk, bl⟩, hBj⟩ : ∃ X, X = B j := ⟨_, rfl⟩
      rw [← hBj] at HP
      have SR := Lib.hid ((S4.out.on HBu.out).add (k := pb) (cs := #[.int .i64 bm, .string bk, .string bl]) HP.out)
      have htk : ss.take j = ss := by rw [HN.out, List.take_length]
      rw [htk]
      clear HP KL HG htk HN HBu
      have hBN2 := hBj.trans hBN
      cases hBN2
      rw [hgN, hzN]
      clear hBj hgN hBN hzN
      go_wp2_with fail
      have hS : St w wr.drew [(pb, #[.int .i64 m, .string k, .string y]), (pa, #[.int .i64 m, .string k, .string y]), (p0, #[.int .i64 m, .string k, .string l])] [eFi HS, strsF12 A p0 ss] := SR.out.drew
      clear SR
      refine wp_region_held_drew (S := (fun W : World => St w W [(pb, #[.int .i64 m, .string k, .string y]), (pa, #[.int .i64 m, .string k, .string y]), (p0, #[.int .i64 m, .string k, .string l])] [eFi HS, strsF12 A p0 ss])) (by kernel_rfl) hS (fun hHeld => ?_)
      refine wpAnyH_ready (rs := [0]) (by kernel_rfl) (by simp) ?_
      refine AllReadyH.cons (o := { dst := some 73, op := Op.call { callee := Callee.value (Operand.func 21), args := #[], argTypes := #[] }, type := 4, pos := _, after := #[], guard := none }) rfl (fun K hK => ?_) AllReadyH.nil
      go_simp
      refine (HC.out _ (hS.fact 0 rfl)).mono ?_
      rintro e y1 ⟨rfl, hB'⟩
      replace hS := hS.on hB'
      clear hB'
      go_wp2_with fail
      refine hK.out _ _ hS (fun hHeld => ?_)
      clear hK K
      (try simp only [Act.put, List.setIfInBounds_toArray, List.set_cons_zero, List.set_cons_succ])
      refine wpAnyH_take (i := 1) (oi := { dst := some 74, op := Op.move (Operand.tmp 73), type := 4, pos := _, after := #[{ on := 0, ground := Ground.data }, { on := 0, ground := Ground.chain }], guard := none }) (v := ?_) rfl (by kernel_rfl) (by kernel_rfl) (by kernel_rfl) (fun _ _ _ h => h) (Or.inl ⟨by rfl, ?hy⟩) hHeld ?_
      case hy => intro w0 hSw; (try dsimp only at hSw); go_simp; (try with_reducible rfl)
      (try simp only [Act.put, List.setIfInBounds_toArray, List.set_cons_zero, List.set_cons_succ])
      refine wpAnyH_take (i := 2) (oi := { dst := some 75, op := Op.move (Operand.tmp 9), type := 28, pos := _, after := #[{ on := 1, ground := Ground.guard }], guard := some (1, true) }) (v := ?_) rfl (by kernel_rfl) (by kernel_rfl) (by kernel_rfl) (fun _ _ _ h => h) (Or.inl ⟨by rfl, ?hy⟩) hHeld ?_
      case hy => intro w0 hSw; (try dsimp only at hSw); go_simp; (try with_reducible rfl)
      (try simp only [Act.put, List.setIfInBounds_toArray, List.set_cons_zero, List.set_cons_succ])
      refine wpAnyH_take (i := 3) (oi := { dst := some 76, op := Op.binOp BinOp.eql 28 (Operand.tmp 75) (Operand.const (Value.int IntKind.i64 0)) 28, type := 4, pos := _, after := #[{ on := 2, ground := Ground.data }, { on := 1, ground := Ground.guard }], guard := some (1, true) }) (v := ?_) rfl (by kernel_rfl) (by kernel_rfl) (by kernel_rfl) (fun _ _ _ h => h) (Or.inl ⟨by rfl, ?hy⟩) hHeld ?_
      case hy => intro w0 hSw; (try dsimp only at hSw); go_simp; (try with_reducible rfl)
      (try simp only [Act.put, List.setIfInBounds_toArray, List.set_cons_zero, List.set_cons_succ])
      refine wpAnyH_take (i := 4) (oi := { dst := some 77, op := Op.pick (Operand.tmp 74) (Operand.tmp 76) (Operand.const (Value.bool false)), type := 4, pos := _, after := #[{ on := 1, ground := Ground.data }, { on := 3, ground := Ground.data }], guard := none }) (v := ?_) rfl (by kernel_rfl) (by kernel_rfl) (by kernel_rfl) (fun _ _ _ h => h) (Or.inl ⟨by rfl, ?hy⟩) hHeld ?_
      case hy => intro w0 hSw; (try dsimp only at hSw); go_simp; (try with_reducible rfl)
      (try simp only [Act.put, List.setIfInBounds_toArray, List.set_cons_zero, List.set_cons_succ])
      refine wpAnyH_take (i := 5) (oi := { dst := some 78, op := Op.move (Operand.tmp 77), type := 4, pos := _, after := #[{ on := 4, ground := Ground.data }, { on := 1, ground := Ground.chain }], guard := none }) (v := ?_) rfl (by kernel_rfl) (by kernel_rfl) (by kernel_rfl) (fun _ _ _ h => h) (Or.inl ⟨by rfl, ?hy⟩) hHeld ?_
      case hy => intro w0 hSw; (try dsimp only at hSw); go_simp; (try with_reducible rfl)
      (try simp only [Act.put, List.setIfInBounds_toArray, List.set_cons_zero, List.set_cons_succ])
      refine wpAnyH_take (i := 6) (oi := { dst := some 79, op := Op.load 23 (Operand.tmp 5), type := 23, pos := _, after := #[{ on := 5, ground := Ground.guard }], guard := some (5, true) }) (v := ?_) rfl (by kernel_rfl) (by kernel_rfl) (by kernel_rfl) (fun _ _ _ h => h) (Or.inl ⟨by rfl, ?hy⟩) hHeld ?_
      case hy => intro w0 hSw; have d0 := hSw.cell 1 rfl 0 rfl; have d1 := hSw.cell 1 rfl 1 rfl; have d2 := hSw.cell 1 rfl 2 rfl; clear hSw; go_simp; (try with_reducible rfl)
      (try simp only [Act.put, List.setIfInBounds_toArray, List.set_cons_zero, List.set_cons_succ])
      refine wpAnyH_take (i := 8) (oi := { dst := some 81, op := Op.load 23 (Operand.tmp 2), type := 23, pos := _, after := #[{ on := 5, ground := Ground.guard }], guard := some (5, true) }) (v := ?_) rfl (by kernel_rfl) (by kernel_rfl) (by kernel_rfl) (fun _ _ _ h => h) (Or.inl ⟨by rfl, ?hy⟩) hHeld ?_
      case hy => intro w0 hSw; have d0 := hSw.cell 2 rfl 0 rfl; have d1 := hSw.cell 2 rfl 1 rfl; have d2 := hSw.cell 2 rfl 2 rfl; clear hSw; go_simp; (try with_reducible rfl)
      (try simp only [Act.put, List.setIfInBounds_toArray, List.set_cons_zero, List.set_cons_succ])
      refine wpAnyH_take (i := 10) (oi := { dst := some 83, op := Op.move (Operand.tmp 8), type := 9, pos := _, after := #[{ on := 5, ground := Ground.guard }], guard := some (5, true) }) (v := ?_) rfl (by kernel_rfl) (by kernel_rfl) (by kernel_rfl) (fun _ _ _ h => h) (Or.inl ⟨by rfl, ?hy⟩) hHeld ?_
      case hy => intro w0 hSw; (try dsimp only at hSw); go_simp; (try with_reducible rfl)
      (try simp only [Act.put, List.setIfInBounds_toArray, List.set_cons_zero, List.set_cons_succ])
      refine wpAnyH_ready (rs := [7]) (by kernel_rfl) (by simp) ?_
      refine AllReadyH.cons (o := { dst := some 80, op := Op.call { callee := Callee.value (Operand.func 24), args := #[Operand.tmp 79], argTypes := #[23] }, type := 9, pos := _, after := #[{ on := 6, ground := Ground.data }, { on := 5, ground := Ground.chain }, { on := 5, ground := Ground.guard }], guard := some (5, true) }) rfl (fun K hK => ?_) AllReadyH.nil
      go_simp
      refine (KR _ (hS.fact 0 rfl)).out.mono ?_
      rintro e y2 ⟨rfl, hB'⟩
      replace hS := hS.on hB'
      clear hB'
      go_wp2_with fail
      refine hK.out _ _ hS (fun hHeld => ?_)
      clear hK K
      (try simp only [Act.put, List.setIfInBounds_toArray, List.set_cons_zero, List.set_cons_succ])
      refine wpAnyH_ready (rs := [9]) (by kernel_rfl) (by simp) ?_
      refine AllReadyH.cons (o := { dst := some 82, op := Op.call { callee := Callee.value (Operand.func 24), args := #[Operand.tmp 81], argTypes := #[23] }, type := 9, pos := _, after := #[{ on := 8, ground := Ground.data }, { on := 7, ground := Ground.chain }, { on := 5, ground := Ground.guard }], guard := some (5, true) }) rfl (fun K hK => ?_) AllReadyH.nil
      go_simp
      refine (KF _ (hS.fact 0 rfl)).out.mono ?_
      rintro e y3 ⟨rfl, hB'⟩
      replace hS := hS.on hB'
      clear hB'
      go_wp2_with fail
      refine hK.out _ _ hS (fun hHeld => ?_)
      clear hK K
      (try simp only [Act.put, List.setIfInBounds_toArray, List.set_cons_zero, List.set_cons_succ])
      refine wpAnyH_take (i := 11) (oi := { dst := some 84, op := Op.binOp BinOp.add 9 (Operand.tmp 82) (Operand.tmp 83) 9, type := 9, pos := _, after := #[{ on := 9, ground := Ground.data }, { on := 10, ground := Ground.data }, { on := 5, ground := Ground.guard }], guard := some (5, true) }) (v := ?_) rfl (by kernel_rfl) (by kernel_rfl) (by kernel_rfl) (fun _ _ _ h => h) (Or.inl ⟨by rfl, ?hy⟩) hHeld ?_
      case hy => intro w0 hSw; (try dsimp only at hSw); have hcat := Hcz.out; go_simp; (try with_reducible rfl)
      (try simp only [Act.put, List.setIfInBounds_toArray, List.set_cons_zero, List.set_cons_succ])
      refine wpAnyH_take (i := 12) (oi := { dst := some 85, op := Op.binOp BinOp.eql 9 (Operand.tmp 80) (Operand.tmp 84) 9, type := 4, pos := _, after := #[{ on := 7, ground := Ground.data }, { on := 11, ground := Ground.data }, { on := 5, ground := Ground.guard }], guard := some (5, true) }) (v := ?_) rfl (by kernel_rfl) (by kernel_rfl) (by kernel_rfl) (fun _ _ _ h => h) (Or.inl ⟨by rfl, ?hy⟩) hHeld ?_
      case hy => intro w0 hSw; (try dsimp only at hSw); go_simp; (try with_reducible rfl)
      (try simp only [Act.put, List.setIfInBounds_toArray, List.set_cons_zero, List.set_cons_succ])
      refine wpAnyH_take (i := 13) (oi := { dst := some 86, op := Op.pick (Operand.tmp 78) (Operand.tmp 85) (Operand.const (Value.bool false)), type := 4, pos := _, after := #[{ on := 5, ground := Ground.data }, { on := 12, ground := Ground.data }], guard := none }) (v := ?_) rfl (by kernel_rfl) (by kernel_rfl) (by kernel_rfl) (fun _ _ _ h => h) (Or.inl ⟨by rfl, ?hy⟩) hHeld ?_
      case hy => intro w0 hSw; (try dsimp only at hSw); go_simp; (try with_reducible rfl)
      (try simp only [Act.put, List.setIfInBounds_toArray, List.set_cons_zero, List.set_cons_succ])
      refine wpAnyH_take (i := 14) (oi := { dst := some 87, op := Op.move (Operand.tmp 86), type := 4, pos := _, after := #[{ on := 13, ground := Ground.data }, { on := 9, ground := Ground.chain }], guard := none }) (v := ?_) rfl (by kernel_rfl) (by kernel_rfl) (by kernel_rfl) (fun _ _ _ h => h) (Or.inl ⟨by rfl, ?hy⟩) hHeld ?_
      case hy => intro w0 hSw; (try dsimp only at hSw); go_simp; (try with_reducible rfl)
      (try simp only [Act.put, List.setIfInBounds_toArray, List.set_cons_zero, List.set_cons_succ])
      refine wpAnyH_take (i := 15) (oi := { dst := some 88, op := Op.move (Operand.tmp 1), type := 24, pos := _, after := #[{ on := 14, ground := Ground.guard }], guard := some (14, true) }) (v := ?_) rfl (by kernel_rfl) (by kernel_rfl) (by kernel_rfl) (fun _ _ _ h => h) (Or.inl ⟨by rfl, ?hy⟩) hHeld ?_
      case hy => intro w0 hSw; (try dsimp only at hSw); go_simp; (try with_reducible rfl)
      (try simp only [Act.put, List.setIfInBounds_toArray, List.set_cons_zero, List.set_cons_succ])
      refine wpAnyH_take (i := 16) (oi := { dst := some 89, op := Op.call { callee := Callee.builtin Builtin.len, args := #[Operand.tmp 88], argTypes := #[24] }, type := 3, pos := _, after := #[{ on := 15, ground := Ground.data }, { on := 14, ground := Ground.guard }], guard := some (14, true) }) (v := ?_) rfl (by kernel_rfl) (by kernel_rfl) (by kernel_rfl) (fun _ _ _ h => h) (Or.inl ⟨by rfl, ?hy⟩) hHeld ?_
      case hy => intro w0 hSw; (try dsimp only at hSw); go_simp; (try with_reducible rfl)
      (try simp only [Act.put, List.setIfInBounds_toArray, List.set_cons_zero, List.set_cons_succ])
      refine wpAnyH_take (i := 17) (oi := { dst := some 90, op := Op.binOp BinOp.eql 3 (Operand.tmp 89) (Operand.const (Value.int IntKind.i64 0)) 3, type := 4, pos := _, after := #[{ on := 16, ground := Ground.data }, { on := 14, ground := Ground.guard }], guard := some (14, true) }) (v := ?_) rfl (by kernel_rfl) (by kernel_rfl) (by kernel_rfl) (fun _ _ _ h => h) (Or.inl ⟨by rfl, ?hy⟩) hHeld ?_
      case hy => intro w0 hSw; clear hSw; go_simp; (try simp only [jN]); (try with_reducible rfl)
      (try simp only [Act.put, List.setIfInBounds_toArray, List.set_cons_zero, List.set_cons_succ])
      refine wpAnyH_take (i := 18) (oi := { dst := some 91, op := Op.move (Operand.tmp 90), type := 4, pos := _, after := #[{ on := 17, ground := Ground.data }, { on := 14, ground := Ground.chain }, { on := 14, ground := Ground.guard }], guard := some (14, true) }) (v := ?_) rfl (by kernel_rfl) (by kernel_rfl) (by kernel_rfl) (fun _ _ _ h => h) (Or.inl ⟨by rfl, ?hy⟩) hHeld ?_
      case hy => intro w0 hSw; (try dsimp only at hSw); go_simp; (try with_reducible rfl)
      (try simp only [Act.put, List.setIfInBounds_toArray, List.set_cons_zero, List.set_cons_succ])
      refine wpAnyH_take (i := 19) (oi := { dst := some 92, op := Op.load 23 (Operand.tmp 5), type := 23, pos := _, after := #[{ on := 18, ground := Ground.guard }], guard := some (18, false) }) (v := ?_) rfl (by kernel_rfl) (by kernel_rfl) (by kernel_rfl) (fun _ _ _ h => h) (Or.inl ⟨by rfl, ?hy⟩) hHeld ?_
      case hy => intro w0 hSw; have d0 := hSw.cell 1 rfl 0 rfl; have d1 := hSw.cell 1 rfl 1 rfl; have d2 := hSw.cell 1 rfl 2 rfl; clear hSw; go_simp; (try with_reducible rfl)
      (try simp only [Act.put, List.setIfInBounds_toArray, List.set_cons_zero, List.set_cons_succ])
      refine wpAnyH_take (i := 20) (oi := { dst := some 93, op := Op.load 23 (Operand.tmp 7), type := 23, pos := _, after := #[{ on := 18, ground := Ground.guard }], guard := some (18, false) }) (v := ?_) rfl (by kernel_rfl) (by kernel_rfl) (by kernel_rfl) (fun _ _ _ h => h) (Or.inl ⟨by rfl, ?hy⟩) hHeld ?_
      case hy => intro w0 hSw; have d0 := hSw.cell 0 rfl 0 rfl; have d1 := hSw.cell 0 rfl 1 rfl; have d2 := hSw.cell 0 rfl 2 rfl; clear hSw; go_simp; (try with_reducible rfl)
      (try simp only [Act.put, List.setIfInBounds_toArray, List.set_cons_zero, List.set_cons_succ])
      refine wpAnyH_take (i := 21) (oi := { dst := some 94, op := Op.binOp BinOp.eql 23 (Operand.tmp 92) (Operand.tmp 93) 23, type := 4, pos := _, after := #[{ on := 19, ground := Ground.data }, { on := 20, ground := Ground.data }, { on := 18, ground := Ground.guard }], guard := some (18, false) }) (v := ?_) rfl (by kernel_rfl) (by kernel_rfl) (by kernel_rfl) (fun _ _ _ h => h) (Or.inl ⟨by rfl, ?hy⟩) hHeld ?_
      case hy => intro w0 hSw; clear hSw; have q1 := run_eql_file w0 m k y; go_simp; (try with_reducible rfl)
      (try simp only [Act.put, List.setIfInBounds_toArray, List.set_cons_zero, List.set_cons_succ])
      refine wpAnyH_take (i := 22) (oi := { dst := some 95, op := Op.pick (Operand.tmp 91) (Operand.const (Value.bool true)) (Operand.tmp 94), type := 4, pos := _, after := #[{ on := 18, ground := Ground.data }, { on := 21, ground := Ground.data }, { on := 14, ground := Ground.guard }], guard := some (14, true) }) (v := ?_) rfl (by kernel_rfl) (by kernel_rfl) (by kernel_rfl) (fun _ _ _ h => h) (Or.inl ⟨by rfl, ?hy⟩) hHeld ?_
      case hy => intro w0 hSw; (try dsimp only at hSw); go_simp; (try with_reducible rfl)
      (try simp only [Act.put, List.setIfInBounds_toArray, List.set_cons_zero, List.set_cons_succ])
      refine wpAnyH_take (i := 23) (oi := { dst := some 96, op := Op.pick (Operand.tmp 87) (Operand.tmp 95) (Operand.const (Value.bool false)), type := 4, pos := _, after := #[{ on := 14, ground := Ground.data }, { on := 22, ground := Ground.data }], guard := none }) (v := ?_) rfl (by kernel_rfl) (by kernel_rfl) (by kernel_rfl) (fun _ _ _ h => h) (Or.inl ⟨by rfl, ?hy⟩) hHeld ?_
      case hy => intro w0 hSw; (try dsimp only at hSw); go_simp; (try with_reducible rfl)
      (try simp only [Act.put, List.setIfInBounds_toArray, List.set_cons_zero, List.set_cons_succ])
      refine wpAnyH_take (i := 24) (oi := { dst := some 97, op := Op.move (Operand.tmp 96), type := 4, pos := _, after := #[{ on := 23, ground := Ground.data }, { on := 18, ground := Ground.chain }], guard := none }) (v := ?_) rfl (by kernel_rfl) (by kernel_rfl) (by kernel_rfl) (fun _ _ _ h => h) (Or.inl ⟨by rfl, ?hy⟩) hHeld ?_
      case hy => intro w0 hSw; (try dsimp only at hSw); go_simp; (try with_reducible rfl)
      (try simp only [Act.put, List.setIfInBounds_toArray, List.set_cons_zero, List.set_cons_succ])
      refine wpAnyH_take (i := 25) (oi := { dst := some 98, op := Op.fieldAddr 23 (Operand.tmp 5) 1, type := 0, pos := _, after := #[{ on := 24, ground := Ground.guard }], guard := some (24, true) }) (v := ?_) rfl (by kernel_rfl) (by kernel_rfl) (by kernel_rfl) (fun _ _ _ h => h) (Or.inl ⟨by rfl, ?hy⟩) hHeld ?_
      case hy => intro w0 hSw; (try dsimp only at hSw); go_simp; (try with_reducible rfl)
      (try simp only [Act.put, List.setIfInBounds_toArray, List.set_cons_zero, List.set_cons_succ])
      refine wpAnyH_take (i := 26) (oi := { dst := some 99, op := Op.load 9 (Operand.tmp 98), type := 9, pos := _, after := #[{ on := 25, ground := Ground.data }, { on := 24, ground := Ground.guard }], guard := some (24, true) }) (v := ?_) rfl (by kernel_rfl) (by kernel_rfl) (by kernel_rfl) (fun _ _ _ h => h) (Or.inl ⟨by rfl, ?hy⟩) hHeld ?_
      case hy => intro w0 hSw; have d0 := hSw.cell 1 rfl 0 rfl; have d1 := hSw.cell 1 rfl 1 rfl; have d2 := hSw.cell 1 rfl 2 rfl; clear hSw; go_simp; (try with_reducible rfl)
      (try simp only [Act.put, List.setIfInBounds_toArray, List.set_cons_zero, List.set_cons_succ])
      refine wpAnyH_take (i := 27) (oi := { dst := some 100, op := Op.fieldAddr 23 (Operand.tmp 2) 1, type := 0, pos := _, after := #[{ on := 24, ground := Ground.guard }], guard := some (24, true) }) (v := ?_) rfl (by kernel_rfl) (by kernel_rfl) (by kernel_rfl) (fun _ _ _ h => h) (Or.inl ⟨by rfl, ?hy⟩) hHeld ?_
      case hy => intro w0 hSw; (try dsimp only at hSw); go_simp; (try with_reducible rfl)
      (try simp only [Act.put, List.setIfInBounds_toArray, List.set_cons_zero, List.set_cons_succ])
      refine wpAnyH_take (i := 28) (oi := { dst := some 101, op := Op.load 9 (Operand.tmp 100), type := 9, pos := _, after := #[{ on := 27, ground := Ground.data }, { on := 24, ground := Ground.guard }], guard := some (24, true) }) (v := ?_) rfl (by kernel_rfl) (by kernel_rfl) (by kernel_rfl) (fun _ _ _ h => h) (Or.inl ⟨by rfl, ?hy⟩) hHeld ?_
      case hy => intro w0 hSw; have d0 := hSw.cell 2 rfl 0 rfl; have d1 := hSw.cell 2 rfl 1 rfl; have d2 := hSw.cell 2 rfl 2 rfl; clear hSw; go_simp; (try with_reducible rfl)
      (try simp only [Act.put, List.setIfInBounds_toArray, List.set_cons_zero, List.set_cons_succ])
      refine wpAnyH_take (i := 29) (oi := { dst := some 102, op := Op.binOp BinOp.eql 9 (Operand.tmp 99) (Operand.tmp 101) 9, type := 4, pos := _, after := #[{ on := 26, ground := Ground.data }, { on := 28, ground := Ground.data }, { on := 24, ground := Ground.guard }], guard := some (24, true) }) (v := ?_) rfl (by kernel_rfl) (by kernel_rfl) (by kernel_rfl) (fun _ _ _ h => h) (Or.inl ⟨by rfl, ?hy⟩) hHeld ?_
      case hy => intro w0 hSw; (try dsimp only at hSw); go_simp; (try with_reducible rfl)
      (try simp only [Act.put, List.setIfInBounds_toArray, List.set_cons_zero, List.set_cons_succ])
      refine wpAnyH_take (i := 30) (oi := { dst := some 103, op := Op.pick (Operand.tmp 97) (Operand.tmp 102) (Operand.const (Value.bool false)), type := 4, pos := _, after := #[{ on := 24, ground := Ground.data }, { on := 29, ground := Ground.data }], guard := none }) (v := ?_) rfl (by kernel_rfl) (by kernel_rfl) (by kernel_rfl) (fun _ _ _ h => h) (Or.inl ⟨by rfl, ?hy⟩) hHeld ?_
      case hy => intro w0 hSw; (try dsimp only at hSw); go_simp; (try with_reducible rfl)
      (try simp only [Act.put, List.setIfInBounds_toArray, List.set_cons_zero, List.set_cons_succ])
      refine wpAnyH_take (i := 31) (oi := { dst := some 104, op := Op.move (Operand.tmp 103), type := 4, pos := _, after := #[{ on := 30, ground := Ground.data }, { on := 24, ground := Ground.chain }], guard := none }) (v := ?_) rfl (by kernel_rfl) (by kernel_rfl) (by kernel_rfl) (fun _ _ _ h => h) (Or.inl ⟨by rfl, ?hy⟩) hHeld ?_
      case hy => intro w0 hSw; (try dsimp only at hSw); go_simp; (try with_reducible rfl)
      (try simp only [Act.put, List.setIfInBounds_toArray, List.set_cons_zero, List.set_cons_succ])
      refine wpAnyH_take (i := 32) (oi := { dst := some 105, op := Op.load 23 (Operand.tmp 5), type := 23, pos := _, after := #[{ on := 31, ground := Ground.guard }], guard := some (31, true) }) (v := ?_) rfl (by kernel_rfl) (by kernel_rfl) (by kernel_rfl) (fun _ _ _ h => h) (Or.inl ⟨by rfl, ?hy⟩) hHeld ?_
      case hy => intro w0 hSw; have d0 := hSw.cell 1 rfl 0 rfl; have d1 := hSw.cell 1 rfl 1 rfl; have d2 := hSw.cell 1 rfl 2 rfl; clear hSw; go_simp; (try with_reducible rfl)
      (try simp only [Act.put, List.setIfInBounds_toArray, List.set_cons_zero, List.set_cons_succ])
      refine wpAnyH_ready (rs := [33]) (by kernel_rfl) (by simp) ?_
      refine AllReadyH.cons (o := { dst := some 106, op := Op.call { callee := Callee.value (Operand.func 22), args := #[Operand.tmp 105], argTypes := #[23] }, type := 4, pos := _, after := #[{ on := 32, ground := Ground.data }, { on := 31, ground := Ground.chain }, { on := 31, ground := Ground.guard }], guard := some (31, true) }) rfl (fun K hK => ?_) AllReadyH.nil
      go_simp
      refine (KI _ (hS.fact 0 rfl)).out.mono ?_
      rintro e y4 ⟨rfl, hB'⟩
      replace hS := hS.on hB'
      clear hB'
      go_wp2_with fail
      refine hK.out _ _ hS (fun hHeld => ?_)
      clear hK K
      (try simp only [Act.put, List.setIfInBounds_toArray, List.set_cons_zero, List.set_cons_succ])
      refine wpAnyH_take (i := 34) (oi := { dst := some 107, op := Op.pick (Operand.tmp 104) (Operand.tmp 106) (Operand.const (Value.bool false)), type := 4, pos := _, after := #[{ on := 31, ground := Ground.data }, { on := 33, ground := Ground.data }], guard := none }) (v := ?_) rfl (by kernel_rfl) (by kernel_rfl) (by kernel_rfl) (fun _ _ _ h => h) (Or.inl ⟨by rfl, ?hy⟩) hHeld ?_
      case hy => intro w0 hSw; (try dsimp only at hSw); go_simp; (try with_reducible rfl)
      (try simp only [Act.put, List.setIfInBounds_toArray, List.set_cons_zero, List.set_cons_succ])
      refine wpAnyH_take (i := 35) (oi := { dst := some 4, op := Op.assign (Operand.tmp 107), type := 4, pos := _, after := #[{ on := 34, ground := Ground.data }, { on := 33, ground := Ground.chain }, { on := 0, ground := Ground.phase }, { on := 1, ground := Ground.phase }, { on := 2, ground := Ground.phase }, { on := 3, ground := Ground.phase }, { on := 4, ground := Ground.phase }, { on := 5, ground := Ground.phase }, { on := 6, ground := Ground.phase }, { on := 7, ground := Ground.phase }, { on := 8, ground := Ground.phase }, { on := 9, ground := Ground.phase }, { on := 10, ground := Ground.phase }, { on := 11, ground := Ground.phase }, { on := 12, ground := Ground.phase }, { on := 13, ground := Ground.phase }, { on := 14, ground := Ground.phase }, { on := 15, ground := Ground.phase }, { on := 16, ground := Ground.phase }, { on := 17, ground := Ground.phase }, { on := 18, ground := Ground.phase }, { on := 19, ground := Ground.phase }, { on := 20, ground := Ground.phase }, { on := 21, ground := Ground.phase }, { on := 22, ground := Ground.phase }, { on := 23, ground := Ground.phase }, { on := 24, ground := Ground.phase }, { on := 25, ground := Ground.phase }, { on := 26, ground := Ground.phase }, { on := 27, ground := Ground.phase }, { on := 28, ground := Ground.phase }, { on := 29, ground := Ground.phase }, { on := 30, ground := Ground.phase }, { on := 31, ground := Ground.phase }, { on := 32, ground := Ground.phase }, { on := 33, ground := Ground.phase }, { on := 34, ground := Ground.phase }], guard := none }) (v := ?_) rfl (by kernel_rfl) (by kernel_rfl) (by kernel_rfl) (fun _ _ _ h => h) (Or.inl ⟨by rfl, ?hy⟩) hHeld ?_
      case hy => intro w0 hSw; (try dsimp only at hSw); go_simp; (try with_reducible rfl)
      (try simp only [Act.put, List.setIfInBounds_toArray, List.set_cons_zero, List.set_cons_succ])
      refine wpAnyH_done (by kernel_rfl) ?_ _
      clear hHeld
      have HSe := Lib.hid hS
      clear hS
      go_wp2
      go_ret
      exact ⟨rfl, HSe.out.below⟩

theorem fileAdds_walk {E : World → Prop} (HS : Hid (FileK E)) (HC : Hid (FiledK E)) (m : Int) (k l : ByteArray) (A : Option Addr) (N cap : Nat) (ss : List ByteArray) (w : World) (hE : E w) (hI : IsStrs w A N cap ss) :
    Calls Try.prog 4 #[.agg #[.int .i64 m, .string k, .string l], .slice A N cap] w fun e w' => e = .returned (.bool true) ∧ Below w.heap.size w w' := by
  by_cases hb : decide (2000 < k.size ∨ 2000 < l.size) = true
  · exact fileAdds_big m k l A N cap w hb
  have hb' : decide (2000 < k.size ∨ 2000 < l.size) = false := by simpa using hb
  have hkl : Fi.small ⟨m, k, l⟩ := by have := of_decide_eq_false hb'; unfold Fi.small; simp only; omega
  obtain ⟨hN, hNm, hA, hsz⟩ := hI.strs
  have hcap : ss.length ≤ cap := by
    rcases hI with ⟨_, e1, e2, e3⟩ | ⟨x, _, e1, _, e2, _⟩
    · rw [e3]; exact Nat.zero_le _
    · omega
  subst hN
  by_cases hsh : shortB ss = true
  · have hl60 : ss.length ≤ 60 := by unfold shortB at hsh; rw [Bool.and_eq_true] at hsh; exact of_decide_eq_true hsh.2
    have hz3 : ∀ s ∈ ss, s.size ≤ 300 := fun s hs => by
      unfold shortB at hsh; rw [Bool.and_eq_true] at hsh
      exact of_decide_eq_true (List.all_eq_true.1 hsh.1 s hs)
    have hz : ∀ s ∈ ss, s.size ≤ 9000 := fun s hs => by have := hz3 s hs; omega
    have pf := fun W (h : StrsAt W W.heap.size A ss) => Lib.hid (far12_any A cap ss W h hNm hsz)
    rw [hsh] at pf
    have KA := fun W (h : E W) (hA : StrsAt W W.heap.size A ss) => Lib.hid (HS.out.add ⟨m, k, l⟩ A ss.length cap ss W h hkl hA rfl (by omega) hcap hz)
    have KL := fun (j : Nat) (hj : j < ss.length) (s : ByteArray) (hs : ss[j]? = some s) (W : World) (A1 : Addr) (h : E W) (hA1 : StrsAt W W.heap.size (some A1) [s]) => by
      have hse : s = ss[j] := by rw [List.getElem?_eq_getElem hj] at hs; exact (Option.some.inj hs).symm
      have hzs : ∀ x ∈ [s], x.size ≤ 9000 := fun x hx => by
        obtain rfl : x = s := by simpa using hx
        rw [hse]; exact hz _ (List.getElem_mem hj)
      have hg := Lib.hid (HS.out.add (Fi.run ⟨m, k, l⟩ (ss.take j)).1 (some A1) 1 1 [s] W h (Fi.run_small hkl ss j (by omega)) hA1 rfl (by decide) (Nat.le_refl _) hzs)
      have e : Fi.add (Fi.run ⟨m, k, l⟩ (ss.take j)).1 [s] = (Fi.run ⟨m, k, l⟩ (ss.take (j + 1))).1 := by rw [Fi.run_snoc _ _ _ hj, hse]; rfl
      have e2 : Fi.addE (Fi.run ⟨m, k, l⟩ (ss.take j)).1 [s] = Fi.addE (Fi.run ⟨m, k, l⟩ (ss.take j)).1 [ss.getD j ByteArray.empty] := by
        rw [List.getD_eq_getElem?_getD, hs]; rfl
      rw [e, e2] at hg
      exact hg
    have hB0 : (Fi.run ⟨m, k, l⟩ (ss.take 0)).1 = ⟨m, k, l⟩ := rfl
    have hG0 : (Fi.run ⟨m, k, l⟩ (ss.take 0)).2 = 0 := rfl
    have hG : ∀ j, j < ss.length → (Fi.run ⟨m, k, l⟩ (ss.take (j + 1))).2 = if Fi.addE (Fi.run ⟨m, k, l⟩ (ss.take j)).1 [ss.getD j ByteArray.empty] ≠ 0 ∧ (Fi.run ⟨m, k, l⟩ (ss.take j)).2 = 0 then Fi.addE (Fi.run ⟨m, k, l⟩ (ss.take j)).1 [ss.getD j ByteArray.empty] else (Fi.run ⟨m, k, l⟩ (ss.take j)).2 := fun j hj => by
      rw [Fi.run_snoc _ _ _ hj, List.getD_eq_getElem?_getD, List.getElem?_eq_getElem hj]; rfl
    have hrN : Fi.run ⟨m, k, l⟩ (ss.take ss.length) = Fi.run ⟨m, k, l⟩ ss := by rw [List.take_length]
    cases hi : Fi.is ⟨m, k, l⟩
    · have he : Fi.addE ⟨m, k, l⟩ ss = 1 := by unfold Fi.addE; rw [hi]; rfl
      have ha : Fi.add ⟨m, k, l⟩ ss = Fi.no := add_no14 _ _ (by rw [he]; decide)
      rw [ha, he] at KA
      have KR := fun W (h : E W) => Lib.hid (HS.out.read Fi.no W h ⟨Nat.zero_le _, Nat.zero_le _⟩)
      rw [Fi.no_read] at KR
      by_cases h0 : ss = []
      · subst h0
        exact fileAdds_err0 HS HC m k l A _ cap [] w hE hb' hA rfl hl60 hz3 1 (by decide) (by decide) (fun j => (Fi.run ⟨m, k, l⟩ (([] : List ByteArray).take j)).1) (fun j => (Fi.run ⟨m, k, l⟩ (([] : List ByteArray).take j)).2) (fun j => Fi.addE (Fi.run ⟨m, k, l⟩ (([] : List ByteArray).take j)).1 [([] : List ByteArray).getD j ByteArray.empty]) hB0 hG0 hG rfl KA KL pf KR
      · exact fileAdds_errg HS HC m k l A _ cap ss w hE hb' hA rfl hl60 hz3 1 _ (by decide) (by simpa using Fi.run_not ss _ hi h0) (fun j => (Fi.run ⟨m, k, l⟩ (ss.take j)).1) (fun j => (Fi.run ⟨m, k, l⟩ (ss.take j)).2) (fun j => Fi.addE (Fi.run ⟨m, k, l⟩ (ss.take j)).1 [ss.getD j ByteArray.empty]) hB0 hG0 hG (by simp only [hrN]) KA KL pf KR
    · by_cases hle : (k.size : Int) + l.size + (Fi.all ss).size ≤ m
      · have he : Fi.addE ⟨m, k, l⟩ ss = 0 := by unfold Fi.addE; rw [if_pos hi, if_pos hle]
        have ha : Fi.add ⟨m, k, l⟩ ss = ⟨m, k, l ++ Fi.all ss⟩ := by unfold Fi.add; rw [if_pos he]
        rw [ha, he] at KA
        have hrun := Fi.run_ok ss ⟨m, k, l⟩ hi hle
        simp only at hrun
        have h2 := Fi.is_small hi
        simp only at h2
        have hys : Fi.small ⟨m, k, l ++ Fi.all ss⟩ := by rw [← ha]; exact Fi.add_small hkl ss
        have hyi : Fi.is ⟨m, k, l ++ Fi.all ss⟩ = true := by
          unfold Fi.is; rw [decide_eq_true_iff]; simp only; rw [ByteArray.size_append]; omega
        have KR := fun W (h : E W) => Lib.hid (HS.out.read ⟨m, k, l ++ Fi.all ss⟩ W h hys)
        have er : Fi.read ⟨m, k, l ++ Fi.all ss⟩ = Fi.read ⟨m, k, l⟩ ++ Fi.all ss := by unfold Fi.read; rw [ba_assoc]
        rw [er] at KR
        have KF := fun W (h : E W) => Lib.hid (HS.out.read ⟨m, k, l⟩ W h hkl)
        have KI := fun W (h : E W) => Lib.hid (HS.out.is ⟨m, k, l ++ Fi.all ss⟩ W h hys)
        rw [hyi] at KI
        have Hcz : Hid (¬ 9223372036854775807 < (Fi.read ⟨m, k, l⟩).size + (Fi.all ss).size) := Lib.hid (by rw [Fi.read_size]; simp only; omega)
        by_cases h0 : (ss.length : Int) = 0
        · exact fileAdds_ok0 HS HC m k l A _ cap ss w hE hb' hA rfl hl60 hz3 (l ++ Fi.all ss) (Fi.read ⟨m, k, l⟩) (Fi.all ss) (by simpa using h0) (fun j => (Fi.run ⟨m, k, l⟩ (ss.take j)).1) (fun j => (Fi.run ⟨m, k, l⟩ (ss.take j)).2) (fun j => Fi.addE (Fi.run ⟨m, k, l⟩ (ss.take j)).1 [ss.getD j ByteArray.empty]) hB0 hG0 hG (by simp only [hrN, hrun]) (by simp only [hrN, hrun]) rfl Hcz KA KL pf KR KF KI
        · exact fileAdds_ok1 HS HC m k l A _ cap ss w hE hb' hA rfl hl60 hz3 (l ++ Fi.all ss) (Fi.read ⟨m, k, l⟩) (Fi.all ss) (by simpa using h0) (fun j => (Fi.run ⟨m, k, l⟩ (ss.take j)).1) (fun j => (Fi.run ⟨m, k, l⟩ (ss.take j)).2) (fun j => Fi.addE (Fi.run ⟨m, k, l⟩ (ss.take j)).1 [ss.getD j ByteArray.empty]) hB0 hG0 hG (by simp only [hrN, hrun]) (by simp only [hrN, hrun]) rfl Hcz KA KL pf KR KF KI
      · have he : Fi.addE ⟨m, k, l⟩ ss = 81 := by unfold Fi.addE; rw [if_pos hi, if_neg hle]
        have ha : Fi.add ⟨m, k, l⟩ ss = Fi.no := add_no14 _ _ (by rw [he]; decide)
        rw [ha, he] at KA
        have KR := fun W (h : E W) => Lib.hid (HS.out.read Fi.no W h ⟨Nat.zero_le _, Nat.zero_le _⟩)
        rw [Fi.no_read] at KR
        exact fileAdds_errg HS HC m k l A _ cap ss w hE hb' hA rfl hl60 hz3 81 _ (by decide) (by simpa using Fi.run_bad ss _ hi hle) (fun j => (Fi.run ⟨m, k, l⟩ (ss.take j)).1) (fun j => (Fi.run ⟨m, k, l⟩ (ss.take j)).2) (fun j => Fi.addE (Fi.run ⟨m, k, l⟩ (ss.take j)).1 [ss.getD j ByteArray.empty]) hB0 hG0 hG (by simp only [hrN]) KA KL pf KR
  · have hsf : shortB ss = false := by simpa using hsh
    have pf := fun W (h : StrsAt W W.heap.size A ss) => Lib.hid (far12_any A cap ss W h hNm hsz)
    rw [hsf] at pf
    exact fileAdds_far m k l A ss.length cap ss w hb' hA pf
end Go.Proofs.Ytdhklggbmlkloaa
