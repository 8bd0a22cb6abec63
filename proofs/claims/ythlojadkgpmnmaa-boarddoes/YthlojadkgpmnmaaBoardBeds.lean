/-
  Layer 8 (board): the law BoardBeds, over the contracts.
-/
import Derived.Test.YthlojadkgpmnmaaBoardH
import Derived.BigQuiet
import Derived.Deep.QuietTactic
namespace Go.Proofs.Ythlojadkgpmnmaa
open Go.RowKit

theorem Bd.of_take {zs : List Int} {ls : List Alm} {k : Nat} (h : k < ls.length) : Bd.ofL zs (ls.take (k + 1)) = Bd.ofL zs (ls.take k) ++ (if zs.any (fun z => z == ls[k].b) then [ls[k]] else []) := by
  unfold Bd.ofL
  rw [List.take_succ_eq_append_getElem h, List.filter_append]
  congr 1
  rw [List.filter_cons]
  split <;> rfl
theorem Bd.of_le (zs : List Int) (ls : List Alm) (k : Nat) : (Bd.ofL zs (ls.take k)).length ≤ (Bd.ofL zs ls).length := by
  have h : Bd.ofL zs ls = Bd.ofL zs (ls.take k) ++ Bd.ofL zs (ls.drop k) := by unfold Bd.ofL; rw [← List.filter_append, List.take_append_drop]
  rw [h, List.length_append]
  omega
/-- The next one that is gathered. -/
theorem Bd.of_next {zs : List Int} {ls : List Alm} {k : Nat} (h : k < ls.length) (hit : zs.any (fun z => z == ls[k].b) = true) : ∃ hn : (Bd.ofL zs (ls.take k)).length < (Bd.ofL zs ls).length, (Bd.ofL zs ls)[(Bd.ofL zs (ls.take k)).length] = ls[k] := by
  have e : Bd.ofL zs ls = (Bd.ofL zs (ls.take k) ++ [ls[k]]) ++ Bd.ofL zs (ls.drop (k + 1)) := by
    have e1 := Bd.of_take (zs := zs) h
    rw [hit] at e1
    simp only [if_true] at e1
    rw [← e1]
    unfold Bd.ofL
    rw [← List.filter_append, List.take_append_drop]
  have hn : (Bd.ofL zs (ls.take k)).length < (Bd.ofL zs ls).length := by rw [e]; simp
  refine ⟨hn, ?_⟩
  have : (Bd.ofL zs ls)[(Bd.ofL zs (ls.take k)).length]? = some ls[k] := by rw [e]; simp
  rw [List.getElem?_eq_getElem hn] at this
  exact Option.some.inj this
theorem any_take {zs : List Int} {x : Int} {j : Nat} (h : j < zs.length) : (zs.take (j + 1)).any (fun z => z == x) = ((zs.take j).any (fun z => z == x) || (zs[j] == x)) := by
  rw [List.take_succ_eq_append_getElem h, List.any_append]
  simp

set_option maxRecDepth 10000 in
set_option maxHeartbeats 4000000 in
theorem boardBeds_go (HK : Hid BoardK) (HE : Hid SameK) (m n : Int) (A B : Option Addr) (l c lb cb : Nat) (ls : List Alm) (zs : List Int) (w : World) (hl : l = ls.length) (hA : AlmsAt w w.heap.size A ls) (h0 : A = none → c = 0) (hlb : lb = zs.length) (hB : IntsAt w w.heap.size B zs) (hf : l ≤ 60) (hf2 : lb ≤ 60) :
    Calls Try.prog 6 #[.agg #[.int .i64 m, .int .i64 n, .slice A l c], .slice B lb cb] w fun e w' => e = .returned (.bool true) ∧ Below w.heap.size w w' := by
  have HS0 := Lib.hid ((((St.start w).more (rowF A ls) hA).more (numF B zs) hB).new #[.int .i64 m, .int .i64 n, .slice A l c] 24)
  have HF := fun W => far_v m n A l c false (by simp; omega) W
  obtain ⟨X, hX⟩ : ∃ X, X = Bd.ofL zs ls := ⟨_, rfl⟩
  obtain ⟨lx, hlx⟩ : ∃ x, x = X.length := ⟨_, rfl⟩
  have lx60 : lx ≤ 60 := by rw [hlx, hX]; have : (Bd.ofL zs ls).length ≤ ls.length := List.length_filter_le _ _; omega
  have G1 := fun (W : World) (h : AlmsAt W W.heap.size A ls) (h2 : IntsAt W W.heap.size B zs) => Lib.hid (HK.out.gather m n A l c ls B lb cb zs W ⟨hl, h, h0, by omega⟩ hlb h2 (by omega))
  rw [← hX] at G1
  have i60 : ((60 : Int) < (lb : Int)) = False := eq_false (by omega)
  have Hl := Lib.hid hl
  have Hlb := Lib.hid hlb
  have Hf := Lib.hid hf
  have Hf2 := Lib.hid hf2
  have HX := Lib.hid hX
  have Hlx := Lib.hid hlx
  have Hlx60 := Lib.hid lx60
  clear hl hA h0 hlb hB hf hf2 hX hlx lx60
  go_enter Try.func6, Try.ntmps6
  go_wp2_with fail
  refine (HF _).mono ?_
  rintro e w1 ⟨rfl, hB⟩
  have HS := Lib.hid (HS0.out.on hB)
  clear hB HS0 HF
  obtain ⟨p1, hp1⟩ : ∃ p, p = w.heap.size := ⟨_, rfl⟩
  rw [← hp1] at HS ⊢
  clear hp1
  go_wp2_with (refine wpList_load_st rfl 24 _ rfl HS.out 0 _ _ rfl rfl _ Try.underlying24 rfl (by rfl) ?_)
  refine (G1 _ (HS.out.fact 1 rfl) (HS.out.fact 0 rfl)).out.mono ?_
  rintro e w2 ⟨v, rfl, hO, hB⟩
  obtain ⟨A2, c2, rfl, hA2, _, _⟩ := hO.slice
  rw [← Hlx.out]
  replace HS := Lib.hid ((HS.out.on hB).more (rowF A2 X) hA2)
  clear hO hB hA2 G1 i60
  have s2 := HS.out.cell 0 rfl 2 rfl
  have HA : Hid (AlmsAt w2 w2.heap.size A ls) := Lib.hid (HS.out.fact 2 rfl)
  have HZ : Hid (IntsAt w2 w2.heap.size B zs) := Lib.hid (HS.out.fact 1 rfl)
  have HR : Hid (AlmsAt w2 w2.heap.size A2 X) := Lib.hid (HS.out.fact 0 rfl)
  go_wp2_with fail
  go_loopw [6, 7] (fun nn i wr => ∃ k q : Nat, k ≤ l ∧ i = .int .i64 (k : Int) ∧ nn = .int .i64 (((Bd.ofL zs (ls.take k)).length : Nat) : Int) ∧ wr = w2.drewN q) (fun _ i _ => l - (intOf i).toNat)
  case atStart => exact ⟨0, 0, Nat.zero_le _, rfl, rfl, rfl⟩
  case round =>
    obtain ⟨k, q, hk, rfl, rfl, rfl⟩ := hrel
    by_cases hlt : k < l
    · have kl : k < ls.length := by rw [← Hl.out]; exact hlt
      obtain ⟨b0, o0, rfl, hb0, h6⟩ := HA.out k kl
      have Hof := Lib.hid (Bd.of_take (zs := zs) kl)
      have Hnx := Lib.hid (fun h => Bd.of_next (zs := zs) kl h)
      have Hle := Lib.hid (Bd.of_le zs ls k)
      rw [← HX.out] at Hnx Hle
      obtain ⟨x, hx⟩ : ∃ x, x = ls[k] := ⟨_, rfl⟩
      rw [← hx] at h6 Hof Hnx
      clear hx
      obtain ⟨x0, x1, x2, x3, x4, x5⟩ := x
      simp only at Hof Hnx
      have d0 := h6.c0
      have d1 := h6.c1
      have d2 := h6.c2
      have d3 := h6.c3
      have d4 := h6.c4
      have d5 := h6.c5
      simp only at d0 d1 d2 d3 d4 d5
      obtain ⟨nn, hnn⟩ : ∃ x, x = (Bd.ofL zs (ls.take k)).length := ⟨_, rfl⟩
      have Hnn := Lib.hid hnn
      rw [← hnn] at Hnx Hle ⊢
      have i1 : (k : Int) < (l : Int) := by omega
      have i3 : (0 : Int) ≤ (k : Int) := by omega
      have Ik : Hid (wrap64 ((k : Int) + 1) = (k : Int) + 1) := Lib.hid (by have := Hf.out; unfold wrap64; omega)
      have Hk := Lib.hid hlt
      clear h6 kl hk hlt hnn
      go_wp2_with fail
      go_loopw [8, 9] (fun inn kk wr => ∃ j q : Nat, j ≤ lb ∧ kk = .int .i64 (j : Int) ∧ inn = .bool ((zs.take j).any (fun z => z == x0)) ∧ wr = w2.drewN q) (fun _ kk _ => lb - (intOf kk).toNat)
      case atStart => exact ⟨0, _, Nat.zero_le _, rfl, rfl, rfl⟩
      case round =>
        obtain ⟨j, q2, hj, rfl, rfl, rfl⟩ := hrel
        by_cases hlt : j < lb
        · have jl : j < zs.length := by rw [← Hlb.out]; exact hlt
          obtain ⟨b1, o1, rfl, hb1, hc⟩ := HZ.out j jl
          have Hany := Lib.hid (any_take (x := x0) jl)
          obtain ⟨z, hz⟩ : ∃ z, z = zs[j] := ⟨_, rfl⟩
          rw [← hz] at hc Hany
          clear hz
          obtain ⟨bb, hbb⟩ : ∃ b, b = (zs.take j).any (fun z => z == x0) := ⟨_, rfl⟩
          rw [← hbb] at Hany ⊢
          clear hbb
          have j1 : (j : Int) < (lb : Int) := by omega
          have j3 : (0 : Int) ≤ (j : Int) := by omega
          have Ij : Hid (wrap64 ((j : Int) + 1) = (j : Int) + 1) := Lib.hid (by have := Hf2.out; unfold wrap64; omega)
          have Hj := Lib.hid hlt
          clear jl hj hlt hb1
          cases bb
          · go_wp2
            go_quiet (fail)
            go_wp2
            go_roundw
            case rel => exact ⟨j + 1, _, Hj.out, by first | rfl | (rw [Ij.out]; rfl), by rw [Hany.out]; rfl, rfl⟩
            case measure => have := Hj.out; (try rw [Ij.out]); simp [intOf]; omega
          · go_wp2
            go_quiet (fail)
            go_wp2
            go_roundw
            case rel => exact ⟨j + 1, _, Hj.out, by first | rfl | (rw [Ij.out]; rfl), by rw [Hany.out]; rfl, rfl⟩
            case measure => have := Hj.out; (try rw [Ij.out]); simp [intOf]; omega
        · have ik : ((j : Int) < (lb : Int)) = False := eq_false (by omega)
          have He : Hid (zs.take j = zs) := Lib.hid (List.take_of_length_le (by have := Hlb.out; omega))
          rw [He.out]
          clear hj hlt He
          cases hit : zs.any (fun z => z == x0)
          · have Hof2 : Hid ((Bd.ofL zs (ls.take (k + 1))).length = nn) := Lib.hid (by rw [Hof.out, hit, Hnn.out]; simp)
            clear Hof Hnx hit
            go_wp2
            go_roundw
            case rel => exact ⟨k + 1, _, Hk.out, by first | rfl | (rw [Ik.out]; rfl), by rw [Hof2.out], rfl⟩
            case measure => have := Hk.out; (try rw [Ik.out]); simp [intOf]; omega
          · have Hof2 : Hid ((Bd.ofL zs (ls.take (k + 1))).length = nn + 1) := Lib.hid (by rw [Hof.out, hit, Hnn.out]; simp)
            obtain ⟨hn, hxn⟩ := Hnx.out hit
            obtain ⟨b2, o2, rfl, hb2, g6⟩ := HR.out nn hn
            rw [hxn] at g6
            have e0 := g6.c0
            have e1 := g6.c1
            have e2 := g6.c2
            have e3 := g6.c3
            have e4 := g6.c4
            have e5 := g6.c5
            simp only at e0 e1 e2 e3 e4 e5
            have n1 : ((nn : Int) < (lx : Int)) := by rw [Hlx.out]; omega
            have n2 : ((lx : Int) ≤ (nn : Int)) = False := eq_false (by omega)
            have n3 : (0 : Int) ≤ (nn : Int) := by omega
            have Inn : Hid (wrap64 ((nn : Int) + 1) = (nn : Int) + 1) := Lib.hid (by have := Hlx60.out; unfold wrap64; omega)
            have InnI : Hid (wrap64 ((nn : Int) + 1) = ((nn + 1 : Nat) : Int)) := Lib.hid (by rw [Inn.out]; rfl)
            clear Hof Hnx hit g6 hxn hb2 hn
            go_wp2
            go_quiet (fail)
            go_wp2
            go_roundw
            case rel => exact ⟨k + 1, _, Hk.out, by first | rfl | (rw [Ik.out]; rfl), by first | (rw [Hof2.out]; rfl) | (rw [Hof2.out, InnI.out]), rfl⟩
            case measure => have := Hk.out; (try rw [Ik.out]); simp [intOf]; omega
    · have ik : ((k : Int) < (l : Int)) = False := eq_false (by omega)
      have He : Hid ((Bd.ofL zs (ls.take k)).length = lx) := Lib.hid (by rw [List.take_of_length_le (by have := Hl.out; omega), ← HX.out, Hlx.out])
      rw [He.out]
      have b0 : ((lx : Int) == (lx : Int)) = true := by rw [beq_iff_eq]
      have HSq := Lib.hid (HS.out.drewN q)
      clear hk hlt He
      go_wp2_with fail
      refine (boards_any HK HE _).mono ?_
      rintro e w3 ⟨rfl, hB⟩
      have HSe := Lib.hid (HSq.out.on hB)
      clear hB
      go_wp2
      go_ret
      exact ⟨rfl, HSe.out.below⟩

theorem boardBeds_far (m n : Int) (A B : Option Addr) (l c lb cb : Nat) (w : World) (hf : 60 < l) :
    Calls Try.prog 6 #[.agg #[.int .i64 m, .int .i64 n, .slice A l c], .slice B lb cb] w fun e w' => e = .returned (.bool true) ∧ Below w.heap.size w w' := by
  have HF := fun W => far_v m n A l c true (by simp; omega) W
  have HS0 := Lib.hid ((St.start w).new #[.int .i64 m, .int .i64 n, .slice A l c] 24)
  clear hf
  go_enter Try.func6, Try.ntmps6
  go_wp2_with fail
  refine (HF _).mono ?_
  rintro e w1 ⟨rfl, hB⟩
  have HS := Lib.hid (HS0.out.on hB)
  clear hB HS0 HF
  go_wp2
  go_ret
  exact ⟨rfl, HS.out.below⟩
theorem boardBeds_far2 (m n : Int) (A B : Option Addr) (l c lb cb : Nat) (w : World) (hf : l ≤ 60) (hf2 : 60 < lb) :
    Calls Try.prog 6 #[.agg #[.int .i64 m, .int .i64 n, .slice A l c], .slice B lb cb] w fun e w' => e = .returned (.bool true) ∧ Below w.heap.size w w' := by
  have HF := fun W => far_v m n A l c false (by simp; omega) W
  have HS0 := Lib.hid ((St.start w).new #[.int .i64 m, .int .i64 n, .slice A l c] 24)
  have i60 : ((60 : Int) < (lb : Int)) = True := eq_true (by omega)
  clear hf hf2
  go_enter Try.func6, Try.ntmps6
  go_wp2_with fail
  refine (HF _).mono ?_
  rintro e w1 ⟨rfl, hB⟩
  have HS := Lib.hid (HS0.out.on hB)
  clear hB HS0 HF
  go_wp2
  go_ret
  exact ⟨rfl, HS.out.below⟩
theorem boardBeds_walk (HK : Hid BoardK) (HE : Hid SameK) (m n : Int) (A : Option Addr) (c : Nat) (ls : List Alm) (B : Option Addr) (lb cb : Nat) (zs : List Int) (w : World) (hA : AlmsAt w w.heap.size A ls) (hB : IsRow .i64 w B lb cb zs) (h0 : A = none → c = 0) :
    Calls Try.prog 6 #[.agg #[.int .i64 m, .int .i64 n, .slice A ls.length c], .slice B lb cb] w fun e w' => e = .returned (.bool true) ∧ Below w.heap.size w w' := by
  by_cases hf : 60 < ls.length
  · exact boardBeds_far m n A B ls.length c lb cb w hf
  · by_cases hf2 : 60 < lb
    · exact boardBeds_far2 m n A B ls.length c lb cb w (by omega) hf2
    · have h := hB.ints
      exact boardBeds_go HK HE m n A B ls.length c lb cb ls (zs.take lb) w rfl hA h0 h.1 h.2.2.1 (by omega) (by omega)
end Go.Proofs.Ythlojadkgpmnmaa
