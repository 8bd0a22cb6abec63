/-
  Layer 13 (record): the references' Add (printed by tools/gen-refrec4.py).
-/
import Derived.Test.YtfapfnbehhekhaaXRefRec3
import Derived.Test.YtfapfnbehhekhaaXJb
namespace Go.Proofs.Ytfapfnbehhekhaa
set_option maxRecDepth 10000
open Go.RowKit

namespace Rc
def parts : Int → List ByteArray → List ByteArray
  | _, [] => []
  | n, s :: r => strOf (putS n (bl s)) :: parts (n + 1) r
theorem parts_append (n : Int) (a b : List ByteArray) : parts n (a ++ b) = parts n a ++ parts (n + a.length) b := by
  induction a generalizing n with
  | nil => simp [parts]
  | cons t a ih =>
    simp only [List.cons_append, parts, ih, List.length_cons]
    congr 3; omega
theorem parts_snoc (n : Int) (ss : List ByteArray) (j : Nat) (h : j < ss.length) : parts n (ss.take (j + 1)) = parts n (ss.take j) ++ [strOf (putS (n + j) (bl ss[j]))] := by
  rw [List.take_succ_eq_append_getElem h, parts_append, List.length_take, Nat.min_eq_left (Nat.le_of_lt h)]; rfl
theorem parts_len (n : Int) (ss : List ByteArray) : (parts n ss).length = ss.length := by
  induction ss generalizing n with
  | nil => rfl
  | cons s r ih => rw [parts, List.length_cons, ih, List.length_cons]
theorem putS_le (n : Int) (t : List UInt8) : (putS n t).length ≤ 1020 := by
  by_cases h : putE n t = 0
  · obtain ⟨h1, h2⟩ := putE_zero.1 h
    rw [putS_yes h]
    have := rec1_le h1 h2
    omega
  · rw [putS_no h]; exact Nat.zero_le _
theorem parts_le (n : Int) (ss : List ByteArray) : ∀ s ∈ parts n ss, s.size ≤ 9000 := by
  induction ss generalizing n with
  | nil => intro s hs; cases hs
  | cons t r ih =>
    intro s hs
    rcases List.mem_cons.1 hs with rfl | hs
    · rw [strOf_size]; have := putS_le n (bl t); omega
    · exact ih _ s hs
theorem parts_all {n : Int} {ss : List ByteArray} (h : okAll n (ss.map bl)) : Fi.all (parts n ss) = strOf (recs n (ss.map bl)) := by
  induction ss generalizing n with
  | nil => rfl
  | cons s r ih =>
    have h1 : putS n (bl s) = rec1 n (bl s) := putS_yes (putE_zero.2 h.1)
    have e : Fi.all (parts n (s :: r)) = strOf (putS n (bl s)) ++ Fi.all (parts (n + 1) r) := by
      have h3 := Fi.all_append [strOf (putS n (bl s))] (parts (n + 1) r)
      have h4 : Fi.all [strOf (putS n (bl s))] = strOf (putS n (bl s)) := by
        unfold Fi.all; apply bl_inj; rw [bl_strOf]; simp
      rw [h4] at h3; exact h3
    rw [e, ih h.2, h1]
    exact strs_append _ _
theorem add_parts {f : Fil} {n : Int} {ss : List ByteArray} (hi : Fi.is f = true) (h : okAll n (ss.map bl)) : Fi.addE f (parts n ss) = addE f n ss ∧ Fi.add f (parts n ss) = add f n ss := by
  have e1 := parts_all h
  obtain ⟨h1, h2⟩ := (ok_iff n ss).1 h
  have e2 : Fi.addE f (parts n ss) = addE f n ss := by
    unfold Fi.addE addE
    rw [if_pos hi, if_pos hi, if_pos h1, if_pos h2, e1, strOf_size]
  refine ⟨e2, ?_⟩
  unfold Fi.add add
  rw [e2, e1]
end Rc
/-- What holds ahead of each text. -/
def RRAddRel (u : World) (n : Int) (ss : List ByteArray) (v late i : Value) (wr : World) : Prop :=
  ∃ j : Nat, j ≤ ss.length ∧ i = .int .i64 (j : Int) ∧ Hid (j = 0 ∨ (0 ≤ n ∧ n + (j : Int) ≤ 1000000001)) ∧ late = .int .i64 (if Rc.shorts (ss.take j) = true then 0 else 2) ∧ Hid (OwnTs u wr v (Rc.parts n (ss.take j)))
theorem shorts_snoc (ss : List ByteArray) (j : Nat) (h : j < ss.length) : Rc.shorts (ss.take (j + 1)) = (Rc.shorts (ss.take j) && decide (ss[j].size ≤ 1000)) := by
  unfold Rc.shorts; rw [List.take_succ_eq_append_getElem h, List.all_append]; simp

set_option maxHeartbeats 1000000 in
theorem RRAdd_bad (m : Int) (k l : ByteArray) (n : Int) (A : Option Addr) (cap : Nat) (ss : List ByteArray) (hs : k.size ≤ 9000 ∧ l.size ≤ 9000) (w : World) (h : Fi.is ⟨m, k, l⟩ = false) :
    Calls Try.prog 15 #[.agg #[.int .i64 m, .string k, .string l], .int .i64 n, .slice A ss.length cap] w fun e w' => e = .returned (.tuple #[(Rc.add ⟨m, k, l⟩ n ss).v, .int .i64 (Rc.addE ⟨m, k, l⟩ n ss)]) ∧ Below w.heap.size w w' := by
  have p1 := fun W => FRIs_any m k l hs W
  rw [h] at p1
  have He : Hid (Rc.addE ⟨m, k, l⟩ n ss = 1) := Lib.hid (by unfold Rc.addE; rw [h]; rfl)
  clear h hs
  go_enter Try.func15, Try.ntmps15
  go_wp2_with fail
  refine (p1 _).mono ?_
  rintro e w1 ⟨rfl, hB⟩
  have HF := Lib.hid ((FilAt.new1 w (.cells #[.int .i64 m, .string k, .string l] 23) 0 ⟨#[]⟩ ⟨#[]⟩ 23).below hB)
  have Hb := Lib.hid (below2 (below_new2 w _ _) hB)
  clear p1 hB
  have a0 := HF.out.f0
  have a1 := HF.out.f1
  have a2 := HF.out.f2
  have b0 := HF.out.c0
  have b1 := HF.out.c1
  have b2 := HF.out.c2
  go_wp2_with fail
  all_goals (try simp only [Exit.inBlock, Exit.then])
  all_goals refine bodyPost_ret (ret_file rfl rfl (((HF.out.set0 0).set1 _).set2 _)) rfl ?_
  all_goals exact ⟨by rw [Rc.add_bad (by rw [He.out]; decide), He.out]; rfl, below_set3 Hb.out (by omega) _ _ _⟩

set_option maxHeartbeats 2000000 in
theorem RRAdd_is (m : Int) (k l : ByteArray) (n : Int) (A : Option Addr) (cap : Nat) (ss : List ByteArray) (hs : k.size ≤ 9000 ∧ l.size ≤ 9000) (w : World) (hA : StrsAt w w.heap.size A ss) (hl : ss.length ≤ 1000) (hz : ∀ s ∈ ss, s.size ≤ 9000) (h : Fi.is ⟨m, k, l⟩ = true) :
    Calls Try.prog 15 #[.agg #[.int .i64 m, .string k, .string l], .int .i64 n, .slice A ss.length cap] w fun e w' => e = .returned (.tuple #[(Rc.add ⟨m, k, l⟩ n ss).v, .int .i64 (Rc.addE ⟨m, k, l⟩ n ss)]) ∧ Below w.heap.size w w' := by
  have p1 := fun W => FRIs_any m k l hs W
  rw [h] at p1
  have p3 := fun W A c hA => FRAdd_any m k l A c (Rc.parts n ss) hs W hA (by rw [Rc.parts_len]; exact hl) (Rc.parts_le n ss)
  rw [Rc.parts_len] at p3
  have Hi := Lib.hid h
  have Hz := Lib.hid hz
  have HA := Lib.hid hA
  have P3 := Lib.hid p3
  clear h hs hz hA p3
  go_enter Try.func15, Try.ntmps15
  go_wp2_with fail
  refine (p1 _).mono ?_
  rintro e w1 ⟨rfl, hB⟩
  have HF1 := Lib.hid ((FilAt.new1 w (.cells #[.int .i64 m, .string k, .string l] 23) 0 ⟨#[]⟩ ⟨#[]⟩ 23).below hB)
  have HG1 := Lib.hid (((FilAt.new w m k l 23).alloc (.cells #[.int .i64 0, .string ⟨#[]⟩, .string ⟨#[]⟩] 23)).below hB)
  have Hb1 := Lib.hid (below2 (below_new2 w _ _) hB)
  clear p1 hB
  go_wp2_with fail
  go_loopw [8, 9, 10] (fun v late i wr => RRAddRel w1 n ss v late i wr) (fun _ _ i _ => ss.length - (intOf i).toNat)
  case atStart => exact ⟨0, Nat.zero_le _, rfl, Lib.hid (.inl rfl), rfl, Lib.hid (OwnTs.nil w1)⟩
  case round =>
    obtain ⟨j, hj, rfl, Hnum, rfl, Ho⟩ := hrel
    have HF := Lib.hid (HF1.out.below Ho.out.2)
    have HG := Lib.hid (HG1.out.below Ho.out.2)
    have Hb := Lib.hid (below2 Hb1.out Ho.out.2)
    by_cases hlt : j < ss.length
    · by_cases hbad : n < 0 ∨ 1000000000 - (j : Int) < n
      · have He : Hid (Rc.addE ⟨m, k, l⟩ n ss = 1) := Lib.hid (by
          have e : Rc.numsOk n ss.length = false := by unfold Rc.numsOk; rw [decide_eq_false_iff_not]; omega
          unfold Rc.addE; rw [if_pos Hi.out, e]; rfl)
        have wj : wrap64 (1000000000 - (j : Int)) = 1000000000 - (j : Int) := by unfold wrap64; omega
        by_cases hn : n < 0
        · have i1 := eq_true hn
          clear hbad hn
          have a0 := HF.out.f0
          have a1 := HF.out.f1
          have a2 := HF.out.f2
          have b0 := HF.out.c0
          have b1 := HF.out.c1
          have b2 := HF.out.c2
          go_wp2_with fail
          all_goals (try simp only [Exit.inBlock, Exit.then])
          all_goals refine bodyPost_ret (ret_file rfl rfl (((HF.out.set0 0).set1 _).set2 _)) rfl ?_
          all_goals exact ⟨by rw [Rc.add_bad (by rw [He.out]; decide), He.out]; rfl, below_set3 Hb.out (by omega) _ _ _⟩
        · have i1 := eq_false hn
          have i2 : ((1000000000 - (j : Int)) < n) = True := eq_true (by omega)
          clear hbad hn
          have a0 := HF.out.f0
          have a1 := HF.out.f1
          have a2 := HF.out.f2
          have b0 := HF.out.c0
          have b1 := HF.out.c1
          have b2 := HF.out.c2
          go_wp2_with fail
          all_goals (try simp only [Exit.inBlock, Exit.then])
          all_goals refine bodyPost_ret (ret_file rfl rfl (((HF.out.set0 0).set1 _).set2 _)) rfl ?_
          all_goals exact ⟨by rw [Rc.add_bad (by rw [He.out]; decide), He.out]; rfl, below_set3 Hb.out (by omega) _ _ _⟩
      · have wj : wrap64 (1000000000 - (j : Int)) = 1000000000 - (j : Int) := by unfold wrap64; omega
        have wn : wrap64 (n + (j : Int)) = n + (j : Int) := by unfold wrap64; omega
        have i1 : (n < 0) = False := eq_false (by omega)
        have i2 : ((1000000000 - (j : Int)) < n) = False := eq_false (by omega)
        have hok : Rc.nOk (n + (j : Int)) = true := Rc.nOk_iff.2 (by omega)
        have Hnum2 : Hid (0 ≤ n ∧ n + ((j + 1 : Nat) : Int) ≤ 1000000001) := Lib.hid (by omega)
        obtain ⟨b, off, rfl, hb, hc⟩ := HA.out j hlt
        have hc' := (Hb.out.cell (p := ⟨b, off + j, none⟩) hb).trans hc
        have hzj := Hz.out ss[j] (List.getElem_mem hlt)
        have Hsn := Lib.hid (shorts_snoc ss j hlt)
        have Hpn := Lib.hid (Rc.parts_snoc n ss j hlt)
        obtain ⟨s, hs⟩ : ∃ s, s = ss[j] := ⟨_, rfl⟩
        rw [← hs] at hc' hzj Hsn Hpn
        have p2 := fun W => RRPut_any (n + (j : Int)) s (by omega) W
        have hpe : Rc.putE (n + (j : Int)) (bl s) = if s.size ≤ 1000 then 0 else 2 := by unfold Rc.putE; rw [if_pos hok, bl_length]
        obtain ⟨z, hzz⟩ : ∃ z, z = strOf (Rc.putS (n + (j : Int)) (bl s)) := ⟨_, rfl⟩
        rw [hpe, ← hzz] at p2
        rw [← hzz] at Hpn
        obtain ⟨le, hle⟩ : ∃ le : Int, le = if Rc.shorts (ss.take j) = true then 0 else 2 := ⟨_, rfl⟩
        rw [← hle]
        have Hle := Lib.hid hle
        clear hbad hs hb hc hzj hpe hzz hle hok
        by_cases hsz : s.size ≤ 1000
        · rw [if_pos hsz] at p2
          have HsE : Hid (le = if Rc.shorts (ss.take (j + 1)) = true then 0 else 2) := Lib.hid (by rw [Hsn.out, decide_eq_true hsz, Bool.and_true]; exact Hle.out)
          clear hsz
          go_wp2_with fail
          refine (p2 _).mono ?_
          rintro e w2 ⟨rfl, hB2⟩
          have Ho2 := Lib.hid (Ho.out.on hB2)
          clear hB2 p2 hc' Ho i1 i2 wj wn
          go_wp2_with (at_builtin
                       have hs5 := StrsAt.new w2 [z] 9
                       refine wpList_append_strs rfl _ _ rfl w1 _ (Rc.parts n (ss.take j)) [z] (Rc.parts n (ss.take (j + 1))) Hpn.out.symm rfl (Ho2.out.on (below_new w2 (.cells #[.string z] 9))) (some ⟨w2.heap.size, 0, none⟩) 1 1 rfl rfl (by simpa using hs5) (fun h => by cases h) (by rw [Rc.parts_len, List.length_take]; simp; omega) ?_
                       intro v' w4 hO4
                       have HO4 := Lib.hid hO4
                       clear hO4 hs5)
          go_roundw
          case rel => exact ⟨j + 1, by omega, by go_num, Lib.hid (.inr Hnum2.out), by rw [HsE.out], HO4⟩
          case measure => simp [intOf]; omega
        · rw [if_neg hsz] at p2
          have HsE : Hid ((2 : Int) = if Rc.shorts (ss.take (j + 1)) = true then 0 else 2) := Lib.hid (by rw [Hsn.out, decide_eq_false hsz, Bool.and_false]; rfl)
          clear hsz
          go_wp2_with fail
          refine (p2 _).mono ?_
          rintro e w2 ⟨rfl, hB2⟩
          have Ho2 := Lib.hid (Ho.out.on hB2)
          clear hB2 p2 hc' Ho i1 i2 wj wn
          go_wp2_with (at_builtin
                       have hs5 := StrsAt.new w2 [z] 9
                       refine wpList_append_strs rfl _ _ rfl w1 _ (Rc.parts n (ss.take j)) [z] (Rc.parts n (ss.take (j + 1))) Hpn.out.symm rfl (Ho2.out.on (below_new w2 (.cells #[.string z] 9))) (some ⟨w2.heap.size, 0, none⟩) 1 1 rfl rfl (by simpa using hs5) (fun h => by cases h) (by rw [Rc.parts_len, List.length_take]; simp; omega) ?_
                       intro v' w4 hO4
                       have HO4 := Lib.hid hO4
                       clear hO4 hs5)
          go_roundw
          case rel => exact ⟨j + 1, by omega, by go_num, Lib.hid (.inr Hnum2.out), by rw [← HsE.out], HO4⟩
          case measure => simp [intOf]; omega
    · obtain rfl : j = ss.length := by omega
      rw [List.take_length] at Ho ⊢
      have hnums : Rc.numsOk n ss.length = true := by
        unfold Rc.numsOk; rw [decide_eq_true_iff]; exact Hnum.out
      by_cases hsh : Rc.shorts ss = true
      · rw [if_pos hsh]
        have hok := (Rc.ok_iff n ss).2 ⟨hnums, hsh⟩
        have hap := Rc.add_parts (f := ⟨m, k, l⟩) Hi.out hok
        have P4 := P3
        rw [hap.1, hap.2] at P4
        obtain ⟨X, hX⟩ : ∃ X, X = Rc.add ⟨m, k, l⟩ n ss := ⟨_, rfl⟩
        obtain ⟨E, hE⟩ : ∃ E, E = Rc.addE ⟨m, k, l⟩ n ss := ⟨_, rfl⟩
        rw [← hX, ← hE] at P4
        have HX := Lib.hid hX
        have HE := Lib.hid hE
        obtain ⟨xm, xk, xl⟩ := X
        unfold Fil.v filV at P4
        simp only at P4
        obtain ⟨A', c', hv, hc2, hT, hB2⟩ := Ho.out.slice (L := ss.length) (by rw [Rc.parts_len])
        subst hv
        have HT := Lib.hid hT
        have d0 := HG.out.c0
        have d1 := HG.out.c1
        have d2 := HG.out.c2
        clear hsh hnums hok hap hX hE hc2 hT hB2 P3
        go_wp2_with fail
        refine (P4.out _ A' c' HT.out).mono ?_
        rintro e w2 ⟨rfl, hB2⟩
        replace HF := Lib.hid (HF.out.below hB2)
        replace Hb := Lib.hid (below2 Hb.out hB2)
        clear d0 d1 d2 hB2 P4
        have a0 := HF.out.f0
        have a1 := HF.out.f1
        have a2 := HF.out.f2
        have b0 := HF.out.c0
        have b1 := HF.out.c1
        have b2 := HF.out.c2
        go_wp2_with fail
        (try simp only [Exit.inBlock, Exit.then]); refine bodyPost_ret (ret_file rfl rfl (((HF.out.set0 _).set1 _).set2 _)) rfl ?_
        exact ⟨by rw [← HX.out, ← HE.out]; rfl, below_set3 Hb.out (by omega) _ _ _⟩
      · rw [if_neg hsh]
        have He : Hid (Rc.addE ⟨m, k, l⟩ n ss = 2) := Lib.hid (by unfold Rc.addE; rw [if_pos Hi.out, if_pos hnums, if_neg hsh])
        clear hsh hnums P3
        have a0 := HF.out.f0
        have a1 := HF.out.f1
        have a2 := HF.out.f2
        have b0 := HF.out.c0
        have b1 := HF.out.c1
        have b2 := HF.out.c2
        go_wp2_with fail
        all_goals (try simp only [Exit.inBlock, Exit.then])
        all_goals refine bodyPost_ret (ret_file rfl rfl (((HF.out.set0 0).set1 _).set2 _)) rfl ?_
        all_goals exact ⟨by rw [Rc.add_bad (by rw [He.out]; decide), He.out]; rfl, below_set3 Hb.out (by omega) _ _ _⟩

theorem RRAdd_any (m : Int) (k l : ByteArray) (n : Int) (A : Option Addr) (cap : Nat) (ss : List ByteArray) (hs : k.size ≤ 9000 ∧ l.size ≤ 9000) (w : World) (hA : StrsAt w w.heap.size A ss) (hl : ss.length ≤ 1000) (hz : ∀ s ∈ ss, s.size ≤ 9000) :
    Calls Try.prog 15 #[.agg #[.int .i64 m, .string k, .string l], .int .i64 n, .slice A ss.length cap] w fun e w' => e = .returned (.tuple #[(Rc.add ⟨m, k, l⟩ n ss).v, .int .i64 (Rc.addE ⟨m, k, l⟩ n ss)]) ∧ Below w.heap.size w w' := by
  cases h : Fi.is ⟨m, k, l⟩
  · exact RRAdd_bad m k l n A cap ss hs w h
  · exact RRAdd_is m k l n A cap ss hs w hA hl hz h
end Go.Proofs.Ytfapfnbehhekhaa
