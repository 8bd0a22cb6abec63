/-
  Layer 12 (file): the references' Add.
-/
import Derived.Test.YtlnchfnmpamliaaGreatXJi
namespace Go.Proofs.YtlnchfnmpamliaaGreat
set_option maxRecDepth 10000
open Go.RowKit

theorem ba_cons (l : ByteArray) (ss : List ByteArray) (j : Nat) (h : j < ss.length) : (l ++ Fi.all (ss.take j)) ++ ss[j] = l ++ Fi.all (ss.take (j + 1)) := by
  rw [List.take_succ_eq_append_getElem h, Fi.all_snoc, ba_assoc]

set_option maxHeartbeats 400000 in
theorem FRAdd_bad (m : Int) (k l : ByteArray) (A : Option Addr) (cap : Nat) (ss : List ByteArray) (hs : k.size ≤ 9000 ∧ l.size ≤ 9000) (w : World) (h : Fi.is ⟨m, k, l⟩ = false) :
    Calls Tryz.prog 55 #[.agg #[.int .i64 m, .string k, .string l], .slice A ss.length cap] w fun e w' => e = .returned (.tuple #[Fi.no.v, .int .i64 1]) ∧ Below w.heap.size w w' := by
  have p1 := fun W => FRIs_any m k l hs W
  rw [h] at p1
  clear h hs
  go_enter Tryz.func55, Tryz.ntmps55
  go_wp2_with fail
  refine (p1 _).mono ?_
  rintro e w1 ⟨rfl, hB⟩
  have hF1 := (FilAt.new1 w (.cells #[.int .i64 m, .string k, .string l] 47) 0 ⟨#[]⟩ ⟨#[]⟩ 47).below hB
  have hF0 := ((FilAt.new w m k l 47).alloc (.cells #[.int .i64 0, .string ⟨#[]⟩, .string ⟨#[]⟩] 47)).below hB
  have HF := Lib.hid hF1
  have HG := Lib.hid hF0
  have Hb := Lib.hid (below2 (below_new2 w _ _) hB)
  clear hB hF1 hF0
  have a0 := HF.out.f0
  have a1 := HF.out.f1
  have a2 := HF.out.f2
  have b0 := HF.out.c0
  have b1 := HF.out.c1
  have b2 := HF.out.c2
  clear p1
  go_wp2_with fail
  all_goals (try simp only [Exit.inBlock, Exit.then])
  all_goals refine bodyPost_ret (ret_file rfl rfl (((HF.out.set0 0).set1 _).set2 _)) rfl ?_
  all_goals exact ⟨rfl, below_set3 Hb.out (by omega) _ _ _⟩

theorem add_no (f : Fil) (ss : List ByteArray) (h : Fi.addE f ss ≠ 0) : Fi.add f ss = Fi.no := by unfold Fi.add; rw [if_neg h]
theorem add_fits (m : Int) (k l : ByteArray) (ss : List ByteArray) (h : Fi.is ⟨m, k, l⟩ = true) (hg : (k.size : Int) + l.size + (Fi.all ss).size ≤ m) : Fi.addE ⟨m, k, l⟩ ss = 0 := by
  unfold Fi.addE; rw [if_pos h, if_pos hg]
theorem add_full (m : Int) (k l : ByteArray) (ss : List ByteArray) (j : Nat) (_hj : j < ss.length) (h : Fi.is ⟨m, k, l⟩ = true) (hg : m < (k.size : Int) + (l ++ Fi.all (ss.take (j + 1))).size) : Fi.addE ⟨m, k, l⟩ ss = 81 := by
  have h1 := Fi.all_take_le ss (j + 1)
  rw [ByteArray.size_append] at hg
  unfold Fi.addE; rw [if_pos h, if_neg (by simp only; omega)]
theorem FilAt.apart {w : World} {g : Nat} {m : Int} {x y : ByteArray} (h : FilAt w g m x y) {k : Nat} (hk : k ≠ g) (j : Nat) (v : Value) : FilAt (w.setCell ⟨k, j, none⟩ v) g m x y := by
  obtain ⟨hlt, t, hb⟩ := h
  exact ⟨by simp [World.setCell]; exact hlt, t, (heap_setCell_other w ⟨k, j, none⟩ g v (fun e => hk (by have : g = k := e; omega))).trans hb⟩
/-- What holds ahead of each part. -/
def AddRel (w : World) (m : Int) (k l : ByteArray) (ss : List ByteArray) (i : Value) (wr : World) : Prop :=
  ∃ j : Nat, j ≤ ss.length ∧ i = .int .i64 (j : Int) ∧ FilAt wr w.heap.size m k (l ++ Fi.all (ss.take j)) ∧ FilAt wr (w.heap.size + 1) 0 ⟨#[]⟩ ⟨#[]⟩ ∧ Below w.heap.size w wr ∧ Hid ((k.size : Int) + (l ++ Fi.all (ss.take j)).size ≤ m)

set_option maxHeartbeats 800000 in
theorem FRAdd_is (m : Int) (k l : ByteArray) (A : Option Addr) (cap : Nat) (ss : List ByteArray) (hs : k.size ≤ 9000 ∧ l.size ≤ 9000) (w : World) (hA : StrsAt w w.heap.size A ss) (hl : ss.length ≤ 1000) (hz : ∀ s ∈ ss, s.size ≤ 9000) (h : Fi.is ⟨m, k, l⟩ = true) :
    Calls Tryz.prog 55 #[.agg #[.int .i64 m, .string k, .string l], .slice A ss.length cap] w fun e w' => e = .returned (.tuple #[(Fi.add ⟨m, k, l⟩ ss).v, .int .i64 (Fi.addE ⟨m, k, l⟩ ss)]) ∧ Below w.heap.size w w' := by
  have p1 := fun W => FRIs_any m k l hs W
  rw [h] at p1
  have Hi := Lib.hid (Fi.is_small h)
  have Hz := Lib.hid hz
  have Hok : Hid (Fi.is ⟨m, k, l⟩ = true) := Lib.hid h
  have HA := Lib.hid hA
  clear h hs hz hA
  go_enter Tryz.func55, Tryz.ntmps55
  go_wp2_with fail
  refine (p1 _).mono ?_
  rintro e w1 ⟨rfl, hB⟩
  have hF1 := (FilAt.new1 w (.cells #[.int .i64 m, .string k, .string l] 47) 0 ⟨#[]⟩ ⟨#[]⟩ 47).below hB
  have hF0 := ((FilAt.new w m k l 47).alloc (.cells #[.int .i64 0, .string ⟨#[]⟩, .string ⟨#[]⟩] 47)).below hB
  have HF := Lib.hid hF1
  have HG := Lib.hid hF0
  have Hb := Lib.hid (below2 (below_new2 w _ _) hB)
  clear hB hF1 hF0
  clear p1
  go_wp2_with fail
  go_loopw [6] (fun i wr => AddRel w m k l ss i wr) (fun i _ => ss.length - (intOf i).toNat)
  case atStart =>
    refine ⟨0, Nat.zero_le _, rfl, ?_, HF.out, Hb.out, ?_⟩
    · rw [List.take_zero, Fi.all_nil, ba_nil]; exact HG.out
    · rw [List.take_zero, Fi.all_nil, ba_nil]; exact Lib.hid Hi.out.2.2
  case round =>
    obtain ⟨j, hj, rfl, hG, hF, hB, Hle⟩ := hrel
    clear HF HG Hb
    have HF := Lib.hid hF
    have HG := Lib.hid hG
    have Hb := Lib.hid hB
    clear hF hG hB
    by_cases hlt : j < ss.length
    · obtain ⟨b, off, rfl, hb, hc⟩ := HA.out j hlt
      have hc' := (Hb.out.cell (p := ⟨b, off + j, none⟩) hb).trans hc
      have hzj := Hz.out ss[j] (List.getElem_mem hlt)
      have Hn := Lib.hid (ba_cons l ss j hlt)
      obtain ⟨s, hs⟩ : ∃ s, s = ss[j] := ⟨_, rfl⟩
      obtain ⟨y, hy⟩ : ∃ y, y = l ++ Fi.all (ss.take j) := ⟨_, rfl⟩
      rw [← hs] at hc' hzj Hn
      rw [← hy] at HG Hle Hn
      have Hs := Lib.hid hs
      have Hy := Lib.hid hy
      clear hs hy hc hb
      have hky : (k.size : Int) + y.size ≤ 4000 := by have := Hle.out; have := Hi.out.2.1; omega
      have w1 : wrap64 ((k.size : Int) + (y.size : Int)) = (k.size : Int) + y.size := by unfold wrap64; omega
      have w2 : wrap64 ((k.size : Int) + (y.size : Int) + (s.size : Int)) = (k.size : Int) + y.size + s.size := by unfold wrap64; omega
      have hcat : ¬ 9223372036854775807 < y.size + s.size := by omega
      have a0 := HF.out.f0
      have a1 := HF.out.f1
      have a2 := HF.out.f2
      have b0 := HF.out.c0
      have b1 := HF.out.c1
      have b2 := HF.out.c2
      have d0 := HG.out.c0
      have d1 := HG.out.c1
      have d2 := HG.out.c2
      by_cases hbig : m < (k.size : Int) + y.size + s.size
      · have hd : decide (m < (k.size : Int) + y.size + s.size) = true := decide_eq_true hbig
        have Hbig := Lib.hid hbig
        clear hbig
        go_wp2_with fail
        go_region
        clear w1 w2 hcat hd hky d0 d1 d2 hc'
        go_wp2_with fail
        have he : Fi.addE ⟨m, k, l⟩ ss = 81 := add_full _ _ _ _ j hlt Hok.out (by rw [← Hn.out, ByteArray.size_append]; have := Hbig.out; omega)
        rw [he, add_no _ _ (by rw [he]; decide)]
        (try simp only [Exit.inBlock, Exit.then]); refine bodyPost_ret (ret_file rfl rfl ((((HF.out.set0 0).set1 _).set2 _).drew)) rfl ?_
        exact ⟨rfl, below_drew12 (below_set3 Hb.out (by omega) _ _ _)⟩
      · have hd : decide (m < (k.size : Int) + y.size + s.size) = false := decide_eq_false hbig
        have Hbig := Lib.hid hbig
        clear hbig
        go_wp2_with fail
        go_region
        clear w1 w2 hd hky a0 a1 a2 b0 b1 b2
        have e2 := HG.out.f2
        go_wp2_with fail
        go_region
        clear hcat e2 d0 d1 d2
        go_wp2_with fail
        refine ⟨⟨j + 1, by omega, by rfl, ?_, ?_, below_drew12 (below_drew12 (below_cell12 Hb.out (Nat.le_refl _) _ _)), ?_⟩, by simp [intOf]; omega⟩
        · rw [← Hn.out]; exact ((HG.out.set2 _).drew).drew
        · exact ((FilAt.apart HF.out (by omega) _ _).drew).drew
        · rw [← Hn.out, ByteArray.size_append]; exact Lib.hid (by have := Hbig.out; omega)
    · have hjl : j = ss.length := by omega
      subst hjl
      rw [List.take_length] at HG Hle
      have he : Fi.addE ⟨m, k, l⟩ ss = 0 := add_fits _ _ _ _ Hok.out (by have := Hle.out; rw [ByteArray.size_append] at this; omega)
      have hv : Fi.add ⟨m, k, l⟩ ss = ⟨m, k, l ++ Fi.all ss⟩ := by unfold Fi.add; rw [if_pos he]
      have He := Lib.hid he
      obtain ⟨y, hy⟩ : ∃ y, y = l ++ Fi.all ss := ⟨_, rfl⟩
      rw [← hy] at HG hv
      have Hv := Lib.hid hv
      clear hy he hv Hle Hok Hi Hz HA
      have a0 := HF.out.f0
      have a1 := HF.out.f1
      have a2 := HF.out.f2
      have b0 := HF.out.c0
      have b1 := HF.out.c1
      have b2 := HF.out.c2
      have d0 := HG.out.c0
      have d1 := HG.out.c1
      have d2 := HG.out.c2
      go_wp2_with fail
      rw [He.out, Hv.out]
      (try simp only [Exit.inBlock, Exit.then]); refine bodyPost_ret (ret_file rfl rfl (((HF.out.set0 m).set1 _).set2 _)) rfl ?_
      exact ⟨rfl, below_set3 Hb.out (by omega) _ _ _⟩

theorem FRAdd_any (m : Int) (k l : ByteArray) (A : Option Addr) (cap : Nat) (ss : List ByteArray) (hs : k.size ≤ 9000 ∧ l.size ≤ 9000) (w : World) (hA : StrsAt w w.heap.size A ss) (hl : ss.length ≤ 1000) (hz : ∀ s ∈ ss, s.size ≤ 9000) :
    Calls Tryz.prog 55 #[.agg #[.int .i64 m, .string k, .string l], .slice A ss.length cap] w fun e w' => e = .returned (.tuple #[(Fi.add ⟨m, k, l⟩ ss).v, .int .i64 (Fi.addE ⟨m, k, l⟩ ss)]) ∧ Below w.heap.size w w' := by
  cases h : Fi.is ⟨m, k, l⟩
  · have e2 : Fi.addE ⟨m, k, l⟩ ss = 1 := by unfold Fi.addE; rw [h]; rfl
    rw [add_no _ _ (by rw [e2]; decide), e2]; exact FRAdd_bad m k l A cap ss hs w h
  · exact FRAdd_is m k l A cap ss hs w hA hl hz h

end Go.Proofs.YtlnchfnmpamliaaGreat
