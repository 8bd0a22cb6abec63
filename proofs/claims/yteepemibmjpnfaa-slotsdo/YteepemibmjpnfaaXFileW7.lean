/-
  Layer 12 (file): the landed code: hasRoomFor, Add; the structure of file's functions (printed by tools/gen-filew7.py).
-/
import Derived.Test.YteepemibmjpnfaaXFileW6
import Derived.Test.YteepemibmjpnfaaXFileK
namespace Go.Proofs.Yteepemibmjpnfaa
set_option maxRecDepth 10000
open Go.RowKit

/-- What holds ahead of each part: how much room is left. -/
def RoomRel (w : World) (x : Int) (ss : List ByteArray) (r i : Value) (wr : World) : Prop :=
  ∃ j : Nat, j ≤ ss.length ∧ i = .int .i64 (j : Int) ∧ r = .int .i64 (x - ((Fi.all (ss.take j)).size : Nat)) ∧ Hid (0 ≤ x - ((Fi.all (ss.take j)).size : Nat)) ∧ Below w.heap.size w wr

set_option maxHeartbeats 2000000 in
theorem froom_any (m : Int) (k l : ByteArray) (A : Option Addr) (cap : Nat) (ss : List ByteArray) (hs : k.size ≤ 9000 ∧ l.size ≤ 9000) (w : World) (hA : StrsAt w w.heap.size A ss) (hl : ss.length ≤ 1000) (hz : ∀ s ∈ ss, s.size ≤ 9000) (hi : Fi.is ⟨m, k, l⟩ = true) :
    Calls Try.prog 63 #[.agg #[.int .i64 m, .string k, .string l], .slice A ss.length cap] w fun e w' => e = .returned (.bool (decide ((k.size : Int) + l.size + (Fi.all ss).size ≤ m))) ∧ Below w.heap.size w w' := by
  have S0 := Lib.hid ((((St.start w).new #[.int .i64 m, .string k, .string l] 77)))
  have Hsz := fun W => Lib.hid (fsize_any m k l hs W)
  have hi2 := Fi.is_small hi
  simp only at hi2
  have Iw : Hid (IntKind.i64.wrap (m - ((k.size : Int) + l.size)) = m - ((k.size : Int) + l.size)) := Lib.hid (by rw [IntKind.wrap_i64]; omega)
  obtain ⟨x, hx⟩ : ∃ x : Int, x = m - ((k.size : Int) + l.size) := ⟨_, rfl⟩
  have hxr : 0 ≤ x ∧ x ≤ 4000 := by omega
  have hxe : ∀ z : Int, ((k.size : Int) + l.size + z ≤ m ↔ 0 ≤ x - z) := fun z => by omega
  have He := Lib.hid hxe
  have Hx := Lib.hid hxr
  rw [← hx] at Iw
  have HX := Lib.hid hx
  have HA := Lib.hid hA
  have Hz := Lib.hid hz
  clear hs hi hi2 hxr hxe hx hA hz
  go_enter Try.func63, Try.ntmps63
  go_wp2_with fail
  have hS : St w (w.alloc (.cells #[.int .i64 m, .string k, .string l] 77)).drew [(w.heap.size, #[.int .i64 m, .string k, .string l])] [] := S0.out.drew
  clear S0
  refine wp_region_held_drew (S := (fun W : World => St w W [(w.heap.size, #[.int .i64 m, .string k, .string l])] [])) (by kernel_rfl) hS (fun hHeld => ?_)
  refine wpAnyH_take (i := 0) (oi := { dst := some 8, op := Op.fieldAddr 77 (Operand.tmp 2) 0, type := 0, pos := _, after := #[], guard := none }) (v := ?_) rfl (by kernel_rfl) (by kernel_rfl) (by kernel_rfl) (fun _ _ _ h => h) (Or.inl ⟨by rfl, ?hy⟩) hHeld ?_
  case hy => intro w0 hSw; (try dsimp only at hSw); go_simp; (try with_reducible rfl)
  (try simp only [Act.put, List.setIfInBounds_toArray, List.set_cons_zero, List.set_cons_succ])
  refine wpAnyH_take (i := 1) (oi := { dst := some 9, op := Op.fieldAddr 75 (Operand.tmp 8) 0, type := 0, pos := _, after := #[{ on := 0, ground := Ground.data }], guard := none }) (v := ?_) rfl (by kernel_rfl) (by kernel_rfl) (by kernel_rfl) (fun _ _ _ h => h) (Or.inl ⟨by rfl, ?hy⟩) hHeld ?_
  case hy => intro w0 hSw; (try dsimp only at hSw); go_simp; (try with_reducible rfl)
  (try simp only [Act.put, List.setIfInBounds_toArray, List.set_cons_zero, List.set_cons_succ])
  refine wpAnyH_take (i := 2) (oi := { dst := some 10, op := Op.fieldAddr 23 (Operand.tmp 9) 0, type := 0, pos := _, after := #[{ on := 1, ground := Ground.data }], guard := none }) (v := ?_) rfl (by kernel_rfl) (by kernel_rfl) (by kernel_rfl) (fun _ _ _ h => h) (Or.inl ⟨by rfl, ?hy⟩) hHeld ?_
  case hy => intro w0 hSw; (try dsimp only at hSw); go_simp; (try with_reducible rfl)
  (try simp only [Act.put, List.setIfInBounds_toArray, List.set_cons_zero, List.set_cons_succ])
  refine wpAnyH_take (i := 3) (oi := { dst := some 11, op := Op.load 3 (Operand.tmp 10), type := 3, pos := _, after := #[{ on := 2, ground := Ground.data }], guard := none }) (v := ?_) rfl (by kernel_rfl) (by kernel_rfl) (by kernel_rfl) (fun _ _ _ h => h) (Or.inl ⟨by rfl, ?hy⟩) hHeld ?_
  case hy => intro w0 hSw; have d0 := hSw.cell 0 rfl 0 rfl; have d1 := hSw.cell 0 rfl 1 rfl; have d2 := hSw.cell 0 rfl 2 rfl; clear hSw; go_simp; (try with_reducible rfl)
  (try simp only [Act.put, List.setIfInBounds_toArray, List.set_cons_zero, List.set_cons_succ])
  refine wpAnyH_take (i := 4) (oi := { dst := some 12, op := Op.fieldAddr 77 (Operand.tmp 2) 0, type := 0, pos := _, after := #[], guard := none }) (v := ?_) rfl (by kernel_rfl) (by kernel_rfl) (by kernel_rfl) (fun _ _ _ h => h) (Or.inl ⟨by rfl, ?hy⟩) hHeld ?_
  case hy => intro w0 hSw; (try dsimp only at hSw); go_simp; (try with_reducible rfl)
  (try simp only [Act.put, List.setIfInBounds_toArray, List.set_cons_zero, List.set_cons_succ])
  refine wpAnyH_take (i := 5) (oi := { dst := some 13, op := Op.load 75 (Operand.tmp 12), type := 75, pos := _, after := #[{ on := 4, ground := Ground.data }], guard := none }) (v := ?_) rfl (by kernel_rfl) (by kernel_rfl) (by kernel_rfl) (fun _ _ _ h => h) (Or.inl ⟨by rfl, ?hy⟩) hHeld ?_
  case hy => intro w0 hSw; have d0 := hSw.cell 0 rfl 0 rfl; have d1 := hSw.cell 0 rfl 1 rfl; have d2 := hSw.cell 0 rfl 2 rfl; clear hSw; go_simp; (try with_reducible rfl)
  (try simp only [Act.put, List.setIfInBounds_toArray, List.set_cons_zero, List.set_cons_succ])
  refine wpAnyH_ready (rs := [6]) (by kernel_rfl) (by simp) ?_
  refine AllReadyH.cons (o := { dst := some 14, op := Op.call { callee := Callee.value (Operand.func 71), args := #[Operand.tmp 13], argTypes := #[75] }, type := 3, pos := _, after := #[{ on := 5, ground := Ground.data }], guard := none }) rfl (fun K hK => ?_) AllReadyH.nil
  go_simp
  refine ((Hsz _).out).mono ?_
  rintro e y1 ⟨rfl, hB'⟩
  replace hS := hS.on hB'
  clear hB'
  go_wp2_with fail
  refine hK.out _ _ hS (fun hHeld => ?_)
  clear hK K
  (try simp only [Act.put, List.setIfInBounds_toArray, List.set_cons_zero, List.set_cons_succ])
  refine wpAnyH_take (i := 7) (oi := { dst := some 15, op := Op.binOp BinOp.sub 3 (Operand.tmp 11) (Operand.tmp 14) 3, type := 3, pos := _, after := #[{ on := 3, ground := Ground.data }, { on := 6, ground := Ground.data }], guard := none }) (v := ?_) rfl (by kernel_rfl) (by kernel_rfl) (by kernel_rfl) (fun _ _ _ h => h) (Or.inl ⟨by rfl, ?hy⟩) hHeld ?_
  case hy => have iw := Iw.out; rw [HX.out] at iw; intro w0 hSw; (try dsimp only at hSw); go_simp; (try with_reducible rfl)
  (try simp only [Act.put, List.setIfInBounds_toArray, List.set_cons_zero, List.set_cons_succ])
  refine wpAnyH_take (i := 8) (oi := { dst := some 5, op := Op.assign (Operand.tmp 15), type := 3, pos := _, after := #[{ on := 7, ground := Ground.data }, { on := 6, ground := Ground.chain }, { on := 0, ground := Ground.phase }, { on := 1, ground := Ground.phase }, { on := 2, ground := Ground.phase }, { on := 3, ground := Ground.phase }, { on := 4, ground := Ground.phase }, { on := 5, ground := Ground.phase }, { on := 6, ground := Ground.phase }, { on := 7, ground := Ground.phase }], guard := none }) (v := ?_) rfl (by kernel_rfl) (by kernel_rfl) (by kernel_rfl) (fun _ _ _ h => h) (Or.inl ⟨by rfl, ?hy⟩) hHeld ?_
  case hy => intro w0 hSw; (try dsimp only at hSw); go_simp; (try with_reducible rfl)
  (try simp only [Act.put, List.setIfInBounds_toArray, List.set_cons_zero, List.set_cons_succ])
  refine wpAnyH_done (by kernel_rfl) ?_ _
  clear hHeld Hsz
  have Hy := Lib.hid hS.below
  clear hS
  rw [← HX.out]
  clear HX
  go_wp2_with fail
  go_loopw [5, 18] (fun r i wr => RoomRel w x ss r i wr) (fun _ i _ => ss.length - (intOf i).toNat)
  case atStart =>
    refine ⟨0, Nat.zero_le _, rfl, ?_, ?_, Hy.out⟩
    · rw [List.take_zero, Fi.all_nil]; show Value.int .i64 x = .int .i64 (x - 0); rw [Int.sub_zero]
    · rw [List.take_zero, Fi.all_nil]; exact Lib.hid (by show 0 ≤ x - 0; have := Hx.out.1; omega)
  case round =>
    obtain ⟨j, hj, rfl, rfl, Hle, hB⟩ := hrel
    have Hb := Lib.hid hB
    clear hB Hy Iw
    by_cases hlt : j < ss.length
    · obtain ⟨b, off, rfl, hb, hc⟩ := HA.out j hlt
      have hc' := (Hb.out.cell (p := ⟨b, off + j, none⟩) hb).trans hc
      have hzj := Hz.out ss[j] (List.getElem_mem hlt)
      have Hn : Hid (((Fi.all (ss.take (j + 1))).size : Nat) = (Fi.all (ss.take j)).size + ss[j].size) := Lib.hid (by rw [List.take_succ_eq_append_getElem hlt, Fi.all_size_snoc])
      obtain ⟨s, hs⟩ : ∃ s, s = ss[j] := ⟨_, rfl⟩
      obtain ⟨r, hr⟩ : ∃ r : Int, r = x - ((Fi.all (ss.take j)).size : Nat) := ⟨_, rfl⟩
      rw [← hs] at hc' hzj Hn
      rw [← hr] at Hle ⊢
      have hn2 : x - ((Fi.all (ss.take (j + 1))).size : Nat) = r - s.size := by rw [Hn.out, hr]; omega
      have Hn2 := Lib.hid hn2
      have hw1 : wrap64 (r - (s.size : Int)) = r - s.size := by have := Hle.out; have := Hx.out; unfold wrap64; omega
      clear hs hc hb hr hzj hn2
      by_cases hbig : r - (s.size : Int) < 0
      · have he : decide ((k.size : Int) + l.size + (Fi.all ss).size ≤ m) = false := by
          rw [decide_eq_false_iff_not, He.out]
          have h1 := Fi.all_take_le ss (j + 1)
          have h2 := Hn2.out
          omega
        have hd := eq_true hbig
        have Hd := Lib.hid he
        clear he hbig
        go_wp2
        go_ret
        exact ⟨by rw [Hd.out]; rfl, Hb.out⟩
      · have hd := eq_false hbig
        have Hbig := Lib.hid hbig
        clear hbig
        go_wp2
        go_roundw
        case rel =>
          refine ⟨j + 1, by omega, by rfl, ?_, ?_, Hb.out⟩
          · rw [Hn2.out]; exact congrArg _ hw1
          · rw [Hn2.out]; exact Lib.hid (by have := Hbig.out; omega)
        case measure => simp [intOf]; omega
    · have hjl : j = ss.length := by omega
      subst hjl
      rw [List.take_length] at Hle
      have he : decide ((k.size : Int) + l.size + (Fi.all ss).size ≤ m) = true := by
        rw [decide_eq_true_iff, He.out]; exact Hle.out
      have Hd := Lib.hid he
      clear he
      go_wp2
      go_ret
      exact ⟨by rw [Hd.out]; rfl, Hb.out⟩

theorem add_no14 (f : Fil) (ss : List ByteArray) (h : Fi.addE f ss ≠ 0) : Fi.add f ss = Fi.no := by unfold Fi.add; rw [if_neg h]

set_option maxHeartbeats 1000000 in
theorem fadd_bad (m : Int) (k l : ByteArray) (A : Option Addr) (n cap : Nat) (hs : k.size ≤ 9000 ∧ l.size ≤ 9000) (w : World) (h : Fi.is ⟨m, k, l⟩ = false) :
    Calls Try.prog 47 #[.agg #[.int .i64 m, .string k, .string l], .slice A n cap] w fun e w' => e = .returned (.tuple #[Fi.no.v, .int .i64 1]) ∧ Below w.heap.size w w' := by
  have p1 := fun W => fis_any m k l hs W
  rw [h] at p1
  clear h hs
  go_enter Try.func47, Try.ntmps47
  go_wp2_with fail
  refine (p1 _).mono ?_
  rintro e w1 ⟨rfl, hB⟩
  have hF1 := (FilAt.new1 w (.cells #[.int .i64 m, .string k, .string l] 23) 0 ⟨#[]⟩ ⟨#[]⟩ 23).below hB
  have Hb := Lib.hid (below2 (below_new2 w _ _) hB)
  have a0 := hF1.f0
  have a1 := hF1.f1
  have a2 := hF1.f2
  have b0 := hF1.c0
  have b1 := hF1.c1
  have b2 := hF1.c2
  have HF := Lib.hid hF1
  clear p1 hB hF1
  go_wp2_with fail
  (try simp only [Exit.inBlock, Exit.then]); refine bodyPost_ret (ret_file rfl rfl (((HF.out.set0 0).set1 _).set2 _)) rfl ?_
  exact ⟨rfl, below_set3 Hb.out (by omega) _ _ _⟩

def strsF12 (A : Option Addr) (B : Nat) (ss : List ByteArray) : Fact := ⟨fun W => StrsAt W B A ss ∧ B ≤ W.heap.size, fun _ _ h hB => ⟨h.1.below hB h.2, Nat.le_trans h.2 hB.size⟩⟩

set_option maxHeartbeats 2000000 in
theorem fadd_full (m : Int) (k l : ByteArray) (A : Option Addr) (cap : Nat) (ss : List ByteArray) (hs : k.size ≤ 9000 ∧ l.size ≤ 9000) (w : World) (hA : StrsAt w w.heap.size A ss) (hl : ss.length ≤ 1000) (hz : ∀ s ∈ ss, s.size ≤ 9000) (hi : Fi.is ⟨m, k, l⟩ = true) (hr : decide ((k.size : Int) + l.size + (Fi.all ss).size ≤ m) = false) :
    Calls Try.prog 47 #[.agg #[.int .i64 m, .string k, .string l], .slice A ss.length cap] w fun e w' => e = .returned (.tuple #[Fi.no.v, .int .i64 81]) ∧ Below w.heap.size w w' := by
  have p1 := fun W => fis_any m k l hs W
  have p2 := fun W => fof_any m k l W
  have p3 := fun W hA => froom_any m k l A cap ss hs W hA hl hz hi
  rw [hi] at p1
  rw [hr] at p3
  have P1 := Lib.hid p1
  have P2 := Lib.hid p2
  have P3 := Lib.hid p3
  have S0 := Lib.hid (((((St.start w).more (strsF12 A w.heap.size ss) ⟨hA, Nat.le_refl _⟩).new #[.int .i64 m, .string k, .string l] 23)).new #[.int .i64 0, .string ⟨#[]⟩, .string ⟨#[]⟩] 23)
  obtain ⟨n, hn⟩ : ∃ n, n = ss.length := ⟨_, rfl⟩
  rw [← hn] at P3 ⊢
  clear hs hi hr p1 p2 p3 hn hl hz hA
  go_enter Try.func47, Try.ntmps47
  go_wp2_with (refine wpList_load_st rfl 23 _ rfl S0.out 1 _ _ rfl rfl _ Try.underlying23 rfl (by rfl) ?_)
  refine (P1.out _).mono ?_
  rintro e w1 ⟨rfl, hB⟩
  have S1 := Lib.hid (S0.out.on hB)
  clear S0 hB P1
  go_wp2_with (refine wpList_load_st rfl 23 _ rfl S1.out 1 _ _ rfl rfl _ Try.underlying23 rfl (by rfl) ?_)
  refine (P2.out _).mono ?_
  rintro e w2 ⟨rfl, hB⟩
  have S2 := Lib.hid (S1.out.on hB)
  clear S1 hB P2
  go_wp2_with (first
    | (refine wpList_store_st rfl 77 _ _ rfl S2.out _ #[.int .i64 m, .string k, .string l] _ rfl rfl (by rfl) rfl (fil_one12 _ _ _) ?_; intro p w3 hp hS hBn; (try rw [← hp]); have S3 := Lib.hid hS; clear hS hp hBn)
    | (refine wpList_load_st rfl 77 _ rfl S3.out 0 _ _ rfl rfl _ Try.underlying77 rfl (by rfl) ?_))
  refine (P3.out _ ((S3.out.fact 0 rfl).1.more (S3.out.fact 0 rfl).2)).mono ?_
  rintro e w4 ⟨rfl, hB⟩
  have S4 := Lib.hid (S3.out.on hB)
  clear S3 hB P3
  have HF : Hid (FilAt w4 (w.heap.size + 1) 0 ⟨#[]⟩ ⟨#[]⟩) := by
    obtain ⟨t, ht⟩ := S4.out.live (w.heap.size + 1, #[.int .i64 0, .string ⟨#[]⟩, .string ⟨#[]⟩]) (by simp)
    exact Lib.hid ⟨(Array.getElem?_eq_some_iff.1 ht).1, t, ht⟩
  have HB := Lib.hid S4.out.below
  clear S4
  have a0 := HF.out.f0
  have a1 := HF.out.f1
  have a2 := HF.out.f2
  have b0 := HF.out.c0
  have b1 := HF.out.c1
  have b2 := HF.out.c2
  go_wp2_with fail
  (try simp only [Exit.inBlock, Exit.then]); refine bodyPost_ret (ret_file rfl rfl (((HF.out.set0 _).set1 _).set2 _)) rfl ?_
  exact ⟨rfl, below_set3 HB.out (by omega) _ _ _⟩

set_option maxHeartbeats 2000000 in
theorem fadd_ok (m : Int) (k l : ByteArray) (A : Option Addr) (cap : Nat) (ss : List ByteArray) (hs : k.size ≤ 9000 ∧ l.size ≤ 9000) (w : World) (hA : StrsAt w w.heap.size A ss) (hl : ss.length ≤ 1000) (hz : ∀ s ∈ ss, s.size ≤ 9000) (hcap : ss.length ≤ cap) (hi : Fi.is ⟨m, k, l⟩ = true) (hr : decide ((k.size : Int) + l.size + (Fi.all ss).size ≤ m) = true) (y : ByteArray) (hy : y = Fi.all ss) :
    Calls Try.prog 47 #[.agg #[.int .i64 m, .string k, .string l], .slice A ss.length cap] w fun e w' => e = .returned (.tuple #[.agg #[.int .i64 m, .string k, .string (l ++ y)], .int .i64 0]) ∧ Below w.heap.size w w' := by
  have p1 := fun W => fis_any m k l hs W
  have p2 := fun W => fof_any m k l W
  have p3 := fun W hA => froom_any m k l A cap ss hs W hA hl hz hi
  have p4 := fun (W W2 : World) (hA : StrsAt W W.heap.size A ss) (hB : Below W.heap.size W W2) => join_any A cap ss W2 ((hA.below hB (Nat.le_refl _)).more hB.size) hl hcap hz
  rw [← hy] at p4
  have hcat : ¬ 9223372036854775807 < l.size + y.size := by have := all_le ss hl hz; rw [← hy] at this; omega
  have P4 : Hid (∀ W : World, StrsAt W W.heap.size A ss → Calls Try.prog 64 #[.agg #[.int .i64 m, .string k, .string l], .slice A ss.length cap] W fun e w' => e = .returned (.agg #[.int .i64 m, .string k, .string (l ++ y)]) ∧ Below W.heap.size W w') :=
    Lib.hid (fun W hA => fwith_any m k l A ss.length cap y W hcat (fun W2 hB => p4 W W2 hA hB))
  rw [hi] at p1
  rw [hr] at p3
  have P1 := Lib.hid p1
  have P2 := Lib.hid p2
  have P3 := Lib.hid p3
  have S0 := Lib.hid (((((St.start w).more (strsF12 A w.heap.size ss) ⟨hA, Nat.le_refl _⟩).new #[.int .i64 m, .string k, .string l] 23)).new #[.int .i64 0, .string ⟨#[]⟩, .string ⟨#[]⟩] 23)
  obtain ⟨n, hn⟩ : ∃ n, n = ss.length := ⟨_, rfl⟩
  rw [← hn] at P3 P4 ⊢
  clear hs hi hr p1 p2 p3 hn hl hz hcap p4 hcat hy hA
  go_enter Try.func47, Try.ntmps47
  go_wp2_with (refine wpList_load_st rfl 23 _ rfl S0.out 1 _ _ rfl rfl _ Try.underlying23 rfl (by rfl) ?_)
  refine (P1.out _).mono ?_
  rintro e w1 ⟨rfl, hB⟩
  have S1 := Lib.hid (S0.out.on hB)
  clear S0 hB P1
  go_wp2_with (refine wpList_load_st rfl 23 _ rfl S1.out 1 _ _ rfl rfl _ Try.underlying23 rfl (by rfl) ?_)
  refine (P2.out _).mono ?_
  rintro e w2 ⟨rfl, hB⟩
  have S2 := Lib.hid (S1.out.on hB)
  clear S1 hB P2
  go_wp2_with (first
    | (refine wpList_store_st rfl 77 _ _ rfl S2.out _ #[.int .i64 m, .string k, .string l] _ rfl rfl (by rfl) rfl (fil_one12 _ _ _) ?_; intro p w3 hp hS hBn; (try rw [← hp]); have S3 := Lib.hid hS; clear hS hp hBn)
    | (refine wpList_load_st rfl 77 _ rfl S3.out 0 _ _ rfl rfl _ Try.underlying77 rfl (by rfl) ?_))
  refine (P3.out _ ((S3.out.fact 0 rfl).1.more (S3.out.fact 0 rfl).2)).mono ?_
  rintro e w4 ⟨rfl, hB⟩
  have S4 := Lib.hid (S3.out.on hB)
  clear S3 hB P3
  go_wp2_with (refine wpList_load_st rfl 77 _ rfl S4.out 0 _ _ rfl rfl _ Try.underlying77 rfl (by rfl) ?_)
  refine (P4.out _ ((S4.out.fact 0 rfl).1.more (S4.out.fact 0 rfl).2)).mono ?_
  rintro e w5 ⟨rfl, hB⟩
  have S5 := Lib.hid (S4.out.on hB)
  clear S4 hB P4
  have HF : Hid (FilAt w5 (w.heap.size + 1) 0 ⟨#[]⟩ ⟨#[]⟩) := by
    obtain ⟨t, ht⟩ := S5.out.live (w.heap.size + 1, #[.int .i64 0, .string ⟨#[]⟩, .string ⟨#[]⟩]) (by simp)
    exact Lib.hid ⟨(Array.getElem?_eq_some_iff.1 ht).1, t, ht⟩
  have HB := Lib.hid S5.out.below
  clear S5
  have a0 := HF.out.f0
  have a1 := HF.out.f1
  have a2 := HF.out.f2
  have b0 := HF.out.c0
  have b1 := HF.out.c1
  have b2 := HF.out.c2
  go_wp2_with fail
  (try simp only [Exit.inBlock, Exit.then]); refine bodyPost_ret (ret_file rfl rfl (((HF.out.set0 _).set1 _).set2 _)) rfl ?_
  exact ⟨rfl, below_set3 HB.out (by omega) _ _ _⟩

theorem fadd_any (m : Int) (k l : ByteArray) (A : Option Addr) (cap : Nat) (ss : List ByteArray) (hs : k.size ≤ 9000 ∧ l.size ≤ 9000) (w : World) (hA : StrsAt w w.heap.size A ss) (hl : ss.length ≤ 1000) (hz : ∀ s ∈ ss, s.size ≤ 9000) (hcap : ss.length ≤ cap) :
    Calls Try.prog 47 #[.agg #[.int .i64 m, .string k, .string l], .slice A ss.length cap] w fun e w' => e = .returned (.tuple #[(Fi.add ⟨m, k, l⟩ ss).v, .int .i64 (Fi.addE ⟨m, k, l⟩ ss)]) ∧ Below w.heap.size w w' := by
  cases h : Fi.is ⟨m, k, l⟩
  · have e2 : Fi.addE ⟨m, k, l⟩ ss = 1 := by unfold Fi.addE; rw [h]; rfl
    rw [add_no14 _ _ (by rw [e2]; decide), e2]; exact fadd_bad m k l A ss.length cap hs w h
  · cases hr : decide ((k.size : Int) + l.size + (Fi.all ss).size ≤ m)
    · have e2 : Fi.addE ⟨m, k, l⟩ ss = 81 := by unfold Fi.addE; rw [if_pos h, if_neg (of_decide_eq_false hr)]
      rw [add_no14 _ _ (by rw [e2]; decide), e2]; exact fadd_full m k l A cap ss hs w hA hl hz h hr
    · have e2 : Fi.addE ⟨m, k, l⟩ ss = 0 := by unfold Fi.addE; rw [if_pos h, if_pos (of_decide_eq_true hr)]
      have e1 : Fi.add ⟨m, k, l⟩ ss = ⟨m, k, l ++ Fi.all ss⟩ := by unfold Fi.add; rw [if_pos e2]
      rw [e1, e2]; exact fadd_ok m k l A cap ss hs w hA hl hz hcap h hr _ rfl

end Go.Proofs.Yteepemibmjpnfaa
