/-
  Layer 14 (segment): the law SegmentDrop: the greater number is more (printed by tools/gen-segdrop.py).
-/
import Derived.Test.YtlnchfnmpamliaaXSegmentDrop0
namespace Go.Proofs.Ytlnchfnmpamliaa
set_option maxRecDepth 10000
open Go.RowKit

set_option maxHeartbeats 4000000 in
theorem segmentDrop_bad1 {E : World → Prop} (HS : Hid (SegK E)) (HC : Hid (PartedK E)) (size first : Int) (A1 : Option Addr) (N1 cap1 : Nat) (l : List ByteArray) (upto more : Int) (t : ByteArray) (w : World) (hE : E w) (hA1 : StrsAt w w.heap.size A1 l) (sz fi : Int) (n0 : Nat) (fs0 : List Fil) (xn : Nat) (xfs : List Fil) (xs xf : Int) (bn : Nat) (bfs : List Fil) (bs bf : Int) (kn : Nat) (kfs : List Fil) (ks kf : Int) (j3 : ((100 : Int) < (t.size : Int)) = False) (j4 : ((800000000 : Int) < first) = False) (jm : (upto < more) = True) (ge he : Int) (jg : (ge != 0) = true)
    (KN : ∀ (W : World) (_h : E W), Hid (Calls Try.prog 8 #[.int .i64 size, .int .i64 first] W fun e w' => ∃ A c, e = .returned (.tuple #[.agg #[.int .i64 sz, .int .i64 fi, .slice A n0 c], .int .i64 0]) ∧ FilsAt w' w'.heap.size A fs0 ∧ RoomyF A fs0 c ∧ Below W.heap.size W w'))
    (pf1 : ∀ (W : World) (A : Option Addr) (c : Nat) (_hA : FilsAt W W.heap.size A fs0) (_hB : StrsAt W W.heap.size A1 l), Hid (Calls Try.prog 9 #[.agg #[.int .i64 sz, .int .i64 fi, .slice A n0 c], .slice A1 N1 cap1] W fun e w' => e = .returned (.bool false) ∧ Below W.heap.size W w'))
    (KA : ∀ (W : World) (A : Option Addr) (c : Nat) (_h : E W) (_hA : FilsAt W W.heap.size A fs0) (_hR : RoomyF A fs0 c) (_hB : StrsAt W W.heap.size A1 l), Hid (Calls Try.prog 11 #[.agg #[.int .i64 sz, .int .i64 fi, .slice A n0 c], .slice A1 N1 cap1] W fun e w' => ∃ A c, e = .returned (.tuple #[.agg #[.int .i64 xs, .int .i64 xf, .slice A xn c], .int .i64 ge]) ∧ FilsAt w' w'.heap.size A xfs ∧ RoomyF A xfs c ∧ Below W.heap.size W w'))
    (KB : ∀ (W : World) (A : Option Addr) (c : Nat) (_h : E W) (_hA : FilsAt W W.heap.size A xfs) (_hR : RoomyF A xfs c), Hid (Calls Try.prog 19 #[.agg #[.int .i64 xs, .int .i64 xf, .slice A xn c], .int .i64 upto] W fun e w' => ∃ A c, e = .returned (.tuple #[.agg #[.int .i64 bs, .int .i64 bf, .slice A bn c], .int .i64 he]) ∧ FilsAt w' w'.heap.size A bfs ∧ RoomyF A bfs c ∧ Below W.heap.size W w'))
    (KC : ∀ (W : World) (A : Option Addr) (c : Nat) (_h : E W) (_hA : FilsAt W W.heap.size A bfs) (_hR : RoomyF A bfs c), Hid (Calls Try.prog 19 #[.agg #[.int .i64 bs, .int .i64 bf, .slice A bn c], .int .i64 more] W fun e w' => ∃ A c, e = .returned (.tuple #[.agg #[.int .i64 ks, .int .i64 kf, .slice A kn c], .int .i64 he]) ∧ FilsAt w' w'.heap.size A kfs ∧ RoomyF A kfs c ∧ Below W.heap.size W w'))
    (KD : ∀ (W : World) (A : Option Addr) (c : Nat) (_h : E W) (_hA : FilsAt W W.heap.size A xfs) (_hR : RoomyF A xfs c), Hid (Calls Try.prog 19 #[.agg #[.int .i64 xs, .int .i64 xf, .slice A xn c], .int .i64 more] W fun e w' => ∃ A c, e = .returned (.tuple #[.agg #[.int .i64 ks, .int .i64 kf, .slice A kn c], .int .i64 he]) ∧ FilsAt w' w'.heap.size A kfs ∧ RoomyF A kfs c ∧ Below W.heap.size W w')) :
    Calls Try.prog 5 #[.int .i64 size, .int .i64 first, .slice A1 N1 cap1, .int .i64 upto, .int .i64 more, .string t] w fun e w' => e = .returned (.bool true) ∧ Below w.heap.size w w' := by
  have S0 := Lib.hid (((St.start w).more (strsF14 A1 w.heap.size l) ⟨hA1, Nat.le_refl _⟩).more (eSg HS) hE)
  clear hE hA1
  go_enter Try.func5, Try.ntmps5
  go_wp2_with fail
  refine (KN _ (S0.out.fact 0 rfl)).out.mono ?_
  rintro e w1 ⟨Af, cf, rfl, hT, hR, hB⟩
  have S1 := Lib.hid ((S0.out.on hB).more (filF14 Af w1.heap.size fs0) ⟨hT, Nat.le_refl _⟩)
  have HRf := Lib.hid hR
  clear hB hT hR S0
  obtain ⟨Bf, hBe⟩ : ∃ b, b = w1.heap.size := ⟨_, rfl⟩
  rw [← hBe] at S1
  clear hBe
  go_wp2_with (first
    | (refine wpList_store_st rfl 25 _ _ rfl S1.out _ #[.int .i64 sz, .int .i64 fi, .slice Af n0 cf] _ rfl rfl (by rfl) rfl (seg_one14 _ _ _ _ _) ?_; intro b0 w2 hp hS hBn; (try rw [← hp]); have S2 := Lib.hid hS; clear hS hp hBn)
    | (refine wpList_loadg_st (by rfl) 25 _ rfl S2.out 0 _ _ rfl rfl _ Try.underlying25 rfl (by rfl) ?_))
  refine (pf1 _ Af cf ((S2.out.fact 0 rfl).1.more (S2.out.fact 0 rfl).2) ((S2.out.fact 2 rfl).1.more (S2.out.fact 2 rfl).2)).out.mono ?_
  rintro e w3 ⟨rfl, hB⟩
  have S3 := Lib.hid (S2.out.on hB)
  clear hB S2
  go_wp2_with (refine wpList_load_st rfl 25 _ rfl S3.out 0 _ _ rfl rfl _ Try.underlying25 rfl (by rfl) ?_)
  refine (KA _ Af cf (S3.out.fact 1 rfl) ((S3.out.fact 0 rfl).1.more (S3.out.fact 0 rfl).2) HRf.out ((S3.out.fact 2 rfl).1.more (S3.out.fact 2 rfl).2)).out.mono ?_
  rintro e w4 ⟨Ax, cx, rfl, hT, hR, hB⟩
  have S4 := Lib.hid ((S3.out.on hB).more (filF14 Ax w4.heap.size xfs) ⟨hT, Nat.le_refl _⟩)
  have HRx := Lib.hid hR
  clear hB hT hR S3
  obtain ⟨Bx, hBe⟩ : ∃ b, b = w4.heap.size := ⟨_, rfl⟩
  rw [← hBe] at S4
  clear hBe
  clear KA pf1 KN j3 j4
  go_wp2_with (first
    | (refine wpList_store_st rfl 25 _ _ rfl S4.out _ #[.int .i64 xs, .int .i64 xf, .slice Ax xn cx] _ rfl rfl (by rfl) rfl (seg_one14 _ _ _ _ _) ?_; intro b1 w5 hp hS hBn; (try rw [← hp]); have S5 := Lib.hid hS; clear hS hp hBn)
    | (refine wpList_load_st rfl 25 _ rfl S5.out 0 _ _ rfl rfl _ Try.underlying25 rfl (by rfl) ?_))
  refine (KB _ Ax cx (S5.out.fact 2 rfl) ((S5.out.fact 0 rfl).1.more (S5.out.fact 0 rfl).2) HRx.out).out.mono ?_
  rintro e w6 ⟨Ab, cb, rfl, hT, hR, hB⟩
  have S6 := Lib.hid ((S5.out.on hB).more (filF14 Ab w6.heap.size bfs) ⟨hT, Nat.le_refl _⟩)
  have HRb := Lib.hid hR
  clear hB hT hR S5
  obtain ⟨Bb, hBe⟩ : ∃ b, b = w6.heap.size := ⟨_, rfl⟩
  rw [← hBe] at S6
  clear hBe
  clear KB
  go_wp2_with (first
    | (refine wpList_store_st rfl 25 _ _ rfl S6.out _ #[.int .i64 bs, .int .i64 bf, .slice Ab bn cb] _ rfl rfl (by rfl) rfl (seg_one14 _ _ _ _ _) ?_; intro b2 w7 hp hS hBn; (try rw [← hp]); have S7 := Lib.hid hS; clear hS hp hBn)
    | (refine wpList_load_st rfl 25 _ rfl S7.out 0 _ _ rfl rfl _ Try.underlying25 rfl (by rfl) ?_))
  refine (KC _ Ab cb (S7.out.fact 3 rfl) ((S7.out.fact 0 rfl).1.more (S7.out.fact 0 rfl).2) HRb.out).out.mono ?_
  rintro e w8 ⟨Ak, ck, rfl, hT, hR, hB⟩
  have S8 := Lib.hid ((S7.out.on hB).more (filF14 Ak w8.heap.size kfs) ⟨hT, Nat.le_refl _⟩)
  have HRk := Lib.hid hR
  clear hB hT hR S7
  obtain ⟨Bk, hBe⟩ : ∃ b, b = w8.heap.size := ⟨_, rfl⟩
  rw [← hBe] at S8
  clear hBe
  clear KC
  go_wp2_with (first
    | (refine wpList_store_st rfl 25 _ _ rfl S8.out _ #[.int .i64 ks, .int .i64 kf, .slice Ak kn ck] _ rfl rfl (by rfl) rfl (seg_one14 _ _ _ _ _) ?_; intro b3 w9 hp hS hBn; (try rw [← hp]); have S9 := Lib.hid hS; clear hS hp hBn)
    | (refine wpList_load_st rfl 25 _ rfl S9.out 2 _ _ rfl rfl _ Try.underlying25 rfl (by rfl) ?_))
  refine (KD _ Ax cx (S9.out.fact 4 rfl) ((S9.out.fact 2 rfl).1.more (S9.out.fact 2 rfl).2) HRx.out).out.mono ?_
  rintro e w10 ⟨Ad, cd, rfl, hT, hR, hB⟩
  have S10 := Lib.hid ((S9.out.on hB).more (filF14 Ad w10.heap.size kfs) ⟨hT, Nat.le_refl _⟩)
  have HRd := Lib.hid hR
  clear hB hT hR S9
  obtain ⟨Bd, hBe⟩ : ∃ b, b = w10.heap.size := ⟨_, rfl⟩
  rw [← hBe] at S10
  clear hBe
  clear KD jm
  go_wp2_with (refine wpList_store_st rfl 25 _ _ rfl S10.out _ #[.int .i64 ks, .int .i64 kf, .slice Ad kn cd] _ rfl rfl (by rfl) rfl (seg_one14 _ _ _ _ _) ?_; intro b4 w11 hp hS hBn; (try rw [← hp]); have S11 := Lib.hid hS; clear hS hp hBn)
  refine (Lib.hid (HC.out _ (S11.out.fact 5 rfl))).out.mono ?_
  rintro e w12 ⟨rfl, hB⟩
  have S12 := Lib.hid (S11.out.on hB)
  clear hB S11
  go_wp2
  go_ret
  exact ⟨rfl, S12.out.below⟩

set_option maxHeartbeats 4000000 in
theorem segmentDrop_ap1 {E : World → Prop} (HS : Hid (SegK E)) (HC : Hid (PartedK E)) (size first : Int) (A1 : Option Addr) (N1 cap1 : Nat) (l : List ByteArray) (upto more : Int) (t : ByteArray) (w : World) (hE : E w) (hA1 : StrsAt w w.heap.size A1 l) (sz fi : Int) (n0 : Nat) (fs0 : List Fil) (xn : Nat) (xfs : List Fil) (xs xf : Int) (bn : Nat) (bfs : List Fil) (bs bf : Int) (kn : Nat) (kfs : List Fil) (ks kf : Int) (j3 : ((100 : Int) < (t.size : Int)) = False) (j4 : ((800000000 : Int) < first) = False) (jm : (upto < more) = True) (yn : Nat) (yfs : List Fil) (ys yf : Int) (zn : Nat) (zfs : List Fil) (zs zf : Int) (dr : List ByteArray) (kk K : Nat) (hN1 : N1 = l.length) (hcap : N1 ≤ cap1) (hkk : kk ≤ N1) (hK : N1 - kk = K) (hdr : l.drop kk = dr) (hl1 : N1 ≤ 25) (iwn : wrap64 (bf - first) = (kk : Int)) (jk1 : ((kk : Int) < 0) = False) (jk2 : ((N1 : Int) < (kk : Int)) = False) (jk3 : (0 < kk) = True) (jk4 : (upto < bf) = False) (ye ze : Int) (jy : (ye != 0) = true)
    (KN : ∀ (W : World) (_h : E W), Hid (Calls Try.prog 8 #[.int .i64 size, .int .i64 first] W fun e w' => ∃ A c, e = .returned (.tuple #[.agg #[.int .i64 sz, .int .i64 fi, .slice A n0 c], .int .i64 0]) ∧ FilsAt w' w'.heap.size A fs0 ∧ RoomyF A fs0 c ∧ Below W.heap.size W w'))
    (pf1 : ∀ (W : World) (A : Option Addr) (c : Nat) (_hA : FilsAt W W.heap.size A fs0) (_hB : StrsAt W W.heap.size A1 l), Hid (Calls Try.prog 9 #[.agg #[.int .i64 sz, .int .i64 fi, .slice A n0 c], .slice A1 N1 cap1] W fun e w' => e = .returned (.bool false) ∧ Below W.heap.size W w'))
    (KA : ∀ (W : World) (A : Option Addr) (c : Nat) (_h : E W) (_hA : FilsAt W W.heap.size A fs0) (_hR : RoomyF A fs0 c) (_hB : StrsAt W W.heap.size A1 l), Hid (Calls Try.prog 11 #[.agg #[.int .i64 sz, .int .i64 fi, .slice A n0 c], .slice A1 N1 cap1] W fun e w' => ∃ A c, e = .returned (.tuple #[.agg #[.int .i64 xs, .int .i64 xf, .slice A xn c], .int .i64 0]) ∧ FilsAt w' w'.heap.size A xfs ∧ RoomyF A xfs c ∧ Below W.heap.size W w'))
    (KB : ∀ (W : World) (A : Option Addr) (c : Nat) (_h : E W) (_hA : FilsAt W W.heap.size A xfs) (_hR : RoomyF A xfs c), Hid (Calls Try.prog 19 #[.agg #[.int .i64 xs, .int .i64 xf, .slice A xn c], .int .i64 upto] W fun e w' => ∃ A c, e = .returned (.tuple #[.agg #[.int .i64 bs, .int .i64 bf, .slice A bn c], .int .i64 0]) ∧ FilsAt w' w'.heap.size A bfs ∧ RoomyF A bfs c ∧ Below W.heap.size W w'))
    (KC : ∀ (W : World) (A : Option Addr) (c : Nat) (_h : E W) (_hA : FilsAt W W.heap.size A bfs) (_hR : RoomyF A bfs c), Hid (Calls Try.prog 19 #[.agg #[.int .i64 bs, .int .i64 bf, .slice A bn c], .int .i64 more] W fun e w' => ∃ A c, e = .returned (.tuple #[.agg #[.int .i64 ks, .int .i64 kf, .slice A kn c], .int .i64 0]) ∧ FilsAt w' w'.heap.size A kfs ∧ RoomyF A kfs c ∧ Below W.heap.size W w'))
    (KD : ∀ (W : World) (A : Option Addr) (c : Nat) (_h : E W) (_hA : FilsAt W W.heap.size A xfs) (_hR : RoomyF A xfs c), Hid (Calls Try.prog 19 #[.agg #[.int .i64 xs, .int .i64 xf, .slice A xn c], .int .i64 more] W fun e w' => ∃ A c, e = .returned (.tuple #[.agg #[.int .i64 ks, .int .i64 kf, .slice A kn c], .int .i64 0]) ∧ FilsAt w' w'.heap.size A kfs ∧ RoomyF A kfs c ∧ Below W.heap.size W w'))
    (KR : ∀ (W : World) (A : Option Addr) (c : Nat) (_h : E W) (_hA : FilsAt W W.heap.size A bfs) (_hR : RoomyF A bfs c), Hid (Calls Try.prog 12 #[.agg #[.int .i64 bs, .int .i64 bf, .slice A bn c]] W fun e w' => ∃ A c, e = .returned (.tuple #[.slice A K c, .int .i64 0]) ∧ StrsAt w' w'.heap.size A dr ∧ K ≤ c ∧ Below W.heap.size W w'))
    (KT : ∀ (W : World) (A B : Option Addr) (c d : Nat) (_hA : StrsAt W W.heap.size A dr) (_hB : StrsAt W W.heap.size B dr), Hid (Calls Try.prog 14 #[.slice A K c, .slice B K d] W fun e w' => e = .returned (.bool true) ∧ Below W.heap.size W w'))
    (KS : ∀ (W : World) (A B : Option Addr) (c d : Nat) (_hA : FilsAt W W.heap.size A kfs) (_hB : FilsAt W W.heap.size B kfs), Hid (Calls Try.prog 13 #[.agg #[.int .i64 ks, .int .i64 kf, .slice A kn c], .agg #[.int .i64 ks, .int .i64 kf, .slice B kn d]] W fun e w' => e = .returned (.bool true) ∧ Below W.heap.size W w'))
    (KY : ∀ (W : World) (A : Option Addr) (c : Nat) (_h : E W) (_hA : FilsAt W W.heap.size A xfs) (_hR : RoomyF A xfs c) (A3 : Addr) (_hB : StrsAt W W.heap.size (some A3) [t]), Hid (Calls Try.prog 11 #[.agg #[.int .i64 xs, .int .i64 xf, .slice A xn c], .slice (some A3) 1 1] W fun e w' => ∃ A c, e = .returned (.tuple #[.agg #[.int .i64 ys, .int .i64 yf, .slice A yn c], .int .i64 ye]) ∧ FilsAt w' w'.heap.size A yfs ∧ RoomyF A yfs c ∧ Below W.heap.size W w'))
    (KZ : ∀ (W : World) (A : Option Addr) (c : Nat) (_h : E W) (_hA : FilsAt W W.heap.size A bfs) (_hR : RoomyF A bfs c) (A3 : Addr) (_hB : StrsAt W W.heap.size (some A3) [t]), Hid (Calls Try.prog 11 #[.agg #[.int .i64 bs, .int .i64 bf, .slice A bn c], .slice (some A3) 1 1] W fun e w' => ∃ A c, e = .returned (.tuple #[.agg #[.int .i64 zs, .int .i64 zf, .slice A zn c], .int .i64 ze]) ∧ FilsAt w' w'.heap.size A zfs ∧ RoomyF A zfs c ∧ Below W.heap.size W w')) :
    Calls Try.prog 5 #[.int .i64 size, .int .i64 first, .slice A1 N1 cap1, .int .i64 upto, .int .i64 more, .string t] w fun e w' => e = .returned (.bool true) ∧ Below w.heap.size w w' := by
  have HN1 := Lib.hid hN1
  have Hcap := Lib.hid hcap
  have Hkk := Lib.hid hkk
  have HK := Lib.hid hK
  have Hdr := Lib.hid hdr
  have Hl1 := Lib.hid hl1
  have Hiw := Lib.hid iwn
  have Hj1 := Lib.hid jk1
  have Hj2 := Lib.hid jk2
  have Hj3 := Lib.hid jk3
  have Hj4 := Lib.hid jk4
  clear hN1 hcap hkk hK hdr hl1 iwn jk1 jk2 jk3 jk4
  have S0 := Lib.hid (((St.start w).more (strsF14 A1 w.heap.size l) ⟨hA1, Nat.le_refl _⟩).more (eSg HS) hE)
  clear hE hA1
  go_enter Try.func5, Try.ntmps5
  go_wp2_with fail
  refine (KN _ (S0.out.fact 0 rfl)).out.mono ?_
  rintro e w1 ⟨Af, cf, rfl, hT, hR, hB⟩
  have S1 := Lib.hid ((S0.out.on hB).more (filF14 Af w1.heap.size fs0) ⟨hT, Nat.le_refl _⟩)
  have HRf := Lib.hid hR
  clear hB hT hR S0
  obtain ⟨Bf, hBe⟩ : ∃ b, b = w1.heap.size := ⟨_, rfl⟩
  rw [← hBe] at S1
  clear hBe
  go_wp2_with (first
    | (refine wpList_store_st rfl 25 _ _ rfl S1.out _ #[.int .i64 sz, .int .i64 fi, .slice Af n0 cf] _ rfl rfl (by rfl) rfl (seg_one14 _ _ _ _ _) ?_; intro b0 w2 hp hS hBn; (try rw [← hp]); have S2 := Lib.hid hS; clear hS hp hBn)
    | (refine wpList_loadg_st (by rfl) 25 _ rfl S2.out 0 _ _ rfl rfl _ Try.underlying25 rfl (by rfl) ?_))
  refine (pf1 _ Af cf ((S2.out.fact 0 rfl).1.more (S2.out.fact 0 rfl).2) ((S2.out.fact 2 rfl).1.more (S2.out.fact 2 rfl).2)).out.mono ?_
  rintro e w3 ⟨rfl, hB⟩
  have S3 := Lib.hid (S2.out.on hB)
  clear hB S2
  go_wp2_with (refine wpList_load_st rfl 25 _ rfl S3.out 0 _ _ rfl rfl _ Try.underlying25 rfl (by rfl) ?_)
  refine (KA _ Af cf (S3.out.fact 1 rfl) ((S3.out.fact 0 rfl).1.more (S3.out.fact 0 rfl).2) HRf.out ((S3.out.fact 2 rfl).1.more (S3.out.fact 2 rfl).2)).out.mono ?_
  rintro e w4 ⟨Ax, cx, rfl, hT, hR, hB⟩
  have S4 := Lib.hid ((S3.out.on hB).more (filF14 Ax w4.heap.size xfs) ⟨hT, Nat.le_refl _⟩)
  have HRx := Lib.hid hR
  clear hB hT hR S3
  obtain ⟨Bx, hBe⟩ : ∃ b, b = w4.heap.size := ⟨_, rfl⟩
  rw [← hBe] at S4
  clear hBe
  clear KA pf1 KN j3 j4
  go_wp2_with (first
    | (refine wpList_store_st rfl 25 _ _ rfl S4.out _ #[.int .i64 xs, .int .i64 xf, .slice Ax xn cx] _ rfl rfl (by rfl) rfl (seg_one14 _ _ _ _ _) ?_; intro b1 w5 hp hS hBn; (try rw [← hp]); have S5 := Lib.hid hS; clear hS hp hBn)
    | (refine wpList_load_st rfl 25 _ rfl S5.out 0 _ _ rfl rfl _ Try.underlying25 rfl (by rfl) ?_))
  refine (KB _ Ax cx (S5.out.fact 2 rfl) ((S5.out.fact 0 rfl).1.more (S5.out.fact 0 rfl).2) HRx.out).out.mono ?_
  rintro e w6 ⟨Ab, cb, rfl, hT, hR, hB⟩
  have S6 := Lib.hid ((S5.out.on hB).more (filF14 Ab w6.heap.size bfs) ⟨hT, Nat.le_refl _⟩)
  have HRb := Lib.hid hR
  clear hB hT hR S5
  obtain ⟨Bb, hBe⟩ : ∃ b, b = w6.heap.size := ⟨_, rfl⟩
  rw [← hBe] at S6
  clear hBe
  clear KB
  go_wp2_with (first
    | (refine wpList_store_st rfl 25 _ _ rfl S6.out _ #[.int .i64 bs, .int .i64 bf, .slice Ab bn cb] _ rfl rfl (by rfl) rfl (seg_one14 _ _ _ _ _) ?_; intro b2 w7 hp hS hBn; (try rw [← hp]); have S7 := Lib.hid hS; clear hS hp hBn)
    | (refine wpList_load_st rfl 25 _ rfl S7.out 0 _ _ rfl rfl _ Try.underlying25 rfl (by rfl) ?_))
  refine (KC _ Ab cb (S7.out.fact 3 rfl) ((S7.out.fact 0 rfl).1.more (S7.out.fact 0 rfl).2) HRb.out).out.mono ?_
  rintro e w8 ⟨Ak, ck, rfl, hT, hR, hB⟩
  have S8 := Lib.hid ((S7.out.on hB).more (filF14 Ak w8.heap.size kfs) ⟨hT, Nat.le_refl _⟩)
  have HRk := Lib.hid hR
  clear hB hT hR S7
  obtain ⟨Bk, hBe⟩ : ∃ b, b = w8.heap.size := ⟨_, rfl⟩
  rw [← hBe] at S8
  clear hBe
  clear KC
  go_wp2_with (first
    | (refine wpList_store_st rfl 25 _ _ rfl S8.out _ #[.int .i64 ks, .int .i64 kf, .slice Ak kn ck] _ rfl rfl (by rfl) rfl (seg_one14 _ _ _ _ _) ?_; intro b3 w9 hp hS hBn; (try rw [← hp]); have S9 := Lib.hid hS; clear hS hp hBn)
    | (refine wpList_load_st rfl 25 _ rfl S9.out 2 _ _ rfl rfl _ Try.underlying25 rfl (by rfl) ?_))
  refine (KD _ Ax cx (S9.out.fact 4 rfl) ((S9.out.fact 2 rfl).1.more (S9.out.fact 2 rfl).2) HRx.out).out.mono ?_
  rintro e w10 ⟨Ad, cd, rfl, hT, hR, hB⟩
  have S10 := Lib.hid ((S9.out.on hB).more (filF14 Ad w10.heap.size kfs) ⟨hT, Nat.le_refl _⟩)
  have HRd := Lib.hid hR
  clear hB hT hR S9
  obtain ⟨Bd, hBe⟩ : ∃ b, b = w10.heap.size := ⟨_, rfl⟩
  rw [← hBe] at S10
  clear hBe
  clear KD jm
  go_wp2_with (first
    | (refine wpList_store_st rfl 25 _ _ rfl S10.out _ #[.int .i64 ks, .int .i64 kf, .slice Ad kn cd] _ rfl rfl (by rfl) rfl (seg_one14 _ _ _ _ _) ?_; intro b4 w11 hp hS hBn; (try rw [← hp]); have S11 := Lib.hid hS; clear hS hp hBn)
    | (refine wpList_load_st rfl 25 _ rfl S11.out 2 _ _ rfl rfl _ Try.underlying25 rfl (by rfl) ?_))
  refine (KR _ Ab cb (S11.out.fact 5 rfl) ((S11.out.fact 2 rfl).1.more (S11.out.fact 2 rfl).2) HRb.out).out.mono ?_
  rintro e w12 ⟨Au, cu, rfl, hT, _, hB⟩
  have S12 := Lib.hid ((S11.out.on hB).more (strsF14 Au w12.heap.size dr) ⟨hT, Nat.le_refl _⟩)
  clear hB hT S11
  obtain ⟨Bu, hBe⟩ : ∃ b, b = w12.heap.size := ⟨_, rfl⟩
  rw [← hBe] at S12
  clear hBe
  clear KR
  have hcx := S12.out.cell 2 rfl 1 rfl
  have iwn := Hiw.out
  have jk1 := Hj1.out
  have jk2 := Hj2.out
  have jk3 := Hj3.out
  have jk4 := Hj4.out
  obtain ⟨A1d, HA1d⟩ : ∃ A2, Hid ((if cap1 = kk then A1 else A1.map (·.add kk)) = A2) := ⟨_, Lib.hid rfl⟩
  obtain ⟨CK, HCK⟩ : ∃ C, Hid (cap1 - kk = C) := ⟨_, Lib.hid rfl⟩
  have hsl := fun W => run_slice_from14 W A1 N1 cap1 kk K CK Hkk.out HK.out HCK.out A1d HA1d.out
  go_wp2_with fail
  refine (KT _ Au A1d cu CK ((S12.out.fact 0 rfl).1.more (S12.out.fact 0 rfl).2) (by have h := (((S12.out.fact 7 rfl).1.more (S12.out.fact 7 rfl).2)).drop14 kk cap1 (by have := Hcap.out; have := HN1.out; omega) A1d HA1d.out; rw [Hdr.out] at h; exact h)).out.mono ?_
  rintro e w13 ⟨rfl, hB⟩
  have S13 := Lib.hid (S12.out.on hB)
  clear hB S12
  clear hcx hsl KT
  go_wp2_with (first
    | (refine wpList_loadg_st (by rfl) 25 _ rfl S13.out 1 _ _ rfl rfl _ Try.underlying25 rfl (by rfl) ?_)
    | (refine wpList_loadg_st (by rfl) 25 _ rfl S13.out 0 _ _ rfl rfl _ Try.underlying25 rfl (by rfl) ?_))
  refine (KS _ Ak Ad ck cd ((S13.out.fact 2 rfl).1.more (S13.out.fact 2 rfl).2) ((S13.out.fact 1 rfl).1.more (S13.out.fact 1 rfl).2)).out.mono ?_
  rintro e w14 ⟨rfl, hB⟩
  have S14 := Lib.hid (S13.out.on hB)
  clear hB S13
  clear KS iwn jk1 jk2 jk3 jk4
  go_wp2_with (refine wpList_load_st rfl 25 _ rfl S14.out 3 _ _ rfl rfl _ Try.underlying25 rfl (by rfl) ?_)
  have hsq := StrsAt.new w14 [t] 9
  have S15 := Lib.hid (S14.out.on (below_new w14 (.cells #[.string t] 9)))
  clear S14
  refine (KY _ Ax cx (S15.out.fact 6 rfl) ((S15.out.fact 4 rfl).1.more (S15.out.fact 4 rfl).2) HRx.out _ (by simpa using hsq)).out.mono ?_
  rintro e w16 ⟨Ay, cy, rfl, hT, hR, hB⟩
  have S16 := Lib.hid ((S15.out.on hB).more (filF14 Ay w16.heap.size yfs) ⟨hT, Nat.le_refl _⟩)
  have HRy := Lib.hid hR
  clear hB hT hR S15
  obtain ⟨By, hBe⟩ : ∃ b, b = w16.heap.size := ⟨_, rfl⟩
  rw [← hBe] at S16
  clear hBe
  clear hsq KY
  go_wp2_with (first
    | (refine wpList_store_st rfl 25 _ _ rfl S16.out _ #[.int .i64 ys, .int .i64 yf, .slice Ay yn cy] _ rfl rfl (by rfl) rfl (seg_one14 _ _ _ _ _) ?_; intro b5 w17 hp hS hBn; (try rw [← hp]); have S17 := Lib.hid hS; clear hS hp hBn)
    | (refine wpList_load_st rfl 25 _ rfl S17.out 3 _ _ rfl rfl _ Try.underlying25 rfl (by rfl) ?_))
  have hsq := StrsAt.new w17 [t] 9
  have S18 := Lib.hid (S17.out.on (below_new w17 (.cells #[.string t] 9)))
  clear S17
  refine (KZ _ Ab cb (S18.out.fact 7 rfl) ((S18.out.fact 4 rfl).1.more (S18.out.fact 4 rfl).2) HRb.out _ (by simpa using hsq)).out.mono ?_
  rintro e w19 ⟨Az, cz, rfl, hT, hR, hB⟩
  have S19 := Lib.hid ((S18.out.on hB).more (filF14 Az w19.heap.size zfs) ⟨hT, Nat.le_refl _⟩)
  have HRz := Lib.hid hR
  clear hB hT hR S18
  obtain ⟨Bz, hBe⟩ : ∃ b, b = w19.heap.size := ⟨_, rfl⟩
  rw [← hBe] at S19
  clear hBe
  clear hsq KZ
  go_wp2_with (refine wpList_store_st rfl 25 _ _ rfl S19.out _ #[.int .i64 zs, .int .i64 zf, .slice Az zn cz] _ rfl rfl (by rfl) rfl (seg_one14 _ _ _ _ _) ?_; intro b6 w20 hp hS hBn; (try rw [← hp]); have S20 := Lib.hid hS; clear hS hp hBn)
  refine (Lib.hid (HC.out _ (S20.out.fact 8 rfl))).out.mono ?_
  rintro e w21 ⟨rfl, hB⟩
  have S21 := Lib.hid (S20.out.on hB)
  clear hB S20
  go_wp2
  go_ret
  exact ⟨rfl, S21.out.below⟩

set_option maxHeartbeats 4000000 in
theorem segmentDrop_bp1 {E : World → Prop} (HS : Hid (SegK E)) (HC : Hid (PartedK E)) (size first : Int) (A1 : Option Addr) (N1 cap1 : Nat) (l : List ByteArray) (upto more : Int) (t : ByteArray) (w : World) (hE : E w) (hA1 : StrsAt w w.heap.size A1 l) (sz fi : Int) (n0 : Nat) (fs0 : List Fil) (xn : Nat) (xfs : List Fil) (xs xf : Int) (bn : Nat) (bfs : List Fil) (bs bf : Int) (kn : Nat) (kfs : List Fil) (ks kf : Int) (j3 : ((100 : Int) < (t.size : Int)) = False) (j4 : ((800000000 : Int) < first) = False) (jm : (upto < more) = True) (yn : Nat) (yfs : List Fil) (ys yf : Int) (zn : Nat) (zfs : List Fil) (zs zf : Int) (dr : List ByteArray) (kk K : Nat) (hN1 : N1 = l.length) (hcap : N1 ≤ cap1) (hkk : kk ≤ N1) (hK : N1 - kk = K) (hdr : l.drop kk = dr) (hl1 : N1 ≤ 25) (iwn : wrap64 (bf - first) = (kk : Int)) (jk1 : ((kk : Int) < 0) = False) (jk2 : ((N1 : Int) < (kk : Int)) = False) (jk3 : (0 < kk) = True) (jk4 : (upto < bf) = False) (ze : Int) (jz : (ze != 0) = true)
    (KN : ∀ (W : World) (_h : E W), Hid (Calls Try.prog 8 #[.int .i64 size, .int .i64 first] W fun e w' => ∃ A c, e = .returned (.tuple #[.agg #[.int .i64 sz, .int .i64 fi, .slice A n0 c], .int .i64 0]) ∧ FilsAt w' w'.heap.size A fs0 ∧ RoomyF A fs0 c ∧ Below W.heap.size W w'))
    (pf1 : ∀ (W : World) (A : Option Addr) (c : Nat) (_hA : FilsAt W W.heap.size A fs0) (_hB : StrsAt W W.heap.size A1 l), Hid (Calls Try.prog 9 #[.agg #[.int .i64 sz, .int .i64 fi, .slice A n0 c], .slice A1 N1 cap1] W fun e w' => e = .returned (.bool false) ∧ Below W.heap.size W w'))
    (KA : ∀ (W : World) (A : Option Addr) (c : Nat) (_h : E W) (_hA : FilsAt W W.heap.size A fs0) (_hR : RoomyF A fs0 c) (_hB : StrsAt W W.heap.size A1 l), Hid (Calls Try.prog 11 #[.agg #[.int .i64 sz, .int .i64 fi, .slice A n0 c], .slice A1 N1 cap1] W fun e w' => ∃ A c, e = .returned (.tuple #[.agg #[.int .i64 xs, .int .i64 xf, .slice A xn c], .int .i64 0]) ∧ FilsAt w' w'.heap.size A xfs ∧ RoomyF A xfs c ∧ Below W.heap.size W w'))
    (KB : ∀ (W : World) (A : Option Addr) (c : Nat) (_h : E W) (_hA : FilsAt W W.heap.size A xfs) (_hR : RoomyF A xfs c), Hid (Calls Try.prog 19 #[.agg #[.int .i64 xs, .int .i64 xf, .slice A xn c], .int .i64 upto] W fun e w' => ∃ A c, e = .returned (.tuple #[.agg #[.int .i64 bs, .int .i64 bf, .slice A bn c], .int .i64 0]) ∧ FilsAt w' w'.heap.size A bfs ∧ RoomyF A bfs c ∧ Below W.heap.size W w'))
    (KC : ∀ (W : World) (A : Option Addr) (c : Nat) (_h : E W) (_hA : FilsAt W W.heap.size A bfs) (_hR : RoomyF A bfs c), Hid (Calls Try.prog 19 #[.agg #[.int .i64 bs, .int .i64 bf, .slice A bn c], .int .i64 more] W fun e w' => ∃ A c, e = .returned (.tuple #[.agg #[.int .i64 ks, .int .i64 kf, .slice A kn c], .int .i64 0]) ∧ FilsAt w' w'.heap.size A kfs ∧ RoomyF A kfs c ∧ Below W.heap.size W w'))
    (KD : ∀ (W : World) (A : Option Addr) (c : Nat) (_h : E W) (_hA : FilsAt W W.heap.size A xfs) (_hR : RoomyF A xfs c), Hid (Calls Try.prog 19 #[.agg #[.int .i64 xs, .int .i64 xf, .slice A xn c], .int .i64 more] W fun e w' => ∃ A c, e = .returned (.tuple #[.agg #[.int .i64 ks, .int .i64 kf, .slice A kn c], .int .i64 0]) ∧ FilsAt w' w'.heap.size A kfs ∧ RoomyF A kfs c ∧ Below W.heap.size W w'))
    (KR : ∀ (W : World) (A : Option Addr) (c : Nat) (_h : E W) (_hA : FilsAt W W.heap.size A bfs) (_hR : RoomyF A bfs c), Hid (Calls Try.prog 12 #[.agg #[.int .i64 bs, .int .i64 bf, .slice A bn c]] W fun e w' => ∃ A c, e = .returned (.tuple #[.slice A K c, .int .i64 0]) ∧ StrsAt w' w'.heap.size A dr ∧ K ≤ c ∧ Below W.heap.size W w'))
    (KT : ∀ (W : World) (A B : Option Addr) (c d : Nat) (_hA : StrsAt W W.heap.size A dr) (_hB : StrsAt W W.heap.size B dr), Hid (Calls Try.prog 14 #[.slice A K c, .slice B K d] W fun e w' => e = .returned (.bool true) ∧ Below W.heap.size W w'))
    (KS : ∀ (W : World) (A B : Option Addr) (c d : Nat) (_hA : FilsAt W W.heap.size A kfs) (_hB : FilsAt W W.heap.size B kfs), Hid (Calls Try.prog 13 #[.agg #[.int .i64 ks, .int .i64 kf, .slice A kn c], .agg #[.int .i64 ks, .int .i64 kf, .slice B kn d]] W fun e w' => e = .returned (.bool true) ∧ Below W.heap.size W w'))
    (KY : ∀ (W : World) (A : Option Addr) (c : Nat) (_h : E W) (_hA : FilsAt W W.heap.size A xfs) (_hR : RoomyF A xfs c) (A3 : Addr) (_hB : StrsAt W W.heap.size (some A3) [t]), Hid (Calls Try.prog 11 #[.agg #[.int .i64 xs, .int .i64 xf, .slice A xn c], .slice (some A3) 1 1] W fun e w' => ∃ A c, e = .returned (.tuple #[.agg #[.int .i64 ys, .int .i64 yf, .slice A yn c], .int .i64 0]) ∧ FilsAt w' w'.heap.size A yfs ∧ RoomyF A yfs c ∧ Below W.heap.size W w'))
    (KZ : ∀ (W : World) (A : Option Addr) (c : Nat) (_h : E W) (_hA : FilsAt W W.heap.size A bfs) (_hR : RoomyF A bfs c) (A3 : Addr) (_hB : StrsAt W W.heap.size (some A3) [t]), Hid (Calls Try.prog 11 #[.agg #[.int .i64 bs, .int .i64 bf, .slice A bn c], .slice (some A3) 1 1] W fun e w' => ∃ A c, e = .returned (.tuple #[.agg #[.int .i64 zs, .int .i64 zf, .slice A zn c], .int .i64 ze]) ∧ FilsAt w' w'.heap.size A zfs ∧ RoomyF A zfs c ∧ Below W.heap.size W w')) :
    Calls Try.prog 5 #[.int .i64 size, .int .i64 first, .slice A1 N1 cap1, .int .i64 upto, .int .i64 more, .string t] w fun e w' => e = .returned (.bool true) ∧ Below w.heap.size w w' := by
  have HN1 := Lib.hid hN1
  have Hcap := Lib.hid hcap
  have Hkk := Lib.hid hkk
  have HK := Lib.hid hK
  have Hdr := Lib.hid hdr
  have Hl1 := Lib.hid hl1
  have Hiw := Lib.hid iwn
  have Hj1 := Lib.hid jk1
  have Hj2 := Lib.hid jk2
  have Hj3 := Lib.hid jk3
  have Hj4 := Lib.hid jk4
  clear hN1 hcap hkk hK hdr hl1 iwn jk1 jk2 jk3 jk4
  have S0 := Lib.hid (((St.start w).more (strsF14 A1 w.heap.size l) ⟨hA1, Nat.le_refl _⟩).more (eSg HS) hE)
  clear hE hA1
  go_enter Try.func5, Try.ntmps5
  go_wp2_with fail
  refine (KN _ (S0.out.fact 0 rfl)).out.mono ?_
  rintro e w1 ⟨Af, cf, rfl, hT, hR, hB⟩
  have S1 := Lib.hid ((S0.out.on hB).more (filF14 Af w1.heap.size fs0) ⟨hT, Nat.le_refl _⟩)
  have HRf := Lib.hid hR
  clear hB hT hR S0
  obtain ⟨Bf, hBe⟩ : ∃ b, b = w1.heap.size := ⟨_, rfl⟩
  rw [← hBe] at S1
  clear hBe
  go_wp2_with (first
    | (refine wpList_store_st rfl 25 _ _ rfl S1.out _ #[.int .i64 sz, .int .i64 fi, .slice Af n0 cf] _ rfl rfl (by rfl) rfl (seg_one14 _ _ _ _ _) ?_; intro b0 w2 hp hS hBn; (try rw [← hp]); have S2 := Lib.hid hS; clear hS hp hBn)
    | (refine wpList_loadg_st (by rfl) 25 _ rfl S2.out 0 _ _ rfl rfl _ Try.underlying25 rfl (by rfl) ?_))
  refine (pf1 _ Af cf ((S2.out.fact 0 rfl).1.more (S2.out.fact 0 rfl).2) ((S2.out.fact 2 rfl).1.more (S2.out.fact 2 rfl).2)).out.mono ?_
  rintro e w3 ⟨rfl, hB⟩
  have S3 := Lib.hid (S2.out.on hB)
  clear hB S2
  go_wp2_with (refine wpList_load_st rfl 25 _ rfl S3.out 0 _ _ rfl rfl _ Try.underlying25 rfl (by rfl) ?_)
  refine (KA _ Af cf (S3.out.fact 1 rfl) ((S3.out.fact 0 rfl).1.more (S3.out.fact 0 rfl).2) HRf.out ((S3.out.fact 2 rfl).1.more (S3.out.fact 2 rfl).2)).out.mono ?_
  rintro e w4 ⟨Ax, cx, rfl, hT, hR, hB⟩
  have S4 := Lib.hid ((S3.out.on hB).more (filF14 Ax w4.heap.size xfs) ⟨hT, Nat.le_refl _⟩)
  have HRx := Lib.hid hR
  clear hB hT hR S3
  obtain ⟨Bx, hBe⟩ : ∃ b, b = w4.heap.size := ⟨_, rfl⟩
  rw [← hBe] at S4
  clear hBe
  clear KA pf1 KN j3 j4
  go_wp2_with (first
    | (refine wpList_store_st rfl 25 _ _ rfl S4.out _ #[.int .i64 xs, .int .i64 xf, .slice Ax xn cx] _ rfl rfl (by rfl) rfl (seg_one14 _ _ _ _ _) ?_; intro b1 w5 hp hS hBn; (try rw [← hp]); have S5 := Lib.hid hS; clear hS hp hBn)
    | (refine wpList_load_st rfl 25 _ rfl S5.out 0 _ _ rfl rfl _ Try.underlying25 rfl (by rfl) ?_))
  refine (KB _ Ax cx (S5.out.fact 2 rfl) ((S5.out.fact 0 rfl).1.more (S5.out.fact 0 rfl).2) HRx.out).out.mono ?_
  rintro e w6 ⟨Ab, cb, rfl, hT, hR, hB⟩
  have S6 := Lib.hid ((S5.out.on hB).more (filF14 Ab w6.heap.size bfs) ⟨hT, Nat.le_refl _⟩)
  have HRb := Lib.hid hR
  clear hB hT hR S5
  obtain ⟨Bb, hBe⟩ : ∃ b, b = w6.heap.size := ⟨_, rfl⟩
  rw [← hBe] at S6
  clear hBe
  clear KB
  go_wp2_with (first
    | (refine wpList_store_st rfl 25 _ _ rfl S6.out _ #[.int .i64 bs, .int .i64 bf, .slice Ab bn cb] _ rfl rfl (by rfl) rfl (seg_one14 _ _ _ _ _) ?_; intro b2 w7 hp hS hBn; (try rw [← hp]); have S7 := Lib.hid hS; clear hS hp hBn)
    | (refine wpList_load_st rfl 25 _ rfl S7.out 0 _ _ rfl rfl _ Try.underlying25 rfl (by rfl) ?_))
  refine (KC _ Ab cb (S7.out.fact 3 rfl) ((S7.out.fact 0 rfl).1.more (S7.out.fact 0 rfl).2) HRb.out).out.mono ?_
  rintro e w8 ⟨Ak, ck, rfl, hT, hR, hB⟩
  have S8 := Lib.hid ((S7.out.on hB).more (filF14 Ak w8.heap.size kfs) ⟨hT, Nat.le_refl _⟩)
  have HRk := Lib.hid hR
  clear hB hT hR S7
  obtain ⟨Bk, hBe⟩ : ∃ b, b = w8.heap.size := ⟨_, rfl⟩
  rw [← hBe] at S8
  clear hBe
  clear KC
  go_wp2_with (first
    | (refine wpList_store_st rfl 25 _ _ rfl S8.out _ #[.int .i64 ks, .int .i64 kf, .slice Ak kn ck] _ rfl rfl (by rfl) rfl (seg_one14 _ _ _ _ _) ?_; intro b3 w9 hp hS hBn; (try rw [← hp]); have S9 := Lib.hid hS; clear hS hp hBn)
    | (refine wpList_load_st rfl 25 _ rfl S9.out 2 _ _ rfl rfl _ Try.underlying25 rfl (by rfl) ?_))
  refine (KD _ Ax cx (S9.out.fact 4 rfl) ((S9.out.fact 2 rfl).1.more (S9.out.fact 2 rfl).2) HRx.out).out.mono ?_
  rintro e w10 ⟨Ad, cd, rfl, hT, hR, hB⟩
  have S10 := Lib.hid ((S9.out.on hB).more (filF14 Ad w10.heap.size kfs) ⟨hT, Nat.le_refl _⟩)
  have HRd := Lib.hid hR
  clear hB hT hR S9
  obtain ⟨Bd, hBe⟩ : ∃ b, b = w10.heap.size := ⟨_, rfl⟩
  rw [← hBe] at S10
  clear hBe
  clear KD jm
  go_wp2_with (first
    | (refine wpList_store_st rfl 25 _ _ rfl S10.out _ #[.int .i64 ks, .int .i64 kf, .slice Ad kn cd] _ rfl rfl (by rfl) rfl (seg_one14 _ _ _ _ _) ?_; intro b4 w11 hp hS hBn; (try rw [← hp]); have S11 := Lib.hid hS; clear hS hp hBn)
    | (refine wpList_load_st rfl 25 _ rfl S11.out 2 _ _ rfl rfl _ Try.underlying25 rfl (by rfl) ?_))
  refine (KR _ Ab cb (S11.out.fact 5 rfl) ((S11.out.fact 2 rfl).1.more (S11.out.fact 2 rfl).2) HRb.out).out.mono ?_
  rintro e w12 ⟨Au, cu, rfl, hT, _, hB⟩
  have S12 := Lib.hid ((S11.out.on hB).more (strsF14 Au w12.heap.size dr) ⟨hT, Nat.le_refl _⟩)
  clear hB hT S11
  obtain ⟨Bu, hBe⟩ : ∃ b, b = w12.heap.size := ⟨_, rfl⟩
  rw [← hBe] at S12
  clear hBe
  clear KR
  have hcx := S12.out.cell 2 rfl 1 rfl
  have iwn := Hiw.out
  have jk1 := Hj1.out
  have jk2 := Hj2.out
  have jk3 := Hj3.out
  have jk4 := Hj4.out
  obtain ⟨A1d, HA1d⟩ : ∃ A2, Hid ((if cap1 = kk then A1 else A1.map (·.add kk)) = A2) := ⟨_, Lib.hid rfl⟩
  obtain ⟨CK, HCK⟩ : ∃ C, Hid (cap1 - kk = C) := ⟨_, Lib.hid rfl⟩
  have hsl := fun W => run_slice_from14 W A1 N1 cap1 kk K CK Hkk.out HK.out HCK.out A1d HA1d.out
  go_wp2_with fail
  refine (KT _ Au A1d cu CK ((S12.out.fact 0 rfl).1.more (S12.out.fact 0 rfl).2) (by have h := (((S12.out.fact 7 rfl).1.more (S12.out.fact 7 rfl).2)).drop14 kk cap1 (by have := Hcap.out; have := HN1.out; omega) A1d HA1d.out; rw [Hdr.out] at h; exact h)).out.mono ?_
  rintro e w13 ⟨rfl, hB⟩
  have S13 := Lib.hid (S12.out.on hB)
  clear hB S12
  clear hcx hsl KT
  go_wp2_with (first
    | (refine wpList_loadg_st (by rfl) 25 _ rfl S13.out 1 _ _ rfl rfl _ Try.underlying25 rfl (by rfl) ?_)
    | (refine wpList_loadg_st (by rfl) 25 _ rfl S13.out 0 _ _ rfl rfl _ Try.underlying25 rfl (by rfl) ?_))
  refine (KS _ Ak Ad ck cd ((S13.out.fact 2 rfl).1.more (S13.out.fact 2 rfl).2) ((S13.out.fact 1 rfl).1.more (S13.out.fact 1 rfl).2)).out.mono ?_
  rintro e w14 ⟨rfl, hB⟩
  have S14 := Lib.hid (S13.out.on hB)
  clear hB S13
  clear KS iwn jk1 jk2 jk3 jk4
  go_wp2_with (refine wpList_load_st rfl 25 _ rfl S14.out 3 _ _ rfl rfl _ Try.underlying25 rfl (by rfl) ?_)
  have hsq := StrsAt.new w14 [t] 9
  have S15 := Lib.hid (S14.out.on (below_new w14 (.cells #[.string t] 9)))
  clear S14
  refine (KY _ Ax cx (S15.out.fact 6 rfl) ((S15.out.fact 4 rfl).1.more (S15.out.fact 4 rfl).2) HRx.out _ (by simpa using hsq)).out.mono ?_
  rintro e w16 ⟨Ay, cy, rfl, hT, hR, hB⟩
  have S16 := Lib.hid ((S15.out.on hB).more (filF14 Ay w16.heap.size yfs) ⟨hT, Nat.le_refl _⟩)
  have HRy := Lib.hid hR
  clear hB hT hR S15
  obtain ⟨By, hBe⟩ : ∃ b, b = w16.heap.size := ⟨_, rfl⟩
  rw [← hBe] at S16
  clear hBe
  clear hsq KY
  go_wp2_with (first
    | (refine wpList_store_st rfl 25 _ _ rfl S16.out _ #[.int .i64 ys, .int .i64 yf, .slice Ay yn cy] _ rfl rfl (by rfl) rfl (seg_one14 _ _ _ _ _) ?_; intro b5 w17 hp hS hBn; (try rw [← hp]); have S17 := Lib.hid hS; clear hS hp hBn)
    | (refine wpList_load_st rfl 25 _ rfl S17.out 3 _ _ rfl rfl _ Try.underlying25 rfl (by rfl) ?_))
  have hsq := StrsAt.new w17 [t] 9
  have S18 := Lib.hid (S17.out.on (below_new w17 (.cells #[.string t] 9)))
  clear S17
  refine (KZ _ Ab cb (S18.out.fact 7 rfl) ((S18.out.fact 4 rfl).1.more (S18.out.fact 4 rfl).2) HRb.out _ (by simpa using hsq)).out.mono ?_
  rintro e w19 ⟨Az, cz, rfl, hT, hR, hB⟩
  have S19 := Lib.hid ((S18.out.on hB).more (filF14 Az w19.heap.size zfs) ⟨hT, Nat.le_refl _⟩)
  have HRz := Lib.hid hR
  clear hB hT hR S18
  obtain ⟨Bz, hBe⟩ : ∃ b, b = w19.heap.size := ⟨_, rfl⟩
  rw [← hBe] at S19
  clear hBe
  clear hsq KZ
  go_wp2_with (refine wpList_store_st rfl 25 _ _ rfl S19.out _ #[.int .i64 zs, .int .i64 zf, .slice Az zn cz] _ rfl rfl (by rfl) rfl (seg_one14 _ _ _ _ _) ?_; intro b6 w20 hp hS hBn; (try rw [← hp]); have S20 := Lib.hid hS; clear hS hp hBn)
  refine (Lib.hid (HC.out _ (S20.out.fact 8 rfl))).out.mono ?_
  rintro e w21 ⟨rfl, hB⟩
  have S21 := Lib.hid (S20.out.on hB)
  clear hB S20
  go_wp2
  go_ret
  exact ⟨rfl, S21.out.below⟩

set_option maxHeartbeats 4000000 in
theorem segmentDrop_okp1 {E : World → Prop} (HS : Hid (SegK E)) (HC : Hid (PartedK E)) (size first : Int) (A1 : Option Addr) (N1 cap1 : Nat) (l : List ByteArray) (upto more : Int) (t : ByteArray) (w : World) (hE : E w) (hA1 : StrsAt w w.heap.size A1 l) (sz fi : Int) (n0 : Nat) (fs0 : List Fil) (xn : Nat) (xfs : List Fil) (xs xf : Int) (bn : Nat) (bfs : List Fil) (bs bf : Int) (kn : Nat) (kfs : List Fil) (ks kf : Int) (j3 : ((100 : Int) < (t.size : Int)) = False) (j4 : ((800000000 : Int) < first) = False) (jm : (upto < more) = True) (yn : Nat) (yfs : List Fil) (ys yf : Int) (zn : Nat) (zfs : List Fil) (zs zf : Int) (dr : List ByteArray) (kk K : Nat) (hN1 : N1 = l.length) (hcap : N1 ≤ cap1) (hkk : kk ≤ N1) (hK : N1 - kk = K) (hdr : l.drop kk = dr) (hl1 : N1 ≤ 25) (iwn : wrap64 (bf - first) = (kk : Int)) (jk1 : ((kk : Int) < 0) = False) (jk2 : ((N1 : Int) < (kk : Int)) = False) (jk3 : (0 < kk) = True) (jk4 : (upto < bf) = False)
    (KN : ∀ (W : World) (_h : E W), Hid (Calls Try.prog 8 #[.int .i64 size, .int .i64 first] W fun e w' => ∃ A c, e = .returned (.tuple #[.agg #[.int .i64 sz, .int .i64 fi, .slice A n0 c], .int .i64 0]) ∧ FilsAt w' w'.heap.size A fs0 ∧ RoomyF A fs0 c ∧ Below W.heap.size W w'))
    (pf1 : ∀ (W : World) (A : Option Addr) (c : Nat) (_hA : FilsAt W W.heap.size A fs0) (_hB : StrsAt W W.heap.size A1 l), Hid (Calls Try.prog 9 #[.agg #[.int .i64 sz, .int .i64 fi, .slice A n0 c], .slice A1 N1 cap1] W fun e w' => e = .returned (.bool false) ∧ Below W.heap.size W w'))
    (KA : ∀ (W : World) (A : Option Addr) (c : Nat) (_h : E W) (_hA : FilsAt W W.heap.size A fs0) (_hR : RoomyF A fs0 c) (_hB : StrsAt W W.heap.size A1 l), Hid (Calls Try.prog 11 #[.agg #[.int .i64 sz, .int .i64 fi, .slice A n0 c], .slice A1 N1 cap1] W fun e w' => ∃ A c, e = .returned (.tuple #[.agg #[.int .i64 xs, .int .i64 xf, .slice A xn c], .int .i64 0]) ∧ FilsAt w' w'.heap.size A xfs ∧ RoomyF A xfs c ∧ Below W.heap.size W w'))
    (KB : ∀ (W : World) (A : Option Addr) (c : Nat) (_h : E W) (_hA : FilsAt W W.heap.size A xfs) (_hR : RoomyF A xfs c), Hid (Calls Try.prog 19 #[.agg #[.int .i64 xs, .int .i64 xf, .slice A xn c], .int .i64 upto] W fun e w' => ∃ A c, e = .returned (.tuple #[.agg #[.int .i64 bs, .int .i64 bf, .slice A bn c], .int .i64 0]) ∧ FilsAt w' w'.heap.size A bfs ∧ RoomyF A bfs c ∧ Below W.heap.size W w'))
    (KC : ∀ (W : World) (A : Option Addr) (c : Nat) (_h : E W) (_hA : FilsAt W W.heap.size A bfs) (_hR : RoomyF A bfs c), Hid (Calls Try.prog 19 #[.agg #[.int .i64 bs, .int .i64 bf, .slice A bn c], .int .i64 more] W fun e w' => ∃ A c, e = .returned (.tuple #[.agg #[.int .i64 ks, .int .i64 kf, .slice A kn c], .int .i64 0]) ∧ FilsAt w' w'.heap.size A kfs ∧ RoomyF A kfs c ∧ Below W.heap.size W w'))
    (KD : ∀ (W : World) (A : Option Addr) (c : Nat) (_h : E W) (_hA : FilsAt W W.heap.size A xfs) (_hR : RoomyF A xfs c), Hid (Calls Try.prog 19 #[.agg #[.int .i64 xs, .int .i64 xf, .slice A xn c], .int .i64 more] W fun e w' => ∃ A c, e = .returned (.tuple #[.agg #[.int .i64 ks, .int .i64 kf, .slice A kn c], .int .i64 0]) ∧ FilsAt w' w'.heap.size A kfs ∧ RoomyF A kfs c ∧ Below W.heap.size W w'))
    (KR : ∀ (W : World) (A : Option Addr) (c : Nat) (_h : E W) (_hA : FilsAt W W.heap.size A bfs) (_hR : RoomyF A bfs c), Hid (Calls Try.prog 12 #[.agg #[.int .i64 bs, .int .i64 bf, .slice A bn c]] W fun e w' => ∃ A c, e = .returned (.tuple #[.slice A K c, .int .i64 0]) ∧ StrsAt w' w'.heap.size A dr ∧ K ≤ c ∧ Below W.heap.size W w'))
    (KT : ∀ (W : World) (A B : Option Addr) (c d : Nat) (_hA : StrsAt W W.heap.size A dr) (_hB : StrsAt W W.heap.size B dr), Hid (Calls Try.prog 14 #[.slice A K c, .slice B K d] W fun e w' => e = .returned (.bool true) ∧ Below W.heap.size W w'))
    (KS : ∀ (W : World) (A B : Option Addr) (c d : Nat) (_hA : FilsAt W W.heap.size A kfs) (_hB : FilsAt W W.heap.size B kfs), Hid (Calls Try.prog 13 #[.agg #[.int .i64 ks, .int .i64 kf, .slice A kn c], .agg #[.int .i64 ks, .int .i64 kf, .slice B kn d]] W fun e w' => e = .returned (.bool true) ∧ Below W.heap.size W w'))
    (KY : ∀ (W : World) (A : Option Addr) (c : Nat) (_h : E W) (_hA : FilsAt W W.heap.size A xfs) (_hR : RoomyF A xfs c) (A3 : Addr) (_hB : StrsAt W W.heap.size (some A3) [t]), Hid (Calls Try.prog 11 #[.agg #[.int .i64 xs, .int .i64 xf, .slice A xn c], .slice (some A3) 1 1] W fun e w' => ∃ A c, e = .returned (.tuple #[.agg #[.int .i64 ys, .int .i64 yf, .slice A yn c], .int .i64 0]) ∧ FilsAt w' w'.heap.size A yfs ∧ RoomyF A yfs c ∧ Below W.heap.size W w'))
    (KZ : ∀ (W : World) (A : Option Addr) (c : Nat) (_h : E W) (_hA : FilsAt W W.heap.size A bfs) (_hR : RoomyF A bfs c) (A3 : Addr) (_hB : StrsAt W W.heap.size (some A3) [t]), Hid (Calls Try.prog 11 #[.agg #[.int .i64 bs, .int .i64 bf, .slice A bn c], .slice (some A3) 1 1] W fun e w' => ∃ A c, e = .returned (.tuple #[.agg #[.int .i64 zs, .int .i64 zf, .slice A zn c], .int .i64 0]) ∧ FilsAt w' w'.heap.size A zfs ∧ RoomyF A zfs c ∧ Below W.heap.size W w'))
    (KU : ∀ (W : World) (A : Option Addr) (c : Nat) (_h : E W) (_hA : FilsAt W W.heap.size A yfs) (_hR : RoomyF A yfs c), Hid (Calls Try.prog 12 #[.agg #[.int .i64 ys, .int .i64 yf, .slice A yn c]] W fun e w' => ∃ A c, e = .returned (.tuple #[.slice A (N1 + 1) c, .int .i64 0]) ∧ StrsAt w' w'.heap.size A (l ++ [t]) ∧ (N1 + 1) ≤ c ∧ Below W.heap.size W w'))
    (KV : ∀ (W : World) (A : Option Addr) (c : Nat) (_h : E W) (_hA : FilsAt W W.heap.size A zfs) (_hR : RoomyF A zfs c), Hid (Calls Try.prog 12 #[.agg #[.int .i64 zs, .int .i64 zf, .slice A zn c]] W fun e w' => ∃ A c, e = .returned (.tuple #[.slice A (K + 1) c, .int .i64 0]) ∧ StrsAt w' w'.heap.size A (dr ++ [t]) ∧ (K + 1) ≤ c ∧ Below W.heap.size W w'))
    (KT2 : ∀ (W : World) (A B : Option Addr) (c d : Nat) (_hA : StrsAt W W.heap.size A (dr ++ [t])) (_hB : StrsAt W W.heap.size B (dr ++ [t])), Hid (Calls Try.prog 14 #[.slice A (K + 1) c, .slice B (K + 1) d] W fun e w' => e = .returned (.bool true) ∧ Below W.heap.size W w')) :
    Calls Try.prog 5 #[.int .i64 size, .int .i64 first, .slice A1 N1 cap1, .int .i64 upto, .int .i64 more, .string t] w fun e w' => e = .returned (.bool true) ∧ Below w.heap.size w w' := by
  have HN1 := Lib.hid hN1
  have Hcap := Lib.hid hcap
  have Hkk := Lib.hid hkk
  have HK := Lib.hid hK
  have Hdr := Lib.hid hdr
  have Hl1 := Lib.hid hl1
  have Hiw := Lib.hid iwn
  have Hj1 := Lib.hid jk1
  have Hj2 := Lib.hid jk2
  have Hj3 := Lib.hid jk3
  have Hj4 := Lib.hid jk4
  clear hN1 hcap hkk hK hdr hl1 iwn jk1 jk2 jk3 jk4
  have S0 := Lib.hid (((St.start w).more (strsF14 A1 w.heap.size l) ⟨hA1, Nat.le_refl _⟩).more (eSg HS) hE)
  clear hE hA1
  go_enter Try.func5, Try.ntmps5
  go_wp2_with fail
  refine (KN _ (S0.out.fact 0 rfl)).out.mono ?_
  rintro e w1 ⟨Af, cf, rfl, hT, hR, hB⟩
  have S1 := Lib.hid ((S0.out.on hB).more (filF14 Af w1.heap.size fs0) ⟨hT, Nat.le_refl _⟩)
  have HRf := Lib.hid hR
  clear hB hT hR S0
  obtain ⟨Bf, hBe⟩ : ∃ b, b = w1.heap.size := ⟨_, rfl⟩
  rw [← hBe] at S1
  clear hBe
  go_wp2_with (first
    | (refine wpList_store_st rfl 25 _ _ rfl S1.out _ #[.int .i64 sz, .int .i64 fi, .slice Af n0 cf] _ rfl rfl (by rfl) rfl (seg_one14 _ _ _ _ _) ?_; intro b0 w2 hp hS hBn; (try rw [← hp]); have S2 := Lib.hid hS; clear hS hp hBn)
    | (refine wpList_loadg_st (by rfl) 25 _ rfl S2.out 0 _ _ rfl rfl _ Try.underlying25 rfl (by rfl) ?_))
  refine (pf1 _ Af cf ((S2.out.fact 0 rfl).1.more (S2.out.fact 0 rfl).2) ((S2.out.fact 2 rfl).1.more (S2.out.fact 2 rfl).2)).out.mono ?_
  rintro e w3 ⟨rfl, hB⟩
  have S3 := Lib.hid (S2.out.on hB)
  clear hB S2
  go_wp2_with (refine wpList_load_st rfl 25 _ rfl S3.out 0 _ _ rfl rfl _ Try.underlying25 rfl (by rfl) ?_)
  refine (KA _ Af cf (S3.out.fact 1 rfl) ((S3.out.fact 0 rfl).1.more (S3.out.fact 0 rfl).2) HRf.out ((S3.out.fact 2 rfl).1.more (S3.out.fact 2 rfl).2)).out.mono ?_
  rintro e w4 ⟨Ax, cx, rfl, hT, hR, hB⟩
  have S4 := Lib.hid ((S3.out.on hB).more (filF14 Ax w4.heap.size xfs) ⟨hT, Nat.le_refl _⟩)
  have HRx := Lib.hid hR
  clear hB hT hR S3
  obtain ⟨Bx, hBe⟩ : ∃ b, b = w4.heap.size := ⟨_, rfl⟩
  rw [← hBe] at S4
  clear hBe
  clear KA pf1 KN j3 j4
  go_wp2_with (first
    | (refine wpList_store_st rfl 25 _ _ rfl S4.out _ #[.int .i64 xs, .int .i64 xf, .slice Ax xn cx] _ rfl rfl (by rfl) rfl (seg_one14 _ _ _ _ _) ?_; intro b1 w5 hp hS hBn; (try rw [← hp]); have S5 := Lib.hid hS; clear hS hp hBn)
    | (refine wpList_load_st rfl 25 _ rfl S5.out 0 _ _ rfl rfl _ Try.underlying25 rfl (by rfl) ?_))
  refine (KB _ Ax cx (S5.out.fact 2 rfl) ((S5.out.fact 0 rfl).1.more (S5.out.fact 0 rfl).2) HRx.out).out.mono ?_
  rintro e w6 ⟨Ab, cb, rfl, hT, hR, hB⟩
  have S6 := Lib.hid ((S5.out.on hB).more (filF14 Ab w6.heap.size bfs) ⟨hT, Nat.le_refl _⟩)
  have HRb := Lib.hid hR
  clear hB hT hR S5
  obtain ⟨Bb, hBe⟩ : ∃ b, b = w6.heap.size := ⟨_, rfl⟩
  rw [← hBe] at S6
  clear hBe
  clear KB
  go_wp2_with (first
    | (refine wpList_store_st rfl 25 _ _ rfl S6.out _ #[.int .i64 bs, .int .i64 bf, .slice Ab bn cb] _ rfl rfl (by rfl) rfl (seg_one14 _ _ _ _ _) ?_; intro b2 w7 hp hS hBn; (try rw [← hp]); have S7 := Lib.hid hS; clear hS hp hBn)
    | (refine wpList_load_st rfl 25 _ rfl S7.out 0 _ _ rfl rfl _ Try.underlying25 rfl (by rfl) ?_))
  refine (KC _ Ab cb (S7.out.fact 3 rfl) ((S7.out.fact 0 rfl).1.more (S7.out.fact 0 rfl).2) HRb.out).out.mono ?_
  rintro e w8 ⟨Ak, ck, rfl, hT, hR, hB⟩
  have S8 := Lib.hid ((S7.out.on hB).more (filF14 Ak w8.heap.size kfs) ⟨hT, Nat.le_refl _⟩)
  have HRk := Lib.hid hR
  clear hB hT hR S7
  obtain ⟨Bk, hBe⟩ : ∃ b, b = w8.heap.size := ⟨_, rfl⟩
  rw [← hBe] at S8
  clear hBe
  clear KC
  go_wp2_with (first
    | (refine wpList_store_st rfl 25 _ _ rfl S8.out _ #[.int .i64 ks, .int .i64 kf, .slice Ak kn ck] _ rfl rfl (by rfl) rfl (seg_one14 _ _ _ _ _) ?_; intro b3 w9 hp hS hBn; (try rw [← hp]); have S9 := Lib.hid hS; clear hS hp hBn)
    | (refine wpList_load_st rfl 25 _ rfl S9.out 2 _ _ rfl rfl _ Try.underlying25 rfl (by rfl) ?_))
  refine (KD _ Ax cx (S9.out.fact 4 rfl) ((S9.out.fact 2 rfl).1.more (S9.out.fact 2 rfl).2) HRx.out).out.mono ?_
  rintro e w10 ⟨Ad, cd, rfl, hT, hR, hB⟩
  have S10 := Lib.hid ((S9.out.on hB).more (filF14 Ad w10.heap.size kfs) ⟨hT, Nat.le_refl _⟩)
  have HRd := Lib.hid hR
  clear hB hT hR S9
  obtain ⟨Bd, hBe⟩ : ∃ b, b = w10.heap.size := ⟨_, rfl⟩
  rw [← hBe] at S10
  clear hBe
  clear KD jm
  go_wp2_with (first
    | (refine wpList_store_st rfl 25 _ _ rfl S10.out _ #[.int .i64 ks, .int .i64 kf, .slice Ad kn cd] _ rfl rfl (by rfl) rfl (seg_one14 _ _ _ _ _) ?_; intro b4 w11 hp hS hBn; (try rw [← hp]); have S11 := Lib.hid hS; clear hS hp hBn)
    | (refine wpList_load_st rfl 25 _ rfl S11.out 2 _ _ rfl rfl _ Try.underlying25 rfl (by rfl) ?_))
  refine (KR _ Ab cb (S11.out.fact 5 rfl) ((S11.out.fact 2 rfl).1.more (S11.out.fact 2 rfl).2) HRb.out).out.mono ?_
  rintro e w12 ⟨Au, cu, rfl, hT, _, hB⟩
  have S12 := Lib.hid ((S11.out.on hB).more (strsF14 Au w12.heap.size dr) ⟨hT, Nat.le_refl _⟩)
  clear hB hT S11
  obtain ⟨Bu, hBe⟩ : ∃ b, b = w12.heap.size := ⟨_, rfl⟩
  rw [← hBe] at S12
  clear hBe
  clear KR
  have hcx := S12.out.cell 2 rfl 1 rfl
  have iwn := Hiw.out
  have jk1 := Hj1.out
  have jk2 := Hj2.out
  have jk3 := Hj3.out
  have jk4 := Hj4.out
  obtain ⟨A1d, HA1d⟩ : ∃ A2, Hid ((if cap1 = kk then A1 else A1.map (·.add kk)) = A2) := ⟨_, Lib.hid rfl⟩
  obtain ⟨CK, HCK⟩ : ∃ C, Hid (cap1 - kk = C) := ⟨_, Lib.hid rfl⟩
  have hsl := fun W => run_slice_from14 W A1 N1 cap1 kk K CK Hkk.out HK.out HCK.out A1d HA1d.out
  go_wp2_with fail
  refine (KT _ Au A1d cu CK ((S12.out.fact 0 rfl).1.more (S12.out.fact 0 rfl).2) (by have h := (((S12.out.fact 7 rfl).1.more (S12.out.fact 7 rfl).2)).drop14 kk cap1 (by have := Hcap.out; have := HN1.out; omega) A1d HA1d.out; rw [Hdr.out] at h; exact h)).out.mono ?_
  rintro e w13 ⟨rfl, hB⟩
  have S13 := Lib.hid (S12.out.on hB)
  clear hB S12
  clear hcx hsl KT
  go_wp2_with (first
    | (refine wpList_loadg_st (by rfl) 25 _ rfl S13.out 1 _ _ rfl rfl _ Try.underlying25 rfl (by rfl) ?_)
    | (refine wpList_loadg_st (by rfl) 25 _ rfl S13.out 0 _ _ rfl rfl _ Try.underlying25 rfl (by rfl) ?_))
  refine (KS _ Ak Ad ck cd ((S13.out.fact 2 rfl).1.more (S13.out.fact 2 rfl).2) ((S13.out.fact 1 rfl).1.more (S13.out.fact 1 rfl).2)).out.mono ?_
  rintro e w14 ⟨rfl, hB⟩
  have S14 := Lib.hid (S13.out.on hB)
  clear hB S13
  clear KS iwn jk1 jk2 jk3 jk4
  go_wp2_with (refine wpList_load_st rfl 25 _ rfl S14.out 3 _ _ rfl rfl _ Try.underlying25 rfl (by rfl) ?_)
  have hsq := StrsAt.new w14 [t] 9
  have S15 := Lib.hid (S14.out.on (below_new w14 (.cells #[.string t] 9)))
  clear S14
  refine (KY _ Ax cx (S15.out.fact 6 rfl) ((S15.out.fact 4 rfl).1.more (S15.out.fact 4 rfl).2) HRx.out _ (by simpa using hsq)).out.mono ?_
  rintro e w16 ⟨Ay, cy, rfl, hT, hR, hB⟩
  have S16 := Lib.hid ((S15.out.on hB).more (filF14 Ay w16.heap.size yfs) ⟨hT, Nat.le_refl _⟩)
  have HRy := Lib.hid hR
  clear hB hT hR S15
  obtain ⟨By, hBe⟩ : ∃ b, b = w16.heap.size := ⟨_, rfl⟩
  rw [← hBe] at S16
  clear hBe
  clear hsq KY
  go_wp2_with (first
    | (refine wpList_store_st rfl 25 _ _ rfl S16.out _ #[.int .i64 ys, .int .i64 yf, .slice Ay yn cy] _ rfl rfl (by rfl) rfl (seg_one14 _ _ _ _ _) ?_; intro b5 w17 hp hS hBn; (try rw [← hp]); have S17 := Lib.hid hS; clear hS hp hBn)
    | (refine wpList_load_st rfl 25 _ rfl S17.out 3 _ _ rfl rfl _ Try.underlying25 rfl (by rfl) ?_))
  have hsq := StrsAt.new w17 [t] 9
  have S18 := Lib.hid (S17.out.on (below_new w17 (.cells #[.string t] 9)))
  clear S17
  refine (KZ _ Ab cb (S18.out.fact 7 rfl) ((S18.out.fact 4 rfl).1.more (S18.out.fact 4 rfl).2) HRb.out _ (by simpa using hsq)).out.mono ?_
  rintro e w19 ⟨Az, cz, rfl, hT, hR, hB⟩
  have S19 := Lib.hid ((S18.out.on hB).more (filF14 Az w19.heap.size zfs) ⟨hT, Nat.le_refl _⟩)
  have HRz := Lib.hid hR
  clear hB hT hR S18
  obtain ⟨Bz, hBe⟩ : ∃ b, b = w19.heap.size := ⟨_, rfl⟩
  rw [← hBe] at S19
  clear hBe
  clear hsq KZ
  go_wp2_with (first
    | (refine wpList_store_st rfl 25 _ _ rfl S19.out _ #[.int .i64 zs, .int .i64 zf, .slice Az zn cz] _ rfl rfl (by rfl) rfl (seg_one14 _ _ _ _ _) ?_; intro b6 w20 hp hS hBn; (try rw [← hp]); have S20 := Lib.hid hS; clear hS hp hBn)
    | (refine wpList_load_st rfl 25 _ rfl S20.out 1 _ _ rfl rfl _ Try.underlying25 rfl (by rfl) ?_))
  refine (KU _ Ay cy (S20.out.fact 8 rfl) ((S20.out.fact 1 rfl).1.more (S20.out.fact 1 rfl).2) HRy.out).out.mono ?_
  rintro e w21 ⟨Ap, cp, rfl, hT, hc5, hB⟩
  have S21 := Lib.hid ((S20.out.on hB).more (strsF14 Ap w21.heap.size (l ++ [t])) ⟨hT, Nat.le_refl _⟩)
  clear hB hT S20
  obtain ⟨Bp, hBe⟩ : ∃ b, b = w21.heap.size := ⟨_, rfl⟩
  rw [← hBe] at S21
  clear hBe
  have Hc5 := Lib.hid hc5
  clear hc5 KU
  go_wp2_with (refine wpList_load_st rfl 25 _ rfl S21.out 0 _ _ rfl rfl _ Try.underlying25 rfl (by rfl) ?_)
  refine (KV _ Az cz (S21.out.fact 9 rfl) ((S21.out.fact 1 rfl).1.more (S21.out.fact 1 rfl).2) HRz.out).out.mono ?_
  rintro e w22 ⟨Aq, cq, rfl, hT, _, hB⟩
  have S22 := Lib.hid ((S21.out.on hB).more (strsF14 Aq w22.heap.size (dr ++ [t])) ⟨hT, Nat.le_refl _⟩)
  clear hB hT S21
  obtain ⟨Bq, hBe⟩ : ∃ b, b = w22.heap.size := ⟨_, rfl⟩
  rw [← hBe] at S22
  clear hBe
  clear KV
  have iw1 : wrap64 ((N1 : Int) + 1) = (N1 : Int) + 1 := by have := Hl1.out; unfold wrap64; omega
  have iwn := Hiw.out
  obtain ⟨Apd, HApd⟩ : ∃ A2, Hid ((if cp = kk then Ap else Ap.map (·.add kk)) = A2) := ⟨_, Lib.hid rfl⟩
  obtain ⟨CP, HCP⟩ : ∃ C, Hid (cp - kk = C) := ⟨_, Lib.hid rfl⟩
  have hsl := fun W => run_slice_from14 W Ap (N1 + 1) cp kk (K + 1) CP (by have := Hkk.out; omega) (by have := Hkk.out; have := HK.out; omega) HCP.out Apd HApd.out
  go_wp2_with fail
  refine (Lib.hid (HC.out _ (S22.out.fact 10 rfl))).out.mono ?_
  rintro e w23 ⟨rfl, hB⟩
  have S23 := Lib.hid (S22.out.on hB)
  clear hB S22
  go_wp2_with fail
  refine (KT2 _ Apd Aq CP cq (by have h := (((S23.out.fact 1 rfl).1.more (S23.out.fact 1 rfl).2)).drop14 kk cp (by rw [List.length_append, ← HN1.out]; exact Hc5.out) Apd HApd.out; rw [List.drop_append_of_le_length (by have := HN1.out; have := Hkk.out; omega), Hdr.out] at h; exact h) ((S23.out.fact 0 rfl).1.more (S23.out.fact 0 rfl).2)).out.mono ?_
  rintro e w24 ⟨rfl, hB⟩
  have S24 := Lib.hid (S23.out.on hB)
  clear hB S23
  clear hsl iw1
  go_wp2
  go_ret
  exact ⟨rfl, S24.out.below⟩

set_option maxHeartbeats 4000000 in
theorem segmentDrop_az1 {E : World → Prop} (HS : Hid (SegK E)) (HC : Hid (PartedK E)) (size first : Int) (A1 : Option Addr) (N1 cap1 : Nat) (l : List ByteArray) (upto more : Int) (t : ByteArray) (w : World) (hE : E w) (hA1 : StrsAt w w.heap.size A1 l) (sz fi : Int) (n0 : Nat) (fs0 : List Fil) (xn : Nat) (xfs : List Fil) (xs xf : Int) (bn : Nat) (bfs : List Fil) (bs bf : Int) (kn : Nat) (kfs : List Fil) (ks kf : Int) (j3 : ((100 : Int) < (t.size : Int)) = False) (j4 : ((800000000 : Int) < first) = False) (jm : (upto < more) = True) (yn : Nat) (yfs : List Fil) (ys yf : Int) (zn : Nat) (zfs : List Fil) (zs zf : Int) (dr : List ByteArray) (kk K : Nat) (hN1 : N1 = l.length) (hcap : N1 ≤ cap1) (hkk : kk ≤ N1) (hK : N1 - kk = K) (hdr : l.drop kk = dr) (hl1 : N1 ≤ 25) (iwn : wrap64 (bf - first) = (kk : Int)) (jk1 : ((kk : Int) < 0) = False) (jk2 : ((N1 : Int) < (kk : Int)) = False) (jk3 : (0 < kk) = False) (ye ze : Int) (jy : (ye != 0) = true)
    (KN : ∀ (W : World) (_h : E W), Hid (Calls Try.prog 8 #[.int .i64 size, .int .i64 first] W fun e w' => ∃ A c, e = .returned (.tuple #[.agg #[.int .i64 sz, .int .i64 fi, .slice A n0 c], .int .i64 0]) ∧ FilsAt w' w'.heap.size A fs0 ∧ RoomyF A fs0 c ∧ Below W.heap.size W w'))
    (pf1 : ∀ (W : World) (A : Option Addr) (c : Nat) (_hA : FilsAt W W.heap.size A fs0) (_hB : StrsAt W W.heap.size A1 l), Hid (Calls Try.prog 9 #[.agg #[.int .i64 sz, .int .i64 fi, .slice A n0 c], .slice A1 N1 cap1] W fun e w' => e = .returned (.bool false) ∧ Below W.heap.size W w'))
    (KA : ∀ (W : World) (A : Option Addr) (c : Nat) (_h : E W) (_hA : FilsAt W W.heap.size A fs0) (_hR : RoomyF A fs0 c) (_hB : StrsAt W W.heap.size A1 l), Hid (Calls Try.prog 11 #[.agg #[.int .i64 sz, .int .i64 fi, .slice A n0 c], .slice A1 N1 cap1] W fun e w' => ∃ A c, e = .returned (.tuple #[.agg #[.int .i64 xs, .int .i64 xf, .slice A xn c], .int .i64 0]) ∧ FilsAt w' w'.heap.size A xfs ∧ RoomyF A xfs c ∧ Below W.heap.size W w'))
    (KB : ∀ (W : World) (A : Option Addr) (c : Nat) (_h : E W) (_hA : FilsAt W W.heap.size A xfs) (_hR : RoomyF A xfs c), Hid (Calls Try.prog 19 #[.agg #[.int .i64 xs, .int .i64 xf, .slice A xn c], .int .i64 upto] W fun e w' => ∃ A c, e = .returned (.tuple #[.agg #[.int .i64 bs, .int .i64 bf, .slice A bn c], .int .i64 0]) ∧ FilsAt w' w'.heap.size A bfs ∧ RoomyF A bfs c ∧ Below W.heap.size W w'))
    (KC : ∀ (W : World) (A : Option Addr) (c : Nat) (_h : E W) (_hA : FilsAt W W.heap.size A bfs) (_hR : RoomyF A bfs c), Hid (Calls Try.prog 19 #[.agg #[.int .i64 bs, .int .i64 bf, .slice A bn c], .int .i64 more] W fun e w' => ∃ A c, e = .returned (.tuple #[.agg #[.int .i64 ks, .int .i64 kf, .slice A kn c], .int .i64 0]) ∧ FilsAt w' w'.heap.size A kfs ∧ RoomyF A kfs c ∧ Below W.heap.size W w'))
    (KD : ∀ (W : World) (A : Option Addr) (c : Nat) (_h : E W) (_hA : FilsAt W W.heap.size A xfs) (_hR : RoomyF A xfs c), Hid (Calls Try.prog 19 #[.agg #[.int .i64 xs, .int .i64 xf, .slice A xn c], .int .i64 more] W fun e w' => ∃ A c, e = .returned (.tuple #[.agg #[.int .i64 ks, .int .i64 kf, .slice A kn c], .int .i64 0]) ∧ FilsAt w' w'.heap.size A kfs ∧ RoomyF A kfs c ∧ Below W.heap.size W w'))
    (KR : ∀ (W : World) (A : Option Addr) (c : Nat) (_h : E W) (_hA : FilsAt W W.heap.size A bfs) (_hR : RoomyF A bfs c), Hid (Calls Try.prog 12 #[.agg #[.int .i64 bs, .int .i64 bf, .slice A bn c]] W fun e w' => ∃ A c, e = .returned (.tuple #[.slice A K c, .int .i64 0]) ∧ StrsAt w' w'.heap.size A dr ∧ K ≤ c ∧ Below W.heap.size W w'))
    (KT : ∀ (W : World) (A B : Option Addr) (c d : Nat) (_hA : StrsAt W W.heap.size A dr) (_hB : StrsAt W W.heap.size B dr), Hid (Calls Try.prog 14 #[.slice A K c, .slice B K d] W fun e w' => e = .returned (.bool true) ∧ Below W.heap.size W w'))
    (KS : ∀ (W : World) (A B : Option Addr) (c d : Nat) (_hA : FilsAt W W.heap.size A kfs) (_hB : FilsAt W W.heap.size B kfs), Hid (Calls Try.prog 13 #[.agg #[.int .i64 ks, .int .i64 kf, .slice A kn c], .agg #[.int .i64 ks, .int .i64 kf, .slice B kn d]] W fun e w' => e = .returned (.bool true) ∧ Below W.heap.size W w'))
    (KY : ∀ (W : World) (A : Option Addr) (c : Nat) (_h : E W) (_hA : FilsAt W W.heap.size A xfs) (_hR : RoomyF A xfs c) (A3 : Addr) (_hB : StrsAt W W.heap.size (some A3) [t]), Hid (Calls Try.prog 11 #[.agg #[.int .i64 xs, .int .i64 xf, .slice A xn c], .slice (some A3) 1 1] W fun e w' => ∃ A c, e = .returned (.tuple #[.agg #[.int .i64 ys, .int .i64 yf, .slice A yn c], .int .i64 ye]) ∧ FilsAt w' w'.heap.size A yfs ∧ RoomyF A yfs c ∧ Below W.heap.size W w'))
    (KZ : ∀ (W : World) (A : Option Addr) (c : Nat) (_h : E W) (_hA : FilsAt W W.heap.size A bfs) (_hR : RoomyF A bfs c) (A3 : Addr) (_hB : StrsAt W W.heap.size (some A3) [t]), Hid (Calls Try.prog 11 #[.agg #[.int .i64 bs, .int .i64 bf, .slice A bn c], .slice (some A3) 1 1] W fun e w' => ∃ A c, e = .returned (.tuple #[.agg #[.int .i64 zs, .int .i64 zf, .slice A zn c], .int .i64 ze]) ∧ FilsAt w' w'.heap.size A zfs ∧ RoomyF A zfs c ∧ Below W.heap.size W w')) :
    Calls Try.prog 5 #[.int .i64 size, .int .i64 first, .slice A1 N1 cap1, .int .i64 upto, .int .i64 more, .string t] w fun e w' => e = .returned (.bool true) ∧ Below w.heap.size w w' := by
  have HN1 := Lib.hid hN1
  have Hcap := Lib.hid hcap
  have Hkk := Lib.hid hkk
  have HK := Lib.hid hK
  have Hdr := Lib.hid hdr
  have Hl1 := Lib.hid hl1
  have Hiw := Lib.hid iwn
  have Hj1 := Lib.hid jk1
  have Hj2 := Lib.hid jk2
  have Hj3 := Lib.hid jk3
  clear hN1 hcap hkk hK hdr hl1 iwn jk1 jk2 jk3
  have S0 := Lib.hid (((St.start w).more (strsF14 A1 w.heap.size l) ⟨hA1, Nat.le_refl _⟩).more (eSg HS) hE)
  clear hE hA1
  go_enter Try.func5, Try.ntmps5
  go_wp2_with fail
  refine (KN _ (S0.out.fact 0 rfl)).out.mono ?_
  rintro e w1 ⟨Af, cf, rfl, hT, hR, hB⟩
  have S1 := Lib.hid ((S0.out.on hB).more (filF14 Af w1.heap.size fs0) ⟨hT, Nat.le_refl _⟩)
  have HRf := Lib.hid hR
  clear hB hT hR S0
  obtain ⟨Bf, hBe⟩ : ∃ b, b = w1.heap.size := ⟨_, rfl⟩
  rw [← hBe] at S1
  clear hBe
  go_wp2_with (first
    | (refine wpList_store_st rfl 25 _ _ rfl S1.out _ #[.int .i64 sz, .int .i64 fi, .slice Af n0 cf] _ rfl rfl (by rfl) rfl (seg_one14 _ _ _ _ _) ?_; intro b0 w2 hp hS hBn; (try rw [← hp]); have S2 := Lib.hid hS; clear hS hp hBn)
    | (refine wpList_loadg_st (by rfl) 25 _ rfl S2.out 0 _ _ rfl rfl _ Try.underlying25 rfl (by rfl) ?_))
  refine (pf1 _ Af cf ((S2.out.fact 0 rfl).1.more (S2.out.fact 0 rfl).2) ((S2.out.fact 2 rfl).1.more (S2.out.fact 2 rfl).2)).out.mono ?_
  rintro e w3 ⟨rfl, hB⟩
  have S3 := Lib.hid (S2.out.on hB)
  clear hB S2
  go_wp2_with (refine wpList_load_st rfl 25 _ rfl S3.out 0 _ _ rfl rfl _ Try.underlying25 rfl (by rfl) ?_)
  refine (KA _ Af cf (S3.out.fact 1 rfl) ((S3.out.fact 0 rfl).1.more (S3.out.fact 0 rfl).2) HRf.out ((S3.out.fact 2 rfl).1.more (S3.out.fact 2 rfl).2)).out.mono ?_
  rintro e w4 ⟨Ax, cx, rfl, hT, hR, hB⟩
  have S4 := Lib.hid ((S3.out.on hB).more (filF14 Ax w4.heap.size xfs) ⟨hT, Nat.le_refl _⟩)
  have HRx := Lib.hid hR
  clear hB hT hR S3
  obtain ⟨Bx, hBe⟩ : ∃ b, b = w4.heap.size := ⟨_, rfl⟩
  rw [← hBe] at S4
  clear hBe
  clear KA pf1 KN j3 j4
  go_wp2_with (first
    | (refine wpList_store_st rfl 25 _ _ rfl S4.out _ #[.int .i64 xs, .int .i64 xf, .slice Ax xn cx] _ rfl rfl (by rfl) rfl (seg_one14 _ _ _ _ _) ?_; intro b1 w5 hp hS hBn; (try rw [← hp]); have S5 := Lib.hid hS; clear hS hp hBn)
    | (refine wpList_load_st rfl 25 _ rfl S5.out 0 _ _ rfl rfl _ Try.underlying25 rfl (by rfl) ?_))
  refine (KB _ Ax cx (S5.out.fact 2 rfl) ((S5.out.fact 0 rfl).1.more (S5.out.fact 0 rfl).2) HRx.out).out.mono ?_
  rintro e w6 ⟨Ab, cb, rfl, hT, hR, hB⟩
  have S6 := Lib.hid ((S5.out.on hB).more (filF14 Ab w6.heap.size bfs) ⟨hT, Nat.le_refl _⟩)
  have HRb := Lib.hid hR
  clear hB hT hR S5
  obtain ⟨Bb, hBe⟩ : ∃ b, b = w6.heap.size := ⟨_, rfl⟩
  rw [← hBe] at S6
  clear hBe
  clear KB
  go_wp2_with (first
    | (refine wpList_store_st rfl 25 _ _ rfl S6.out _ #[.int .i64 bs, .int .i64 bf, .slice Ab bn cb] _ rfl rfl (by rfl) rfl (seg_one14 _ _ _ _ _) ?_; intro b2 w7 hp hS hBn; (try rw [← hp]); have S7 := Lib.hid hS; clear hS hp hBn)
    | (refine wpList_load_st rfl 25 _ rfl S7.out 0 _ _ rfl rfl _ Try.underlying25 rfl (by rfl) ?_))
  refine (KC _ Ab cb (S7.out.fact 3 rfl) ((S7.out.fact 0 rfl).1.more (S7.out.fact 0 rfl).2) HRb.out).out.mono ?_
  rintro e w8 ⟨Ak, ck, rfl, hT, hR, hB⟩
  have S8 := Lib.hid ((S7.out.on hB).more (filF14 Ak w8.heap.size kfs) ⟨hT, Nat.le_refl _⟩)
  have HRk := Lib.hid hR
  clear hB hT hR S7
  obtain ⟨Bk, hBe⟩ : ∃ b, b = w8.heap.size := ⟨_, rfl⟩
  rw [← hBe] at S8
  clear hBe
  clear KC
  go_wp2_with (first
    | (refine wpList_store_st rfl 25 _ _ rfl S8.out _ #[.int .i64 ks, .int .i64 kf, .slice Ak kn ck] _ rfl rfl (by rfl) rfl (seg_one14 _ _ _ _ _) ?_; intro b3 w9 hp hS hBn; (try rw [← hp]); have S9 := Lib.hid hS; clear hS hp hBn)
    | (refine wpList_load_st rfl 25 _ rfl S9.out 2 _ _ rfl rfl _ Try.underlying25 rfl (by rfl) ?_))
  refine (KD _ Ax cx (S9.out.fact 4 rfl) ((S9.out.fact 2 rfl).1.more (S9.out.fact 2 rfl).2) HRx.out).out.mono ?_
  rintro e w10 ⟨Ad, cd, rfl, hT, hR, hB⟩
  have S10 := Lib.hid ((S9.out.on hB).more (filF14 Ad w10.heap.size kfs) ⟨hT, Nat.le_refl _⟩)
  have HRd := Lib.hid hR
  clear hB hT hR S9
  obtain ⟨Bd, hBe⟩ : ∃ b, b = w10.heap.size := ⟨_, rfl⟩
  rw [← hBe] at S10
  clear hBe
  clear KD jm
  go_wp2_with (first
    | (refine wpList_store_st rfl 25 _ _ rfl S10.out _ #[.int .i64 ks, .int .i64 kf, .slice Ad kn cd] _ rfl rfl (by rfl) rfl (seg_one14 _ _ _ _ _) ?_; intro b4 w11 hp hS hBn; (try rw [← hp]); have S11 := Lib.hid hS; clear hS hp hBn)
    | (refine wpList_load_st rfl 25 _ rfl S11.out 2 _ _ rfl rfl _ Try.underlying25 rfl (by rfl) ?_))
  refine (KR _ Ab cb (S11.out.fact 5 rfl) ((S11.out.fact 2 rfl).1.more (S11.out.fact 2 rfl).2) HRb.out).out.mono ?_
  rintro e w12 ⟨Au, cu, rfl, hT, _, hB⟩
  have S12 := Lib.hid ((S11.out.on hB).more (strsF14 Au w12.heap.size dr) ⟨hT, Nat.le_refl _⟩)
  clear hB hT S11
  obtain ⟨Bu, hBe⟩ : ∃ b, b = w12.heap.size := ⟨_, rfl⟩
  rw [← hBe] at S12
  clear hBe
  clear KR
  have hcx := S12.out.cell 2 rfl 1 rfl
  have iwn := Hiw.out
  have jk1 := Hj1.out
  have jk2 := Hj2.out
  have jk3 := Hj3.out

  obtain ⟨A1d, HA1d⟩ : ∃ A2, Hid ((if cap1 = kk then A1 else A1.map (·.add kk)) = A2) := ⟨_, Lib.hid rfl⟩
  obtain ⟨CK, HCK⟩ : ∃ C, Hid (cap1 - kk = C) := ⟨_, Lib.hid rfl⟩
  have hsl := fun W => run_slice_from14 W A1 N1 cap1 kk K CK Hkk.out HK.out HCK.out A1d HA1d.out
  go_wp2_with fail
  refine (KT _ Au A1d cu CK ((S12.out.fact 0 rfl).1.more (S12.out.fact 0 rfl).2) (by have h := (((S12.out.fact 7 rfl).1.more (S12.out.fact 7 rfl).2)).drop14 kk cap1 (by have := Hcap.out; have := HN1.out; omega) A1d HA1d.out; rw [Hdr.out] at h; exact h)).out.mono ?_
  rintro e w13 ⟨rfl, hB⟩
  have S13 := Lib.hid (S12.out.on hB)
  clear hB S12
  clear hcx hsl KT
  go_wp2_with (first
    | (refine wpList_loadg_st (by rfl) 25 _ rfl S13.out 1 _ _ rfl rfl _ Try.underlying25 rfl (by rfl) ?_)
    | (refine wpList_loadg_st (by rfl) 25 _ rfl S13.out 0 _ _ rfl rfl _ Try.underlying25 rfl (by rfl) ?_))
  refine (KS _ Ak Ad ck cd ((S13.out.fact 2 rfl).1.more (S13.out.fact 2 rfl).2) ((S13.out.fact 1 rfl).1.more (S13.out.fact 1 rfl).2)).out.mono ?_
  rintro e w14 ⟨rfl, hB⟩
  have S14 := Lib.hid (S13.out.on hB)
  clear hB S13
  clear KS iwn jk1 jk2 jk3
  go_wp2_with (refine wpList_load_st rfl 25 _ rfl S14.out 3 _ _ rfl rfl _ Try.underlying25 rfl (by rfl) ?_)
  have hsq := StrsAt.new w14 [t] 9
  have S15 := Lib.hid (S14.out.on (below_new w14 (.cells #[.string t] 9)))
  clear S14
  refine (KY _ Ax cx (S15.out.fact 6 rfl) ((S15.out.fact 4 rfl).1.more (S15.out.fact 4 rfl).2) HRx.out _ (by simpa using hsq)).out.mono ?_
  rintro e w16 ⟨Ay, cy, rfl, hT, hR, hB⟩
  have S16 := Lib.hid ((S15.out.on hB).more (filF14 Ay w16.heap.size yfs) ⟨hT, Nat.le_refl _⟩)
  have HRy := Lib.hid hR
  clear hB hT hR S15
  obtain ⟨By, hBe⟩ : ∃ b, b = w16.heap.size := ⟨_, rfl⟩
  rw [← hBe] at S16
  clear hBe
  clear hsq KY
  go_wp2_with (first
    | (refine wpList_store_st rfl 25 _ _ rfl S16.out _ #[.int .i64 ys, .int .i64 yf, .slice Ay yn cy] _ rfl rfl (by rfl) rfl (seg_one14 _ _ _ _ _) ?_; intro b5 w17 hp hS hBn; (try rw [← hp]); have S17 := Lib.hid hS; clear hS hp hBn)
    | (refine wpList_load_st rfl 25 _ rfl S17.out 3 _ _ rfl rfl _ Try.underlying25 rfl (by rfl) ?_))
  have hsq := StrsAt.new w17 [t] 9
  have S18 := Lib.hid (S17.out.on (below_new w17 (.cells #[.string t] 9)))
  clear S17
  refine (KZ _ Ab cb (S18.out.fact 7 rfl) ((S18.out.fact 4 rfl).1.more (S18.out.fact 4 rfl).2) HRb.out _ (by simpa using hsq)).out.mono ?_
  rintro e w19 ⟨Az, cz, rfl, hT, hR, hB⟩
  have S19 := Lib.hid ((S18.out.on hB).more (filF14 Az w19.heap.size zfs) ⟨hT, Nat.le_refl _⟩)
  have HRz := Lib.hid hR
  clear hB hT hR S18
  obtain ⟨Bz, hBe⟩ : ∃ b, b = w19.heap.size := ⟨_, rfl⟩
  rw [← hBe] at S19
  clear hBe
  clear hsq KZ
  go_wp2_with (refine wpList_store_st rfl 25 _ _ rfl S19.out _ #[.int .i64 zs, .int .i64 zf, .slice Az zn cz] _ rfl rfl (by rfl) rfl (seg_one14 _ _ _ _ _) ?_; intro b6 w20 hp hS hBn; (try rw [← hp]); have S20 := Lib.hid hS; clear hS hp hBn)
  refine (Lib.hid (HC.out _ (S20.out.fact 8 rfl))).out.mono ?_
  rintro e w21 ⟨rfl, hB⟩
  have S21 := Lib.hid (S20.out.on hB)
  clear hB S20
  go_wp2
  go_ret
  exact ⟨rfl, S21.out.below⟩

set_option maxHeartbeats 4000000 in
theorem segmentDrop_bz1 {E : World → Prop} (HS : Hid (SegK E)) (HC : Hid (PartedK E)) (size first : Int) (A1 : Option Addr) (N1 cap1 : Nat) (l : List ByteArray) (upto more : Int) (t : ByteArray) (w : World) (hE : E w) (hA1 : StrsAt w w.heap.size A1 l) (sz fi : Int) (n0 : Nat) (fs0 : List Fil) (xn : Nat) (xfs : List Fil) (xs xf : Int) (bn : Nat) (bfs : List Fil) (bs bf : Int) (kn : Nat) (kfs : List Fil) (ks kf : Int) (j3 : ((100 : Int) < (t.size : Int)) = False) (j4 : ((800000000 : Int) < first) = False) (jm : (upto < more) = True) (yn : Nat) (yfs : List Fil) (ys yf : Int) (zn : Nat) (zfs : List Fil) (zs zf : Int) (dr : List ByteArray) (kk K : Nat) (hN1 : N1 = l.length) (hcap : N1 ≤ cap1) (hkk : kk ≤ N1) (hK : N1 - kk = K) (hdr : l.drop kk = dr) (hl1 : N1 ≤ 25) (iwn : wrap64 (bf - first) = (kk : Int)) (jk1 : ((kk : Int) < 0) = False) (jk2 : ((N1 : Int) < (kk : Int)) = False) (jk3 : (0 < kk) = False) (ze : Int) (jz : (ze != 0) = true)
    (KN : ∀ (W : World) (_h : E W), Hid (Calls Try.prog 8 #[.int .i64 size, .int .i64 first] W fun e w' => ∃ A c, e = .returned (.tuple #[.agg #[.int .i64 sz, .int .i64 fi, .slice A n0 c], .int .i64 0]) ∧ FilsAt w' w'.heap.size A fs0 ∧ RoomyF A fs0 c ∧ Below W.heap.size W w'))
    (pf1 : ∀ (W : World) (A : Option Addr) (c : Nat) (_hA : FilsAt W W.heap.size A fs0) (_hB : StrsAt W W.heap.size A1 l), Hid (Calls Try.prog 9 #[.agg #[.int .i64 sz, .int .i64 fi, .slice A n0 c], .slice A1 N1 cap1] W fun e w' => e = .returned (.bool false) ∧ Below W.heap.size W w'))
    (KA : ∀ (W : World) (A : Option Addr) (c : Nat) (_h : E W) (_hA : FilsAt W W.heap.size A fs0) (_hR : RoomyF A fs0 c) (_hB : StrsAt W W.heap.size A1 l), Hid (Calls Try.prog 11 #[.agg #[.int .i64 sz, .int .i64 fi, .slice A n0 c], .slice A1 N1 cap1] W fun e w' => ∃ A c, e = .returned (.tuple #[.agg #[.int .i64 xs, .int .i64 xf, .slice A xn c], .int .i64 0]) ∧ FilsAt w' w'.heap.size A xfs ∧ RoomyF A xfs c ∧ Below W.heap.size W w'))
    (KB : ∀ (W : World) (A : Option Addr) (c : Nat) (_h : E W) (_hA : FilsAt W W.heap.size A xfs) (_hR : RoomyF A xfs c), Hid (Calls Try.prog 19 #[.agg #[.int .i64 xs, .int .i64 xf, .slice A xn c], .int .i64 upto] W fun e w' => ∃ A c, e = .returned (.tuple #[.agg #[.int .i64 bs, .int .i64 bf, .slice A bn c], .int .i64 0]) ∧ FilsAt w' w'.heap.size A bfs ∧ RoomyF A bfs c ∧ Below W.heap.size W w'))
    (KC : ∀ (W : World) (A : Option Addr) (c : Nat) (_h : E W) (_hA : FilsAt W W.heap.size A bfs) (_hR : RoomyF A bfs c), Hid (Calls Try.prog 19 #[.agg #[.int .i64 bs, .int .i64 bf, .slice A bn c], .int .i64 more] W fun e w' => ∃ A c, e = .returned (.tuple #[.agg #[.int .i64 ks, .int .i64 kf, .slice A kn c], .int .i64 0]) ∧ FilsAt w' w'.heap.size A kfs ∧ RoomyF A kfs c ∧ Below W.heap.size W w'))
    (KD : ∀ (W : World) (A : Option Addr) (c : Nat) (_h : E W) (_hA : FilsAt W W.heap.size A xfs) (_hR : RoomyF A xfs c), Hid (Calls Try.prog 19 #[.agg #[.int .i64 xs, .int .i64 xf, .slice A xn c], .int .i64 more] W fun e w' => ∃ A c, e = .returned (.tuple #[.agg #[.int .i64 ks, .int .i64 kf, .slice A kn c], .int .i64 0]) ∧ FilsAt w' w'.heap.size A kfs ∧ RoomyF A kfs c ∧ Below W.heap.size W w'))
    (KR : ∀ (W : World) (A : Option Addr) (c : Nat) (_h : E W) (_hA : FilsAt W W.heap.size A bfs) (_hR : RoomyF A bfs c), Hid (Calls Try.prog 12 #[.agg #[.int .i64 bs, .int .i64 bf, .slice A bn c]] W fun e w' => ∃ A c, e = .returned (.tuple #[.slice A K c, .int .i64 0]) ∧ StrsAt w' w'.heap.size A dr ∧ K ≤ c ∧ Below W.heap.size W w'))
    (KT : ∀ (W : World) (A B : Option Addr) (c d : Nat) (_hA : StrsAt W W.heap.size A dr) (_hB : StrsAt W W.heap.size B dr), Hid (Calls Try.prog 14 #[.slice A K c, .slice B K d] W fun e w' => e = .returned (.bool true) ∧ Below W.heap.size W w'))
    (KS : ∀ (W : World) (A B : Option Addr) (c d : Nat) (_hA : FilsAt W W.heap.size A kfs) (_hB : FilsAt W W.heap.size B kfs), Hid (Calls Try.prog 13 #[.agg #[.int .i64 ks, .int .i64 kf, .slice A kn c], .agg #[.int .i64 ks, .int .i64 kf, .slice B kn d]] W fun e w' => e = .returned (.bool true) ∧ Below W.heap.size W w'))
    (KY : ∀ (W : World) (A : Option Addr) (c : Nat) (_h : E W) (_hA : FilsAt W W.heap.size A xfs) (_hR : RoomyF A xfs c) (A3 : Addr) (_hB : StrsAt W W.heap.size (some A3) [t]), Hid (Calls Try.prog 11 #[.agg #[.int .i64 xs, .int .i64 xf, .slice A xn c], .slice (some A3) 1 1] W fun e w' => ∃ A c, e = .returned (.tuple #[.agg #[.int .i64 ys, .int .i64 yf, .slice A yn c], .int .i64 0]) ∧ FilsAt w' w'.heap.size A yfs ∧ RoomyF A yfs c ∧ Below W.heap.size W w'))
    (KZ : ∀ (W : World) (A : Option Addr) (c : Nat) (_h : E W) (_hA : FilsAt W W.heap.size A bfs) (_hR : RoomyF A bfs c) (A3 : Addr) (_hB : StrsAt W W.heap.size (some A3) [t]), Hid (Calls Try.prog 11 #[.agg #[.int .i64 bs, .int .i64 bf, .slice A bn c], .slice (some A3) 1 1] W fun e w' => ∃ A c, e = .returned (.tuple #[.agg #[.int .i64 zs, .int .i64 zf, .slice A zn c], .int .i64 ze]) ∧ FilsAt w' w'.heap.size A zfs ∧ RoomyF A zfs c ∧ Below W.heap.size W w')) :
    Calls Try.prog 5 #[.int .i64 size, .int .i64 first, .slice A1 N1 cap1, .int .i64 upto, .int .i64 more, .string t] w fun e w' => e = .returned (.bool true) ∧ Below w.heap.size w w' := by
  have HN1 := Lib.hid hN1
  have Hcap := Lib.hid hcap
  have Hkk := Lib.hid hkk
  have HK := Lib.hid hK
  have Hdr := Lib.hid hdr
  have Hl1 := Lib.hid hl1
  have Hiw := Lib.hid iwn
  have Hj1 := Lib.hid jk1
  have Hj2 := Lib.hid jk2
  have Hj3 := Lib.hid jk3
  clear hN1 hcap hkk hK hdr hl1 iwn jk1 jk2 jk3
  have S0 := Lib.hid (((St.start w).more (strsF14 A1 w.heap.size l) ⟨hA1, Nat.le_refl _⟩).more (eSg HS) hE)
  clear hE hA1
  go_enter Try.func5, Try.ntmps5
  go_wp2_with fail
  refine (KN _ (S0.out.fact 0 rfl)).out.mono ?_
  rintro e w1 ⟨Af, cf, rfl, hT, hR, hB⟩
  have S1 := Lib.hid ((S0.out.on hB).more (filF14 Af w1.heap.size fs0) ⟨hT, Nat.le_refl _⟩)
  have HRf := Lib.hid hR
  clear hB hT hR S0
  obtain ⟨Bf, hBe⟩ : ∃ b, b = w1.heap.size := ⟨_, rfl⟩
  rw [← hBe] at S1
  clear hBe
  go_wp2_with (first
    | (refine wpList_store_st rfl 25 _ _ rfl S1.out _ #[.int .i64 sz, .int .i64 fi, .slice Af n0 cf] _ rfl rfl (by rfl) rfl (seg_one14 _ _ _ _ _) ?_; intro b0 w2 hp hS hBn; (try rw [← hp]); have S2 := Lib.hid hS; clear hS hp hBn)
    | (refine wpList_loadg_st (by rfl) 25 _ rfl S2.out 0 _ _ rfl rfl _ Try.underlying25 rfl (by rfl) ?_))
  refine (pf1 _ Af cf ((S2.out.fact 0 rfl).1.more (S2.out.fact 0 rfl).2) ((S2.out.fact 2 rfl).1.more (S2.out.fact 2 rfl).2)).out.mono ?_
  rintro e w3 ⟨rfl, hB⟩
  have S3 := Lib.hid (S2.out.on hB)
  clear hB S2
  go_wp2_with (refine wpList_load_st rfl 25 _ rfl S3.out 0 _ _ rfl rfl _ Try.underlying25 rfl (by rfl) ?_)
  refine (KA _ Af cf (S3.out.fact 1 rfl) ((S3.out.fact 0 rfl).1.more (S3.out.fact 0 rfl).2) HRf.out ((S3.out.fact 2 rfl).1.more (S3.out.fact 2 rfl).2)).out.mono ?_
  rintro e w4 ⟨Ax, cx, rfl, hT, hR, hB⟩
  have S4 := Lib.hid ((S3.out.on hB).more (filF14 Ax w4.heap.size xfs) ⟨hT, Nat.le_refl _⟩)
  have HRx := Lib.hid hR
  clear hB hT hR S3
  obtain ⟨Bx, hBe⟩ : ∃ b, b = w4.heap.size := ⟨_, rfl⟩
  rw [← hBe] at S4
  clear hBe
  clear KA pf1 KN j3 j4
  go_wp2_with (first
    | (refine wpList_store_st rfl 25 _ _ rfl S4.out _ #[.int .i64 xs, .int .i64 xf, .slice Ax xn cx] _ rfl rfl (by rfl) rfl (seg_one14 _ _ _ _ _) ?_; intro b1 w5 hp hS hBn; (try rw [← hp]); have S5 := Lib.hid hS; clear hS hp hBn)
    | (refine wpList_load_st rfl 25 _ rfl S5.out 0 _ _ rfl rfl _ Try.underlying25 rfl (by rfl) ?_))
  refine (KB _ Ax cx (S5.out.fact 2 rfl) ((S5.out.fact 0 rfl).1.more (S5.out.fact 0 rfl).2) HRx.out).out.mono ?_
  rintro e w6 ⟨Ab, cb, rfl, hT, hR, hB⟩
  have S6 := Lib.hid ((S5.out.on hB).more (filF14 Ab w6.heap.size bfs) ⟨hT, Nat.le_refl _⟩)
  have HRb := Lib.hid hR
  clear hB hT hR S5
  obtain ⟨Bb, hBe⟩ : ∃ b, b = w6.heap.size := ⟨_, rfl⟩
  rw [← hBe] at S6
  clear hBe
  clear KB
  go_wp2_with (first
    | (refine wpList_store_st rfl 25 _ _ rfl S6.out _ #[.int .i64 bs, .int .i64 bf, .slice Ab bn cb] _ rfl rfl (by rfl) rfl (seg_one14 _ _ _ _ _) ?_; intro b2 w7 hp hS hBn; (try rw [← hp]); have S7 := Lib.hid hS; clear hS hp hBn)
    | (refine wpList_load_st rfl 25 _ rfl S7.out 0 _ _ rfl rfl _ Try.underlying25 rfl (by rfl) ?_))
  refine (KC _ Ab cb (S7.out.fact 3 rfl) ((S7.out.fact 0 rfl).1.more (S7.out.fact 0 rfl).2) HRb.out).out.mono ?_
  rintro e w8 ⟨Ak, ck, rfl, hT, hR, hB⟩
  have S8 := Lib.hid ((S7.out.on hB).more (filF14 Ak w8.heap.size kfs) ⟨hT, Nat.le_refl _⟩)
  have HRk := Lib.hid hR
  clear hB hT hR S7
  obtain ⟨Bk, hBe⟩ : ∃ b, b = w8.heap.size := ⟨_, rfl⟩
  rw [← hBe] at S8
  clear hBe
  clear KC
  go_wp2_with (first
    | (refine wpList_store_st rfl 25 _ _ rfl S8.out _ #[.int .i64 ks, .int .i64 kf, .slice Ak kn ck] _ rfl rfl (by rfl) rfl (seg_one14 _ _ _ _ _) ?_; intro b3 w9 hp hS hBn; (try rw [← hp]); have S9 := Lib.hid hS; clear hS hp hBn)
    | (refine wpList_load_st rfl 25 _ rfl S9.out 2 _ _ rfl rfl _ Try.underlying25 rfl (by rfl) ?_))
  refine (KD _ Ax cx (S9.out.fact 4 rfl) ((S9.out.fact 2 rfl).1.more (S9.out.fact 2 rfl).2) HRx.out).out.mono ?_
  rintro e w10 ⟨Ad, cd, rfl, hT, hR, hB⟩
  have S10 := Lib.hid ((S9.out.on hB).more (filF14 Ad w10.heap.size kfs) ⟨hT, Nat.le_refl _⟩)
  have HRd := Lib.hid hR
  clear hB hT hR S9
  obtain ⟨Bd, hBe⟩ : ∃ b, b = w10.heap.size := ⟨_, rfl⟩
  rw [← hBe] at S10
  clear hBe
  clear KD jm
  go_wp2_with (first
    | (refine wpList_store_st rfl 25 _ _ rfl S10.out _ #[.int .i64 ks, .int .i64 kf, .slice Ad kn cd] _ rfl rfl (by rfl) rfl (seg_one14 _ _ _ _ _) ?_; intro b4 w11 hp hS hBn; (try rw [← hp]); have S11 := Lib.hid hS; clear hS hp hBn)
    | (refine wpList_load_st rfl 25 _ rfl S11.out 2 _ _ rfl rfl _ Try.underlying25 rfl (by rfl) ?_))
  refine (KR _ Ab cb (S11.out.fact 5 rfl) ((S11.out.fact 2 rfl).1.more (S11.out.fact 2 rfl).2) HRb.out).out.mono ?_
  rintro e w12 ⟨Au, cu, rfl, hT, _, hB⟩
  have S12 := Lib.hid ((S11.out.on hB).more (strsF14 Au w12.heap.size dr) ⟨hT, Nat.le_refl _⟩)
  clear hB hT S11
  obtain ⟨Bu, hBe⟩ : ∃ b, b = w12.heap.size := ⟨_, rfl⟩
  rw [← hBe] at S12
  clear hBe
  clear KR
  have hcx := S12.out.cell 2 rfl 1 rfl
  have iwn := Hiw.out
  have jk1 := Hj1.out
  have jk2 := Hj2.out
  have jk3 := Hj3.out

  obtain ⟨A1d, HA1d⟩ : ∃ A2, Hid ((if cap1 = kk then A1 else A1.map (·.add kk)) = A2) := ⟨_, Lib.hid rfl⟩
  obtain ⟨CK, HCK⟩ : ∃ C, Hid (cap1 - kk = C) := ⟨_, Lib.hid rfl⟩
  have hsl := fun W => run_slice_from14 W A1 N1 cap1 kk K CK Hkk.out HK.out HCK.out A1d HA1d.out
  go_wp2_with fail
  refine (KT _ Au A1d cu CK ((S12.out.fact 0 rfl).1.more (S12.out.fact 0 rfl).2) (by have h := (((S12.out.fact 7 rfl).1.more (S12.out.fact 7 rfl).2)).drop14 kk cap1 (by have := Hcap.out; have := HN1.out; omega) A1d HA1d.out; rw [Hdr.out] at h; exact h)).out.mono ?_
  rintro e w13 ⟨rfl, hB⟩
  have S13 := Lib.hid (S12.out.on hB)
  clear hB S12
  clear hcx hsl KT
  go_wp2_with (first
    | (refine wpList_loadg_st (by rfl) 25 _ rfl S13.out 1 _ _ rfl rfl _ Try.underlying25 rfl (by rfl) ?_)
    | (refine wpList_loadg_st (by rfl) 25 _ rfl S13.out 0 _ _ rfl rfl _ Try.underlying25 rfl (by rfl) ?_))
  refine (KS _ Ak Ad ck cd ((S13.out.fact 2 rfl).1.more (S13.out.fact 2 rfl).2) ((S13.out.fact 1 rfl).1.more (S13.out.fact 1 rfl).2)).out.mono ?_
  rintro e w14 ⟨rfl, hB⟩
  have S14 := Lib.hid (S13.out.on hB)
  clear hB S13
  clear KS iwn jk1 jk2 jk3
  go_wp2_with (refine wpList_load_st rfl 25 _ rfl S14.out 3 _ _ rfl rfl _ Try.underlying25 rfl (by rfl) ?_)
  have hsq := StrsAt.new w14 [t] 9
  have S15 := Lib.hid (S14.out.on (below_new w14 (.cells #[.string t] 9)))
  clear S14
  refine (KY _ Ax cx (S15.out.fact 6 rfl) ((S15.out.fact 4 rfl).1.more (S15.out.fact 4 rfl).2) HRx.out _ (by simpa using hsq)).out.mono ?_
  rintro e w16 ⟨Ay, cy, rfl, hT, hR, hB⟩
  have S16 := Lib.hid ((S15.out.on hB).more (filF14 Ay w16.heap.size yfs) ⟨hT, Nat.le_refl _⟩)
  have HRy := Lib.hid hR
  clear hB hT hR S15
  obtain ⟨By, hBe⟩ : ∃ b, b = w16.heap.size := ⟨_, rfl⟩
  rw [← hBe] at S16
  clear hBe
  clear hsq KY
  go_wp2_with (first
    | (refine wpList_store_st rfl 25 _ _ rfl S16.out _ #[.int .i64 ys, .int .i64 yf, .slice Ay yn cy] _ rfl rfl (by rfl) rfl (seg_one14 _ _ _ _ _) ?_; intro b5 w17 hp hS hBn; (try rw [← hp]); have S17 := Lib.hid hS; clear hS hp hBn)
    | (refine wpList_load_st rfl 25 _ rfl S17.out 3 _ _ rfl rfl _ Try.underlying25 rfl (by rfl) ?_))
  have hsq := StrsAt.new w17 [t] 9
  have S18 := Lib.hid (S17.out.on (below_new w17 (.cells #[.string t] 9)))
  clear S17
  refine (KZ _ Ab cb (S18.out.fact 7 rfl) ((S18.out.fact 4 rfl).1.more (S18.out.fact 4 rfl).2) HRb.out _ (by simpa using hsq)).out.mono ?_
  rintro e w19 ⟨Az, cz, rfl, hT, hR, hB⟩
  have S19 := Lib.hid ((S18.out.on hB).more (filF14 Az w19.heap.size zfs) ⟨hT, Nat.le_refl _⟩)
  have HRz := Lib.hid hR
  clear hB hT hR S18
  obtain ⟨Bz, hBe⟩ : ∃ b, b = w19.heap.size := ⟨_, rfl⟩
  rw [← hBe] at S19
  clear hBe
  clear hsq KZ
  go_wp2_with (refine wpList_store_st rfl 25 _ _ rfl S19.out _ #[.int .i64 zs, .int .i64 zf, .slice Az zn cz] _ rfl rfl (by rfl) rfl (seg_one14 _ _ _ _ _) ?_; intro b6 w20 hp hS hBn; (try rw [← hp]); have S20 := Lib.hid hS; clear hS hp hBn)
  refine (Lib.hid (HC.out _ (S20.out.fact 8 rfl))).out.mono ?_
  rintro e w21 ⟨rfl, hB⟩
  have S21 := Lib.hid (S20.out.on hB)
  clear hB S20
  go_wp2
  go_ret
  exact ⟨rfl, S21.out.below⟩

set_option maxHeartbeats 4000000 in
theorem segmentDrop_okz1 {E : World → Prop} (HS : Hid (SegK E)) (HC : Hid (PartedK E)) (size first : Int) (A1 : Option Addr) (N1 cap1 : Nat) (l : List ByteArray) (upto more : Int) (t : ByteArray) (w : World) (hE : E w) (hA1 : StrsAt w w.heap.size A1 l) (sz fi : Int) (n0 : Nat) (fs0 : List Fil) (xn : Nat) (xfs : List Fil) (xs xf : Int) (bn : Nat) (bfs : List Fil) (bs bf : Int) (kn : Nat) (kfs : List Fil) (ks kf : Int) (j3 : ((100 : Int) < (t.size : Int)) = False) (j4 : ((800000000 : Int) < first) = False) (jm : (upto < more) = True) (yn : Nat) (yfs : List Fil) (ys yf : Int) (zn : Nat) (zfs : List Fil) (zs zf : Int) (dr : List ByteArray) (kk K : Nat) (hN1 : N1 = l.length) (hcap : N1 ≤ cap1) (hkk : kk ≤ N1) (hK : N1 - kk = K) (hdr : l.drop kk = dr) (hl1 : N1 ≤ 25) (iwn : wrap64 (bf - first) = (kk : Int)) (jk1 : ((kk : Int) < 0) = False) (jk2 : ((N1 : Int) < (kk : Int)) = False) (jk3 : (0 < kk) = False)
    (KN : ∀ (W : World) (_h : E W), Hid (Calls Try.prog 8 #[.int .i64 size, .int .i64 first] W fun e w' => ∃ A c, e = .returned (.tuple #[.agg #[.int .i64 sz, .int .i64 fi, .slice A n0 c], .int .i64 0]) ∧ FilsAt w' w'.heap.size A fs0 ∧ RoomyF A fs0 c ∧ Below W.heap.size W w'))
    (pf1 : ∀ (W : World) (A : Option Addr) (c : Nat) (_hA : FilsAt W W.heap.size A fs0) (_hB : StrsAt W W.heap.size A1 l), Hid (Calls Try.prog 9 #[.agg #[.int .i64 sz, .int .i64 fi, .slice A n0 c], .slice A1 N1 cap1] W fun e w' => e = .returned (.bool false) ∧ Below W.heap.size W w'))
    (KA : ∀ (W : World) (A : Option Addr) (c : Nat) (_h : E W) (_hA : FilsAt W W.heap.size A fs0) (_hR : RoomyF A fs0 c) (_hB : StrsAt W W.heap.size A1 l), Hid (Calls Try.prog 11 #[.agg #[.int .i64 sz, .int .i64 fi, .slice A n0 c], .slice A1 N1 cap1] W fun e w' => ∃ A c, e = .returned (.tuple #[.agg #[.int .i64 xs, .int .i64 xf, .slice A xn c], .int .i64 0]) ∧ FilsAt w' w'.heap.size A xfs ∧ RoomyF A xfs c ∧ Below W.heap.size W w'))
    (KB : ∀ (W : World) (A : Option Addr) (c : Nat) (_h : E W) (_hA : FilsAt W W.heap.size A xfs) (_hR : RoomyF A xfs c), Hid (Calls Try.prog 19 #[.agg #[.int .i64 xs, .int .i64 xf, .slice A xn c], .int .i64 upto] W fun e w' => ∃ A c, e = .returned (.tuple #[.agg #[.int .i64 bs, .int .i64 bf, .slice A bn c], .int .i64 0]) ∧ FilsAt w' w'.heap.size A bfs ∧ RoomyF A bfs c ∧ Below W.heap.size W w'))
    (KC : ∀ (W : World) (A : Option Addr) (c : Nat) (_h : E W) (_hA : FilsAt W W.heap.size A bfs) (_hR : RoomyF A bfs c), Hid (Calls Try.prog 19 #[.agg #[.int .i64 bs, .int .i64 bf, .slice A bn c], .int .i64 more] W fun e w' => ∃ A c, e = .returned (.tuple #[.agg #[.int .i64 ks, .int .i64 kf, .slice A kn c], .int .i64 0]) ∧ FilsAt w' w'.heap.size A kfs ∧ RoomyF A kfs c ∧ Below W.heap.size W w'))
    (KD : ∀ (W : World) (A : Option Addr) (c : Nat) (_h : E W) (_hA : FilsAt W W.heap.size A xfs) (_hR : RoomyF A xfs c), Hid (Calls Try.prog 19 #[.agg #[.int .i64 xs, .int .i64 xf, .slice A xn c], .int .i64 more] W fun e w' => ∃ A c, e = .returned (.tuple #[.agg #[.int .i64 ks, .int .i64 kf, .slice A kn c], .int .i64 0]) ∧ FilsAt w' w'.heap.size A kfs ∧ RoomyF A kfs c ∧ Below W.heap.size W w'))
    (KR : ∀ (W : World) (A : Option Addr) (c : Nat) (_h : E W) (_hA : FilsAt W W.heap.size A bfs) (_hR : RoomyF A bfs c), Hid (Calls Try.prog 12 #[.agg #[.int .i64 bs, .int .i64 bf, .slice A bn c]] W fun e w' => ∃ A c, e = .returned (.tuple #[.slice A K c, .int .i64 0]) ∧ StrsAt w' w'.heap.size A dr ∧ K ≤ c ∧ Below W.heap.size W w'))
    (KT : ∀ (W : World) (A B : Option Addr) (c d : Nat) (_hA : StrsAt W W.heap.size A dr) (_hB : StrsAt W W.heap.size B dr), Hid (Calls Try.prog 14 #[.slice A K c, .slice B K d] W fun e w' => e = .returned (.bool true) ∧ Below W.heap.size W w'))
    (KS : ∀ (W : World) (A B : Option Addr) (c d : Nat) (_hA : FilsAt W W.heap.size A kfs) (_hB : FilsAt W W.heap.size B kfs), Hid (Calls Try.prog 13 #[.agg #[.int .i64 ks, .int .i64 kf, .slice A kn c], .agg #[.int .i64 ks, .int .i64 kf, .slice B kn d]] W fun e w' => e = .returned (.bool true) ∧ Below W.heap.size W w'))
    (KY : ∀ (W : World) (A : Option Addr) (c : Nat) (_h : E W) (_hA : FilsAt W W.heap.size A xfs) (_hR : RoomyF A xfs c) (A3 : Addr) (_hB : StrsAt W W.heap.size (some A3) [t]), Hid (Calls Try.prog 11 #[.agg #[.int .i64 xs, .int .i64 xf, .slice A xn c], .slice (some A3) 1 1] W fun e w' => ∃ A c, e = .returned (.tuple #[.agg #[.int .i64 ys, .int .i64 yf, .slice A yn c], .int .i64 0]) ∧ FilsAt w' w'.heap.size A yfs ∧ RoomyF A yfs c ∧ Below W.heap.size W w'))
    (KZ : ∀ (W : World) (A : Option Addr) (c : Nat) (_h : E W) (_hA : FilsAt W W.heap.size A bfs) (_hR : RoomyF A bfs c) (A3 : Addr) (_hB : StrsAt W W.heap.size (some A3) [t]), Hid (Calls Try.prog 11 #[.agg #[.int .i64 bs, .int .i64 bf, .slice A bn c], .slice (some A3) 1 1] W fun e w' => ∃ A c, e = .returned (.tuple #[.agg #[.int .i64 zs, .int .i64 zf, .slice A zn c], .int .i64 0]) ∧ FilsAt w' w'.heap.size A zfs ∧ RoomyF A zfs c ∧ Below W.heap.size W w'))
    (KU : ∀ (W : World) (A : Option Addr) (c : Nat) (_h : E W) (_hA : FilsAt W W.heap.size A yfs) (_hR : RoomyF A yfs c), Hid (Calls Try.prog 12 #[.agg #[.int .i64 ys, .int .i64 yf, .slice A yn c]] W fun e w' => ∃ A c, e = .returned (.tuple #[.slice A (N1 + 1) c, .int .i64 0]) ∧ StrsAt w' w'.heap.size A (l ++ [t]) ∧ (N1 + 1) ≤ c ∧ Below W.heap.size W w'))
    (KV : ∀ (W : World) (A : Option Addr) (c : Nat) (_h : E W) (_hA : FilsAt W W.heap.size A zfs) (_hR : RoomyF A zfs c), Hid (Calls Try.prog 12 #[.agg #[.int .i64 zs, .int .i64 zf, .slice A zn c]] W fun e w' => ∃ A c, e = .returned (.tuple #[.slice A (K + 1) c, .int .i64 0]) ∧ StrsAt w' w'.heap.size A (dr ++ [t]) ∧ (K + 1) ≤ c ∧ Below W.heap.size W w'))
    (KT2 : ∀ (W : World) (A B : Option Addr) (c d : Nat) (_hA : StrsAt W W.heap.size A (dr ++ [t])) (_hB : StrsAt W W.heap.size B (dr ++ [t])), Hid (Calls Try.prog 14 #[.slice A (K + 1) c, .slice B (K + 1) d] W fun e w' => e = .returned (.bool true) ∧ Below W.heap.size W w')) :
    Calls Try.prog 5 #[.int .i64 size, .int .i64 first, .slice A1 N1 cap1, .int .i64 upto, .int .i64 more, .string t] w fun e w' => e = .returned (.bool true) ∧ Below w.heap.size w w' := by
  have HN1 := Lib.hid hN1
  have Hcap := Lib.hid hcap
  have Hkk := Lib.hid hkk
  have HK := Lib.hid hK
  have Hdr := Lib.hid hdr
  have Hl1 := Lib.hid hl1
  have Hiw := Lib.hid iwn
  have Hj1 := Lib.hid jk1
  have Hj2 := Lib.hid jk2
  have Hj3 := Lib.hid jk3
  clear hN1 hcap hkk hK hdr hl1 iwn jk1 jk2 jk3
  have S0 := Lib.hid (((St.start w).more (strsF14 A1 w.heap.size l) ⟨hA1, Nat.le_refl _⟩).more (eSg HS) hE)
  clear hE hA1
  go_enter Try.func5, Try.ntmps5
  go_wp2_with fail
  refine (KN _ (S0.out.fact 0 rfl)).out.mono ?_
  rintro e w1 ⟨Af, cf, rfl, hT, hR, hB⟩
  have S1 := Lib.hid ((S0.out.on hB).more (filF14 Af w1.heap.size fs0) ⟨hT, Nat.le_refl _⟩)
  have HRf := Lib.hid hR
  clear hB hT hR S0
  obtain ⟨Bf, hBe⟩ : ∃ b, b = w1.heap.size := ⟨_, rfl⟩
  rw [← hBe] at S1
  clear hBe
  go_wp2_with (first
    | (refine wpList_store_st rfl 25 _ _ rfl S1.out _ #[.int .i64 sz, .int .i64 fi, .slice Af n0 cf] _ rfl rfl (by rfl) rfl (seg_one14 _ _ _ _ _) ?_; intro b0 w2 hp hS hBn; (try rw [← hp]); have S2 := Lib.hid hS; clear hS hp hBn)
    | (refine wpList_loadg_st (by rfl) 25 _ rfl S2.out 0 _ _ rfl rfl _ Try.underlying25 rfl (by rfl) ?_))
  refine (pf1 _ Af cf ((S2.out.fact 0 rfl).1.more (S2.out.fact 0 rfl).2) ((S2.out.fact 2 rfl).1.more (S2.out.fact 2 rfl).2)).out.mono ?_
  rintro e w3 ⟨rfl, hB⟩
  have S3 := Lib.hid (S2.out.on hB)
  clear hB S2
  go_wp2_with (refine wpList_load_st rfl 25 _ rfl S3.out 0 _ _ rfl rfl _ Try.underlying25 rfl (by rfl) ?_)
  refine (KA _ Af cf (S3.out.fact 1 rfl) ((S3.out.fact 0 rfl).1.more (S3.out.fact 0 rfl).2) HRf.out ((S3.out.fact 2 rfl).1.more (S3.out.fact 2 rfl).2)).out.mono ?_
  rintro e w4 ⟨Ax, cx, rfl, hT, hR, hB⟩
  have S4 := Lib.hid ((S3.out.on hB).more (filF14 Ax w4.heap.size xfs) ⟨hT, Nat.le_refl _⟩)
  have HRx := Lib.hid hR
  clear hB hT hR S3
  obtain ⟨Bx, hBe⟩ : ∃ b, b = w4.heap.size := ⟨_, rfl⟩
  rw [← hBe] at S4
  clear hBe
  clear KA pf1 KN j3 j4
  go_wp2_with (first
    | (refine wpList_store_st rfl 25 _ _ rfl S4.out _ #[.int .i64 xs, .int .i64 xf, .slice Ax xn cx] _ rfl rfl (by rfl) rfl (seg_one14 _ _ _ _ _) ?_; intro b1 w5 hp hS hBn; (try rw [← hp]); have S5 := Lib.hid hS; clear hS hp hBn)
    | (refine wpList_load_st rfl 25 _ rfl S5.out 0 _ _ rfl rfl _ Try.underlying25 rfl (by rfl) ?_))
  refine (KB _ Ax cx (S5.out.fact 2 rfl) ((S5.out.fact 0 rfl).1.more (S5.out.fact 0 rfl).2) HRx.out).out.mono ?_
  rintro e w6 ⟨Ab, cb, rfl, hT, hR, hB⟩
  have S6 := Lib.hid ((S5.out.on hB).more (filF14 Ab w6.heap.size bfs) ⟨hT, Nat.le_refl _⟩)
  have HRb := Lib.hid hR
  clear hB hT hR S5
  obtain ⟨Bb, hBe⟩ : ∃ b, b = w6.heap.size := ⟨_, rfl⟩
  rw [← hBe] at S6
  clear hBe
  clear KB
  go_wp2_with (first
    | (refine wpList_store_st rfl 25 _ _ rfl S6.out _ #[.int .i64 bs, .int .i64 bf, .slice Ab bn cb] _ rfl rfl (by rfl) rfl (seg_one14 _ _ _ _ _) ?_; intro b2 w7 hp hS hBn; (try rw [← hp]); have S7 := Lib.hid hS; clear hS hp hBn)
    | (refine wpList_load_st rfl 25 _ rfl S7.out 0 _ _ rfl rfl _ Try.underlying25 rfl (by rfl) ?_))
  refine (KC _ Ab cb (S7.out.fact 3 rfl) ((S7.out.fact 0 rfl).1.more (S7.out.fact 0 rfl).2) HRb.out).out.mono ?_
  rintro e w8 ⟨Ak, ck, rfl, hT, hR, hB⟩
  have S8 := Lib.hid ((S7.out.on hB).more (filF14 Ak w8.heap.size kfs) ⟨hT, Nat.le_refl _⟩)
  have HRk := Lib.hid hR
  clear hB hT hR S7
  obtain ⟨Bk, hBe⟩ : ∃ b, b = w8.heap.size := ⟨_, rfl⟩
  rw [← hBe] at S8
  clear hBe
  clear KC
  go_wp2_with (first
    | (refine wpList_store_st rfl 25 _ _ rfl S8.out _ #[.int .i64 ks, .int .i64 kf, .slice Ak kn ck] _ rfl rfl (by rfl) rfl (seg_one14 _ _ _ _ _) ?_; intro b3 w9 hp hS hBn; (try rw [← hp]); have S9 := Lib.hid hS; clear hS hp hBn)
    | (refine wpList_load_st rfl 25 _ rfl S9.out 2 _ _ rfl rfl _ Try.underlying25 rfl (by rfl) ?_))
  refine (KD _ Ax cx (S9.out.fact 4 rfl) ((S9.out.fact 2 rfl).1.more (S9.out.fact 2 rfl).2) HRx.out).out.mono ?_
  rintro e w10 ⟨Ad, cd, rfl, hT, hR, hB⟩
  have S10 := Lib.hid ((S9.out.on hB).more (filF14 Ad w10.heap.size kfs) ⟨hT, Nat.le_refl _⟩)
  have HRd := Lib.hid hR
  clear hB hT hR S9
  obtain ⟨Bd, hBe⟩ : ∃ b, b = w10.heap.size := ⟨_, rfl⟩
  rw [← hBe] at S10
  clear hBe
  clear KD jm
  go_wp2_with (first
    | (refine wpList_store_st rfl 25 _ _ rfl S10.out _ #[.int .i64 ks, .int .i64 kf, .slice Ad kn cd] _ rfl rfl (by rfl) rfl (seg_one14 _ _ _ _ _) ?_; intro b4 w11 hp hS hBn; (try rw [← hp]); have S11 := Lib.hid hS; clear hS hp hBn)
    | (refine wpList_load_st rfl 25 _ rfl S11.out 2 _ _ rfl rfl _ Try.underlying25 rfl (by rfl) ?_))
  refine (KR _ Ab cb (S11.out.fact 5 rfl) ((S11.out.fact 2 rfl).1.more (S11.out.fact 2 rfl).2) HRb.out).out.mono ?_
  rintro e w12 ⟨Au, cu, rfl, hT, _, hB⟩
  have S12 := Lib.hid ((S11.out.on hB).more (strsF14 Au w12.heap.size dr) ⟨hT, Nat.le_refl _⟩)
  clear hB hT S11
  obtain ⟨Bu, hBe⟩ : ∃ b, b = w12.heap.size := ⟨_, rfl⟩
  rw [← hBe] at S12
  clear hBe
  clear KR
  have hcx := S12.out.cell 2 rfl 1 rfl
  have iwn := Hiw.out
  have jk1 := Hj1.out
  have jk2 := Hj2.out
  have jk3 := Hj3.out

  obtain ⟨A1d, HA1d⟩ : ∃ A2, Hid ((if cap1 = kk then A1 else A1.map (·.add kk)) = A2) := ⟨_, Lib.hid rfl⟩
  obtain ⟨CK, HCK⟩ : ∃ C, Hid (cap1 - kk = C) := ⟨_, Lib.hid rfl⟩
  have hsl := fun W => run_slice_from14 W A1 N1 cap1 kk K CK Hkk.out HK.out HCK.out A1d HA1d.out
  go_wp2_with fail
  refine (KT _ Au A1d cu CK ((S12.out.fact 0 rfl).1.more (S12.out.fact 0 rfl).2) (by have h := (((S12.out.fact 7 rfl).1.more (S12.out.fact 7 rfl).2)).drop14 kk cap1 (by have := Hcap.out; have := HN1.out; omega) A1d HA1d.out; rw [Hdr.out] at h; exact h)).out.mono ?_
  rintro e w13 ⟨rfl, hB⟩
  have S13 := Lib.hid (S12.out.on hB)
  clear hB S12
  clear hcx hsl KT
  go_wp2_with (first
    | (refine wpList_loadg_st (by rfl) 25 _ rfl S13.out 1 _ _ rfl rfl _ Try.underlying25 rfl (by rfl) ?_)
    | (refine wpList_loadg_st (by rfl) 25 _ rfl S13.out 0 _ _ rfl rfl _ Try.underlying25 rfl (by rfl) ?_))
  refine (KS _ Ak Ad ck cd ((S13.out.fact 2 rfl).1.more (S13.out.fact 2 rfl).2) ((S13.out.fact 1 rfl).1.more (S13.out.fact 1 rfl).2)).out.mono ?_
  rintro e w14 ⟨rfl, hB⟩
  have S14 := Lib.hid (S13.out.on hB)
  clear hB S13
  clear KS iwn jk1 jk2 jk3
  go_wp2_with (refine wpList_load_st rfl 25 _ rfl S14.out 3 _ _ rfl rfl _ Try.underlying25 rfl (by rfl) ?_)
  have hsq := StrsAt.new w14 [t] 9
  have S15 := Lib.hid (S14.out.on (below_new w14 (.cells #[.string t] 9)))
  clear S14
  refine (KY _ Ax cx (S15.out.fact 6 rfl) ((S15.out.fact 4 rfl).1.more (S15.out.fact 4 rfl).2) HRx.out _ (by simpa using hsq)).out.mono ?_
  rintro e w16 ⟨Ay, cy, rfl, hT, hR, hB⟩
  have S16 := Lib.hid ((S15.out.on hB).more (filF14 Ay w16.heap.size yfs) ⟨hT, Nat.le_refl _⟩)
  have HRy := Lib.hid hR
  clear hB hT hR S15
  obtain ⟨By, hBe⟩ : ∃ b, b = w16.heap.size := ⟨_, rfl⟩
  rw [← hBe] at S16
  clear hBe
  clear hsq KY
  go_wp2_with (first
    | (refine wpList_store_st rfl 25 _ _ rfl S16.out _ #[.int .i64 ys, .int .i64 yf, .slice Ay yn cy] _ rfl rfl (by rfl) rfl (seg_one14 _ _ _ _ _) ?_; intro b5 w17 hp hS hBn; (try rw [← hp]); have S17 := Lib.hid hS; clear hS hp hBn)
    | (refine wpList_load_st rfl 25 _ rfl S17.out 3 _ _ rfl rfl _ Try.underlying25 rfl (by rfl) ?_))
  have hsq := StrsAt.new w17 [t] 9
  have S18 := Lib.hid (S17.out.on (below_new w17 (.cells #[.string t] 9)))
  clear S17
  refine (KZ _ Ab cb (S18.out.fact 7 rfl) ((S18.out.fact 4 rfl).1.more (S18.out.fact 4 rfl).2) HRb.out _ (by simpa using hsq)).out.mono ?_
  rintro e w19 ⟨Az, cz, rfl, hT, hR, hB⟩
  have S19 := Lib.hid ((S18.out.on hB).more (filF14 Az w19.heap.size zfs) ⟨hT, Nat.le_refl _⟩)
  have HRz := Lib.hid hR
  clear hB hT hR S18
  obtain ⟨Bz, hBe⟩ : ∃ b, b = w19.heap.size := ⟨_, rfl⟩
  rw [← hBe] at S19
  clear hBe
  clear hsq KZ
  go_wp2_with (first
    | (refine wpList_store_st rfl 25 _ _ rfl S19.out _ #[.int .i64 zs, .int .i64 zf, .slice Az zn cz] _ rfl rfl (by rfl) rfl (seg_one14 _ _ _ _ _) ?_; intro b6 w20 hp hS hBn; (try rw [← hp]); have S20 := Lib.hid hS; clear hS hp hBn)
    | (refine wpList_load_st rfl 25 _ rfl S20.out 1 _ _ rfl rfl _ Try.underlying25 rfl (by rfl) ?_))
  refine (KU _ Ay cy (S20.out.fact 8 rfl) ((S20.out.fact 1 rfl).1.more (S20.out.fact 1 rfl).2) HRy.out).out.mono ?_
  rintro e w21 ⟨Ap, cp, rfl, hT, hc5, hB⟩
  have S21 := Lib.hid ((S20.out.on hB).more (strsF14 Ap w21.heap.size (l ++ [t])) ⟨hT, Nat.le_refl _⟩)
  clear hB hT S20
  obtain ⟨Bp, hBe⟩ : ∃ b, b = w21.heap.size := ⟨_, rfl⟩
  rw [← hBe] at S21
  clear hBe
  have Hc5 := Lib.hid hc5
  clear hc5 KU
  go_wp2_with (refine wpList_load_st rfl 25 _ rfl S21.out 0 _ _ rfl rfl _ Try.underlying25 rfl (by rfl) ?_)
  refine (KV _ Az cz (S21.out.fact 9 rfl) ((S21.out.fact 1 rfl).1.more (S21.out.fact 1 rfl).2) HRz.out).out.mono ?_
  rintro e w22 ⟨Aq, cq, rfl, hT, _, hB⟩
  have S22 := Lib.hid ((S21.out.on hB).more (strsF14 Aq w22.heap.size (dr ++ [t])) ⟨hT, Nat.le_refl _⟩)
  clear hB hT S21
  obtain ⟨Bq, hBe⟩ : ∃ b, b = w22.heap.size := ⟨_, rfl⟩
  rw [← hBe] at S22
  clear hBe
  clear KV
  have iw1 : wrap64 ((N1 : Int) + 1) = (N1 : Int) + 1 := by have := Hl1.out; unfold wrap64; omega
  have iwn := Hiw.out
  obtain ⟨Apd, HApd⟩ : ∃ A2, Hid ((if cp = kk then Ap else Ap.map (·.add kk)) = A2) := ⟨_, Lib.hid rfl⟩
  obtain ⟨CP, HCP⟩ : ∃ C, Hid (cp - kk = C) := ⟨_, Lib.hid rfl⟩
  have hsl := fun W => run_slice_from14 W Ap (N1 + 1) cp kk (K + 1) CP (by have := Hkk.out; omega) (by have := Hkk.out; have := HK.out; omega) HCP.out Apd HApd.out
  go_wp2_with fail
  refine (Lib.hid (HC.out _ (S22.out.fact 10 rfl))).out.mono ?_
  rintro e w23 ⟨rfl, hB⟩
  have S23 := Lib.hid (S22.out.on hB)
  clear hB S22
  go_wp2_with fail
  refine (KT2 _ Apd Aq CP cq (by have h := (((S23.out.fact 1 rfl).1.more (S23.out.fact 1 rfl).2)).drop14 kk cp (by rw [List.length_append, ← HN1.out]; exact Hc5.out) Apd HApd.out; rw [List.drop_append_of_le_length (by have := HN1.out; have := Hkk.out; omega), Hdr.out] at h; exact h) ((S23.out.fact 0 rfl).1.more (S23.out.fact 0 rfl).2)).out.mono ?_
  rintro e w24 ⟨rfl, hB⟩
  have S24 := Lib.hid (S23.out.on hB)
  clear hB S23
  clear hsl iw1
  go_wp2
  go_ret
  exact ⟨rfl, S24.out.below⟩
end Go.Proofs.Ytlnchfnmpamliaa
