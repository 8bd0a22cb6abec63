/-
  Layer 14 (segment): the landed code: withLast, Sync, Crash, New (printed by tools/gen-segw3.py).
-/
import Derived.Test.YtlnchfnmpamliaaGreatXSegW4
import Derived.Test.YtlnchfnmpamliaaGreatXSegWA
namespace Go.Proofs.YtlnchfnmpamliaaGreat
set_option maxRecDepth 10000
open Go.RowKit

/-- A number in a box. -/
def boxF (b : Nat) (n : Int) : Fact := ⟨fun W => W.cell? ⟨b, 0, none⟩ = some (.int .i64 n) ∧ b < W.heap.size, fun _ _ h hB => ⟨(hB.cell (p := ⟨b, 0, none⟩) h.2).trans h.1, Nat.lt_of_lt_of_le h.2 hB.size⟩⟩

set_option maxHeartbeats 400000 in
theorem scrash1_any (f : Fil) (n : Int) (b : Nat) (hs : Fi.small f) (w : World) (hb : (boxF b n).on w) :
    Calls Tryz.prog 38 #[.agg (filV f), .pointer (some ⟨b, 0, none⟩)] w fun e w' => e = .returned (.tuple #[(Fi.crash f n).v, .int .i64 (Fi.badE f)]) ∧ Below w.heap.size w w' := by
  obtain ⟨m, k, l⟩ := f
  have p1 := fun W => fcrash_any m k l n hs W
  obtain ⟨E, hE⟩ : ∃ E, E = Fi.badE ⟨m, k, l⟩ := ⟨_, rfl⟩
  obtain ⟨⟨ym, yk, yl⟩, hY⟩ : ∃ Y, Y = Fi.crash ⟨m, k, l⟩ n := ⟨_, rfl⟩
  rw [← hE, ← hY] at p1 ⊢
  unfold Fil.v filV at p1 ⊢
  simp only at p1 ⊢
  have hF := FilAt.new1 w (.cells #[.int .i64 m, .string k, .string l] 47) 0 ⟨#[]⟩ ⟨#[]⟩ 47
  have hB := below_new2 w (.cells #[.int .i64 m, .string k, .string l] 47) (.cells #[.int .i64 0, .string ⟨#[]⟩, .string ⟨#[]⟩] 47)
  have d0 := ((boxF b n).lasts _ _ hb hB).1
  have HF := Lib.hid hF
  have HB := Lib.hid hB
  clear hE hY hs hF hB hb
  go_enter Tryz.func38, Tryz.ntmps38
  go_wp2_with fail
  refine (p1 _).mono ?_
  rintro e w1 ⟨rfl, hB⟩
  have HF2 := Lib.hid (HF.out.below hB)
  have HB2 := Lib.hid (below2 HB.out hB)
  clear p1 hB d0 HF HB
  have a0 := HF2.out.f0
  have a1 := HF2.out.f1
  have a2 := HF2.out.f2
  have b0 := HF2.out.c0
  have b1 := HF2.out.c1
  have b2 := HF2.out.c2
  go_wp2_with fail
  (try simp only [Exit.inBlock, Exit.then]); refine bodyPost_ret (ret_file rfl rfl (((HF2.out.set0 ym).set1 _).set2 _)) rfl ?_
  exact ⟨rfl, below_set3 HB2.out (by omega) _ _ _⟩

set_option maxRecDepth 10000 in
set_option maxHeartbeats 2000000 in
theorem wlSync_any (sz fi : Int) (A : Option Addr) (n c : Nat) (fs : List Fil) (w : World) (hA : FilsAt w w.heap.size A fs) (hs : Sg.small ⟨sz, fi, fs⟩) (hn : n = fs.length) (hc : A = none → c = 0) :
    Calls Tryz.prog 35 #[.agg #[.int .i64 sz, .int .i64 fi, .slice A n c], .func (.func 36) #[] #[]] w (GivesS w (if Sg.is ⟨sz, fi, fs⟩ = true then ⟨sz, fi, Sg.onLast (fun f => Fi.sync f) fs⟩ else Sg.no) (Sg.badE ⟨sz, fi, fs⟩)) := by
  have p1 := fun W (h : FilsAt W W.heap.size A fs) => sgis_any sz fi A n c fs W h hs hn
  have S0 := Lib.hid ((((St.start w).more (filF14 A w.heap.size fs) ⟨hA, Nat.le_refl _⟩)).box2 #[.int .i64 sz, .int .i64 fi, .slice A n c] #[.int .i64 0, .int .i64 0, .slice none 0 0] 24 24)
  by_cases hi : Sg.is ⟨sz, fi, fs⟩ = true
  · rw [hi] at p1
    obtain ⟨pre, f, hfs, q1, q2, hfi, q3⟩ := Sg.is_split hi
    clear q1 q2 q3
    simp only at hfs
    have e2 : Sg.badE ⟨sz, fi, fs⟩ = 0 := by unfold Sg.badE; rw [if_pos hi]
    rw [if_pos hi, e2]
    have e1 : (⟨sz, fi, Sg.onLast (fun f => Fi.sync f) fs⟩ : Seg) = ⟨sz, fi, pre ++ [Fi.sync f]⟩ := by rw [hfs, Sg.onLast_split]
    rw [e1]
    have hl2 : n ≤ 20 := by have := (Sg.is_iff.1 hi).1.2.2.2; simp only at this; omega
    have p2 := fun W (h : FilsAt W W.heap.size A fs) => clone_any A n c fs W h hn hc (by omega)
    have p3 := fun W => fsync_any f.most f.kept f.loose (Rc.is_small9 hfi) W
    have e3 : (⟨f.most, f.kept, f.loose⟩ : Fil) = f := rfl
    rw [e3] at p3
    have e4 : Fi.badE f = 0 := by unfold Fi.badE; rw [hfi]; rfl
    rw [e4] at p3
    obtain ⟨Y, hY⟩ : ∃ Y, Y = Fi.sync f := ⟨_, rfl⟩
    rw [← hY] at p3 ⊢
    obtain ⟨ym, yk, yl⟩ := Y
    obtain ⟨fm, fk, fl⟩ := f
    unfold Fil.v filV at p3
    simp only at p3
    have hk : n = pre.length + 1 := by rw [hn, hfs]; simp
    have wk : wrap64 ((n : Int) - 1) = (pre.length : Int) := by unfold wrap64; omega
    obtain ⟨k, hkk⟩ : ∃ k, k = pre.length := ⟨_, rfl⟩
    rw [← hkk] at wk hk
    have Hkk := Lib.hid hkk
    have Hfs := Lib.hid hfs
    have Hk := Lib.hid hk
    have Hwk := Lib.hid wk
    have hkf : k < fs.length := by rw [hfs, hkk]; simp
    have Hfk : Hid (∃ h : k < fs.length, fs[k]'h = ⟨fm, fk, fl⟩) := Lib.hid ⟨hkf, by
      have e : fs[k]? = some ⟨fm, fk, fl⟩ := by rw [hfs, hkk]; simp
      rw [List.getElem?_eq_getElem hkf] at e; exact Option.some.inj e⟩
    clear hA hs hc hi e1 e2 e3 e4 hfi hY hkk hn hl2 hfs wk hk hkf
    go_enter Tryz.func35, Tryz.ntmps35
    go_wp2_with fail
    refine (p1 _ ((S0.out.fact 0 rfl).1.more (S0.out.fact 0 rfl).2)).mono ?_
    rintro e w1 ⟨rfl, hB⟩
    have S1 := Lib.hid (S0.out.on hB)
    clear p1 hB S0
    have c0 := S1.out.cell 1 rfl 0 rfl
    have c1 := S1.out.cell 1 rfl 1 rfl
    have c2 := S1.out.cell 1 rfl 2 rfl
    obtain ⟨hkf, hfk⟩ := Hfk.out
    obtain ⟨b, off, rfl, hb, h3⟩ := (S1.out.fact 0 rfl).1 k hkf
    rw [hfk] at h3
    have e0 := h3.c0
    have e1 := h3.c1
    have e2 := h3.c2
    simp only at e0 e1 e2
    have i1 : (k : Int) < (n : Int) := by have := Hk.out; omega
    have i0 : (0 : Int) ≤ (k : Int) := by omega
    have wk := Hwk.out
    clear h3 hb hkf hfk
    go_wp2_with fail
    refine (p3 _).mono ?_
    rintro e w2 ⟨rfl, hB⟩
    have S3 := Lib.hid ((S1.out.on hB).new #[.int .i64 ym, .string yk, .string yl] 47)
    obtain ⟨q, hq⟩ : ∃ q, q = w2.heap.size := ⟨_, rfl⟩
    have Hq : Hid (w.heap.size + 1 < q) := Lib.hid (by have h1 := lt14 (S1.out.live (w.heap.size + 1, #[.int .i64 0, .int .i64 0, .slice none 0 0]) (by simp)); have h2 := hB.size; simp only at h1; omega)
    clear hB S1 p3 c0 c1 c2 e0 e1 e2
    have c2 := S3.out.cell 2 rfl 2 rfl
    go_wp2_with fail
    clear wk
    obtain ⟨w3, hw3⟩ : ∃ x, x = w2.alloc (.cells #[.int .i64 ym, .string yk, .string yl] 47) := ⟨_, rfl⟩
    rw [← hw3, ← hq] at S3 ⊢
    clear hw3 hq c2
    refine (p2 _ ((S3.out.fact 0 rfl).1.more (S3.out.fact 0 rfl).2)).mono ?_
    rintro e w4 ⟨A4, c4, rfl, hO, hB⟩
    rw [Hfs.out] at hO
    have S4 := Lib.hid (S3.out.on hB)
    have X5 := Lib.hid (XAt.cloned S3.out (List.mem_of_getElem? (i := 1) rfl) (List.mem_of_getElem? (i := 2) rfl) hB hO)
    have hF5 := kept14 (S4.out.blk14 0 rfl) (grown_cell14 w4 w.heap.size 2 (.slice A4 n c4)) (fun e => by injection e with e; have := Hq.out; omega)
    have c2 := S4.out.cell 2 rfl 2 rfl
    have a2 := S4.out.free 2 rfl 2
    obtain ⟨g, rfl, hnn, q3, q4⟩ := hO.lastw
    have f0 := cells14 hF5 0
    have f1 := cells14 hF5 1
    have f2 := cells14 hF5 2
    have x2 := X5.out.x2
    have HB5 : Hid (w.heap.size ≤ w3.heap.size) := Lib.hid S3.out.below.size
    clear hB hO p2 S3 S4 hF5 hnn q3 q4
    go_wp2_with (refine wpList_store_fil rfl _ _ rfl w3.heap.size g n c4 k pre [] ⟨fm, fk, fl⟩ ⟨ym, yk, yl⟩ Hkk.out rfl rfl X5.out.own ?_
                 intro w6 hO hg
                 have X6 := Lib.hid (X5.out.turn hg hO)
                 clear hO hg f0 f1 f2 x2 c2 a2
                 have x0 := X6.out.x0
                 have x1 := X6.out.x1
                 have x2 := X6.out.x2
                 have a0 := X6.out.rf 0
                 have a1 := X6.out.rf 1
                 have a2 := X6.out.rf 2
                 have b0 := X6.out.r0
                 have b1 := X6.out.r1
                 have b2 := X6.out.r2)
    obtain ⟨t, ht⟩ := X6.out.res
    (try simp only [Exit.inBlock, Exit.then]); refine bodyPost_ret (ret_segs2bw rfl rfl ht) rfl ?_
    obtain ⟨hO, hg⟩ := X6.out.done (.int .i64 sz) (.int .i64 fi) (.slice (some ⟨g, 0, none⟩) n c4) X6.out.own rfl
    refine ⟨some ⟨g, 0, none⟩, c4, ?_, OwnS.of (hO.lower HB5.out), grown_below14 hg⟩
    have : n = (pre ++ [(⟨ym, yk, yl⟩ : Fil)]).length := by rw [List.length_append, ← Hkk.out, Hk.out]; rfl
    rw [this]; rfl
  · have e2 : Sg.badE ⟨sz, fi, fs⟩ = 1 := by unfold Sg.badE; rw [if_neg hi]
    rw [if_neg hi, e2]
    rw [Bool.not_eq_true] at hi
    simp only [hi] at p1
    clear e2 hi hA hs hn
    go_enter Tryz.func35, Tryz.ntmps35
    go_wp2_with fail
    refine (p1 _ ((S0.out.fact 0 rfl).1.more (S0.out.fact 0 rfl).2)).mono ?_
    rintro e w1 ⟨rfl, hB⟩
    have S1 := Lib.hid (S0.out.on hB)
    clear p1 hB S0
    have a0 := S1.out.free 0 rfl 0
    have a1 := S1.out.free 0 rfl 1
    have a2 := S1.out.free 0 rfl 2
    have b0 := S1.out.cell 0 rfl 0 rfl
    have b1 := S1.out.cell 0 rfl 1 rfl
    have b2 := S1.out.cell 0 rfl 2 rfl
    go_wp2_with fail
    obtain ⟨t, ht⟩ := S1.out.live (w.heap.size + 1, #[.int .i64 0, .int .i64 0, .slice none 0 0]) (by simp)
    (try simp only [Exit.inBlock, Exit.then]); refine bodyPost_ret (ret_segs2bw rfl rfl ht) rfl ?_
    exact givesS_now (below_set3 S1.out.below (Nat.le_succ _) _ _ _)

set_option maxRecDepth 10000 in
set_option maxHeartbeats 2000000 in
theorem wlCrash_any (sz fi : Int) (A : Option Addr) (n c : Nat) (fs : List Fil) (u : Int) (B : Nat) (w : World) (hA : FilsAt w w.heap.size A fs) (hs : Sg.small ⟨sz, fi, fs⟩) (hn : n = fs.length) (hc : A = none → c = 0) (hbx : (boxF B u).on w) :
    Calls Tryz.prog 35 #[.agg #[.int .i64 sz, .int .i64 fi, .slice A n c], .func (.func 38) #[] #[.pointer (some ⟨B, 0, none⟩)]] w (GivesS w (if Sg.is ⟨sz, fi, fs⟩ = true then ⟨sz, fi, Sg.onLast (fun f => Fi.crash f u) fs⟩ else Sg.no) (Sg.badE ⟨sz, fi, fs⟩)) := by
  have p1 := fun W (h : FilsAt W W.heap.size A fs) => sgis_any sz fi A n c fs W h hs hn
  have S0 := Lib.hid (((((St.start w).more (boxF B u) hbx).more (filF14 A w.heap.size fs) ⟨hA, Nat.le_refl _⟩)).box2 #[.int .i64 sz, .int .i64 fi, .slice A n c] #[.int .i64 0, .int .i64 0, .slice none 0 0] 24 24)
  by_cases hi : Sg.is ⟨sz, fi, fs⟩ = true
  · rw [hi] at p1
    obtain ⟨pre, f, hfs, q1, q2, hfi, q3⟩ := Sg.is_split hi
    clear q1 q2 q3
    simp only at hfs
    have e2 : Sg.badE ⟨sz, fi, fs⟩ = 0 := by unfold Sg.badE; rw [if_pos hi]
    rw [if_pos hi, e2]
    have e1 : (⟨sz, fi, Sg.onLast (fun f => Fi.crash f u) fs⟩ : Seg) = ⟨sz, fi, pre ++ [Fi.crash f u]⟩ := by rw [hfs, Sg.onLast_split]
    rw [e1]
    have hl2 : n ≤ 20 := by have := (Sg.is_iff.1 hi).1.2.2.2; simp only at this; omega
    have p2 := fun W (h : FilsAt W W.heap.size A fs) => clone_any A n c fs W h hn hc (by omega)
    have p3 := fun W h => scrash1_any ⟨f.most, f.kept, f.loose⟩ u B (Rc.is_small9 hfi) W h
    have e3 : (⟨f.most, f.kept, f.loose⟩ : Fil) = f := rfl
    rw [e3] at p3
    have e4 : Fi.badE f = 0 := by unfold Fi.badE; rw [hfi]; rfl
    rw [e4] at p3
    obtain ⟨Y, hY⟩ : ∃ Y, Y = Fi.crash f u := ⟨_, rfl⟩
    rw [← hY] at p3 ⊢
    obtain ⟨ym, yk, yl⟩ := Y
    obtain ⟨fm, fk, fl⟩ := f
    unfold Fil.v filV at p3
    simp only at p3
    have hk : n = pre.length + 1 := by rw [hn, hfs]; simp
    have wk : wrap64 ((n : Int) - 1) = (pre.length : Int) := by unfold wrap64; omega
    obtain ⟨k, hkk⟩ : ∃ k, k = pre.length := ⟨_, rfl⟩
    rw [← hkk] at wk hk
    have Hkk := Lib.hid hkk
    have Hfs := Lib.hid hfs
    have Hk := Lib.hid hk
    have Hwk := Lib.hid wk
    have hkf : k < fs.length := by rw [hfs, hkk]; simp
    have Hfk : Hid (∃ h : k < fs.length, fs[k]'h = ⟨fm, fk, fl⟩) := Lib.hid ⟨hkf, by
      have e : fs[k]? = some ⟨fm, fk, fl⟩ := by rw [hfs, hkk]; simp
      rw [List.getElem?_eq_getElem hkf] at e; exact Option.some.inj e⟩
    clear hA hs hc hi e1 e2 e3 e4 hfi hY hkk hn hl2 hfs wk hk hkf
    go_enter Tryz.func35, Tryz.ntmps35
    go_wp2_with fail
    refine (p1 _ ((S0.out.fact 0 rfl).1.more (S0.out.fact 0 rfl).2)).mono ?_
    rintro e w1 ⟨rfl, hB⟩
    have S1 := Lib.hid (S0.out.on hB)
    clear p1 hB S0
    have c0 := S1.out.cell 1 rfl 0 rfl
    have c1 := S1.out.cell 1 rfl 1 rfl
    have c2 := S1.out.cell 1 rfl 2 rfl
    obtain ⟨hkf, hfk⟩ := Hfk.out
    obtain ⟨b, off, rfl, hb, h3⟩ := (S1.out.fact 0 rfl).1 k hkf
    rw [hfk] at h3
    have e0 := h3.c0
    have e1 := h3.c1
    have e2 := h3.c2
    simp only at e0 e1 e2
    have i1 : (k : Int) < (n : Int) := by have := Hk.out; omega
    have i0 : (0 : Int) ≤ (k : Int) := by omega
    have wk := Hwk.out
    clear h3 hb hkf hfk
    go_wp2_with fail
    refine (p3 _ (S1.out.fact 1 rfl)).mono ?_
    rintro e w2 ⟨rfl, hB⟩
    have S3 := Lib.hid ((S1.out.on hB).new #[.int .i64 ym, .string yk, .string yl] 47)
    obtain ⟨q, hq⟩ : ∃ q, q = w2.heap.size := ⟨_, rfl⟩
    have Hq : Hid (w.heap.size + 1 < q) := Lib.hid (by have h1 := lt14 (S1.out.live (w.heap.size + 1, #[.int .i64 0, .int .i64 0, .slice none 0 0]) (by simp)); have h2 := hB.size; simp only at h1; omega)
    clear hB S1 p3 c0 c1 c2 e0 e1 e2
    have c2 := S3.out.cell 2 rfl 2 rfl
    go_wp2_with fail
    clear wk
    obtain ⟨w3, hw3⟩ : ∃ x, x = w2.alloc (.cells #[.int .i64 ym, .string yk, .string yl] 47) := ⟨_, rfl⟩
    rw [← hw3, ← hq] at S3 ⊢
    clear hw3 hq c2
    refine (p2 _ ((S3.out.fact 0 rfl).1.more (S3.out.fact 0 rfl).2)).mono ?_
    rintro e w4 ⟨A4, c4, rfl, hO, hB⟩
    rw [Hfs.out] at hO
    have S4 := Lib.hid (S3.out.on hB)
    have X5 := Lib.hid (XAt.cloned S3.out (List.mem_of_getElem? (i := 1) rfl) (List.mem_of_getElem? (i := 2) rfl) hB hO)
    have hF5 := kept14 (S4.out.blk14 0 rfl) (grown_cell14 w4 w.heap.size 2 (.slice A4 n c4)) (fun e => by injection e with e; have := Hq.out; omega)
    have c2 := S4.out.cell 2 rfl 2 rfl
    have a2 := S4.out.free 2 rfl 2
    obtain ⟨g, rfl, hnn, q3, q4⟩ := hO.lastw
    have f0 := cells14 hF5 0
    have f1 := cells14 hF5 1
    have f2 := cells14 hF5 2
    have x2 := X5.out.x2
    have HB5 : Hid (w.heap.size ≤ w3.heap.size) := Lib.hid S3.out.below.size
    clear hB hO p2 S3 S4 hF5 hnn q3 q4
    go_wp2_with (refine wpList_store_fil rfl _ _ rfl w3.heap.size g n c4 k pre [] ⟨fm, fk, fl⟩ ⟨ym, yk, yl⟩ Hkk.out rfl rfl X5.out.own ?_
                 intro w6 hO hg
                 have X6 := Lib.hid (X5.out.turn hg hO)
                 clear hO hg f0 f1 f2 x2 c2 a2
                 have x0 := X6.out.x0
                 have x1 := X6.out.x1
                 have x2 := X6.out.x2
                 have a0 := X6.out.rf 0
                 have a1 := X6.out.rf 1
                 have a2 := X6.out.rf 2
                 have b0 := X6.out.r0
                 have b1 := X6.out.r1
                 have b2 := X6.out.r2)
    obtain ⟨t, ht⟩ := X6.out.res
    (try simp only [Exit.inBlock, Exit.then]); refine bodyPost_ret (ret_segs2bw rfl rfl ht) rfl ?_
    obtain ⟨hO, hg⟩ := X6.out.done (.int .i64 sz) (.int .i64 fi) (.slice (some ⟨g, 0, none⟩) n c4) X6.out.own rfl
    refine ⟨some ⟨g, 0, none⟩, c4, ?_, OwnS.of (hO.lower HB5.out), grown_below14 hg⟩
    have : n = (pre ++ [(⟨ym, yk, yl⟩ : Fil)]).length := by rw [List.length_append, ← Hkk.out, Hk.out]; rfl
    rw [this]; rfl
  · have e2 : Sg.badE ⟨sz, fi, fs⟩ = 1 := by unfold Sg.badE; rw [if_neg hi]
    rw [if_neg hi, e2]
    rw [Bool.not_eq_true] at hi
    simp only [hi] at p1
    clear e2 hi hA hs hn
    go_enter Tryz.func35, Tryz.ntmps35
    go_wp2_with fail
    refine (p1 _ ((S0.out.fact 0 rfl).1.more (S0.out.fact 0 rfl).2)).mono ?_
    rintro e w1 ⟨rfl, hB⟩
    have S1 := Lib.hid (S0.out.on hB)
    clear p1 hB S0
    have a0 := S1.out.free 0 rfl 0
    have a1 := S1.out.free 0 rfl 1
    have a2 := S1.out.free 0 rfl 2
    have b0 := S1.out.cell 0 rfl 0 rfl
    have b1 := S1.out.cell 0 rfl 1 rfl
    have b2 := S1.out.cell 0 rfl 2 rfl
    go_wp2_with fail
    obtain ⟨t, ht⟩ := S1.out.live (w.heap.size + 1, #[.int .i64 0, .int .i64 0, .slice none 0 0]) (by simp)
    (try simp only [Exit.inBlock, Exit.then]); refine bodyPost_ret (ret_segs2bw rfl rfl ht) rfl ?_
    exact givesS_now (below_set3 S1.out.below (Nat.le_succ _) _ _ _)

set_option maxHeartbeats 1000000 in
theorem ssync_any (sz fi : Int) (A : Option Addr) (n c : Nat) (fs : List Fil) (w : World) (hA : FilsAt w w.heap.size A fs) (hs : Sg.small ⟨sz, fi, fs⟩) (hn : n = fs.length) (hc : A = none → c = 0) :
    Calls Tryz.prog 11 #[.agg #[.int .i64 sz, .int .i64 fi, .slice A n c]] w (GivesS w (Sg.sync ⟨sz, fi, fs⟩) (Sg.badE ⟨sz, fi, fs⟩)) := by
  have p1 := fun W (h : FilsAt W W.heap.size A fs) => wlSync_any sz fi A n c fs W h hs hn hc
  have S0 := Lib.hid (((St.start w).more (filF14 A w.heap.size fs) ⟨hA, Nat.le_refl _⟩).box2 #[.int .i64 sz, .int .i64 fi, .slice A n c] #[.int .i64 0, .int .i64 0, .slice none 0 0] 24 24)
  unfold GivesS at p1
  obtain ⟨s2, hs2⟩ : ∃ s2, s2 = Sg.sync ⟨sz, fi, fs⟩ := ⟨_, rfl⟩
  have es : Sg.sync ⟨sz, fi, fs⟩ = (if Sg.is ⟨sz, fi, fs⟩ = true then ⟨sz, fi, Sg.onLast (fun f => Fi.sync f) fs⟩ else Sg.no) := rfl
  rw [← es, ← hs2] at p1
  rw [← hs2]
  obtain ⟨E, hE⟩ : ∃ E, E = Sg.badE ⟨sz, fi, fs⟩ := ⟨_, rfl⟩
  rw [← hE] at p1 ⊢
  obtain ⟨sz2, fi2, fs2⟩ := s2
  simp only at p1
  clear hA hs hn hc hs2 hE es
  go_enter Tryz.func11, Tryz.ntmps11
  go_wp2_with fail
  refine (p1 _ ((S0.out.fact 0 rfl).1.more (S0.out.fact 0 rfl).2)).mono ?_
  rintro e w1 ⟨A2, c2, rfl, hO, hB⟩
  have S1 := Lib.hid (S0.out.on hB)
  have HO := Lib.hid hO
  have Hlt := Lib.hid (lt14 (S0.out.blk14 0 rfl))
  clear p1 hB S0 hO
  have a0 := S1.out.free 0 rfl 0
  have a1 := S1.out.free 0 rfl 1
  have a2 := S1.out.free 0 rfl 2
  have b0 := S1.out.cell 0 rfl 0 rfl
  have b1 := S1.out.cell 0 rfl 1 rfl
  have b2 := S1.out.cell 0 rfl 2 rfl
  go_wp2_with fail
  obtain ⟨t, ht⟩ := S1.out.blk14 0 rfl
  (try simp only [Exit.inBlock, Exit.then]); refine bodyPost_ret (ret_segs2bw rfl rfl ht) rfl ?_
  exact ⟨A2, c2, rfl, (HO.out.set3w Hlt.out _ _ _).lowerw (Nat.le_of_lt (Nat.lt_of_le_of_lt (by omega) Hlt.out)), below_set3 S1.out.below (by omega) _ _ _⟩

theorem boxF_new14 (w : World) (cs : Array Value) (t t2 t3 : TypeId) (z : Array Value) (u : Int) : (boxF (w.heap.size + 1) u).on (((w.alloc (.cells cs t)).alloc (.cells #[.int .i64 u] t2)).alloc (.cells z t3)) := by
  have S := (St.start w).box3 cs #[.int .i64 u] z t t2 t3
  exact ⟨S.cell 1 rfl 0 rfl, by simp⟩

set_option maxHeartbeats 1000000 in
theorem scrash_any (sz fi : Int) (A : Option Addr) (n c : Nat) (fs : List Fil) (u : Int) (w : World) (hA : FilsAt w w.heap.size A fs) (hs : Sg.small ⟨sz, fi, fs⟩) (hn : n = fs.length) (hc : A = none → c = 0) :
    Calls Tryz.prog 13 #[.agg #[.int .i64 sz, .int .i64 fi, .slice A n c], .int .i64 u] w (GivesS w (Sg.crash ⟨sz, fi, fs⟩ u) (Sg.badE ⟨sz, fi, fs⟩)) := by
  have p1 := fun W (h : FilsAt W W.heap.size A fs) (hb : (boxF (w.heap.size + 1) u).on W) => wlCrash_any sz fi A n c fs u (w.heap.size + 1) W h hs hn hc hb
  have S0 := Lib.hid ((St.more (((St.start w).more (filF14 A w.heap.size fs) ⟨hA, Nat.le_refl _⟩).box3 #[.int .i64 sz, .int .i64 fi, .slice A n c] #[.int .i64 u] #[.int .i64 0, .int .i64 0, .slice none 0 0] 24 3 24) (boxF (w.heap.size + 1) u) (boxF_new14 w _ _ _ _ _ u)))
  unfold GivesS at p1
  obtain ⟨s2, hs2⟩ : ∃ s2, s2 = Sg.crash ⟨sz, fi, fs⟩ u := ⟨_, rfl⟩
  have es : Sg.crash ⟨sz, fi, fs⟩ u = (if Sg.is ⟨sz, fi, fs⟩ = true then ⟨sz, fi, Sg.onLast (fun f => Fi.crash f u) fs⟩ else Sg.no) := rfl
  rw [← es, ← hs2] at p1
  rw [← hs2]
  obtain ⟨E, hE⟩ : ∃ E, E = Sg.badE ⟨sz, fi, fs⟩ := ⟨_, rfl⟩
  rw [← hE] at p1 ⊢
  obtain ⟨sz2, fi2, fs2⟩ := s2
  simp only at p1
  clear hA hs hn hc hs2 hE es
  go_enter Tryz.func13, Tryz.ntmps13
  go_wp2_with fail
  refine (p1 _ ((S0.out.fact 1 rfl).1.more (S0.out.fact 1 rfl).2) (S0.out.fact 0 rfl)).mono ?_
  rintro e w1 ⟨A2, c2, rfl, hO, hB⟩
  have S1 := Lib.hid (S0.out.on hB)
  have HO := Lib.hid hO
  have Hlt := Lib.hid (lt14 (S0.out.blk14 0 rfl))
  clear p1 hB S0 hO
  have a0 := S1.out.free 0 rfl 0
  have a1 := S1.out.free 0 rfl 1
  have a2 := S1.out.free 0 rfl 2
  have b0 := S1.out.cell 0 rfl 0 rfl
  have b1 := S1.out.cell 0 rfl 1 rfl
  have b2 := S1.out.cell 0 rfl 2 rfl
  go_wp2_with fail
  obtain ⟨t, ht⟩ := S1.out.blk14 0 rfl
  (try simp only [Exit.inBlock, Exit.then]); refine bodyPost_ret (ret_segs2bw rfl rfl ht) rfl ?_
  exact ⟨A2, c2, rfl, (HO.out.set3w Hlt.out _ _ _).lowerw (Nat.le_of_lt (Nat.lt_of_le_of_lt (by omega) Hlt.out)), below_set3 S1.out.below (by omega) _ _ _⟩

/-- One file in a block of its own. -/
theorem OwnS.onew {w : World} {base k : Nat} {x : Fil} {t : TypeId} (h : w.heap[k]? = some (.cells (filV x) t (0, 0))) (hb : base ≤ k) : OwnS w base (some ⟨k, 0, none⟩) [x] 1 := by
  refine ⟨fun i hi => ?_, RoomyF.some _ _ _ (Nat.le_refl _), fun a e => by cases e; exact ⟨hb, _, _, h⟩⟩
  obtain rfl : i = 0 := by simpa using hi
  refine ⟨k, 0, rfl, (Array.getElem?_eq_some_iff.1 h).1, ⟨?_, ?_, ?_⟩⟩ <;> (simp only [World.cell?, h]; rfl)

set_option maxHeartbeats 1000000 in
theorem snew_any (sz n : Int) (w : World) : Calls Tryz.prog 19 #[.int .i64 sz, .int .i64 n] w (GivesS w (Sg.new sz n) (Sg.newE sz n)) := by
  have p0 := fun W => fnew_any sz W
  have S0 := Lib.hid ((St.start w).new #[.int .i64 0, .int .i64 0, .slice none 0 0] 24)
  by_cases h : 1 ≤ sz ∧ sz ≤ 4000
  case neg =>
    have hi : Sg.is (Sg.newS sz n) = false := by
      unfold Sg.is Sg.newS
      rw [decide_eq_false (by intro hh; simp only at hh; exact h ⟨by omega, hh.1.2⟩)]; rfl
    have e1 : Sg.new sz n = Sg.no := by unfold Sg.new; rw [hi]; rfl
    have e2 : Sg.newE sz n = 1 := by unfold Sg.newE; rw [hi]; rfl
    rw [e1, e2]
    unfold Fi.new Fi.newE at p0
    rw [if_neg h, if_neg h] at p0
    unfold Fil.v filV Fi.no at p0
    simp only at p0
    clear h hi e1 e2
    go_enter Tryz.func19, Tryz.ntmps19
    go_wp2_with fail
    refine (p0 _).mono ?_
    rintro e w1 ⟨rfl, hB⟩
    have S1 := Lib.hid ((S0.out.on hB).new #[.int .i64 0, .string ⟨#[]⟩, .string ⟨#[]⟩] 47)
    clear p0 hB S0
    have a0 := S1.out.free 1 rfl 0
    have a1 := S1.out.free 1 rfl 1
    have a2 := S1.out.free 1 rfl 2
    have b0 := S1.out.cell 1 rfl 0 rfl
    have b1 := S1.out.cell 1 rfl 1 rfl
    have b2 := S1.out.cell 1 rfl 2 rfl
    go_wp2_with fail
    obtain ⟨t, ht⟩ := S1.out.blk14 1 rfl
    (try simp only [Exit.inBlock, Exit.then]); refine bodyPost_ret (ret_segs2bw rfl rfl ht) rfl ?_
    exact givesS_now (below_set3 S1.out.below (Nat.le_refl _) _ _ _)
  case pos =>
    unfold Fi.new Fi.newE at p0
    rw [if_pos h, if_pos h] at p0
    unfold Fil.v filV at p0
    simp only at p0
    have p1 := fun W k (hA : FilsAt W W.heap.size (some ⟨k, 0, none⟩) [⟨sz, ⟨#[]⟩, ⟨#[]⟩⟩]) => sgis_any sz n (some ⟨k, 0, none⟩) 1 1 [⟨sz, ⟨#[]⟩, ⟨#[]⟩⟩] W hA ⟨by simp, fun f hf => by rw [List.mem_singleton.1 hf]; exact ⟨Nat.zero_le _, Nat.zero_le _⟩⟩ rfl
    have e0 : (⟨sz, n, [⟨sz, ⟨#[]⟩, ⟨#[]⟩⟩]⟩ : Seg) = Sg.newS sz n := rfl
    rw [e0] at p1
    obtain ⟨bb, hbb⟩ : ∃ x, x = Sg.is (Sg.newS sz n) := ⟨_, rfl⟩
    rw [← hbb] at p1
    have Hbb := Lib.hid hbb
    clear h e0 hbb
    go_enter Tryz.func19, Tryz.ntmps19
    go_wp2_with fail
    refine (p0 _).mono ?_
    rintro e w1 ⟨rfl, hB⟩
    have S1 := Lib.hid (S0.out.on hB)
    have S3 := Lib.hid ((S0.out.on hB).box3 #[.int .i64 sz, .string ⟨#[]⟩, .string ⟨#[]⟩] #[.int .i64 sz, .string ⟨#[]⟩, .string ⟨#[]⟩] #[.int .i64 sz, .int .i64 n, .slice (some ⟨w1.heap.size + 1, 0, none⟩) 1 1] 47 47 24)
    have Hlt := Lib.hid (lt14 (S1.out.blk14 0 rfl))
    clear p0 hB S0 S1
    go_wp2_with fail
    obtain ⟨t, ht⟩ := S3.out.blk14 1 rfl
    refine (p1 _ _ (OwnS.onew (base := w.heap.size) (x := ⟨sz, ⟨#[]⟩, ⟨#[]⟩⟩) ht (by have := Hlt.out; omega)).fils).mono ?_
    rintro e w2 ⟨rfl, hB⟩
    have S4 := Lib.hid (S3.out.on hB)
    clear p1 hB S3 ht
    have a0 := S4.out.free 3 rfl 0
    have a1 := S4.out.free 3 rfl 1
    have a2 := S4.out.free 3 rfl 2
    have b0 := S4.out.cell 3 rfl 0 rfl
    have b1 := S4.out.cell 3 rfl 1 rfl
    have b2 := S4.out.cell 3 rfl 2 rfl
    have d0 := S4.out.cell 0 rfl 0 rfl
    have d1 := S4.out.cell 0 rfl 1 rfl
    have d2 := S4.out.cell 0 rfl 2 rfl
    cases bb
    · go_wp2_with fail
      obtain ⟨t, ht⟩ := S4.out.blk14 3 rfl
      (try simp only [Exit.inBlock, Exit.then]); refine bodyPost_ret (ret_segs2bw rfl rfl ht) rfl ?_
      have e1 : Sg.new sz n = Sg.no := by unfold Sg.new; rw [← Hbb.out]; rfl
      have e2 : Sg.newE sz n = 1 := by unfold Sg.newE; rw [← Hbb.out]; rfl
      rw [e1, e2]
      exact givesS_now (below_set3 S4.out.below (Nat.le_refl _) _ _ _)
    · go_wp2_with fail
      obtain ⟨t, ht⟩ := S4.out.blk14 3 rfl
      obtain ⟨t1, ht1⟩ := S4.out.blk14 1 rfl
      (try simp only [Exit.inBlock, Exit.then]); refine bodyPost_ret (ret_segs2bw rfl rfl ht) rfl ?_
      have e1 : Sg.new sz n = Sg.newS sz n := by unfold Sg.new; rw [← Hbb.out]; rfl
      have e2 : Sg.newE sz n = 0 := by unfold Sg.newE; rw [← Hbb.out]; rfl
      rw [e1, e2]
      refine ⟨some ⟨w1.heap.size + 1, 0, none⟩, 1, rfl, OwnS.onew (x := ⟨sz, ⟨#[]⟩, ⟨#[]⟩⟩) (t := t1) ?_ (by have := Hlt.out; omega), below_set3 S4.out.below (Nat.le_refl _) _ _ _⟩
      rw [heap_set3w (by have := Hlt.out; omega)]
      exact ht1
end Go.Proofs.YtlnchfnmpamliaaGreat
