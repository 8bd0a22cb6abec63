/-
  Layer 13 (record): the landed code: Read, Mend (the reference's walks, turned).
-/
import Derived.Test.YtlnchfnmpamliaaGreatXRecW4
import Derived.Test.YtlnchfnmpamliaaGreatXFileW4
namespace Go.Proofs.YtlnchfnmpamliaaGreat
set_option maxRecDepth 10000
open Go.RowKit

theorem ret_file313 {fn : Func} {p u v : Tmp} {k : Nat} {m : Int} {x y : ByteArray} {tmps : Array Value} {w : World} (h : fn.results = #[.cell p 47, .tmp u, .tmp v]) (hp : tmps.getD p undef = .pointer (some ⟨k, 0, none⟩)) (h2 : FilAt w k m x y) :
    (results fn tmps).run Tryz.prog w = .ok (.tuple #[.agg #[.int .i64 m, .string x, .string y], tmps.getD u undef, tmps.getD v undef]) w := by
  obtain ⟨t, hb⟩ := h2.blk
  have hl := run_loadVar_row (P := Tryz.prog) w k t 47 #[.int .i64 m, .string x, .string y] (0, 0) _ hb Tryz.underlying47 rfl (by rfl)
  have hp' : tmps[p]?.getD undef = .pointer (some ⟨k, 0, none⟩) := by simpa using hp
  simp only [results, h]
  simp [Result.andThen, hp', asAddr, hl]

set_option maxHeartbeats 1000000 in
theorem rmend_any (m : Int) (k l : ByteArray) (n : Int) (hs : k.size ≤ 9000 ∧ l.size ≤ 9000) (w : World) :
    Calls Tryz.prog 42 #[.agg #[.int .i64 m, .string k, .string l], .int .i64 n] w fun e w' => e = .returned (.tuple #[(Rc.mend ⟨m, k, l⟩ n).v, .int .i64 ((Rc.texts ⟨m, k, l⟩ n).length : Nat), .int .i64 (Fi.badE ⟨m, k, l⟩)]) ∧ Below w.heap.size w w' := by
  cases h : Fi.is ⟨m, k, l⟩
  · have e1 : Rc.mend ⟨m, k, l⟩ n = Fi.no := by unfold Rc.mend; rw [h]; rfl
    have e2 : Fi.badE ⟨m, k, l⟩ = 1 := by unfold Fi.badE; rw [h]; rfl
    rw [e1, e2, Rc.texts_no h]
    have p1 := fun W => fis_any m k l hs W
    rw [h] at p1
    clear h hs e1 e2
    go_enter Tryz.func42, Tryz.ntmps42
    go_wp2_with fail
    refine (p1 _).mono ?_
    rintro e w1 ⟨rfl, hB⟩
    have hF1 := (FilAt.new1 w (.cells #[.int .i64 m, .string k, .string l] 47) 0 ⟨#[]⟩ ⟨#[]⟩ 47).below hB
    have Hb := Lib.hid (below2 (below_new2 w _ _) hB)
    have HF := Lib.hid hF1
    clear p1 hB hF1
    have a0 := HF.out.f0
    have a1 := HF.out.f1
    have a2 := HF.out.f2
    have b0 := HF.out.c0
    have b1 := HF.out.c1
    have b2 := HF.out.c2
    go_wp2_with fail
    (try simp only [Exit.inBlock, Exit.then]); refine bodyPost_ret (ret_file313 rfl rfl (((HF.out.set0 0).set1 _).set2 _)) rfl ?_
    exact ⟨rfl, below_set3 Hb.out (by omega) _ _ _⟩
  have e2 : Fi.badE ⟨m, k, l⟩ = 0 := by unfold Fi.badE; rw [h]; rfl
  have hcut := Rc.mend_cut h n
  have hq := Rc.sc_le ⟨m, k, l⟩ n
  rw [Rc.texts_yes h, e2]
  have p1 := fun W => fis_any m k l hs W
  rw [h] at p1
  have p2 := fun W => fread_any m k l hs W
  have p3 := fun W => rscan_any (Fi.read ⟨m, k, l⟩) n (by rw [Fi.read_size]; simp only; omega) W
  unfold ScanS at p3
  have e0 : Rc.scan (bl (Fi.read ⟨m, k, l⟩)) n = Rc.sc ⟨m, k, l⟩ n := rfl
  rw [e0] at p3
  obtain ⟨r, hr⟩ : ∃ r, r = Fi.read ⟨m, k, l⟩ := ⟨_, rfl⟩
  rw [← hr] at p2 p3
  obtain ⟨x, hx⟩ : ∃ x, x = Rc.sc ⟨m, k, l⟩ n := ⟨_, rfl⟩
  rw [← hx] at p3
  obtain ⟨ts, q⟩ := x
  have p4 := fun W => fcut_any m k l ((Rc.sc ⟨m, k, l⟩ n).2 : Nat) hs W
  rw [← hcut.1, hcut.2, ← hx] at p4
  rw [← hx]
  simp only at p3 p4
  obtain ⟨X, hX⟩ : ∃ X, X = Rc.mend ⟨m, k, l⟩ n := ⟨_, rfl⟩
  rw [← hX] at p4 ⊢
  obtain ⟨xm, xk, xl⟩ := X
  unfold Fil.v filV at p4 ⊢
  simp only at p4 ⊢
  clear h hs hr hx e0 e2 hcut hq hX
  go_enter Tryz.func42, Tryz.ntmps42
  go_wp2_with fail
  have HF := Lib.hid (FilAt.new1 w (.cells #[.int .i64 m, .string k, .string l] 47) 0 ⟨#[]⟩ ⟨#[]⟩ 47)
  have HG := Lib.hid ((FilAt.new w m k l 47).alloc (.cells #[.int .i64 0, .string ⟨#[]⟩, .string ⟨#[]⟩] 47))
  have Hb := Lib.hid (below_new2 w (.cells #[.int .i64 m, .string k, .string l] 47) (.cells #[.int .i64 0, .string ⟨#[]⟩, .string ⟨#[]⟩] 47))
  refine (p1 _).mono ?_
  rintro e w1 ⟨rfl, hB⟩
  replace HF := Lib.hid (HF.out.below hB)
  replace HG := Lib.hid (HG.out.below hB)
  replace Hb := Lib.hid (below2 Hb.out hB)
  clear hB
  clear p1
  have d0 := HG.out.c0
  have d1 := HG.out.c1
  have d2 := HG.out.c2
  go_wp2_with fail
  refine (p2 _).mono ?_
  rintro e w2 ⟨rfl, hB⟩
  replace HF := Lib.hid (HF.out.below hB)
  replace HG := Lib.hid (HG.out.below hB)
  replace Hb := Lib.hid (below2 Hb.out hB)
  clear hB
  clear p2 d0 d1 d2
  go_wp2_with fail
  refine (p3 _).mono ?_
  rintro e w3 ⟨A, c, rfl, hT, hc, hB, _⟩
  replace HF := Lib.hid (HF.out.below hB)
  replace HG := Lib.hid (HG.out.below hB)
  replace Hb := Lib.hid (below2 Hb.out hB)
  have HT := Lib.hid hT
  have Hc := Lib.hid hc
  clear hB hT hc
  clear p3
  have d0 := HG.out.c0
  have d1 := HG.out.c1
  have d2 := HG.out.c2
  go_wp2_with fail
  refine (p4 _).mono ?_
  rintro e w4 ⟨rfl, hB⟩
  replace HF := Lib.hid (HF.out.below hB)
  replace HG := Lib.hid (HG.out.below hB)
  replace Hb := Lib.hid (below2 Hb.out hB)
  clear hB
  clear p4 d0 d1 d2
  have hN := FilAt.new w4 xm xk xl 47
  have d0 := hN.c0
  have d1 := hN.c1
  have d2 := hN.c2
  replace HF := Lib.hid (HF.out.alloc (.cells #[.int .i64 xm, .string xk, .string xl] 47))
  replace Hb := Lib.hid (below2 Hb.out (below_new w4 (.cells #[.int .i64 xm, .string xk, .string xl] 47)))
  clear hN
  have a0 := HF.out.f0
  have a1 := HF.out.f1
  have a2 := HF.out.f2
  have b0 := HF.out.c0
  have b1 := HF.out.c1
  have b2 := HF.out.c2
  go_wp2_with fail
  (try simp only [Exit.inBlock, Exit.then]); refine bodyPost_ret (ret_file313 rfl rfl (((HF.out.set0 _).set1 _).set2 _)) rfl ?_
  exact ⟨by simp, below_set3 Hb.out (by omega) _ _ _⟩
end Go.Proofs.YtlnchfnmpamliaaGreat
