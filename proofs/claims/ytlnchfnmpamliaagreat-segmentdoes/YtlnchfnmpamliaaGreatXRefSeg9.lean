/-
  Layer 14 (segment): the reference's one: one more record (printed by tools/gen-refseg9.py).
-/
import Derived.Test.YtlnchfnmpamliaaGreatXRefSeg7
import Derived.Test.YtlnchfnmpamliaaGreatXRefFile5
import Derived.Maps.AppendAt
namespace Go.Proofs.YtlnchfnmpamliaaGreat
set_option maxRecDepth 10000
open Go.RowKit

namespace Sg
theorem rd_count {fs : List Fil} (h : ∀ f ∈ fs, Fi.is f = true) (n : Int) : (rd fs n).1.length ≤ 4000 * fs.length := by
  induction fs generalizing n with
  | nil => exact Nat.zero_le _
  | cons f r ih =>
    have h1 := sc_count f n
    have h2 := Fi.is_small (h f (by simp))
    have h3 := Fi.read_size f
    have h4 := ih (fun x hx => h x (by simp [hx])) (n + (sc f n).1.length)
    by_cases hw : whole f n = true
    · rw [rd_yes hw]; simp only [List.length_append, List.length_cons]; omega
    · rw [rd_not hw]; simp only [List.length_cons]; omega
end Sg
/-- What one hands back: the row's own block g may have been turned. -/
def OneS (w : World) (g base : Nat) (s : Seg) (E : Int) (e : Ending) (w' : World) : Prop := ∃ V, e = .returned (.tuple #[.agg #[.int .i64 s.sz, .int .i64 s.fi, V], .int .i64 E]) ∧ w.grownBy w' (some g) ∧
  (E = 0 → ∃ A c, V = .slice A s.fs.length c ∧ OwnF w' base V s.fs ∧ ∀ g', V.ownBlock = some g' → g' = g ∨ w.heap.size ≤ g') ∧ (E ≠ 0 → V = .slice none 0 0)
theorem oneS_bad {w w' : World} {g base : Nat} {s : Seg} {t : List UInt8} {E : Int} (hE : Sg.oneE s t = E) (h0 : E ≠ 0) (hg : w.grownBy w' (some g)) : OneS w g base (Sg.one s t) (Sg.oneE s t) (.returned (.tuple #[.agg #[.int .i64 0, .int .i64 0, .slice none 0 0], .int .i64 E])) w' := by
  have e1 : Sg.one s t = Sg.no := by unfold Sg.one; rw [if_neg (by rw [hE]; exact h0)]
  rw [e1, hE]
  exact ⟨.slice none 0 0, rfl, hg, fun h => absurd h h0, fun _ => rfl⟩
theorem own_at14 {v v' : Value} {m : Nat} (h : v'.ownBlock = v.ownBlock ∨ v'.ownBlock = some m) : ∀ g', v'.ownBlock = some g' → v.ownBlock = some g' ∨ m ≤ g' := by
  intro g' e
  rcases h with h | h
  · exact Or.inl (h ▸ e)
  · rw [h] at e; cases e; exact Or.inr (Nat.le_refl _)
/-- Files of one's own, with those of whatever slice behind them; where they lie. -/
theorem wpList_append_fils_at {ops : Array Oper} {rest : List Oper} {o : Oper} {a : Act} {w : World} {Q : Exit → Act → World → Prop} (hgd : o.guard = none) (s x : Operand) (t1 : TypeId)
    (ho : o.op = .call { callee := .builtin .append, args := #[s, x], argTypes := #[t1, t1] }) (hu : Tryz.prog.underlying t1 = some (.slice 47))
    (base : Nat) (v : Value) (zs ms : List Fil) (hs : a.eval s = v) (hown : OwnF w base v zs)
    (ad : Addr) (n cap : Nat) (hx : a.eval x = .slice (some ad) n cap) (hn : n = ms.length) (hA : FilsAt w w.heap.size (some ad) ms) (hb : base ≤ w.heap.size) (hl : zs.length + ms.length ≤ 1000000)
    (h : ∀ v' w', OwnF w' base v' (zs ++ ms) → w.grownBy w' v.ownBlock → (v'.ownBlock = v.ownBlock ∨ v'.ownBlock = some w.heap.size) → wpList Tryz.prog ops Q rest (a.put o.dst v') w') : wpList Tryz.prog ops Q (o :: rest) a w := by
  obtain ⟨i0, hi, hz0, hz1, hz2⟩ := info_parts Tryz.infoFi14
  subst hn
  refine wpList_append_own_at w hgd s x t1 ho base 47 i0 _ 3 40 hu hi hz0 hz1 hz2 rfl (by decide) v _ _ hs hown ad ms.length cap (flatF ms) hx (flatF_len ms) hA.flat_cells (flatF_one ms) (by unfold maxLen; omega) (by omega) hb ?_
  intro v' w' ho' hg _ hw
  exact h v' w' (by unfold OwnF; rw [List.length_append, flatF_app]; exact ho') hg hw

set_option maxRecDepth 10000 in
set_option maxHeartbeats 4000000 in
theorem RSone_any (sz fi : Int) (g n c base : Nat) (fs : List Fil) (t : ByteArray) (w : World) (hi : Sg.is ⟨sz, fi, fs⟩ = true) (hO : OwnF w base (.slice (some ⟨g, 0, none⟩) n c) fs) (hn : n = fs.length) (ht : t.size ≤ 9000) :
    Calls Tryz.prog 34 #[.agg #[.int .i64 sz, .int .i64 fi, .slice (some ⟨g, 0, none⟩) n c], .string t] w (OneS w g base (Sg.one ⟨sz, fi, fs⟩ (bl t)) (Sg.oneE ⟨sz, fi, fs⟩ (bl t))) := by
  have hgl := World.ownsRow.lt hO g rfl
  have X1 : XAt (some g) w ((w.alloc (.cells #[.int .i64 sz, .int .i64 fi, .slice (some ⟨g, 0, none⟩) n c] 24)).alloc (.cells #[.int .i64 0, .int .i64 0, .slice none 0 0] 24)) (w.heap.size + 1) w.heap.size base sz fi (.slice (some ⟨g, 0, none⟩) n c) fs := by
    have S := (St.start w).box2 #[.int .i64 sz, .int .i64 fi, .slice (some ⟨g, 0, none⟩) n c] #[.int .i64 0, .int .i64 0, .slice none 0 0] 24 24
    refine ⟨S.live (w.heap.size + 1, _) (by simp), S.live (w.heap.size, _) (by simp), Nat.succ_ne_self _, hO.below (below_new2 w _ _), fun g' e => ?_, Nat.le_succ _, Nat.le_refl _, below_grown14 S.below _⟩
    obtain rfl : g = g' := by simpa [Value.ownBlock] using e
    exact ⟨Or.inr rfl, by omega, by omega⟩
  have HX1 := Lib.hid X1
  have Hbase : Hid (base ≤ w.heap.size) := Lib.hid (by omega)
  obtain ⟨pre, f, hfs, q1, q2, hfi, hfm⟩ := Sg.is_split hi
  simp only at hfs hfm
  clear q1 q2
  have hb := (Sg.is_iff.1 hi).1
  simp only at hb
  have hcnt := Sg.rd_count (Sg.files_is hi) fi
  simp only at hcnt
  have hlast : Sg.lastF fs = f := by rw [hfs, Sg.lastF_split]
  have p1 := fun W (h : FilsAt W W.heap.size (some ⟨g, 0, none⟩) fs) => RSread_any sz fi (some ⟨g, 0, none⟩) n c fs W h hi hn
  unfold Reads at p1
  have hE : Sg.oneE ⟨sz, fi, fs⟩ (bl t) = if (Sg.rd fs fi).2 = true then if Rc.putE (fi + (Sg.rd fs fi).1.length) (bl t) = 0 then if sz < (Rc.rec1 (fi + (Sg.rd fs fi).1.length) (bl t)).length then 2 else if ((Fi.read f).size : Int) + (Rc.rec1 (fi + (Sg.rd fs fi).1.length) (bl t)).length ≤ sz then 0 else if 20 ≤ fs.length then 81 else 0 else Rc.putE (fi + (Sg.rd fs fi).1.length) (bl t) else 1 := by
    unfold Sg.oneE; simp only; rw [hlast]
  have hOne : Sg.oneE ⟨sz, fi, fs⟩ (bl t) = 0 → Sg.one ⟨sz, fi, fs⟩ (bl t) = ⟨sz, fi, if ((Fi.read f).size : Int) + (Rc.rec1 (fi + (Sg.rd fs fi).1.length) (bl t)).length ≤ sz then pre ++ [⟨f.most, f.kept, f.loose ++ strOf (Rc.rec1 (fi + (Sg.rd fs fi).1.length) (bl t))⟩] else (pre ++ [Fi.sync f]) ++ [⟨sz, ⟨#[]⟩, strOf (Rc.rec1 (fi + (Sg.rd fs fi).1.length) (bl t))⟩]⟩ := by
    intro h0
    unfold Sg.one; rw [if_pos h0]
    unfold Sg.oneF; simp only; rw [hlast]
    congr 1
    split
    · rw [hfs, Sg.onLast_split]
    · rw [hfs, Sg.onLast_split]
  obtain ⟨x, hx⟩ : ∃ x, x = Sg.rd fs fi := ⟨_, rfl⟩
  rw [← hx] at p1 hE hOne hcnt
  obtain ⟨ts, b⟩ := x
  simp only at p1 hE hOne hcnt
  obtain ⟨N, hN⟩ : ∃ N : Int, N = fi + (ts.length : Int) := ⟨_, rfl⟩
  have hNb : 0 ≤ N ∧ N ≤ 4000000000 := by omega
  have wN : wrap64 (fi + (ts.length : Int)) = N := by rw [hN]; exact wrap14 _ (by omega) (by omega)
  rw [← hN] at hE hOne
  obtain ⟨rec, hrec⟩ : ∃ r, r = strOf (Rc.rec1 N (bl t)) := ⟨_, rfl⟩
  have hrl : (Rc.rec1 N (bl t)).length = rec.size := by rw [hrec, strOf_size]
  rw [hrl] at hE hOne
  rw [← hrec] at hOne
  have hp2 := fun W => RRPut_any N t (by omega) W
  obtain ⟨pe, hpe⟩ : ∃ p, p = Rc.putE N (bl t) := ⟨_, rfl⟩
  have hps : pe = 0 → strOf (Rc.putS N (bl t)) = rec ∧ rec.size ≤ 1020 := fun h => by
    have h1 := Rc.putE_zero.1 (by rw [← hpe]; exact h)
    have h2 := Rc.rec1_le h1.1 h1.2
    refine ⟨by rw [Rc.putS_yes (by rw [← hpe]; exact h), hrec], ?_⟩
    rw [← hrl]; have := h1.2; omega
  obtain ⟨ps, hpS⟩ : ∃ p, p = strOf (Rc.putS N (bl t)) := ⟨_, rfl⟩
  rw [← hpe] at hE
  simp only [← hpe, ← hpS] at hp2 hps
  obtain ⟨k, hk⟩ : ∃ k, k = pre.length := ⟨_, rfl⟩
  have hnk : n = k + 1 := by rw [hn, hfs, hk]; simp
  have wk : wrap64 ((n : Int) - 1) = (k : Int) := by rw [hnk]; unfold wrap64; omega
  have p3 := fun (hr : rec.size ≤ 9000) W A c hA => FRAdd_any f.most f.kept f.loose A c [rec] (Rc.is_small9 hfi) W hA (by simp) (by intro s hs; rw [List.mem_singleton.1 hs]; exact hr)
  have p4 := fun W => FRSync_any f.most f.kept f.loose (Rc.is_small9 hfi) W
  have e3 : (⟨f.most, f.kept, f.loose⟩ : Fil) = f := rfl
  rw [e3] at p3 p4
  have hall : Fi.all [rec] = rec := by unfold Fi.all; apply bl_inj; rw [bl_strOf]; simp
  have hadd : Fi.addE f [rec] = if ((Fi.read f).size : Int) + rec.size ≤ sz then 0 else 81 := by
    unfold Fi.addE; rw [if_pos hfi, hall, hfm, Fi.read_size]
    congr 1
  have hadd2 : ((Fi.read f).size : Int) + rec.size ≤ sz → Fi.add f [rec] = ⟨f.most, f.kept, f.loose ++ rec⟩ := fun h => by
    unfold Fi.add; rw [hadd, if_pos h, if_pos rfl, hall]
  obtain ⟨Y, hY⟩ : ∃ Y, Y = Fi.add f [rec] := ⟨_, rfl⟩
  obtain ⟨Z, hZ⟩ : ∃ Z, Z = Fi.sync f := ⟨_, rfl⟩
  rw [← hZ] at p4 hOne
  simp only [← hY] at p3 hadd2
  obtain ⟨ae, hae⟩ : ∃ a, a = Fi.addE f [rec] := ⟨_, rfl⟩
  simp only [← hae] at p3
  rw [← hae] at hadd
  obtain ⟨rs, hrs⟩ : ∃ r, r = (Fi.read f).size := ⟨_, rfl⟩
  rw [← hrs] at hE hOne hadd hadd2
  obtain ⟨ym, yk, yl⟩ := Y
  obtain ⟨zm, zk, zl⟩ := Z
  obtain ⟨fm, fk, fl⟩ := f
  unfold Fil.v filV at p3 p4
  simp only at p3 p4 hadd2 hOne
  have HhE := Lib.hid hE
  have HhO := Lib.hid hOne
  have Hadd := Lib.hid hadd
  have Hadd2 := Lib.hid hadd2
  have Hps := Lib.hid hps
  have Hk := Lib.hid hk
  have Hnk := Lib.hid hnk
  have Hwk := Lib.hid wk
  have HwN := Lib.hid wN
  have Hfs := Lib.hid hfs
  have Hn := Lib.hid hn
  have Hn20 : Hid (n ≤ 20) := Lib.hid (by omega)
  have P3 := Lib.hid p3
  have P4 := Lib.hid p4
  clear hE hOne hadd hadd2 hps hk hnk wk wN hfs hfi hfm hb hcnt hlast hx hN hNb hrec hrl hpe hpS e3 hall hY hZ hae hrs hi hn hO hgl X1 p3 p4 ht
  have x0 := HX1.out.x0
  have x1 := HX1.out.x1
  have x2 := HX1.out.x2
  go_enter Tryz.func34, Tryz.ntmps34
  go_wp2_with fail
  refine (p1 _ HX1.out.own.rows.1).mono ?_
  rintro e w2 ⟨A2, c2, q, rfl, k1, k2, hB⟩
  have X2 := Lib.hid (HX1.out.on hB)
  clear k1 k2 hB p1 HX1 x0 x1 x2
  cases b
  · have HE : Hid (Sg.oneE ⟨sz, fi, fs⟩ (bl t) = 1) := Lib.hid (by rw [HhE.out]; rfl)
    clear hp2
    have a0 := X2.out.rf 0
    have a1 := X2.out.rf 1
    have a2 := X2.out.rf 2
    have b0 := X2.out.r0
    have b1 := X2.out.r1
    have b2 := X2.out.r2
    go_wp2_with fail
    obtain ⟨t', ht'⟩ := X2.out.res
    (try simp only [Exit.inBlock, Exit.then]); refine bodyPost_ret (ret_segs2b rfl rfl ht') rfl ?_
    exact oneS_bad HE.out (by decide) (X2.out.done _ _ _ X2.out.own rfl).2
  have x1 := X2.out.x1
  have wN := HwN.out
  go_wp2_with fail
  refine (hp2 _).mono ?_
  rintro e w3 ⟨rfl, hB⟩
  have X3 := Lib.hid (X2.out.on hB)
  clear hB hp2 X2 x1 wN
  by_cases hpe : pe = 0
  case neg =>
    have HE : Hid (Sg.oneE ⟨sz, fi, fs⟩ (bl t) = pe) := Lib.hid (by rw [HhE.out, if_pos (by trivial), if_neg hpe])
    have HE0 := Lib.hid hpe
    have j1 : (pe != 0) = true := by rw [bne_iff_ne]; exact hpe
    clear hpe
    have a0 := X3.out.rf 0
    have a1 := X3.out.rf 1
    have a2 := X3.out.rf 2
    have b0 := X3.out.r0
    have b1 := X3.out.r1
    have b2 := X3.out.r2
    go_wp2_with fail
    obtain ⟨t', ht'⟩ := X3.out.res
    (try simp only [Exit.inBlock, Exit.then]); refine bodyPost_ret (ret_segs2b rfl rfl ht') rfl ?_
    exact oneS_bad HE.out HE0.out (X3.out.done _ _ _ X3.out.own rfl).2
  obtain ⟨hps1, hps2⟩ := Hps.out hpe
  have HE1 : Hid (Sg.oneE ⟨sz, fi, fs⟩ (bl t) = if sz < (rec.size : Int) then 2 else if (rs : Int) + rec.size ≤ sz then 0 else if 20 ≤ fs.length then 81 else 0) := Lib.hid (by rw [HhE.out, if_pos (by trivial), if_pos hpe])
  subst hpe
  subst hps1
  have x0 := X3.out.x0
  by_cases hbig : sz < (ps.size : Int)
  · have HE : Hid (Sg.oneE ⟨sz, fi, fs⟩ (bl t) = 2) := Lib.hid (by rw [HE1.out, if_pos hbig])
    have j2 := eq_true hbig
    clear hbig
    have a0 := X3.out.rf 0
    have a1 := X3.out.rf 1
    have a2 := X3.out.rf 2
    have b0 := X3.out.r0
    have b1 := X3.out.r1
    have b2 := X3.out.r2
    go_wp2_with fail
    obtain ⟨t', ht'⟩ := X3.out.res
    (try simp only [Exit.inBlock, Exit.then]); refine bodyPost_ret (ret_segs2b rfl rfl ht') rfl ?_
    exact oneS_bad HE.out (by decide) (X3.out.done _ _ _ X3.out.own rfl).2
  have j2 := eq_false hbig
  have HE2 : Hid (Sg.oneE ⟨sz, fi, fs⟩ (bl t) = if (rs : Int) + ps.size ≤ sz then 0 else if 20 ≤ fs.length then 81 else 0) := Lib.hid (by rw [HE1.out, if_neg hbig])
  have Hsm : Hid (ps.size ≤ 9000) := Lib.hid (by omega)
  clear hbig HE1 hps2
  have x2 := X3.out.x2
  have hOf := X3.out.own
  rw [Hfs.out] at hOf
  obtain ⟨g', eg, q1, h3, q2⟩ := hOf.last
  cases eg
  rw [← Hk.out] at h3
  have e0 := h3.c0
  have e1 := h3.c1
  have e2 := h3.c2
  simp only at e0 e1 e2
  have wk := Hwk.out
  have i1 : (k : Int) < (n : Int) := by have := Hnk.out; omega
  have i0 : (0 : Int) ≤ (k : Int) := by omega
  have hs5 := StrsAt.new w3 [ps] 9
  have HB3 := Lib.hid (below_new w3 (.cells #[.string ps] 9))
  clear q1 q2 h3 hOf
  go_wp2_with fail
  refine (P3.out Hsm.out _ (some ⟨w3.heap.size, 0, none⟩) 1 (by simpa using hs5)).mono ?_
  rintro e w4 ⟨rfl, hB⟩
  have X4 := Lib.hid ((X3.out.on (below2 HB3.out hB)).on (below_new w4 (.cells #[.int .i64 ym, .string yk, .string yl] 47)))
  clear hB HB3 hs5 X3 x0 x2 e0 e1 e2 wk P3 j2
  by_cases hroom : (rs : Int) + ps.size ≤ sz
  · have HE : Hid (Sg.oneE ⟨sz, fi, fs⟩ (bl t) = 0) := Lib.hid (by rw [HE2.out, if_pos hroom])
    have hae : ae = 0 := by rw [Hadd.out, if_pos hroom]
    have HO1 := Lib.hid (HhO.out HE.out)
    have hyy := Hadd2.out hroom
    simp only [Fil.mk.injEq] at hyy
    obtain ⟨rfl, rfl, rfl⟩ := hyy
    have HR : Hid (Sg.one ⟨sz, fi, fs⟩ (bl t) = ⟨sz, fi, pre ++ [⟨ym, yk, fl ++ ps⟩]⟩) := Lib.hid (by rw [HO1.out, if_pos hroom])
    subst hae
    clear hroom HO1 HE2
    have x2 := X4.out.x2
    have F5 := FilAt.new w4 ym yk (fl ++ ps) 47
    have f0 := F5.c0
    have f1 := F5.c1
    have f2 := F5.c2
    have hOf := X4.out.own
    rw [Hfs.out] at hOf
    have HOf := Lib.hid hOf
    have wk := Hwk.out
    clear F5 hOf P4
    go_wp2_with (refine wpList_store_fil rfl _ _ rfl base g n c k pre [] _ ⟨ym, yk, fl ++ ps⟩ Hk.out rfl rfl HOf.out ?_
                 intro w6 hO6 hg6
                 have X6 := Lib.hid (X4.out.turn hg6 hO6)
                 clear hO6 hg6 f0 f1 f2 x2
                 have x0 := X6.out.x0
                 have x1 := X6.out.x1
                 have x2 := X6.out.x2
                 have a0 := X6.out.rf 0
                 have a1 := X6.out.rf 1
                 have a2 := X6.out.rf 2
                 have b0 := X6.out.r0
                 have b1 := X6.out.r1
                 have b2 := X6.out.r2)
    obtain ⟨t', ht'⟩ := X6.out.res
    (try simp only [Exit.inBlock, Exit.then]); refine bodyPost_ret (ret_segs2b rfl rfl ht') rfl ?_
    obtain ⟨hO, hg⟩ := X6.out.done (.int .i64 sz) (.int .i64 fi) (.slice (some ⟨g, 0, none⟩) n c) X6.out.own rfl
    rw [HR.out, HE.out]
    refine ⟨_, rfl, hg, fun _ => ⟨some ⟨g, 0, none⟩, c, ?_, hO, fun g' e => Or.inl ?_⟩, fun h => absurd rfl h⟩
    · have : n = (pre ++ [(⟨ym, yk, fl ++ ps⟩ : Fil)]).length := by rw [List.length_append, ← Hk.out, Hnk.out]; rfl
      rw [this]
    · have : g = g' := by simpa [Value.ownBlock] using e
      exact this.symm
  · have hae : ae = 81 := by rw [Hadd.out, if_neg hroom]
    have HE3 : Hid (Sg.oneE ⟨sz, fi, fs⟩ (bl t) = if 20 ≤ fs.length then 81 else 0) := Lib.hid (by rw [HE2.out, if_neg hroom])
    subst hae
    have x2 := X4.out.x2
    by_cases h20 : 20 ≤ n
    · have HE : Hid (Sg.oneE ⟨sz, fi, fs⟩ (bl t) = 81) := Lib.hid (by rw [HE3.out, if_pos (by rw [← Hn.out]; exact h20)])
      have j3 : ((20 : Int) ≤ (n : Int)) = True := eq_true (by omega)
      clear hroom h20 HE2 HE3 P4
      have a0 := X4.out.rf 0
      have a1 := X4.out.rf 1
      have a2 := X4.out.rf 2
      have b0 := X4.out.r0
      have b1 := X4.out.r1
      have b2 := X4.out.r2
      go_wp2_with fail
      obtain ⟨t', ht'⟩ := X4.out.res
      (try simp only [Exit.inBlock, Exit.then]); refine bodyPost_ret (ret_segs2b rfl rfl ht') rfl ?_
      exact oneS_bad HE.out (by decide) (X4.out.done _ _ _ X4.out.own rfl).2
    · have HE : Hid (Sg.oneE ⟨sz, fi, fs⟩ (bl t) = 0) := Lib.hid (by rw [HE3.out, if_neg (by rw [← Hn.out]; exact h20)])
      have HO1 := Lib.hid (HhO.out HE.out)
      have HR : Hid (Sg.one ⟨sz, fi, fs⟩ (bl t) = ⟨sz, fi, (pre ++ [⟨zm, zk, zl⟩]) ++ [⟨sz, ⟨#[]⟩, ps⟩]⟩) := Lib.hid (by rw [HO1.out, if_neg hroom])
      have j3 : ((20 : Int) ≤ (n : Int)) = False := eq_false (by omega)
      clear hroom h20 HE2 HE3 HO1
      have hOf := X4.out.own
      rw [Hfs.out] at hOf
      obtain ⟨g', eg, q1, h3, q2⟩ := hOf.last
      cases eg
      rw [← Hk.out] at h3
      have e0 := h3.c0
      have e1 := h3.c1
      have e2 := h3.c2
      simp only at e0 e1 e2
      clear q1 q2 h3 hOf
      have wk := Hwk.out
      go_wp2_with fail
      refine (P4.out _).mono ?_
      rintro e w6 ⟨rfl, hB⟩
      have X6 := Lib.hid ((X4.out.on hB).on (below_new w6 (.cells #[.int .i64 zm, .string zk, .string zl] 47)))
      clear hB X4 x2 e0 e1 e2 P4
      have x2 := X6.out.x2
      have F5 := FilAt.new w6 zm zk zl 47
      have f0 := F5.c0
      have f1 := F5.c1
      have f2 := F5.c2
      have hOf := X6.out.own
      rw [Hfs.out] at hOf
      have HOf := Lib.hid hOf
      clear F5 hOf
      go_wp2_with (first
        | (refine wpList_store_fil rfl _ _ rfl base g n c k pre [] _ ⟨zm, zk, zl⟩ Hk.out rfl rfl HOf.out ?_
           intro w7 hO7 hg7
           have X7 := Lib.hid (X6.out.turn hg7 hO7)
           clear hO7 hg7 f0 f1 f2 x2
           have x0 := X7.out.x0
           have x2 := X7.out.x2
           have X8 := Lib.hid (X7.out.on (below_new w7 (.cells #[.int .i64 sz, .string ⟨#[]⟩, .string ps] 47)))
           have HF8 := Lib.hid (OwnS.one (base := 0) (x := ⟨sz, ⟨#[]⟩, ps⟩) (World.alloc_heap_new w7 (.cells #[.int .i64 sz, .string ⟨#[]⟩, .string ps] 47)) (Nat.zero_le _)).fils)
        | (at_builtin
           refine wpList_append_fils_at rfl _ _ 22 rfl Tryz.underlying22 base (.slice (some ⟨g, 0, none⟩) n c) (pre ++ [⟨zm, zk, zl⟩]) [⟨sz, ⟨#[]⟩, ps⟩] rfl X8.out.own ⟨w7.heap.size, 0, none⟩ 1 1 rfl rfl HF8.out (Nat.le_trans Hbase.out X8.out.fr.size) (by have := Hn20.out; have := Hnk.out; have := Hk.out; simp; omega) ?_
           intro v' w8 hO8 hg8 hw8
           obtain ⟨gs, hgs⟩ : ∃ gs, gs = pre ++ [⟨zm, zk, zl⟩] ++ [(⟨sz, ⟨#[]⟩, ps⟩ : Fil)] := ⟨_, rfl⟩
           rw [← hgs] at hO8
           obtain ⟨ll, hll⟩ : ∃ ll, ll = gs.length := ⟨_, rfl⟩
           obtain ⟨A', c', hv', k1, k2, k3⟩ := hO8.slice
           rw [← hll] at hv'
           subst hv'
           have Hgs := Lib.hid hgs
           have Hll := Lib.hid hll
           have HW8 := Lib.hid hw8
           clear hgs hll k1 k2 k3
           obtain ⟨cc, cf, hX9⟩ := X8.out.slide hg8 hO8 (own_at14 hw8)
           have X9 := Lib.hid hX9
           have y0 := X9.out.x0
           have y1 := X9.out.x1
           have y2 := X9.out.x2
           have a0 := X9.out.rf 0
           have a1 := X9.out.rf 1
           have a2 := X9.out.rf 2
           have b0 := X9.out.r0
           have b1 := X9.out.r1
           have b2 := X9.out.r2
           clear hO8 hg8 hw8 hX9 x0 x2))
      obtain ⟨t', ht'⟩ := X9.out.res
      (try simp only [Exit.inBlock, Exit.then]); refine bodyPost_ret (ret_segs2b rfl rfl ht') rfl ?_
      obtain ⟨hO, hg⟩ := X9.out.done (.int .i64 sz) (.int .i64 fi) _ X9.out.own rfl
      rw [HR.out, HE.out, ← Hgs.out]
      refine ⟨_, rfl, hg, fun _ => ⟨A', c', by rw [Hll.out], hO, fun g' e => ?_⟩, fun h => absurd rfl h⟩
      rcases HW8.out with h | h
      · left; rw [h] at e; have : g = g' := by simpa [Value.ownBlock] using e
        exact this.symm
      · right; rw [h] at e; cases e
        exact Nat.le_trans X7.out.fr.size (by simp)
end Go.Proofs.YtlnchfnmpamliaaGreat
