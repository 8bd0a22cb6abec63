/-
  Layer 14 (segment): the reference's Add (printed by tools/gen-refseg10.py).
-/
import Derived.Test.YtlnchfnmpamliaaGreatXRefSeg9
import Derived.Deep.RegionHeld3
namespace Go.Proofs.YtlnchfnmpamliaaGreat
set_option maxRecDepth 10000
open Go.RowKit

/-- What holds when one more record was asked for: the log that was handed back lies at pc. -/
structure Aft (w0 wx : World) (p q pc base : Nat) (one : Seg) (E : Int) (V : Value) : Prop where
  res : ∃ t, wx.heap[p]? = some (.cells #[.int .i64 0, .int .i64 0, .slice none 0 0] t (0, 0))
  old : ∃ c0 c1 c2 t, wx.heap[q]? = some (.cells #[c0, c1, c2] t (0, 0))
  new : ∃ t, wx.heap[pc]? = some (.cells #[.int .i64 one.sz, .int .i64 one.fi, V] t (0, 0))
  ne : p ≠ q
  own : E = 0 → ∃ A c, V = .slice A one.fs.length c ∧ OwnF wx base V one.fs ∧ ∀ g', V.ownBlock = some g' → w0.heap.size ≤ g' ∧ g' ≠ p ∧ g' ≠ q
  hp : w0.heap.size ≤ p
  hq : w0.heap.size ≤ q
  fr : w0.grownBy wx none
theorem grown_frame14 {a b c : World} {r : Option Nat} (h : a.grownBy b none) (k : b.grownBy c r) (hr : ∀ g, r = some g → a.heap.size ≤ g) : a.grownBy c none := by
  obtain ⟨h1, h2, h3, h4, h5⟩ := h
  obtain ⟨k1, k2, k3, k4, k5⟩ := k
  refine ⟨k1.trans h1, k2.trans h2, k3.trans h3, Nat.le_trans h4 k4, fun i hi hne => (k5 i (Nat.lt_of_lt_of_le hi h4) ?_).trans (h5 i hi hne)⟩
  intro e
  have := hr i e.symm
  omega
theorem Aft.of {w0 Wb y wx : World} {p q pc base : Nat} {sz fi : Int} {v V : Value} {fs : List Fil} {one : Seg} {E : Int} (hX : XAt none w0 Wb p q base sz fi v fs) (hg5 : Wb.grownBy y v.ownBlock)
    (hV : E = 0 → ∃ A c, V = .slice A one.fs.length c ∧ OwnF y base V one.fs ∧ ∀ g', V.ownBlock = some g' → v.ownBlock = some g' ∨ Wb.heap.size ≤ g') (hk : y.grownBy wx (some pc))
    (hn : ∃ t, wx.heap[pc]? = some (.cells #[.int .i64 one.sz, .int .i64 one.fi, V] t (0, 0))) (h1 : pc ≠ p) (h2 : pc ≠ q) (h3 : w0.heap.size ≤ pc) (h4 : E = 0 → ∀ g', V.ownBlock = some g' → g' ≠ pc) : Aft w0 wx p q pc base one E V := by
  have a1 := kept14 (kept14 hX.res hg5 hX.notP) hk (fun e => h1 (Option.some.inj e).symm)
  have a2 := kept14 (kept14 hX.cur hg5 hX.notQ) hk (fun e => h2 (Option.some.inj e).symm)
  obtain ⟨t2, a2⟩ := a2
  have hlp := lt14 hX.res
  have hlq := lt14 hX.cur
  refine ⟨a1, ⟨_, _, _, t2, a2⟩, hn, hX.ne, fun h0 => ?_, hX.hp, hX.hq, ?_⟩
  · obtain ⟨A, c, e, ho, hg'⟩ := hV h0
    refine ⟨A, c, e, World.ownsRow.kept (row := some pc) ho hk (Or.inr (fun e => h4 h0 pc e rfl)), fun g' e' => ?_⟩
    rcases hg' g' e' with h | h
    · obtain ⟨b1, b2, b3⟩ := hX.ok g' h
      rcases b1 with b1 | b1
      · exact ⟨b1, b2, b3⟩
      · cases b1
    · exact ⟨Nat.le_trans hX.fr.size h, by omega, by omega⟩
  · refine grown_frame14 (grown_frame14 hX.fr hg5 (fun g e => ?_)) hk (fun g e => by cases e; exact h3)
    rcases (hX.ok g e).1 with b | b
    · exact b
    · cases b
/-- It is laid over the log. -/
theorem Aft.next {w0 wx : World} {p q pc base : Nat} {one : Seg} {V : Value} (h : Aft w0 wx p q pc base one 0 V) :
    ∃ A c, V = .slice A one.fs.length c ∧ XAt none w0 (((wx.setCell ⟨q, 0, none⟩ (.int .i64 one.sz)).setCell ⟨q, 1, none⟩ (.int .i64 one.fi)).setCell ⟨q, 2, none⟩ V) p q base one.sz one.fi V one.fs := by
  obtain ⟨A, c, e, ho, hg⟩ := h.own rfl
  obtain ⟨c0, c1, c2, t, hq⟩ := h.old
  have hnq : some q ≠ V.ownBlock := fun e => (hg q e.symm).2.2 rfl
  have hnp : ∀ j u W, (∃ t, W.heap[p]? = some (.cells #[.int .i64 0, .int .i64 0, .slice none 0 0] t (0, 0))) → ∃ t, (World.setCell W ⟨q, j, none⟩ u).heap[p]? = some (.cells #[.int .i64 0, .int .i64 0, .slice none 0 0] t (0, 0)) := fun j u W hr => kept14 hr (grown_cell14 W q j u) (fun e => h.ne (Option.some.inj e))
  refine ⟨A, c, e, hnp _ _ _ (hnp _ _ _ (hnp _ _ _ h.res)), ⟨t, seg_set3 hq _ _ _⟩, h.ne, own_setcell14 (own_setcell14 (own_setcell14 ho hnq 0 _) hnq 1 _) hnq 2 _, fun g' e' => ⟨Or.inl (hg g' e').1, (hg g' e').2⟩, h.hp, h.hq, ?_⟩
  exact grown_frame14 (grown_frame14 (grown_frame14 h.fr (grown_cell14 _ _ _ _) (fun g e => by cases e; exact h.hq)) (grown_cell14 _ _ _ _) (fun g e => by cases e; exact h.hq)) (grown_cell14 _ _ _ _) (fun g e => by cases e; exact h.hq)
theorem held14 {W W' : World} {q b o : Nat} {cs : Array Value} {t : Value} {r : Option Nat} (h : (∃ t', W.heap[q]? = some (.cells cs t' (0, 0))) ∧ W.cell? ⟨b, o, none⟩ = some t) (hg : W.grownBy W' r) (hq : some q ≠ r) (hb : some b ≠ r) (hl : b < W.heap.size) :
    (∃ t', W'.heap[q]? = some (.cells cs t' (0, 0))) ∧ W'.cell? ⟨b, o, none⟩ = some t :=
  ⟨kept14 h.1 hg hq, (World.cell?_of_block (hg.block b hl hb)).trans h.2⟩
theorem one14 (a b : Int) {E : Int} (V : Value) {s : Seg} (h : E = 0 → ∃ A c, V = .slice A s.fs.length c) (h2 : E ≠ 0 → V = .slice none 0 0) : (#[.int .i64 a, .int .i64 b, V] : Array Value).all (·.oneCell') = true := by
  by_cases h0 : E = 0
  · obtain ⟨A, c, rfl⟩ := h h0; simp [Value.oneCell']
  · rw [h2 h0]; simp [Value.oneCell']
namespace Sg
/-- Behind j texts. -/
def Added (s : Seg) (l : List (List UInt8)) (j : Nat) (s' : Seg) : Prop := go s l = go s' (l.drop j) ∧ is s' = true ∧ s'.sz = s.sz ∧ s'.fi = s.fi
theorem added_yes {s s' : Seg} {l : List (List UInt8)} {j : Nat} (h : Added s l j s') (hj : j < l.length) (he : oneE s' l[j] = 0) : Added s l (j + 1) (one s' l[j]) := by
  obtain ⟨h1, h2, h3, h4⟩ := h
  obtain ⟨o1, _, o3, o4⟩ := one_ok h2 he
  refine ⟨?_, o1, o3.trans h3, o4.trans h4⟩
  rw [h1, List.drop_eq_getElem_cons hj, go_yes he]
theorem added_no {s s' : Seg} {l : List (List UInt8)} {j : Nat} (h : Added s l j s') (hj : j < l.length) (he : oneE s' l[j] ≠ 0) : go s l = (no, oneE s' l[j]) := by
  rw [h.1, List.drop_eq_getElem_cons hj, go_not he]
theorem added_end {s s' : Seg} {l : List (List UInt8)} (h : Added s l l.length s') : go s l = (s', 0) := by
  rw [h.1, List.drop_length]; rfl
end Sg

set_option maxRecDepth 10000 in
set_option maxHeartbeats 4000000 in
theorem RSAdd_any (sz fi : Int) (A : Option Addr) (n0 c0 : Nat) (fs : List Fil) (A2 : Option Addr) (l c2 : Nat) (ss : List ByteArray) (w : World) (hA : FilsAt w w.heap.size A fs) (hs : Sg.small ⟨sz, fi, fs⟩) (hn : n0 = fs.length) (hc : A = none → c0 = 0) (hA2 : StrsAt w w.heap.size A2 ss) (hl : l = ss.length) (hl2 : l ≤ 1000) (hz : ∀ s ∈ ss, s.size ≤ 9000) :
    Calls Tryz.prog 9 #[.agg #[.int .i64 sz, .int .i64 fi, .slice A n0 c0], .slice A2 l c2] w (GivesS w (Sg.add ⟨sz, fi, fs⟩ ss) (Sg.addE ⟨sz, fi, fs⟩ ss)) := by
  have p1 := fun W (h : FilsAt W W.heap.size A fs) => RSIs_any sz fi A n0 c0 fs W h hs hn
  have S0 := Lib.hid (((St.start w).more (filF14 A w.heap.size fs) ⟨hA, Nat.le_refl _⟩).box2 #[.int .i64 sz, .int .i64 fi, .slice A n0 c0] #[.int .i64 0, .int .i64 0, .slice none 0 0] 24 24)
  by_cases hi : Sg.is ⟨sz, fi, fs⟩ = true
  · rw [hi] at p1
    have hb := (Sg.is_iff.1 hi).1
    simp only at hb
    have p2 := fun W (h : FilsAt W W.heap.size A fs) => RSread_any sz fi A n0 c0 fs W h hi hn
    unfold Reads at p2
    have p3 := fun W (h : FilsAt W W.heap.size A fs) => RSOwn_any sz fi A n0 c0 fs W h hn hc (by omega)
    have hE0 : Sg.addE ⟨sz, fi, fs⟩ ss = if (Sg.rd fs fi).2 = true then (Sg.go ⟨sz, fi, fs⟩ (ss.map bl)).2 else 1 := by unfold Sg.addE; rw [if_pos hi]
    obtain ⟨x, hx⟩ : ∃ x, x = Sg.rd fs fi := ⟨_, rfl⟩
    rw [← hx] at p2 hE0
    obtain ⟨ts, wh⟩ := x
    simp only at p2 hE0
    have HE0 := Lib.hid hE0
    have Hi := Lib.hid hi
    have Hn := Lib.hid hn
    have HA2 := Lib.hid hA2
    have Hl := Lib.hid hl
    have Hl2 := Lib.hid hl2
    have Hz := Lib.hid hz
    have Hpos : Hid (0 < fs.length) := Lib.hid (by omega)
    clear hA hs hn hc hA2 hl hl2 hz hi hb hE0 hx
    go_enter Tryz.func9, Tryz.ntmps9
    go_wp2_with fail
    refine (p1 _ ((S0.out.fact 0 rfl).1.more (S0.out.fact 0 rfl).2)).mono ?_
    rintro e w1 ⟨rfl, hB⟩
    have S1 := Lib.hid (S0.out.on hB)
    clear p1 hB S0
    have d0 := S1.out.cell 1 rfl 0 rfl
    have d1 := S1.out.cell 1 rfl 1 rfl
    have d2 := S1.out.cell 1 rfl 2 rfl
    go_wp2_with fail
    refine (p2 _ ((S1.out.fact 0 rfl).1.more (S1.out.fact 0 rfl).2)).mono ?_
    rintro e w2 ⟨A3, c3, qq, rfl, k1, k2, hB⟩
    have S2 := Lib.hid (S1.out.on hB)
    clear p2 hB S1 d0 d1 d2 k1 k2
    cases wh
    · have e2 : Sg.addE ⟨sz, fi, fs⟩ ss = 1 := by rw [HE0.out]; rfl
      have e1 : Sg.add ⟨sz, fi, fs⟩ ss = Sg.no := by unfold Sg.add; rw [e2]; rfl
      have H12 := Lib.hid (And.intro e1 e2)
      clear e1 e2 p3
      have a0 := S2.out.free 0 rfl 0
      have a1 := S2.out.free 0 rfl 1
      have a2 := S2.out.free 0 rfl 2
      have b0 := S2.out.cell 0 rfl 0 rfl
      have b1 := S2.out.cell 0 rfl 1 rfl
      have b2 := S2.out.cell 0 rfl 2 rfl
      go_wp2_with fail
      obtain ⟨t, ht⟩ := S2.out.live (w.heap.size + 1, #[.int .i64 0, .int .i64 0, .slice none 0 0]) (by simp)
      (try simp only [Exit.inBlock, Exit.then]); refine bodyPost_ret (ret_segs2b rfl rfl ht) rfl ?_
      rw [H12.out.1, H12.out.2]
      exact givesS_no (below_set3 S2.out.below (Nat.le_succ _) _ _ _)
    have HgE : Hid (Sg.addE ⟨sz, fi, fs⟩ ss = (Sg.go ⟨sz, fi, fs⟩ (ss.map bl)).2) := Lib.hid (by rw [HE0.out]; rfl)
    have d0 := S2.out.cell 1 rfl 0 rfl
    have d1 := S2.out.cell 1 rfl 1 rfl
    have d2 := S2.out.cell 1 rfl 2 rfl
    go_wp2_with fail
    refine (p3 _ ((S2.out.fact 0 rfl).1.more (S2.out.fact 0 rfl).2)).mono ?_
    rintro e w3 ⟨A4, c4, rfl, hO, hB⟩
    have X3 := Lib.hid (XAt.start sz fi 24 S2.out (by simp) hB hO)
    obtain ⟨g, rfl⟩ := hO.some14 Hpos.out
    have HBase : Hid (w.heap.size ≤ w2.heap.size) := Lib.hid S2.out.below.size
    clear p3 hB hO d0 d1 d2 S2
    go_wp2_with fail
    obtain ⟨base, hbase⟩ : ∃ b, b = w2.heap.size := ⟨_, rfl⟩
    obtain ⟨q, hq⟩ : ∃ b, b = w3.heap.size := ⟨_, rfl⟩
    rw [← hbase, ← hq] at X3
    rw [← hbase] at HBase
    rw [← hq]
    clear hbase
    go_loopw [10] (fun i wr => ∃ (j : Nat) (fs' : List Fil) (g n c' : Nat), j ≤ l ∧ i = .int .i64 (j : Int) ∧ Hid (Sg.Added ⟨sz, fi, fs⟩ (ss.map bl) j ⟨sz, fi, fs'⟩) ∧ Hid (n = fs'.length) ∧ Hid (XAt none w wr (w.heap.size + 1) q base sz fi (.slice (some ⟨g, 0, none⟩) n c') fs')) (fun i _ => l - (intOf i).toNat)
    case atStart => exact ⟨0, fs, g, n0, c4, Nat.zero_le _, rfl, Lib.hid ⟨by simp, Hi.out, rfl, rfl⟩, Hn, X3⟩
    case round =>
      clear X3 hq
      obtain ⟨j, fs', g, n, c', hj, rfl, HL, Hn', HX⟩ := hrel
      by_cases hlt : j < l
      · have hjl : j < ss.length := by rw [← Hl.out]; exact hlt
        have hjm : j < (ss.map bl).length := by rw [List.length_map]; exact hjl
        obtain ⟨b, off, rfl, hb, hc⟩ := HA2.out j hjl
        have hzj := Hz.out ss[j] (List.getElem_mem hjl)
        have hyes := Sg.added_yes HL.out hjm
        have hno := Sg.added_no HL.out hjm
        rw [List.getElem_map] at hyes hno
        obtain ⟨t, ht⟩ : ∃ t, t = ss[j] := ⟨_, rfl⟩
        rw [← ht] at hc hzj hyes hno
        have p4 := fun W (hO : OwnF W base (.slice (some ⟨g, 0, none⟩) n c') fs') => RSone_any sz fi g n c' base fs' t W HL.out.2.1 hO Hn'.out hzj
        obtain ⟨one, hone⟩ : ∃ s, s = Sg.one ⟨sz, fi, fs'⟩ (bl t) := ⟨_, rfl⟩
        obtain ⟨E, hE⟩ : ∃ e, e = Sg.oneE ⟨sz, fi, fs'⟩ (bl t) := ⟨_, rfl⟩
        simp only [← hone, ← hE] at p4 hyes hno
        unfold OneS at p4
        have P4 := Lib.hid p4
        have Hyes := Lib.hid hyes
        have Hno := Lib.hid hno
        have hfr := grown_below14 HX.out.fr
        have hS0 : (∃ t, wr.drew.heap[q]? = some (.cells #[.int .i64 sz, .int .i64 fi, .slice (some ⟨g, 0, none⟩) n c'] t (0, 0))) ∧ wr.drew.cell? ⟨b, off + j, none⟩ = some (.string t) := ⟨HX.out.cur, (hfr.cell (p := ⟨b, off + j, none⟩) hb).trans hc⟩
        have hbl0 : b < wr.drew.heap.size := Nat.lt_of_lt_of_le hb hfr.size
        have hok := HX.out.ok g rfl
        have hwg : w.heap.size ≤ g := hok.1.elim id (fun h => nomatch h)
        have hqg : some q ≠ (Value.slice (some ⟨g, 0, none⟩) n c').ownBlock := fun e => hok.2.2 (Option.some.inj e).symm
        have hbg : some b ≠ (Value.slice (some ⟨g, 0, none⟩) n c').ownBlock := fun e => by have : b = g := Option.some.inj e; omega
        have hpl := lt14 HX.out.res
        have hql := lt14 HX.out.cur
        have hgl := (World.ownsRow.lt HX.out.own g rfl).2
        have hX0 : XAt none w wr.drew (w.heap.size + 1) q base sz fi (.slice (some ⟨g, 0, none⟩) n c') fs' := HX.out.on (below_drew (Below.refl _ _) 1)
        have hwp := HX.out.hp
        have hwq := HX.out.hq
        have hpl0 : w.heap.size + 1 < wr.drew.heap.size := hpl
        have hql0 : q < wr.drew.heap.size := hql
        have hgl0 : g < wr.drew.heap.size := hgl
        have i1 : (j : Int) < (l : Int) := by omega
        have i0 : (0 : Int) ≤ (j : Int) := by omega
        have Hjn : Hid (j < l) := Lib.hid hlt
        have Hiw : Hid (wrap64 ((j : Int) + 1) = (j : Int) + 1) := Lib.hid (wrap14 _ (by omega) (by have := Hl2.out; omega))
        have HV7 : Hid (Value.int .i64 ((j : Int) + 1) = Value.int .i64 ((j + 1 : Nat) : Int)) := Lib.hid (by rw [Int.natCast_succ])
        have HM7 : Hid (l - (intOf (Value.int .i64 ((j : Int) + 1))).toNat < l - (intOf (Value.int .i64 (j : Int))).toNat) := Lib.hid (by simp only [intOf]; omega)
        clear hjl hjm hb hc hzj hyes hno ht hone hE p4 hlt hj hfr hok hpl hql hgl HX HL
        go_wp2_with fail
        refine wp_region_held_drew (S := (fun W : World => (∃ t, W.heap[q]? = some (.cells #[.int .i64 sz, .int .i64 fi, .slice (some ⟨g, 0, none⟩) n c'] t (0, 0))) ∧ W.cell? ⟨b, off + j, none⟩ = some (.string t))) (by kernel_rfl) hS0 (fun hHeld => ?_)
        generalize hWd : wr.drew = Wd at hS0 hbl0 hX0 hpl0 hql0 hgl0 hHeld ⊢
        clear hWd
        have hS := hS0
        have hbl := hbl0
        have hX := hX0
        clear hS0 hbl0 hX0
        refine wpAnyH_take (i := 0) (oi := { dst := some 35, op := Op.load 24 (Operand.tmp 9), type := 24, pos := _, after := #[], guard := none }) (v := ?_) rfl (by kernel_rfl) (by kernel_rfl) (by kernel_rfl) (fun _ _ _ h => h) (Or.inl ⟨by rfl, ?hy⟩) hHeld ?_
        case hy => intro w0 hSw; have c0 : w0.cell? ⟨q, 0, none⟩ = some (.int .i64 sz) := cell14 hSw.1 0; have c1 : w0.cell? ⟨q, 1, none⟩ = some (.int .i64 fi) := cell14 hSw.1 1; have c2 : w0.cell? ⟨q, 2, none⟩ = some (.slice (some ⟨g, 0, none⟩) n c') := cell14 hSw.1 2; clear hSw; go_simp; (try with_reducible rfl)
        (try simp only [Act.put, List.setIfInBounds_toArray, List.set_cons_zero, List.set_cons_succ])
        refine wpAnyH_take (i := 1) (oi := { dst := some 36, op := Op.move (Operand.tmp 1), type := 25, pos := _, after := #[], guard := none }) (v := ?_) rfl (by kernel_rfl) (by kernel_rfl) (by kernel_rfl) (fun _ _ _ h => h) (Or.inl ⟨by rfl, ?hy⟩) hHeld ?_
        case hy => intro w0 hSw; (try dsimp only at hSw); go_simp; (try with_reducible rfl)
        (try simp only [Act.put, List.setIfInBounds_toArray, List.set_cons_zero, List.set_cons_succ])
        refine wpAnyH_take (i := 2) (oi := { dst := some 37, op := Op.move (Operand.tmp 10), type := 3, pos := _, after := #[], guard := none }) (v := ?_) rfl (by kernel_rfl) (by kernel_rfl) (by kernel_rfl) (fun _ _ _ h => h) (Or.inl ⟨by rfl, ?hy⟩) hHeld ?_
        case hy => intro w0 hSw; (try dsimp only at hSw); go_simp; (try with_reducible rfl)
        (try simp only [Act.put, List.setIfInBounds_toArray, List.set_cons_zero, List.set_cons_succ])
        refine wpAnyH_take (i := 3) (oi := { dst := some 38, op := Op.indexAddr 25 (Operand.tmp 36) (Operand.tmp 37), type := 0, pos := _, after := #[{ on := 1, ground := Ground.data }, { on := 2, ground := Ground.data }], guard := none }) (v := ?_) rfl (by kernel_rfl) (by kernel_rfl) (by kernel_rfl) (fun _ _ _ h => h) (Or.inl ⟨by rfl, ?hy⟩) hHeld ?_
        case hy => intro w0 hSw; (try dsimp only at hSw); go_simp; (try with_reducible rfl)
        (try simp only [Act.put, List.setIfInBounds_toArray, List.set_cons_zero, List.set_cons_succ])
        refine wpAnyH_take (i := 4) (oi := { dst := some 39, op := Op.load 9 (Operand.tmp 38), type := 9, pos := _, after := #[{ on := 3, ground := Ground.data }], guard := none }) (v := ?_) rfl (by kernel_rfl) (by kernel_rfl) (by kernel_rfl) (fun _ _ _ h => h) (Or.inl ⟨by rfl, ?hy⟩) hHeld ?_
        case hy => intro w0 hSw; have c0 := hSw.2; clear hSw; go_simp; (try with_reducible rfl)
        (try simp only [Act.put, List.setIfInBounds_toArray, List.set_cons_zero, List.set_cons_succ])
        refine wpAnyH_ready (rs := [5, 9]) (by kernel_rfl) (by simp) ?_
        refine AllReadyH.cons (o := { dst := some 40, op := Op.call { callee := Callee.value (Operand.func 34), args := #[Operand.tmp 35, Operand.tmp 39], argTypes := #[24, 9] }, type := 31, pos := _, after := #[{ on := 0, ground := Ground.data }, { on := 4, ground := Ground.data }], guard := none }) rfl (fun K hK => ?_) (AllReadyH.cons (o := { dst := some 11, op := Op.alloc 24, type := 0, pos := _, after := #[], guard := none }) rfl (fun K hK => ?_) AllReadyH.nil)
        · go_simp
          refine (P4.out _ hX.own).mono ?_
          rintro e y ⟨V, rfl, hg5, hV, hV0⟩
          have hS := held14 hS hg5 hqg hbg hbl
          have hbl := Nat.lt_of_lt_of_le hbl hg5.size
          have HV := Lib.hid hV
          have HV0 := Lib.hid hV0
          clear hV hV0
          go_wp2_with fail
          refine hK.out _ _ hS (fun hHeld => ?_)
          clear hK K
          (try simp only [Act.put, List.setIfInBounds_toArray, List.set_cons_zero, List.set_cons_succ])
          refine wpAnyH_take (i := 6) (oi := { dst := some 34, op := Op.move (Operand.tmp 40), type := 31, pos := _, after := #[{ on := 5, ground := Ground.data }], guard := none }) (v := ?_) rfl (by kernel_rfl) (by kernel_rfl) (by kernel_rfl) (fun _ _ _ h => h) (Or.inl ⟨by rfl, ?hy⟩) hHeld ?_
          case hy => intro w0 hSw; (try dsimp only at hSw); go_simp; (try with_reducible rfl)
          (try simp only [Act.put, List.setIfInBounds_toArray, List.set_cons_zero, List.set_cons_succ])
          refine wpAnyH_take (i := 7) (oi := { dst := some 41, op := Op.extract (Operand.tmp 34) 0, type := 24, pos := _, after := #[{ on := 6, ground := Ground.data }], guard := none }) (v := ?_) rfl (by kernel_rfl) (by kernel_rfl) (by kernel_rfl) (fun _ _ _ h => h) (Or.inl ⟨by rfl, ?hy⟩) hHeld ?_
          case hy => intro w0 hSw; (try dsimp only at hSw); go_simp; (try with_reducible rfl)
          (try simp only [Act.put, List.setIfInBounds_toArray, List.set_cons_zero, List.set_cons_succ])
          refine wpAnyH_take (i := 8) (oi := { dst := some 42, op := Op.extract (Operand.tmp 34) 1, type := 28, pos := _, after := #[{ on := 6, ground := Ground.data }, { on := 10, ground := Ground.gcOnly Departure.lateStores }], guard := none }) (v := ?_) rfl (by kernel_rfl) (by kernel_rfl) (by kernel_rfl) (fun _ _ _ h => h) (Or.inl ⟨by rfl, ?hy⟩) hHeld ?_
          case hy => intro w0 hSw; (try dsimp only at hSw); go_simp; (try with_reducible rfl)
          (try simp only [Act.put, List.setIfInBounds_toArray, List.set_cons_zero, List.set_cons_succ])
          refine wpAnyH_ready (rs := [9]) (by kernel_rfl) (by simp) ?_
          refine AllReadyH.cons (o := { dst := some 11, op := Op.alloc 24, type := 0, pos := _, after := #[], guard := none }) rfl (fun K hK => ?_) AllReadyH.nil
          go_simp
          have hS := held14 hS (below_grown14 (below_new y (.cells #[.int .i64 0, .int .i64 0, .slice none 0 0] 24)) none) (fun e => nomatch e) (fun e => nomatch e) hbl
          have hbl : b < (y.alloc (.cells #[.int .i64 0, .int .i64 0, .slice none 0 0] 24)).heap.size := Nat.lt_of_lt_of_le hbl (below_new y (.cells #[.int .i64 0, .int .i64 0, .slice none 0 0] 24)).size
          refine hK.out _ _ hS (fun hHeld => ?_)
          clear hK K
          (try simp only [Act.put, List.setIfInBounds_toArray, List.set_cons_zero, List.set_cons_succ])
          refine wpAnyH_ready (rs := [10]) (by kernel_rfl) (by simp) ?_
          refine AllReadyH.cons (o := { dst := none, op := Op.store 24 (Operand.tmp 11) (Operand.tmp 41), type := 0, pos := _, after := #[{ on := 9, ground := Ground.data }, { on := 7, ground := Ground.data }, { on := 5, ground := Ground.chain }, { on := 0, ground := Ground.phase }, { on := 1, ground := Ground.phase }, { on := 2, ground := Ground.phase }, { on := 3, ground := Ground.phase }, { on := 4, ground := Ground.phase }, { on := 5, ground := Ground.phase }, { on := 6, ground := Ground.phase }, { on := 7, ground := Ground.phase }, { on := 8, ground := Ground.textOnly Departure.lateStores }, { on := 9, ground := Ground.phase }], guard := none }) rfl (fun K hK => ?_) AllReadyH.nil
          rw [if_pos (by rfl)]
          have hz : ∃ t, (World.heap (y.alloc (.cells #[.int .i64 0, .int .i64 0, .slice none 0 0] 24)))[y.heap.size]? = some (.cells #[.int .i64 0, .int .i64 0, .slice none 0 0] t (0, 0)) := ⟨_, World.alloc_heap_new y _⟩
          obtain ⟨tz, hz⟩ := hz
          refine wp_store_row 24 _ _ rfl y.heap.size #[.int .i64 one.sz, .int .i64 one.fi, V] rfl rfl tz _ hz (by rfl) rfl (one14 _ _ V (fun h => (HV.out h).imp fun _ h => h.imp fun _ h => h.1) HV0.out) ?_
          have hS := held14 hS (grown_setRow (y.alloc (.cells #[.int .i64 0, .int .i64 0, .slice none 0 0] 24)) y.heap.size #[.int .i64 one.sz, .int .i64 one.fi, V]) (fun e => by have := Option.some.inj e; have := hg5.size; omega) (fun e => by have := Option.some.inj e; have := hg5.size; omega) hbl
          have HA6 : Hid (Aft w (World.setRow (y.alloc (.cells #[.int .i64 0, .int .i64 0, .slice none 0 0] 24)) y.heap.size #[.int .i64 one.sz, .int .i64 one.fi, V]) (w.heap.size + 1) q y.heap.size base one E V) := Lib.hid (Aft.of hX hg5 (fun h => by obtain ⟨A, c, e1, e2, e3⟩ := HV.out h; exact ⟨A, c, e1, e2, fun g' e => (e3 g' e).imp (fun h => by rw [h]; rfl) id⟩) (grown_two14 (below_grown14 (below_new y _) _) (grown_setRow _ _ _)) ⟨_, setRow_heap _ _ _ _ _ _ hz⟩ (by have := hg5.size; omega) (by have := hg5.size; omega) (by have := hg5.size; omega) (fun h g' e => by obtain ⟨A, c, e1, e2, e3⟩ := HV.out h; have := (World.ownsRow.lt e2 g' e).2; omega))
          refine hK.out _ _ hS (fun hHeld => ?_)
          clear hK K
          (try simp only [Act.put])
          refine wpAnyH_take (i := 11) (oi := { dst := some 12, op := Op.assign (Operand.tmp 42), type := 28, pos := _, after := #[{ on := 8, ground := Ground.data }, { on := 10, ground := Ground.chain }, { on := 0, ground := Ground.phase }, { on := 1, ground := Ground.phase }, { on := 2, ground := Ground.phase }, { on := 3, ground := Ground.phase }, { on := 4, ground := Ground.phase }, { on := 5, ground := Ground.phase }, { on := 6, ground := Ground.phase }, { on := 7, ground := Ground.phase }, { on := 8, ground := Ground.phase }, { on := 9, ground := Ground.phase }, { on := 10, ground := Ground.phase }], guard := none }) (v := ?_) rfl (by kernel_rfl) (by kernel_rfl) (by kernel_rfl) (fun _ _ _ h => h) (Or.inl ⟨by rfl, ?hy⟩) hHeld ?_
          case hy => intro w0 hSw; (try dsimp only at hSw); go_simp; (try with_reducible rfl)
          (try simp only [Act.put, List.setIfInBounds_toArray, List.set_cons_zero, List.set_cons_succ])
          refine wpAnyH_done (by kernel_rfl) ?_ _
          clear hHeld hS hz hbl hg5 hX HV HV0
          obtain ⟨pc, hpc⟩ : ∃ x, x = y.heap.size := ⟨_, rfl⟩
          rw [← hpc] at HA6 ⊢
          clear hpc
          generalize World.setRow (y.alloc (.cells #[.int .i64 0, .int .i64 0, .slice none 0 0] 24)) pc #[.int .i64 one.sz, .int .i64 one.fi, V] = wx at HA6 ⊢
          clear i0 i1 hpl0 hql0 hgl0 hwg hqg hbg hwp hwq
          by_cases hE0 : E = 0
          · subst hE0
            have HL2 := Lib.hid (Hyes.out rfl)
            obtain ⟨h1, h2⟩ : one.sz = sz ∧ one.fi = fi := HL2.out.2.2
            obtain ⟨os, oi, ofs⟩ := one
            simp only at h1 h2
            obtain rfl := h1.symm
            obtain rfl := h2.symm
            clear h1 h2
            obtain ⟨A5, c5, rfl, hX7⟩ := HA6.out.next
            obtain ⟨g5, hg5⟩ := hX7.own.some14 (by have h := (Sg.is_iff.1 HL2.out.2.1).1; omega)
            subst hg5
            simp only at hX7 HA6
            obtain ⟨lo, hlo⟩ : ∃ x, x = ofs.length := ⟨_, rfl⟩
            rw [← hlo] at hX7 HA6
            have Hlo := Lib.hid hlo
            have HX7 := Lib.hid hX7
            obtain ⟨y0, y1, y2, ty, hy⟩ := HA6.out.old
            have b0 : wx.cell? ⟨q, 0, none⟩ = some y0 := cell14 ⟨ty, hy⟩ 0
            have b1 : wx.cell? ⟨q, 1, none⟩ = some y1 := cell14 ⟨ty, hy⟩ 1
            have b2 : wx.cell? ⟨q, 2, none⟩ = some y2 := cell14 ⟨ty, hy⟩ 2
            have a0 := free14 ⟨ty, hy⟩ 0
            have a1 := free14 ⟨ty, hy⟩ 1
            have a2 := free14 ⟨ty, hy⟩ 2
            have n0' : wx.cell? ⟨pc, 0, none⟩ = some (.int .i64 sz) := cell14 HA6.out.new 0
            have n1' : wx.cell? ⟨pc, 1, none⟩ = some (.int .i64 fi) := cell14 HA6.out.new 1
            have n2' : wx.cell? ⟨pc, 2, none⟩ = some (.slice (some ⟨g5, 0, none⟩) lo c5) := cell14 HA6.out.new 2
            clear hX7 hy Hyes Hno hlo
            go_wp2_with fail
            exact ⟨⟨j + 1, ofs, g5, lo, c5, Hjn.out, by rw [Hiw.out]; exact HV7.out, HL2, Hlo, HX7⟩, by rw [Hiw.out]; exact HM7.out⟩
          · have jE : (E != 0) = true := by rw [bne_iff_ne]; exact hE0
            have hgo := Hno.out hE0
            have e2 : Sg.addE ⟨sz, fi, fs⟩ ss = E := by rw [HgE.out, hgo]
            have e1 : Sg.add ⟨sz, fi, fs⟩ ss = Sg.no := by unfold Sg.add; rw [if_neg (by rw [e2]; exact hE0)]
            have H12 := Lib.hid (And.intro e1 e2)
            have b0 : wx.cell? ⟨w.heap.size + 1, 0, none⟩ = some (.int .i64 0) := cell14 HA6.out.res 0
            have b1 : wx.cell? ⟨w.heap.size + 1, 1, none⟩ = some (.int .i64 0) := cell14 HA6.out.res 1
            have b2 : wx.cell? ⟨w.heap.size + 1, 2, none⟩ = some (.slice none 0 0) := cell14 HA6.out.res 2
            have a0 := free14 HA6.out.res 0
            have a1 := free14 HA6.out.res 1
            have a2 := free14 HA6.out.res 2
            clear hgo e1 e2 hE0 Hyes Hno
            go_wp2_with fail
            obtain ⟨t', ht'⟩ := HA6.out.res
            (try simp only [Exit.inBlock, Exit.then]); refine bodyPost_ret (ret_segs2b rfl rfl ht') rfl ?_
            rw [H12.out.1, H12.out.2]
            exact givesS_no (below_set3 (grown_below14 HA6.out.fr) (Nat.le_succ _) _ _ _)
        · go_simp
          have hS := held14 hS (below_grown14 (below_new Wd (.cells #[.int .i64 0, .int .i64 0, .slice none 0 0] 24)) none) (fun e => nomatch e) (fun e => nomatch e) hbl
          have hbl : b < (Wd.alloc (.cells #[.int .i64 0, .int .i64 0, .slice none 0 0] 24)).heap.size := Nat.lt_of_lt_of_le hbl (below_new Wd (.cells #[.int .i64 0, .int .i64 0, .slice none 0 0] 24)).size
          refine hK.out _ _ hS (fun hHeld => ?_)
          clear hK K
          (try simp only [Act.put, List.setIfInBounds_toArray, List.set_cons_zero, List.set_cons_succ])
          have hz0 : ∃ t, (World.heap (Wd.alloc (.cells #[.int .i64 0, .int .i64 0, .slice none 0 0] 24)))[Wd.heap.size]? = some (.cells #[.int .i64 0, .int .i64 0, .slice none 0 0] t (0, 0)) := ⟨_, World.alloc_heap_new Wd _⟩
          have hX := hX.on (below_new Wd (.cells #[.int .i64 0, .int .i64 0, .slice none 0 0] 24))
          have hsz : (Wd.alloc (.cells #[.int .i64 0, .int .i64 0, .slice none 0 0] 24)).heap.size = Wd.heap.size + 1 := by simp
          refine wpAnyH_ready (rs := [5]) (by kernel_rfl) (by simp) ?_
          refine AllReadyH.cons (o := { dst := some 40, op := Op.call { callee := Callee.value (Operand.func 34), args := #[Operand.tmp 35, Operand.tmp 39], argTypes := #[24, 9] }, type := 31, pos := _, after := #[{ on := 0, ground := Ground.data }, { on := 4, ground := Ground.data }], guard := none }) rfl (fun K hK => ?_) AllReadyH.nil
          go_simp
          refine (P4.out _ hX.own).mono ?_
          rintro e y ⟨V, rfl, hg5, hV, hV0⟩
          have hS := held14 hS hg5 hqg hbg hbl
          have hbl := Nat.lt_of_lt_of_le hbl hg5.size
          have HV := Lib.hid hV
          have HV0 := Lib.hid hV0
          clear hV hV0
          go_wp2_with fail
          refine hK.out _ _ hS (fun hHeld => ?_)
          clear hK K
          (try simp only [Act.put, List.setIfInBounds_toArray, List.set_cons_zero, List.set_cons_succ])
          refine wpAnyH_take (i := 6) (oi := { dst := some 34, op := Op.move (Operand.tmp 40), type := 31, pos := _, after := #[{ on := 5, ground := Ground.data }], guard := none }) (v := ?_) rfl (by kernel_rfl) (by kernel_rfl) (by kernel_rfl) (fun _ _ _ h => h) (Or.inl ⟨by rfl, ?hy⟩) hHeld ?_
          case hy => intro w0 hSw; (try dsimp only at hSw); go_simp; (try with_reducible rfl)
          (try simp only [Act.put, List.setIfInBounds_toArray, List.set_cons_zero, List.set_cons_succ])
          refine wpAnyH_take (i := 7) (oi := { dst := some 41, op := Op.extract (Operand.tmp 34) 0, type := 24, pos := _, after := #[{ on := 6, ground := Ground.data }], guard := none }) (v := ?_) rfl (by kernel_rfl) (by kernel_rfl) (by kernel_rfl) (fun _ _ _ h => h) (Or.inl ⟨by rfl, ?hy⟩) hHeld ?_
          case hy => intro w0 hSw; (try dsimp only at hSw); go_simp; (try with_reducible rfl)
          (try simp only [Act.put, List.setIfInBounds_toArray, List.set_cons_zero, List.set_cons_succ])
          refine wpAnyH_take (i := 8) (oi := { dst := some 42, op := Op.extract (Operand.tmp 34) 1, type := 28, pos := _, after := #[{ on := 6, ground := Ground.data }, { on := 10, ground := Ground.gcOnly Departure.lateStores }], guard := none }) (v := ?_) rfl (by kernel_rfl) (by kernel_rfl) (by kernel_rfl) (fun _ _ _ h => h) (Or.inl ⟨by rfl, ?hy⟩) hHeld ?_
          case hy => intro w0 hSw; (try dsimp only at hSw); go_simp; (try with_reducible rfl)
          (try simp only [Act.put, List.setIfInBounds_toArray, List.set_cons_zero, List.set_cons_succ])
          refine wpAnyH_ready (rs := [10]) (by kernel_rfl) (by simp) ?_
          refine AllReadyH.cons (o := { dst := none, op := Op.store 24 (Operand.tmp 11) (Operand.tmp 41), type := 0, pos := _, after := #[{ on := 9, ground := Ground.data }, { on := 7, ground := Ground.data }, { on := 5, ground := Ground.chain }, { on := 0, ground := Ground.phase }, { on := 1, ground := Ground.phase }, { on := 2, ground := Ground.phase }, { on := 3, ground := Ground.phase }, { on := 4, ground := Ground.phase }, { on := 5, ground := Ground.phase }, { on := 6, ground := Ground.phase }, { on := 7, ground := Ground.phase }, { on := 8, ground := Ground.textOnly Departure.lateStores }, { on := 9, ground := Ground.phase }], guard := none }) rfl (fun K hK => ?_) AllReadyH.nil
          rw [if_pos (by rfl)]
          have hz : ∃ t, (World.heap (y))[Wd.heap.size]? = some (.cells #[.int .i64 0, .int .i64 0, .slice none 0 0] t (0, 0)) := kept14 hz0 hg5 (fun e => by have : Wd.heap.size = g := Option.some.inj e; omega)
          obtain ⟨tz, hz⟩ := hz
          refine wp_store_row 24 _ _ rfl Wd.heap.size #[.int .i64 one.sz, .int .i64 one.fi, V] rfl rfl tz _ hz (by rfl) rfl (one14 _ _ V (fun h => (HV.out h).imp fun _ h => h.imp fun _ h => h.1) HV0.out) ?_
          have hS := held14 hS (grown_setRow (y) Wd.heap.size #[.int .i64 one.sz, .int .i64 one.fi, V]) (fun e => by have := Option.some.inj e; omega) (fun e => by have := Option.some.inj e; omega) hbl
          have HA6 : Hid (Aft w (World.setRow (y) Wd.heap.size #[.int .i64 one.sz, .int .i64 one.fi, V]) (w.heap.size + 1) q Wd.heap.size base one E V) := Lib.hid (Aft.of hX hg5 (fun h => by obtain ⟨A, c, e1, e2, e3⟩ := HV.out h; exact ⟨A, c, e1, e2, fun g' e => (e3 g' e).imp (fun h => by rw [h]; rfl) id⟩) (grown_setRow _ _ _) ⟨_, setRow_heap _ _ _ _ _ _ hz⟩ (by omega) (by omega) (by omega) (fun h g' e => by obtain ⟨A, c, e1, e2, e3⟩ := HV.out h; have := e3 g' e; have h9 := hsz; omega))
          refine hK.out _ _ hS (fun hHeld => ?_)
          clear hK K
          (try simp only [Act.put])
          refine wpAnyH_take (i := 11) (oi := { dst := some 12, op := Op.assign (Operand.tmp 42), type := 28, pos := _, after := #[{ on := 8, ground := Ground.data }, { on := 10, ground := Ground.chain }, { on := 0, ground := Ground.phase }, { on := 1, ground := Ground.phase }, { on := 2, ground := Ground.phase }, { on := 3, ground := Ground.phase }, { on := 4, ground := Ground.phase }, { on := 5, ground := Ground.phase }, { on := 6, ground := Ground.phase }, { on := 7, ground := Ground.phase }, { on := 8, ground := Ground.phase }, { on := 9, ground := Ground.phase }, { on := 10, ground := Ground.phase }], guard := none }) (v := ?_) rfl (by kernel_rfl) (by kernel_rfl) (by kernel_rfl) (fun _ _ _ h => h) (Or.inl ⟨by rfl, ?hy⟩) hHeld ?_
          case hy => intro w0 hSw; (try dsimp only at hSw); go_simp; (try with_reducible rfl)
          (try simp only [Act.put, List.setIfInBounds_toArray, List.set_cons_zero, List.set_cons_succ])
          refine wpAnyH_done (by kernel_rfl) ?_ _
          clear hHeld hS hz hz0 hsz hbl hg5 hX HV HV0
          obtain ⟨pc, hpc⟩ : ∃ x, x = Wd.heap.size := ⟨_, rfl⟩
          rw [← hpc] at HA6 ⊢
          clear hpc
          generalize World.setRow (y) pc #[.int .i64 one.sz, .int .i64 one.fi, V] = wx at HA6 ⊢
          clear i0 i1 hpl0 hql0 hgl0 hwg hqg hbg hwp hwq
          by_cases hE0 : E = 0
          · subst hE0
            have HL2 := Lib.hid (Hyes.out rfl)
            obtain ⟨h1, h2⟩ : one.sz = sz ∧ one.fi = fi := HL2.out.2.2
            obtain ⟨os, oi, ofs⟩ := one
            simp only at h1 h2
            obtain rfl := h1.symm
            obtain rfl := h2.symm
            clear h1 h2
            obtain ⟨A5, c5, rfl, hX7⟩ := HA6.out.next
            obtain ⟨g5, hg5⟩ := hX7.own.some14 (by have h := (Sg.is_iff.1 HL2.out.2.1).1; omega)
            subst hg5
            simp only at hX7 HA6
            obtain ⟨lo, hlo⟩ : ∃ x, x = ofs.length := ⟨_, rfl⟩
            rw [← hlo] at hX7 HA6
            have Hlo := Lib.hid hlo
            have HX7 := Lib.hid hX7
            obtain ⟨y0, y1, y2, ty, hy⟩ := HA6.out.old
            have b0 : wx.cell? ⟨q, 0, none⟩ = some y0 := cell14 ⟨ty, hy⟩ 0
            have b1 : wx.cell? ⟨q, 1, none⟩ = some y1 := cell14 ⟨ty, hy⟩ 1
            have b2 : wx.cell? ⟨q, 2, none⟩ = some y2 := cell14 ⟨ty, hy⟩ 2
            have a0 := free14 ⟨ty, hy⟩ 0
            have a1 := free14 ⟨ty, hy⟩ 1
            have a2 := free14 ⟨ty, hy⟩ 2
            have n0' : wx.cell? ⟨pc, 0, none⟩ = some (.int .i64 sz) := cell14 HA6.out.new 0
            have n1' : wx.cell? ⟨pc, 1, none⟩ = some (.int .i64 fi) := cell14 HA6.out.new 1
            have n2' : wx.cell? ⟨pc, 2, none⟩ = some (.slice (some ⟨g5, 0, none⟩) lo c5) := cell14 HA6.out.new 2
            clear hX7 hy Hyes Hno hlo
            go_wp2_with fail
            exact ⟨⟨j + 1, ofs, g5, lo, c5, Hjn.out, by rw [Hiw.out]; exact HV7.out, HL2, Hlo, HX7⟩, by rw [Hiw.out]; exact HM7.out⟩
          · have jE : (E != 0) = true := by rw [bne_iff_ne]; exact hE0
            have hgo := Hno.out hE0
            have e2 : Sg.addE ⟨sz, fi, fs⟩ ss = E := by rw [HgE.out, hgo]
            have e1 : Sg.add ⟨sz, fi, fs⟩ ss = Sg.no := by unfold Sg.add; rw [if_neg (by rw [e2]; exact hE0)]
            have H12 := Lib.hid (And.intro e1 e2)
            have b0 : wx.cell? ⟨w.heap.size + 1, 0, none⟩ = some (.int .i64 0) := cell14 HA6.out.res 0
            have b1 : wx.cell? ⟨w.heap.size + 1, 1, none⟩ = some (.int .i64 0) := cell14 HA6.out.res 1
            have b2 : wx.cell? ⟨w.heap.size + 1, 2, none⟩ = some (.slice none 0 0) := cell14 HA6.out.res 2
            have a0 := free14 HA6.out.res 0
            have a1 := free14 HA6.out.res 1
            have a2 := free14 HA6.out.res 2
            clear hgo e1 e2 hE0 Hyes Hno
            go_wp2_with fail
            obtain ⟨t', ht'⟩ := HA6.out.res
            (try simp only [Exit.inBlock, Exit.then]); refine bodyPost_ret (ret_segs2b rfl rfl ht') rfl ?_
            rw [H12.out.1, H12.out.2]
            exact givesS_no (below_set3 (grown_below14 HA6.out.fr) (Nat.le_succ _) _ _ _)
      · have hje : j = l := by omega
        have hgo := Sg.added_end (by have h := HL.out; rw [hje, Hl.out, ← List.length_map (f := bl)] at h; exact h)
        have e2 : Sg.addE ⟨sz, fi, fs⟩ ss = 0 := by rw [HgE.out, hgo]
        have e1 : Sg.add ⟨sz, fi, fs⟩ ss = ⟨sz, fi, fs'⟩ := by unfold Sg.add; rw [if_pos e2, hgo]
        have H12 := Lib.hid (And.intro e1 e2)
        have i1 : ((j : Int) < (l : Int)) = False := eq_false (by omega)
        have x0 := HX.out.x0
        have x1 := HX.out.x1
        have x2 := HX.out.x2
        have a0 := HX.out.rf 0
        have a1 := HX.out.rf 1
        have a2 := HX.out.rf 2
        have b0 := HX.out.r0
        have b1 := HX.out.r1
        have b2 := HX.out.r2
        clear hje hlt hj hgo e1 e2
        go_wp2_with fail
        obtain ⟨t', ht'⟩ := HX.out.res
        (try simp only [Exit.inBlock, Exit.then]); refine bodyPost_ret (ret_segs2b rfl rfl ht') rfl ?_
        obtain ⟨hO, hg⟩ := HX.out.done (.int .i64 sz) (.int .i64 fi) (.slice (some ⟨g, 0, none⟩) n c') HX.out.own rfl
        rw [H12.out.1, H12.out.2]
        exact ⟨some ⟨g, 0, none⟩, c', by rw [Hn'.out]; rfl, OwnS.of (hO.lower HBase.out), grown_below14 hg⟩
  · rw [Bool.not_eq_true] at hi
    have e2 : Sg.addE ⟨sz, fi, fs⟩ ss = 1 := by unfold Sg.addE; rw [hi]; rfl
    have e1 : Sg.add ⟨sz, fi, fs⟩ ss = Sg.no := by unfold Sg.add; rw [e2]; rfl
    rw [e1, e2]
    simp only [hi] at p1
    clear e1 e2 hi hA hs hn hA2 hl hl2 hz
    go_enter Tryz.func9, Tryz.ntmps9
    go_wp2_with fail
    refine (p1 _ ((S0.out.fact 0 rfl).1.more (S0.out.fact 0 rfl).2)).mono ?_
    rintro e w1 ⟨rfl, hB⟩
    have S1 := Lib.hid (S0.out.on hB)
    clear p1 hB S0
    have a0 := S1.out.free 0 rfl 0
    have a1 := S1.out.free 0 rfl 1
    have a2 := S1.out.free 0 rfl 2
    have b0 := S1.out.cell 0 rfl 0 rfl
    have b1 := S1.out.cell 0 rfl 1 rfl
    have b2 := S1.out.cell 0 rfl 2 rfl
    go_wp2_with fail
    obtain ⟨t, ht⟩ := S1.out.live (w.heap.size + 1, #[.int .i64 0, .int .i64 0, .slice none 0 0]) (by simp)
    (try simp only [Exit.inBlock, Exit.then]); refine bodyPost_ret (ret_segs2b rfl rfl ht) rfl ?_
    exact givesS_no (below_set3 S1.out.below (Nat.le_succ _) _ _ _)
end Go.Proofs.YtlnchfnmpamliaaGreat
