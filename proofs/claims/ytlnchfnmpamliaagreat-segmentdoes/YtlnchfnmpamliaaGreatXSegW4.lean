/-
  Layer 14 (segment): the landed code: parts, lastPart, Read.
-/
import Derived.Test.YtlnchfnmpamliaaGreatXSegW2
import Derived.Test.YtlnchfnmpamliaaGreatXRecW4
namespace Go.Proofs.YtlnchfnmpamliaaGreat
set_option maxRecDepth 10000
open Go.RowKit

theorem St.blk14 {w0 w : World} {L : List (Nat × Array Value)} {M : List Fact} (h : St w0 w L M) (i : Nat) {k : Nat} {cs : Array Value} (hi : L[i]? = some (k, cs)) : ∃ t, w.heap[k]? = some (.cells cs t (0, 0)) := h.live (k, cs) (List.mem_of_getElem? hi)
/-- What parts hands back. -/
def PartsS (w : World) (ps : List Prt) (e : Ending) (w' : World) : Prop := ∃ ms A c, e = .returned (.slice A ps.length c) ∧ ms.map Prm.p = ps ∧ OwnP w' w.heap.size (.slice A ps.length c) ms ∧ TxtAt w' (Value.slice A ps.length c).ownBlock ms ∧ Below w.heap.size w w'

theorem PartsS.of {w w1 w2 : World} {v : Value} {ms : List Prm} {ps : List Prt} (h : OwnP w2 w1.heap.size v ms) (ht : TxtAt w2 v.ownBlock ms) (hB : Below w.heap.size w w1) (hB2 : Below w1.heap.size w1 w2) (hp : ms.map Prm.p = ps) : PartsS w ps (.returned v) w2 := by
  obtain ⟨A, c, rfl, _, _⟩ := h.slice
  subst hp
  rw [← List.length_map (f := Prm.p)] at h ht
  refine ⟨ms, A, c, by rw [List.length_map], rfl, h.lower hB.size, ht, below2 hB hB2⟩
/-- The row grows; what is older, and other blocks, stay. -/
theorem below_own14 {w1 w w' : World} {v : Value} {ms : List Prm} (hB : Below w1.heap.size w1 w) (h : OwnP w w1.heap.size v ms) (hg : w.grownBy w' v.ownBlock) : Below w1.heap.size w1 w' :=
  hB.grown hg hB.size (fun k hk => (World.ownsRow.lt h k hk).1)

set_option maxRecDepth 10000 in
set_option maxHeartbeats 2000000 in
theorem parts_any (sz fi : Int) (A : Option Addr) (n c : Nat) (fs : List Fil) (w : World) (hA : FilsAt w w.heap.size A fs) (hi : ∀ f ∈ fs, Fi.is f = true) (hl : n ≤ 20) (hfi : 0 ≤ fi ∧ fi ≤ 900000000) (hn : n = fs.length) :
    Calls Tryz.prog 28 #[.agg #[.int .i64 sz, .int .i64 fi, .slice A n c]] w (PartsS w (Sg.partsL fs fi)) := by
  have Hi := Lib.hid hi
  have Hn := Lib.hid hn
  have Hlen := Lib.hid hl
  have Hfi := Lib.hid hfi
  have S0 := Lib.hid (((St.start w).more (filF14 A w.heap.size fs) ⟨hA, Nat.le_refl _⟩).new #[.int .i64 sz, .int .i64 fi, .slice A n c] 24)
  clear hA hi hl hfi hn
  go_enter Tryz.func28, Tryz.ntmps28
  go_wp2_with fail
  obtain ⟨p0, hp0⟩ : ∃ p, p = w.heap.size := ⟨_, rfl⟩
  obtain ⟨w1, hw1⟩ : ∃ x, x = w.alloc (.cells #[.int .i64 sz, .int .i64 fi, .slice A n c] 24) := ⟨_, rfl⟩
  rw [← hw1] at S0 ⊢
  rw [← hp0] at S0 ⊢
  clear hw1 hp0
  go_loopw [3, 4, 15] (fun v m i wr => ∃ (j : Nat) (ms : List Prm) (nn : Int), j ≤ n ∧ i = .int .i64 (j : Int) ∧ m = .int .i64 nn ∧ ms.length ≤ j ∧ Hid (0 ≤ nn ∧ nn ≤ 900000000 + 4000 * (j : Int)) ∧ Hid (Sg.partsL fs fi = ms.map Prm.p ++ Sg.partsL (fs.drop j) nn) ∧ Hid (OwnP wr w1.heap.size v ms ∧ TxtAt wr v.ownBlock ms) ∧ Hid (St w wr [(p0, #[.int .i64 sz, .int .i64 fi, .slice A n c])] [filF14 A p0 fs]) ∧ Hid (Below w1.heap.size w1 wr)) (fun _ _ i _ => n - (intOf i).toNat)
  case atStart => exact ⟨0, [], fi, Nat.zero_le _, rfl, rfl, Nat.le_refl _, Lib.hid (by have := Hfi.out; omega), Lib.hid (by simp), Lib.hid ⟨OwnP.nil _ _, TxtAt.nil _ _⟩, S0, Lib.hid (Below.refl _ _)⟩
  case round =>
    obtain ⟨j, ms, nn, hj, rfl, rfl, hms, Hnn, HL, HO, S1, HB1⟩ := hrel
    obtain ⟨Av, cv, rfl, _, _⟩ := HO.out.1.slice
    have c2 := S1.out.cell 0 rfl 2 rfl
    by_cases hlt : j < n
    · have hlt' : j < fs.length := by have := Hn.out; omega
      obtain ⟨b, off, rfl, hb, h3⟩ := (S1.out.fact 0 rfl).1 j hlt'
      obtain ⟨⟨xm, xk, xl⟩, hx⟩ : ∃ x, x = fs[j] := ⟨_, rfl⟩
      have hfi : Fi.is ⟨xm, xk, xl⟩ = true := by rw [hx]; exact Hi.out _ (List.getElem_mem hlt')
      have hz := Rc.is_small9 hfi
      rw [← hx] at h3
      have e0 := h3.c0
      have e1 := h3.c1
      have e2 := h3.c2
      simp only at e0 e1 e2
      have hpa := Sg.partsL_at hlt' nn
      rw [← hx] at hpa
      obtain ⟨us, q, hus⟩ : ∃ us q, (us, q) = Sg.sc ⟨xm, xk, xl⟩ nn := ⟨_, _, rfl⟩
      have hcnt := Sg.sc_cnt ⟨xm, xk, xl⟩ nn
      have hrs : (Fi.read ⟨xm, xk, xl⟩).size ≤ 4000 := by
        have h := Fi.is_small hfi
        rw [Fi.read_size]; omega
      have Hus : Hid (us.length ≤ 4000) := Lib.hid (by rw [← hus] at hcnt; simp only at hcnt; omega)
      have hprt : Sg.prt ⟨xm, xk, xl⟩ nn = ⟨⟨xm, xk, xl⟩, nn, us, q⟩ := by unfold Sg.prt; rw [← hus]
      have hwh : Sg.whole ⟨xm, xk, xl⟩ nn = Prt.whole ⟨⟨xm, xk, xl⟩, nn, us, q⟩ := by rw [← hprt]; rfl
      rw [hprt, hwh, ← hus] at hpa
      simp only at hpa
      have Hpa := Lib.hid hpa
      have p1 := fun W => fread_any xm xk xl hz W
      obtain ⟨r, hr⟩ : ∃ r, r = Fi.read ⟨xm, xk, xl⟩ := ⟨_, rfl⟩
      have p2 := fun W => rscan_any r nn (by rw [hr]; omega) W
      unfold ScanS at p2
      have e9 : Rc.scan (bl r) nn = (us, q) := by rw [hr]; exact hus.symm
      rw [e9] at p2
      rw [← hr] at p1
      have hb2 : 0 ≤ (j : Int) + 1 ∧ (j : Int) + 1 ≤ 4000000000 := by have := Hlen.out; omega
      have Hiw : Hid (wrap64 ((j : Int) + 1) = (j : Int) + 1) := Lib.hid (by unfold wrap64; omega)
      have p3 := fun W A3 c3 => whole_any ⟨⟨⟨xm, xk, xl⟩, nn, us, q⟩, A3, c3⟩ hz W
      have p4 := fun W A3 c3 => next_any ⟨⟨⟨xm, xk, xl⟩, nn, us, q⟩, A3, c3⟩ (by show 0 ≤ nn + (us.length : Int) ∧ nn + (us.length : Int) ≤ 4000000000; have := Hnn.out; have := Hus.out; have := Hlen.out; omega) W
      unfold prmV at p3 p4
      simp only at p3 p4
      obtain ⟨bb, hbb⟩ : ∃ x, x = Prt.whole ⟨⟨xm, xk, xl⟩, nn, us, q⟩ := ⟨_, rfl⟩
      rw [← hbb] at p3 hpa Hpa
      obtain ⟨nx, hnx⟩ : ∃ x, x = Prt.next ⟨⟨xm, xk, xl⟩, nn, us, q⟩ := ⟨_, rfl⟩
      rw [← hnx] at p4
      have Hnx : Hid (nx = nn + (us.length : Int)) := Lib.hid hnx
      clear hbb hnx
      clear h3 hb hx hz hus hcnt hrs hr e9 hfi hb2 hpa hprt hwh
      go_wp2_with fail
      have S2 := Lib.hid (S1.out.new #[.int .i64 xm, .string xk, .string xl] 47)
      have HO2 := Lib.hid (And.intro (HO.out.1.below (below_new wr (.cells #[.int .i64 xm, .string xk, .string xl] 47))) (HO.out.2.on (below_new wr (.cells #[.int .i64 xm, .string xk, .string xl] 47))))
      have HB2 := Lib.hid (below2 HB1.out (below_new wr (.cells #[.int .i64 xm, .string xk, .string xl] 47)))
      obtain ⟨q0, hq0⟩ : ∃ q, q = wr.heap.size := ⟨_, rfl⟩
      obtain ⟨w2, hw2⟩ : ∃ x, x = wr.alloc (.cells #[.int .i64 xm, .string xk, .string xl] 47) := ⟨_, rfl⟩
      rw [← hw2] at S2 HO2 HB2 ⊢
      rw [← hq0] at S2 ⊢
      clear hw2 hq0 S1 HO HB1 c2 e0 e1 e2
      refine (p1 _).mono ?_
      rintro e w3 ⟨rfl, hB⟩
      have S3 := Lib.hid (S2.out.on hB)
      have HO3 := Lib.hid (And.intro (HO2.out.1.below hB) (HO2.out.2.on hB))
      have HB3 := Lib.hid (below2 HB2.out hB)
      clear hB p1 S2 HO2 HB2
      go_wp2_with fail
      refine (p2 _).mono ?_
      rintro e w4 ⟨A3, c3, rfl, hT, hc3, hB, hnil, hge⟩
      have S4 := Lib.hid (S3.out.on hB)
      have HO4 := Lib.hid (And.intro (HO3.out.1.below hB) (HO3.out.2.on hB))
      have HB4 := Lib.hid (below2 HB3.out hB)
      have HM : Hid (∃ m : Prm, m = ⟨⟨⟨xm, xk, xl⟩, nn, us, q⟩, A3, c3⟩ ∧ TxtAt w4 (Value.slice Av ms.length cv).ownBlock (ms ++ [m])) := Lib.hid ⟨_, rfl, HO4.out.2.snoc hT hnil hc3 (fun a ha e => by
        have h1 := hge a ha
        have h2 := (World.ownsRow.lt HO3.out.1 _ e).2
        omega)⟩
      obtain ⟨L, hL⟩ : ∃ L, L = us.length := ⟨_, rfl⟩
      have HL2 := Lib.hid hL
      try dsimp only
      rw [← hL] at p3 p4 ⊢
      clear hB p2 S3 HO3 HB3 hT hc3 hnil hge hL
      have d0 := S4.out.cell 0 rfl 0 rfl
      have d1 := S4.out.cell 0 rfl 1 rfl
      have d2 := S4.out.cell 0 rfl 2 rfl
      obtain ⟨m, hm, hTx⟩ := HM.out
      clear HM
      have T5 : Below w4.heap.size w4 ((w4.alloc (.cells #[.int .i64 xm, .string xk, .string xl, .int .i64 nn, .slice A3 L c3, .int .i64 (q : Nat)] 49)).alloc (.cells #[.int .i64 xm, .string xk, .string xl, .int .i64 nn, .slice A3 L c3, .int .i64 (q : Nat)] 49)) := below_new2 w4 _ _
      have S5 := (St.start w4).box2 #[.int .i64 xm, .string xk, .string xl, .int .i64 nn, .slice A3 L c3, .int .i64 (q : Nat)] #[.int .i64 xm, .string xk, .string xl, .int .i64 nn, .slice A3 L c3, .int .i64 (q : Nat)] 49 49
      obtain ⟨w5, hw5⟩ : ∃ x, x = ((w4.alloc (.cells #[.int .i64 xm, .string xk, .string xl, .int .i64 nn, .slice A3 L c3, .int .i64 (q : Nat)] 49)).alloc (.cells #[.int .i64 xm, .string xk, .string xl, .int .i64 nn, .slice A3 L c3, .int .i64 (q : Nat)] 49)) := ⟨_, rfl⟩
      rw [← hw5] at T5 S5
      have hO5 := HO4.out.1.below T5
      have hT5 := hTx.on T5
      have hB5 := below2 HB4.out T5
      have hgk : (Value.slice Av ms.length cv).ownBlock ≠ some w4.heap.size := fun e => by have := (World.ownsRow.lt HO4.out.1 _ e).2; omega
      have hP5 : Pr6 w5 (w4.heap.size + 1) 0 m := by
        have hc := fun j => cells14 (S5.blk14 0 rfl) j
        rw [hm]
        refine ⟨hc 0, hc 1, hc 2, hc 3, ?_, hc 5⟩
        simp only [Nat.zero_add]; rw [hc 4, HL2.out]; rfl
      have hK5 := S5.blk14 1 rfl
      have HO5 := Lib.hid hO5
      have HT5 := Lib.hid hT5
      have HB5 := Lib.hid hB5
      have HP5 := Lib.hid hP5
      have HK5 := Lib.hid hK5
      have Hgk := Lib.hid hgk
      have Hbl : Hid (w1.heap.size ≤ w5.heap.size) := Lib.hid hB5.size
      have Hms : Hid (ms.length ≤ 100000) := Lib.hid (by have := Hlen.out; omega)
      have Hw5 := Lib.hid hw5
      have Hm := Lib.hid hm
      have Hmsj := Lib.hid hms
      clear T5 S5 hw5 hO5 hT5 hB5 hgk hP5 hK5 hm hTx HO4 HB4 hms
      go_wp2_with (at_builtin
                   rw [← Hw5.out]
                   refine wpList_append_prm rfl _ _ rfl w1.heap.size _ ms m rfl HO5.out (w4.heap.size + 1) rfl HP5.out Hbl.out Hms.out ?_
                   intro v6 w6 hO hg hv
                   have HB6 := Lib.hid (below_own14 HB5.out HO5.out hg)
                   have HT6 := Lib.hid (HT5.out.grown hg hv)
                   have HO6 := Lib.hid hO
                   have hK6 := kept14 HK5.out hg (fun e => Hgk.out e.symm)
                   clear hO hg hv d0 d1 d2
                   have HK6 := Lib.hid hK6
                   have d0 := cells14 hK6 0
                   have d1 := cells14 hK6 1
                   have d2 := cells14 hK6 2
                   have d3 := cells14 hK6 3
                   have d4 := cells14 hK6 4
                   have d5 := cells14 hK6 5
                   clear hK6)
      refine (p3 _ _ _).mono ?_
      rintro e w7 ⟨rfl, hB⟩
      have HO7 := Lib.hid (And.intro (HO6.out.below hB) (HT6.out.on hB))
      have HB7 := Lib.hid (below2 HB6.out hB)
      have hK7 := kept14 HK6.out (below_grown14 hB none) (fun e => nomatch e)
      clear d0 d1 d2 d3 d4 d5 hB p3 HO6 HT6 HB6 HK6
      have d0 := cells14 hK7 0
      have d1 := cells14 hK7 1
      have d2 := cells14 hK7 2
      have d3 := cells14 hK7 3
      have d4 := cells14 hK7 4
      have d5 := cells14 hK7 5
      clear hK7
      cases bb
      · have HR : Hid ((ms ++ [m]).map Prm.p = Sg.partsL fs fi) := Lib.hid (by rw [HL.out, Hpa.out, List.map_append, Hm.out]; rfl)
        clear Hpa p4
        go_wp2
        go_ret
        exact PartsS.of HO7.out.1 HO7.out.2 S0.out.below HB7.out HR.out
      · have HR : Hid (Sg.partsL fs fi = (ms ++ [m]).map Prm.p ++ Sg.partsL (fs.drop (j + 1)) nx) := Lib.hid (by rw [HL.out, Hpa.out, List.map_append, Hm.out, Hnx.out, if_pos rfl]; simp)
        clear Hpa
        go_wp2_with fail
        refine (p4 _ _ _).mono ?_
        rintro e w8 ⟨rfl, hB⟩
        have HO8 := Lib.hid (And.intro (HO7.out.1.below hB) (HO7.out.2.on hB))
        have HB8 := Lib.hid (below2 HB7.out hB)
        clear d0 d1 d2 d3 d4 d5 hB p4 HO7 HB7
        have HV : Hid (Value.int .i64 ((j : Int) + 1) = Value.int .i64 ((j + 1 : Nat) : Int)) := Lib.hid (by rw [Int.natCast_succ])
        have HMe : Hid (n - (intOf (Value.int .i64 ((j : Int) + 1))).toNat < n - (intOf (Value.int .i64 (j : Int))).toNat) := Lib.hid (by simp only [intOf]; omega)
        have Hnn2 : Hid (0 ≤ nx ∧ nx ≤ 900000000 + 4000 * ((j + 1 : Nat) : Int)) := Lib.hid (by have := Hnn.out; have := Hus.out; have := Hnx.out; omega)
        have Hml : Hid ((ms ++ [m]).length ≤ j + 1) := Lib.hid (by rw [List.length_append]; have := Hmsj.out; simp; omega)
        go_wp2
        go_roundw
        case rel => exact ⟨j + 1, ms ++ [m], nx, hlt, by rw [Hiw.out]; exact HV.out, rfl, Hml.out, Hnn2, HR, HO8, Lib.hid (S0.out.on HB8.out), HB8⟩
        case measure => rw [Hiw.out]; exact HMe.out
    · have HR : Hid (ms.map Prm.p = Sg.partsL fs fi) := Lib.hid (by rw [HL.out, List.drop_eq_nil_of_le (by have := Hn.out; omega)]; simp [Sg.partsL])
      go_wp2
      go_ret
      exact PartsS.of HO.out.1 HO.out.2 S0.out.below HB1.out HR.out

/-- A whole block is written anew. -/
theorem St.setR14 {w0 w : World} {k : Nat} {cs : Array Value} {L : List (Nat × Array Value)} {M : List Fact} (h : St w0 w ((k, cs) :: L) M) (hk : w0.heap.size ≤ k) (hL : ∀ u ∈ L, u.1 ≠ k) (cs' : Array Value) : St w0 (w.setRow k cs') ((k, cs') :: L) [] := by
  refine ⟨fun u hu => ?_, (fun _ h => nomatch h), below_setRow h.below hk cs'⟩
  rcases List.mem_cons.1 hu with rfl | hu
  · obtain ⟨t, ht⟩ := h.live (k, cs) (by simp)
    exact ⟨t, setRow_heap _ _ _ _ _ _ ht⟩
  · obtain ⟨t, ht⟩ := h.live u (List.mem_cons_of_mem _ hu)
    have hne := hL u hu
    refine ⟨t, ?_⟩
    rw [← ht]
    simp only [World.setRow, Array.getElem?_modify]
    rw [if_neg (fun e => hne e.symm)]
theorem wpList_storew14 {P : Program} {ops : Array Oper} {rest : List Oper} {o : Oper} {a : Act} {w : World} {Q : Exit → Act → World → Prop} (hgd : o.guard = none) (ty : TypeId) (x y : Operand) (ho : o.op = .store ty x y)
    {w0 : World} {k : Nat} {z : Array Value} {L : List (Nat × Array Value)} {M : List Fact} (hS : St w0 w ((k, z) :: L) M) (hk : w0.heap.size ≤ k) (hL : ∀ u ∈ L, u.1 ≠ k) (cs : Array Value) (hx : a.eval x = .pointer (some ⟨k, 0, none⟩)) (hy : a.eval y = .agg cs)
    (hz : (P.info? ty).map (·.size) = some cs.size) (hsz : z.size = cs.size) (h1 : cs.all (·.oneCell') = true)
    (h : ∀ w', St w0 w' ((k, cs) :: L) [] → wpList P ops Q rest (a.put o.dst undef) w') : wpList P ops Q (o :: rest) a w := by
  obtain ⟨t, ht⟩ := hS.live (k, z) (by simp)
  exact wpList_store_row hgd ty x y ho k cs hx hy t z ht hz hsz h1 (h _ (hS.setR14 hk hL cs))
/-- The last one of the parts. -/
theorem last14 {w : World} {base n c : Nat} {A : Option Addr} {ms : List Prm} {ps : List Prt} {p : Prt} (h : OwnP w base (.slice A n c) ms) (hm : ms.map Prm.p = ps ++ [p]) : ∃ g m, A = some ⟨g, 0, none⟩ ∧ g < w.heap.size ∧ base ≤ g ∧ m.p = p ∧ Pr6 w g (ps.length * 6) m := by
  have hl : ps.length < ms.length := by have := congrArg List.length hm; simp at this; omega
  obtain ⟨g, e, h1, h2, h3⟩ := h.at hl
  refine ⟨g, ms[ps.length], e, h1, h2, ?_, h3⟩
  have h4 : (ms.map Prm.p)[ps.length]'(by simpa using hl) = p := by
    simp only [hm]; simp
  simpa using h4

set_option maxHeartbeats 1000000 in
theorem lastPart_any (sz fi : Int) (A : Option Addr) (n c : Nat) (fs : List Fil) (w : World) (hA : FilsAt w w.heap.size A fs) (hi : Sg.is ⟨sz, fi, fs⟩ = true) (hn : n = fs.length) (ps : List Prt) (p : Prt) (hp : Sg.partsL fs fi = ps ++ [p]) :
    Calls Tryz.prog 30 #[.agg #[.int .i64 sz, .int .i64 fi, .slice A n c]] w fun e w' => ∃ A c, e = .returned (.agg (prmV ⟨p, A, c⟩)) ∧ Below w.heap.size w w' := by
  have hb := (Sg.is_iff.1 hi).1
  simp only at hb
  have p1 := fun W (h : FilsAt W W.heap.size A fs) => parts_any sz fi A n c fs W h (Sg.files_is hi) (by omega) hb.2.1 hn
  unfold PartsS at p1
  rw [hp] at p1
  have hpl : (ps ++ [p]).length = ps.length + 1 := by simp
  have hlen := Sg.partsL_len fs fi
  rw [hp, hpl] at hlen
  rw [hpl] at p1
  obtain ⟨K, hK⟩ : ∃ K, K = ps.length := ⟨_, rfl⟩
  obtain ⟨N, hN⟩ : ∃ N, N = K + 1 := ⟨_, rfl⟩
  have wk : wrap64 ((N : Int) - 1) = (K : Int) := by unfold wrap64; omega
  rw [← hK, ← hN] at p1
  have HK := Lib.hid hK
  have i1 : (K : Int) < (N : Int) := by omega
  have i0 : (0 : Int) ≤ (K : Int) := by omega
  have HN := Lib.hid hN
  have S0 := Lib.hid (((St.start w).more (filF14 A w.heap.size fs) ⟨hA, Nat.le_refl _⟩).box2 #[.int .i64 sz, .int .i64 fi, .slice A n c] #[.int .i64 0, .string ⟨#[]⟩, .string ⟨#[]⟩, .int .i64 0, .slice none 0 0, .int .i64 0] 24 49)
  clear hA hi hn hp hb hlen hpl hK hN
  go_enter Tryz.func30, Tryz.ntmps30
  go_wp2_with fail
  refine (p1 _ ((S0.out.fact 0 rfl).1.more (S0.out.fact 0 rfl).2)).mono ?_
  rintro e w1 ⟨ms, A2, c2, rfl, hms, hO, hT, hB⟩
  have S1 := Lib.hid (S0.out.on hB)
  obtain ⟨g, ⟨⟨⟨xm, xk, xl⟩, n1, ts, q⟩, A3, c3⟩, rfl, hg, hbg, hm, h6⟩ := last14 hO hms
  rw [← HK.out] at h6
  have e0 := h6.c0
  have e1 := h6.c1
  have e2 := h6.c2
  have e3 := h6.c3
  have e4 := h6.c4
  have e5 := h6.c5
  simp only at e0 e1 e2 e3 e4 e5 hm
  clear p1 hB S0 hms hO hT hg hbg h6
  have Hm := Lib.hid hm
  obtain ⟨L, hL⟩ : ∃ L, L = ts.length := ⟨_, rfl⟩
  rw [← hL] at e4
  have HL := Lib.hid hL
  clear hm hL
  go_wp2_with (refine wpList_storew14 rfl 49 _ _ rfl S1.out (Nat.le_succ _) (by intro u hu; simp at hu; subst hu; simp) #[.int .i64 xm, .string xk, .string xl, .int .i64 n1, .slice A3 L c3, .int .i64 (q : Nat)] rfl rfl (by rfl) rfl (by simp [Value.oneCell']) ?_; intro w2 hS2; have S2 := Lib.hid hS2; clear hS2)
  obtain ⟨t, ht⟩ := S2.out.blk14 0 rfl
  (try simp only [Exit.inBlock, Exit.then]); refine bodyPost_ret (results_cell_row rfl _ _ _ _ _ (0, 0) _ rfl ht Tryz.underlying49 rfl (by rfl)) rfl ?_
  exact ⟨A3, c3, by rw [← Hm.out, HL.out]; rfl, S2.out.below⟩
end Go.Proofs.YtlnchfnmpamliaaGreat
