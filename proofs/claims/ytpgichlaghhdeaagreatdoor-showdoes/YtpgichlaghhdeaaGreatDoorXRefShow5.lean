/-
  Layer 11 (show), the reference: Parse.
-/
import Derived.Test.YtpgichlaghhdeaaGreatDoorXRefShow4
import Derived.Test.YtpgichlaghhdeaaGreatDoorXJb
import Derived.Deep.DeepCutAuto
namespace Go.Proofs.YtpgichlaghhdeaaGreatDoor
set_option maxRecDepth 10000
open Go.RowKit

theorem St.rowSetS {w0 u w : World} {L : List (Nat × Array Value)} {M : List Fact} (h0 : St w0 u L M) {k : Nat} {old cs : Array Value} (hS : St w0 w ((k, old) :: L) M) (hb : Below u.heap.size u w) (hk : u.heap.size ≤ k) : St w0 (w.setRow k cs) ((k, cs) :: L) M := by
  obtain ⟨t, ht⟩ := hS.live (k, old) (by simp)
  exact (h0.on (below_setRow hb hk cs)).add ⟨t, setRow_heap _ _ _ _ _ _ ht⟩
theorem St.pickM {w0 w : World} {L : List (Nat × Array Value)} {M : List Fact} (h : St w0 w L M) (L' : List (Nat × Array Value)) (hL : ∀ x ∈ L', x ∈ L) : St w0 w L' M := ⟨fun x hx => h.live x (hL x hx), h.facts, h.below⟩
/-- Four of five texts of a row. -/
def strF (bw ow : Nat) (y1 y2 y3 y4 : ByteArray) : Fact :=
  ⟨fun W => bw < W.heap.size ∧ W.cell? ⟨bw, ow + 1, none⟩ = some (.string y1) ∧ W.cell? ⟨bw, ow + 2, none⟩ = some (.string y2) ∧ W.cell? ⟨bw, ow + 3, none⟩ = some (.string y3) ∧ W.cell? ⟨bw, ow + 4, none⟩ = some (.string y4),
   fun _ _ h hb => ⟨Nat.lt_of_lt_of_le h.1 hb.size, (hb.cell (p := ⟨bw, ow + 1, none⟩) h.1).trans h.2.1, (hb.cell (p := ⟨bw, ow + 2, none⟩) h.1).trans h.2.2.1, (hb.cell (p := ⟨bw, ow + 3, none⟩) h.1).trans h.2.2.2.1, (hb.cell (p := ⟨bw, ow + 4, none⟩) h.1).trans h.2.2.2.2⟩⟩

theorem Sh.cand_len {l : List UInt8} (h : (Sh.words l).length ≠ 5) : Sh.cand l = none := by
  unfold Sh.cand
  split
  · rename_i e; rw [e] at h; exact absurd rfl h
  · rfl
theorem Sh.ok_none {l : List UInt8} (h : Sh.cand l = none) : Sh.ok l = false := by unfold Sh.ok; rw [h]
theorem Sh.cand_five {l w0 w1 w2 w3 w4 : List UInt8} (h : Sh.words l = [w0, w1, w2, w3, w4]) : Sh.cand l = if Sp.ok w0 then some ⟨Sp.parB w0, Sp.parC w0, Sh.phaseOf w1, Sh.numI w2, Sh.numI w3, Sh.numI w4⟩ else none := by
  unfold Sh.cand; rw [h]
/-- The phase of a name, as far as it was asked. -/
def Sh.upTo (l : List UInt8) : Nat → Int
  | 0 => 0
  | k + 1 => if Lf.nameL ((k : Int) + 1) = l then (k : Int) + 1 else Sh.upTo l k
theorem Sh.upTo_four (l : List UInt8) : Sh.upTo l 4 = Sh.phaseOf l := rfl

/-- What the reference asks besides for a parse. -/
structure RefPK : Prop where
  line : RefLK
  parse4 : ∀ (s : ByteArray) (w : World), Calls Tryz.prog 38 #[.string s] w fun e w' => e = .returned (.tuple #[.agg #[.int .i64 (Sp.parB (bl s)), .int .i64 (Sp.parC (bl s))], .int .i64 (Sp.parE (bl s))]) ∧ Below w.heap.size w w'

set_option maxHeartbeats 8000000 in
theorem RParse11_any (HK : Hid RefPK) (s : ByteArray) (hs : s.size ≤ 400) (w : World) :
    Calls Tryz.prog 12 #[.string s] w fun e w' => e = .returned (.tuple #[.agg (sixV (Sh.parA (bl s))), .int .i64 (Sh.parE (bl s))]) ∧ Below w.heap.size w w' := by
  obtain ⟨r, hr⟩ : ∃ r, r = Sh.parA (bl s) := ⟨_, rfl⟩
  obtain ⟨er, her⟩ : ∃ er, er = Sh.parE (bl s) := ⟨_, rfl⟩
  have Hr := Lib.hid hr
  have Her := Lib.hid her
  rw [← hr, ← her]
  have HN : Hid (Sh.ok (bl s) = false → r = Am.zero ∧ er = 20) := Lib.hid (fun h => by rw [hr, her]; exact Sh.not_ok h)
  clear hr her
  have kW := fun W => RWords_any s hs W
  have hS0 : St w (w.alloc (.cells #[.int .i64 0, .int .i64 0, .int .i64 0, .int .i64 0, .int .i64 0, .int .i64 0] 25)) [(w.heap.size, sixV Am.zero)] [] := (St.start w).new _ _
  have HS0 := Lib.hid hS0
  have HB0 := Lib.hid (below_new w (.cells #[.int .i64 0, .int .i64 0, .int .i64 0, .int .i64 0, .int .i64 0, .int .i64 0] 25))
  clear hs hS0
  go_enter Tryz.func12, Tryz.ntmps12
  go_wp2_with fail
  refine (kW _).mono ?_
  rintro e w2 ⟨Aw, n, cw, xs, rfl, hn, hxs, hX, hB⟩
  have HS2 := Lib.hid (HS0.out.on hB)
  have HB2 := Lib.hid (below2 HB0.out hB)
  have HX := Lib.hid hX
  have Hn := Lib.hid hn
  have Hxs := Lib.hid hxs
  clear hn hxs hX hB kW HS0 HB0
  obtain ⟨p, hp⟩ : ∃ p, p = w.heap.size := ⟨_, rfl⟩
  have Hp := Lib.hid hp
  rw [← hp] at HS2 ⊢
  clear hp
  by_cases h5 : n = 5
  · subst h5
    obtain ⟨y0, y1, y2, y3, y4, rfl⟩ : ∃ y0 y1 y2 y3 y4, xs = [y0, y1, y2, y3, y4] := by
      match xs, Hn.out with
      | [y0, y1, y2, y3, y4], _ => exact ⟨y0, y1, y2, y3, y4, rfl⟩
    obtain ⟨bw, ow, rfl, hbw, e0⟩ := HX.out 0 (by simp)
    have hF : (strF bw ow y1 y2 y3 y4).on w2 := by
      have f1 := HX.out 1 (by simp)
      have f2 := HX.out 2 (by simp)
      have f3 := HX.out 3 (by simp)
      have f4 := HX.out 4 (by simp)
      obtain ⟨_, _, e, _, f1⟩ := f1
      cases e
      obtain ⟨_, _, e, _, f2⟩ := f2
      cases e
      obtain ⟨_, _, e, _, f3⟩ := f3
      cases e
      obtain ⟨_, _, e, _, f4⟩ := f4
      cases e
      exact ⟨hbw, f1, f2, f3, f4⟩
    have HS3 := Lib.hid (HS2.out.more _ hF)
    have hc := Sh.cand_five Hxs.out.symm
    have Hc := Lib.hid hc
    have e0' : w2.cell? ⟨bw, ow, none⟩ = some (.string y0) := e0
    obtain ⟨b, hb⟩ : ∃ b, b = Sp.parB (bl y0) := ⟨_, rfl⟩
    obtain ⟨c, hcc⟩ : ∃ c, c = Sp.parC (bl y0) := ⟨_, rfl⟩
    have g1 := fun W => HK.out.parse4 y0 W
    rw [← hb, ← hcc] at hc
    rw [← hb, ← hcc] at Hc
    simp only [← hb, ← hcc] at g1
    clear hc hF hbw e0 HX Hn Hxs HS2 hb hcc
    cases hok : Sp.ok (bl y0) with
    | false =>
      have hpe : Sp.parE (bl y0) = 20 := by unfold Sp.parE; rw [hok]; rfl
      simp only [hpe] at g1
      have He : Hid (r = Am.zero ∧ er = 20) := Lib.hid (HN.out (Sh.ok_none (by rw [Hc.out, hok]; rfl)))
      clear hok hpe Hc
      go_wp2_with fail
      refine (g1 _).mono ?_
      rintro e w3 ⟨rfl, hB⟩
      have HS4 := Lib.hid (HS3.out.on hB)
      have HB4 := Lib.hid (below2 HB2.out hB)
      clear hB g1 HS3 HB2 e0'
      go_wp2_with (first
        | (refine wpList_store_st rfl 23 _ _ rfl HS4.out _ #[.int .i64 b, .int .i64 c] _ rfl rfl (by rfl) rfl (by simp [Value.oneCell']) ?_; intro q w5 hq hS hBn; (try rw [← hq]); have HS5 := Lib.hid hS; have HB5 := Lib.hid (below2 HB4.out hBn); have H65 : Hid (Six w5 p Am.zero) := Lib.hid ⟨hS.live (p, sixV Am.zero) (by simp)⟩; clear hS hq hBn)
        | (refine wpList_store_six rfl 25 _ _ rfl p Am.zero Am.zero rfl rfl H65.out (by rfl) ?_; intro wz hwz; have HZ := Lib.hid (Six.put6 H65.out hwz); have HBz := Lib.hid (below_put6 HB5.out (Nat.le_of_eq Hp.out.symm) hwz); clear hwz))
      (try simp only [Exit.inBlock, Exit.then]); refine bodyPost_ret (ret_alarm (a := Am.zero) rfl rfl HZ.out) rfl ?_
      exact ⟨by rw [He.out.1, He.out.2]; rfl, HBz.out⟩
    | true =>
      have hpe : Sp.parE (bl y0) = 0 := by unfold Sp.parE; rw [hok]; rfl
      simp only [hpe] at g1
      rw [hok, if_pos rfl] at Hc
      clear hok hpe
      go_wp2_with fail
      refine (g1 _).mono ?_
      rintro e w3 ⟨rfl, hB⟩
      have HS4 := Lib.hid (HS3.out.on hB)
      have HB4 := Lib.hid (below2 HB2.out hB)
      clear hB g1 HS3 HB2 e0'
      go_wp2_with (refine wpList_store_st rfl 23 _ _ rfl HS4.out _ #[.int .i64 b, .int .i64 c] _ rfl rfl (by rfl) rfl (by simp [Value.oneCell']) ?_; intro q w6 hq hS hBn; (try rw [← hq]); have H6 := Lib.hid hS; have HB6 := Lib.hid (below2 HB4.out hBn); clear hS hq hBn)
      obtain ⟨n2, hn2⟩ : ∃ n2, n2 = Sh.numI (bl y2) := ⟨_, rfl⟩
      obtain ⟨n3, hn3⟩ : ∃ n3, n3 = Sh.numI (bl y3) := ⟨_, rfl⟩
      obtain ⟨n4, hn4⟩ : ∃ n4, n4 = Sh.numI (bl y4) := ⟨_, rfl⟩
      have g2 := fun W => RNumber_any y2 W
      have g3 := fun W => RNumber_any y3 W
      have g4 := fun W => RNumber_any y4 W
      simp only [← hn2] at g2
      simp only [← hn3] at g3
      simp only [← hn4] at g4
      rw [← hn2, ← hn3, ← hn4] at Hc
      clear hn2 hn3 hn4 HS4 HB4
      go_cut [7] (fun s7 wx => ∃ pa, s7 = .pointer (some ⟨pa, 0, none⟩) ∧ Hid (w6.heap.size ≤ pa) ∧ Hid (St w wx ((pa, #[.int .i64 b, .int .i64 c, .int .i64 0, .int .i64 n2, .int .i64 n3, .int .i64 n4]) :: [(q, #[.int .i64 b, .int .i64 c]), (p, sixV Am.zero)]) [strF bw ow y1 y2 y3 y4]) ∧ Hid (Below w6.heap.size w6 wx))
      case first =>
        have hS : St w w6.drew [(q, #[.int .i64 b, .int .i64 c]), (p, sixV Am.zero)] [strF bw ow y1 y2 y3 y4] := H6.out.drew
        have hB : Below w6.heap.size w6 w6.drew := below_drew (Below.refl _ _) 1
        refine wp_region_held_drew (S := (fun W : World => St w W [(q, #[.int .i64 b, .int .i64 c]), (p, sixV Am.zero)] [strF bw ow y1 y2 y3 y4])) (by kernel_rfl) hS (fun hHeld => ?_)
        generalize hW6 : w6.drew = W6 at hS hB hHeld ⊢
        clear hW6
        refine wpAnyH_take (i := 0) (oi := { dst := some 29, op := Op.load 23 (Operand.tmp 5), type := 23, pos := _, after := #[], guard := none }) (v := ?_) rfl (by kernel_rfl) (by kernel_rfl) (by kernel_rfl) (fun _ _ _ h => h) (Or.inl ⟨by rfl, ?hy⟩) hHeld ?_
        case hy => intro w0 hSw; have d0 := hSw.cell 0 rfl 0 rfl; have d1 := hSw.cell 0 rfl 1 rfl; clear hSw; go_simp; (try with_reducible rfl)
        (try simp only [Act.put, List.setIfInBounds_toArray, List.set_cons_zero, List.set_cons_succ])
        refine wpAnyH_take (i := 1) (oi := { dst := some 30, op := Op.move (Operand.tmp 4), type := 38, pos := _, after := #[], guard := none }) (v := ?_) rfl (by kernel_rfl) (by kernel_rfl) (by kernel_rfl) (fun _ _ _ h => h) (Or.inl ⟨by rfl, ?hy⟩) hHeld ?_
        case hy => intro w0 hSw; (try dsimp only at hSw); go_simp; (try with_reducible rfl)
        (try simp only [Act.put, List.setIfInBounds_toArray, List.set_cons_zero, List.set_cons_succ])
        refine wpAnyH_take (i := 2) (oi := { dst := some 31, op := Op.indexAddr 38 (Operand.tmp 30) (Operand.const (Value.int IntKind.i64 2)), type := 0, pos := _, after := #[{ on := 1, ground := Ground.data }], guard := none }) (v := ?_) rfl (by kernel_rfl) (by kernel_rfl) (by kernel_rfl) (fun _ _ _ h => h) (Or.inl ⟨by rfl, ?hy⟩) hHeld ?_
        case hy => intro w0 hSw; (try dsimp only at hSw); go_simp; (try with_reducible rfl)
        (try simp only [Act.put, List.setIfInBounds_toArray, List.set_cons_zero, List.set_cons_succ])
        refine wpAnyH_take (i := 3) (oi := { dst := some 32, op := Op.load 9 (Operand.tmp 31), type := 9, pos := _, after := #[{ on := 2, ground := Ground.data }], guard := none }) (v := ?_) rfl (by kernel_rfl) (by kernel_rfl) (by kernel_rfl) (fun _ _ _ h => h) (Or.inl ⟨by rfl, ?hy⟩) hHeld ?_
        case hy => intro w0 hSw; have d := (hSw.fact 0 rfl).2.2.1; clear hSw; go_simp; (try with_reducible rfl)
        (try simp only [Act.put, List.setIfInBounds_toArray, List.set_cons_zero, List.set_cons_succ])
        refine wpAnyH_take (i := 5) (oi := { dst := some 34, op := Op.move (Operand.tmp 4), type := 38, pos := _, after := #[], guard := none }) (v := ?_) rfl (by kernel_rfl) (by kernel_rfl) (by kernel_rfl) (fun _ _ _ h => h) (Or.inl ⟨by rfl, ?hy⟩) hHeld ?_
        case hy => intro w0 hSw; (try dsimp only at hSw); go_simp; (try with_reducible rfl)
        (try simp only [Act.put, List.setIfInBounds_toArray, List.set_cons_zero, List.set_cons_succ])
        refine wpAnyH_take (i := 6) (oi := { dst := some 35, op := Op.indexAddr 38 (Operand.tmp 34) (Operand.const (Value.int IntKind.i64 3)), type := 0, pos := _, after := #[{ on := 5, ground := Ground.data }], guard := none }) (v := ?_) rfl (by kernel_rfl) (by kernel_rfl) (by kernel_rfl) (fun _ _ _ h => h) (Or.inl ⟨by rfl, ?hy⟩) hHeld ?_
        case hy => intro w0 hSw; (try dsimp only at hSw); go_simp; (try with_reducible rfl)
        (try simp only [Act.put, List.setIfInBounds_toArray, List.set_cons_zero, List.set_cons_succ])
        refine wpAnyH_take (i := 7) (oi := { dst := some 36, op := Op.load 9 (Operand.tmp 35), type := 9, pos := _, after := #[{ on := 6, ground := Ground.data }], guard := none }) (v := ?_) rfl (by kernel_rfl) (by kernel_rfl) (by kernel_rfl) (fun _ _ _ h => h) (Or.inl ⟨by rfl, ?hy⟩) hHeld ?_
        case hy => intro w0 hSw; have d := (hSw.fact 0 rfl).2.2.2.1; clear hSw; go_simp; (try with_reducible rfl)
        (try simp only [Act.put, List.setIfInBounds_toArray, List.set_cons_zero, List.set_cons_succ])
        refine wpAnyH_take (i := 9) (oi := { dst := some 38, op := Op.move (Operand.tmp 4), type := 38, pos := _, after := #[], guard := none }) (v := ?_) rfl (by kernel_rfl) (by kernel_rfl) (by kernel_rfl) (fun _ _ _ h => h) (Or.inl ⟨by rfl, ?hy⟩) hHeld ?_
        case hy => intro w0 hSw; (try dsimp only at hSw); go_simp; (try with_reducible rfl)
        (try simp only [Act.put, List.setIfInBounds_toArray, List.set_cons_zero, List.set_cons_succ])
        refine wpAnyH_take (i := 10) (oi := { dst := some 39, op := Op.indexAddr 38 (Operand.tmp 38) (Operand.const (Value.int IntKind.i64 4)), type := 0, pos := _, after := #[{ on := 9, ground := Ground.data }], guard := none }) (v := ?_) rfl (by kernel_rfl) (by kernel_rfl) (by kernel_rfl) (fun _ _ _ h => h) (Or.inl ⟨by rfl, ?hy⟩) hHeld ?_
        case hy => intro w0 hSw; (try dsimp only at hSw); go_simp; (try with_reducible rfl)
        (try simp only [Act.put, List.setIfInBounds_toArray, List.set_cons_zero, List.set_cons_succ])
        refine wpAnyH_take (i := 11) (oi := { dst := some 40, op := Op.load 9 (Operand.tmp 39), type := 9, pos := _, after := #[{ on := 10, ground := Ground.data }], guard := none }) (v := ?_) rfl (by kernel_rfl) (by kernel_rfl) (by kernel_rfl) (fun _ _ _ h => h) (Or.inl ⟨by rfl, ?hy⟩) hHeld ?_
        case hy => intro w0 hSw; have d := (hSw.fact 0 rfl).2.2.2.2; clear hSw; go_simp; (try with_reducible rfl)
        (try simp only [Act.put, List.setIfInBounds_toArray, List.set_cons_zero, List.set_cons_succ])
        refine wpAnyH_ready (rs := [4, 14]) (by kernel_rfl) (by simp) ?_
        refine AllReadyH.cons (o := { dst := some 33, op := Op.call { callee := Callee.value (Operand.func 39), args := #[Operand.tmp 32], argTypes := #[9] }, type := 3, pos := _, after := #[{ on := 3, ground := Ground.data }], guard := none }) rfl (fun K hK => ?_) (AllReadyH.cons (o := { dst := some 7, op := Op.alloc 25, type := 0, pos := _, after := #[], guard := none }) rfl (fun K hK => ?_) AllReadyH.nil)
        · go_simp
          refine (g2 _).mono ?_
          rintro e v1 ⟨rfl, hB'⟩
          replace hS := hS.on hB'
          replace hB := below2 hB hB'
          clear hB'
          go_wp2_with fail
          refine hK.out _ _ hS (fun hHeld => ?_)
          clear hK K
          (try simp only [Act.put, List.setIfInBounds_toArray, List.set_cons_zero, List.set_cons_succ])
          refine wpAnyH_ready (rs := [8, 14]) (by kernel_rfl) (by simp) ?_
          refine AllReadyH.cons (o := { dst := some 37, op := Op.call { callee := Callee.value (Operand.func 39), args := #[Operand.tmp 36], argTypes := #[9] }, type := 3, pos := _, after := #[{ on := 7, ground := Ground.data }, { on := 4, ground := Ground.chain }], guard := none }) rfl (fun K hK => ?_) (AllReadyH.cons (o := { dst := some 7, op := Op.alloc 25, type := 0, pos := _, after := #[], guard := none }) rfl (fun K hK => ?_) AllReadyH.nil)
          · go_simp
            refine (g3 _).mono ?_
            rintro e v2 ⟨rfl, hB'⟩
            replace hS := hS.on hB'
            replace hB := below2 hB hB'
            clear hB'
            go_wp2_with fail
            refine hK.out _ _ hS (fun hHeld => ?_)
            clear hK K
            (try simp only [Act.put, List.setIfInBounds_toArray, List.set_cons_zero, List.set_cons_succ])
            refine wpAnyH_ready (rs := [12, 14]) (by kernel_rfl) (by simp) ?_
            refine AllReadyH.cons (o := { dst := some 41, op := Op.call { callee := Callee.value (Operand.func 39), args := #[Operand.tmp 40], argTypes := #[9] }, type := 3, pos := _, after := #[{ on := 11, ground := Ground.data }, { on := 8, ground := Ground.chain }], guard := none }) rfl (fun K hK => ?_) (AllReadyH.cons (o := { dst := some 7, op := Op.alloc 25, type := 0, pos := _, after := #[], guard := none }) rfl (fun K hK => ?_) AllReadyH.nil)
            · go_simp
              refine (g4 _).mono ?_
              rintro e v3 ⟨rfl, hB'⟩
              replace hS := hS.on hB'
              replace hB := below2 hB hB'
              clear hB'
              go_wp2_with fail
              refine hK.out _ _ hS (fun hHeld => ?_)
              clear hK K
              (try simp only [Act.put, List.setIfInBounds_toArray, List.set_cons_zero, List.set_cons_succ])
              refine wpAnyH_take (i := 13) (oi := { dst := some 42, op := Op.build 25 #[(0, Operand.tmp 29), (2, Operand.tmp 33), (3, Operand.tmp 37), (4, Operand.tmp 41)], type := 25, pos := _, after := #[{ on := 0, ground := Ground.data }, { on := 4, ground := Ground.data }, { on := 8, ground := Ground.data }, { on := 12, ground := Ground.data }], guard := none }) (v := ?_) rfl (by kernel_rfl) (by kernel_rfl) (by kernel_rfl) (fun _ _ _ h => h) (Or.inl ⟨by rfl, ?hy⟩) hHeld ?_
              case hy => intro w0 hSw; (try dsimp only at hSw); go_simp; (try with_reducible rfl)
              (try simp only [Act.put, List.setIfInBounds_toArray, List.set_cons_zero, List.set_cons_succ])
              refine wpAnyH_ready (rs := [14]) (by kernel_rfl) (by simp) ?_
              refine AllReadyH.cons (o := { dst := some 7, op := Op.alloc 25, type := 0, pos := _, after := #[], guard := none }) rfl (fun K hK => ?_) AllReadyH.nil
              go_simp
              obtain ⟨pa, hpa⟩ : ∃ pa, pa = v3.heap.size := ⟨_, rfl⟩
              have hpw : w6.heap.size ≤ pa := by rw [hpa]; exact hB.size
              have hSb : St w (v3.alloc (.cells #[.int .i64 0, .int .i64 0, .int .i64 0, .int .i64 0, .int .i64 0, .int .i64 0] 25)) [(q, #[.int .i64 b, .int .i64 c]), (p, sixV Am.zero)] [strF bw ow y1 y2 y3 y4] := hS.on (below_new _ _)
              have hSn := hS.new #[.int .i64 0, .int .i64 0, .int .i64 0, .int .i64 0, .int .i64 0, .int .i64 0] 25
              replace hB := below2 hB (below_new v3 (.cells #[.int .i64 0, .int .i64 0, .int .i64 0, .int .i64 0, .int .i64 0, .int .i64 0] 25))
              rw [← hpa] at hSn ⊢
              clear hS hpa
              have hS := hSn
              clear hSn
              refine hK.out _ _ hSb (fun hHeld => ?_)
              clear hK K
              (try simp only [Act.put, List.setIfInBounds_toArray, List.set_cons_zero, List.set_cons_succ])
              refine wpAnyH_ready (rs := [15]) (by kernel_rfl) (by simp) ?_
              refine AllReadyH.cons (o := { dst := none, op := Op.store 25 (Operand.tmp 7) (Operand.tmp 42), type := 0, pos := _, after := #[{ on := 14, ground := Ground.data }, { on := 13, ground := Ground.data }, { on := 12, ground := Ground.chain }, { on := 0, ground := Ground.phase }, { on := 1, ground := Ground.phase }, { on := 2, ground := Ground.phase }, { on := 3, ground := Ground.phase }, { on := 4, ground := Ground.phase }, { on := 5, ground := Ground.phase }, { on := 6, ground := Ground.phase }, { on := 7, ground := Ground.phase }, { on := 8, ground := Ground.phase }, { on := 9, ground := Ground.phase }, { on := 10, ground := Ground.phase }, { on := 11, ground := Ground.phase }, { on := 12, ground := Ground.phase }, { on := 13, ground := Ground.phase }, { on := 14, ground := Ground.phase }], guard := none }) rfl (fun K hK => ?_) AllReadyH.nil
              rw [if_pos (by rfl)]
              obtain ⟨tz, hz⟩ := hS.live (pa, #[.int .i64 0, .int .i64 0, .int .i64 0, .int .i64 0, .int .i64 0, .int .i64 0]) (by simp)
              refine wp_store_row 25 _ _ rfl pa #[.int .i64 b, .int .i64 c, .int .i64 0, .int .i64 n2, .int .i64 n3, .int .i64 n4] rfl rfl tz _ hz (by rfl) rfl (six_one ⟨b, c, 0, n2, n3, n4⟩) ?_
              have hS2 := H6.out.rowSetS hS hB hpw (cs := #[.int .i64 b, .int .i64 c, .int .i64 0, .int .i64 n2, .int .i64 n3, .int .i64 n4])
              have hSb2 := hS2.pickM [(q, #[.int .i64 b, .int .i64 c]), (p, sixV Am.zero)] (by simp)
              replace hB := below_setRow hB hpw #[.int .i64 b, .int .i64 c, .int .i64 0, .int .i64 n2, .int .i64 n3, .int .i64 n4]
              clear hz hS hSb
              refine hK.out _ _ hSb2 (fun hHeld => ?_)
              clear hK K
              (try simp only [Act.put])
              refine wpAnyH_done (by kernel_rfl) ?_ _
              clear hHeld hSb2
              go_wp2_with fail
              go_meet
              exact ⟨pa, rfl, Lib.hid hpw, Lib.hid hS2, Lib.hid hB⟩
            · go_simp
              obtain ⟨pa, hpa⟩ : ∃ pa, pa = v2.heap.size := ⟨_, rfl⟩
              have hpw : w6.heap.size ≤ pa := by rw [hpa]; exact hB.size
              have hSb : St w (v2.alloc (.cells #[.int .i64 0, .int .i64 0, .int .i64 0, .int .i64 0, .int .i64 0, .int .i64 0] 25)) [(q, #[.int .i64 b, .int .i64 c]), (p, sixV Am.zero)] [strF bw ow y1 y2 y3 y4] := hS.on (below_new _ _)
              have hSn := hS.new #[.int .i64 0, .int .i64 0, .int .i64 0, .int .i64 0, .int .i64 0, .int .i64 0] 25
              replace hB := below2 hB (below_new v2 (.cells #[.int .i64 0, .int .i64 0, .int .i64 0, .int .i64 0, .int .i64 0, .int .i64 0] 25))
              rw [← hpa] at hSn ⊢
              clear hS hpa
              have hS := hSn
              clear hSn
              refine hK.out _ _ hSb (fun hHeld => ?_)
              clear hK K
              (try simp only [Act.put, List.setIfInBounds_toArray, List.set_cons_zero, List.set_cons_succ])
              refine wpAnyH_ready (rs := [12]) (by kernel_rfl) (by simp) ?_
              refine AllReadyH.cons (o := { dst := some 41, op := Op.call { callee := Callee.value (Operand.func 39), args := #[Operand.tmp 40], argTypes := #[9] }, type := 3, pos := _, after := #[{ on := 11, ground := Ground.data }, { on := 8, ground := Ground.chain }], guard := none }) rfl (fun K hK => ?_) AllReadyH.nil
              go_simp
              refine (g4 _).mono ?_
              rintro e v4 ⟨rfl, hB'⟩
              replace hS := hS.on hB'
              replace hSb := hSb.on hB'
              replace hB := below2 hB hB'
              clear hB'
              go_wp2_with fail
              refine hK.out _ _ hSb (fun hHeld => ?_)
              clear hK K
              (try simp only [Act.put, List.setIfInBounds_toArray, List.set_cons_zero, List.set_cons_succ])
              refine wpAnyH_take (i := 13) (oi := { dst := some 42, op := Op.build 25 #[(0, Operand.tmp 29), (2, Operand.tmp 33), (3, Operand.tmp 37), (4, Operand.tmp 41)], type := 25, pos := _, after := #[{ on := 0, ground := Ground.data }, { on := 4, ground := Ground.data }, { on := 8, ground := Ground.data }, { on := 12, ground := Ground.data }], guard := none }) (v := ?_) rfl (by kernel_rfl) (by kernel_rfl) (by kernel_rfl) (fun _ _ _ h => h) (Or.inl ⟨by rfl, ?hy⟩) hHeld ?_
              case hy => intro w0 hSw; (try dsimp only at hSw); go_simp; (try with_reducible rfl)
              (try simp only [Act.put, List.setIfInBounds_toArray, List.set_cons_zero, List.set_cons_succ])
              refine wpAnyH_ready (rs := [15]) (by kernel_rfl) (by simp) ?_
              refine AllReadyH.cons (o := { dst := none, op := Op.store 25 (Operand.tmp 7) (Operand.tmp 42), type := 0, pos := _, after := #[{ on := 14, ground := Ground.data }, { on := 13, ground := Ground.data }, { on := 12, ground := Ground.chain }, { on := 0, ground := Ground.phase }, { on := 1, ground := Ground.phase }, { on := 2, ground := Ground.phase }, { on := 3, ground := Ground.phase }, { on := 4, ground := Ground.phase }, { on := 5, ground := Ground.phase }, { on := 6, ground := Ground.phase }, { on := 7, ground := Ground.phase }, { on := 8, ground := Ground.phase }, { on := 9, ground := Ground.phase }, { on := 10, ground := Ground.phase }, { on := 11, ground := Ground.phase }, { on := 12, ground := Ground.phase }, { on := 13, ground := Ground.phase }, { on := 14, ground := Ground.phase }], guard := none }) rfl (fun K hK => ?_) AllReadyH.nil
              rw [if_pos (by rfl)]
              obtain ⟨tz, hz⟩ := hS.live (pa, #[.int .i64 0, .int .i64 0, .int .i64 0, .int .i64 0, .int .i64 0, .int .i64 0]) (by simp)
              refine wp_store_row 25 _ _ rfl pa #[.int .i64 b, .int .i64 c, .int .i64 0, .int .i64 n2, .int .i64 n3, .int .i64 n4] rfl rfl tz _ hz (by rfl) rfl (six_one ⟨b, c, 0, n2, n3, n4⟩) ?_
              have hS2 := H6.out.rowSetS hS hB hpw (cs := #[.int .i64 b, .int .i64 c, .int .i64 0, .int .i64 n2, .int .i64 n3, .int .i64 n4])
              have hSb2 := hS2.pickM [(q, #[.int .i64 b, .int .i64 c]), (p, sixV Am.zero)] (by simp)
              replace hB := below_setRow hB hpw #[.int .i64 b, .int .i64 c, .int .i64 0, .int .i64 n2, .int .i64 n3, .int .i64 n4]
              clear hz hS hSb
              refine hK.out _ _ hSb2 (fun hHeld => ?_)
              clear hK K
              (try simp only [Act.put])
              refine wpAnyH_done (by kernel_rfl) ?_ _
              clear hHeld hSb2
              go_wp2_with fail
              go_meet
              exact ⟨pa, rfl, Lib.hid hpw, Lib.hid hS2, Lib.hid hB⟩
          · go_simp
            obtain ⟨pa, hpa⟩ : ∃ pa, pa = v1.heap.size := ⟨_, rfl⟩
            have hpw : w6.heap.size ≤ pa := by rw [hpa]; exact hB.size
            have hSb : St w (v1.alloc (.cells #[.int .i64 0, .int .i64 0, .int .i64 0, .int .i64 0, .int .i64 0, .int .i64 0] 25)) [(q, #[.int .i64 b, .int .i64 c]), (p, sixV Am.zero)] [strF bw ow y1 y2 y3 y4] := hS.on (below_new _ _)
            have hSn := hS.new #[.int .i64 0, .int .i64 0, .int .i64 0, .int .i64 0, .int .i64 0, .int .i64 0] 25
            replace hB := below2 hB (below_new v1 (.cells #[.int .i64 0, .int .i64 0, .int .i64 0, .int .i64 0, .int .i64 0, .int .i64 0] 25))
            rw [← hpa] at hSn ⊢
            clear hS hpa
            have hS := hSn
            clear hSn
            refine hK.out _ _ hSb (fun hHeld => ?_)
            clear hK K
            (try simp only [Act.put, List.setIfInBounds_toArray, List.set_cons_zero, List.set_cons_succ])
            refine wpAnyH_ready (rs := [8]) (by kernel_rfl) (by simp) ?_
            refine AllReadyH.cons (o := { dst := some 37, op := Op.call { callee := Callee.value (Operand.func 39), args := #[Operand.tmp 36], argTypes := #[9] }, type := 3, pos := _, after := #[{ on := 7, ground := Ground.data }, { on := 4, ground := Ground.chain }], guard := none }) rfl (fun K hK => ?_) AllReadyH.nil
            go_simp
            refine (g3 _).mono ?_
            rintro e v5 ⟨rfl, hB'⟩
            replace hS := hS.on hB'
            replace hSb := hSb.on hB'
            replace hB := below2 hB hB'
            clear hB'
            go_wp2_with fail
            refine hK.out _ _ hSb (fun hHeld => ?_)
            clear hK K
            (try simp only [Act.put, List.setIfInBounds_toArray, List.set_cons_zero, List.set_cons_succ])
            refine wpAnyH_ready (rs := [12]) (by kernel_rfl) (by simp) ?_
            refine AllReadyH.cons (o := { dst := some 41, op := Op.call { callee := Callee.value (Operand.func 39), args := #[Operand.tmp 40], argTypes := #[9] }, type := 3, pos := _, after := #[{ on := 11, ground := Ground.data }, { on := 8, ground := Ground.chain }], guard := none }) rfl (fun K hK => ?_) AllReadyH.nil
            go_simp
            refine (g4 _).mono ?_
            rintro e v6 ⟨rfl, hB'⟩
            replace hS := hS.on hB'
            replace hSb := hSb.on hB'
            replace hB := below2 hB hB'
            clear hB'
            go_wp2_with fail
            refine hK.out _ _ hSb (fun hHeld => ?_)
            clear hK K
            (try simp only [Act.put, List.setIfInBounds_toArray, List.set_cons_zero, List.set_cons_succ])
            refine wpAnyH_take (i := 13) (oi := { dst := some 42, op := Op.build 25 #[(0, Operand.tmp 29), (2, Operand.tmp 33), (3, Operand.tmp 37), (4, Operand.tmp 41)], type := 25, pos := _, after := #[{ on := 0, ground := Ground.data }, { on := 4, ground := Ground.data }, { on := 8, ground := Ground.data }, { on := 12, ground := Ground.data }], guard := none }) (v := ?_) rfl (by kernel_rfl) (by kernel_rfl) (by kernel_rfl) (fun _ _ _ h => h) (Or.inl ⟨by rfl, ?hy⟩) hHeld ?_
            case hy => intro w0 hSw; (try dsimp only at hSw); go_simp; (try with_reducible rfl)
            (try simp only [Act.put, List.setIfInBounds_toArray, List.set_cons_zero, List.set_cons_succ])
            refine wpAnyH_ready (rs := [15]) (by kernel_rfl) (by simp) ?_
            refine AllReadyH.cons (o := { dst := none, op := Op.store 25 (Operand.tmp 7) (Operand.tmp 42), type := 0, pos := _, after := #[{ on := 14, ground := Ground.data }, { on := 13, ground := Ground.data }, { on := 12, ground := Ground.chain }, { on := 0, ground := Ground.phase }, { on := 1, ground := Ground.phase }, { on := 2, ground := Ground.phase }, { on := 3, ground := Ground.phase }, { on := 4, ground := Ground.phase }, { on := 5, ground := Ground.phase }, { on := 6, ground := Ground.phase }, { on := 7, ground := Ground.phase }, { on := 8, ground := Ground.phase }, { on := 9, ground := Ground.phase }, { on := 10, ground := Ground.phase }, { on := 11, ground := Ground.phase }, { on := 12, ground := Ground.phase }, { on := 13, ground := Ground.phase }, { on := 14, ground := Ground.phase }], guard := none }) rfl (fun K hK => ?_) AllReadyH.nil
            rw [if_pos (by rfl)]
            obtain ⟨tz, hz⟩ := hS.live (pa, #[.int .i64 0, .int .i64 0, .int .i64 0, .int .i64 0, .int .i64 0, .int .i64 0]) (by simp)
            refine wp_store_row 25 _ _ rfl pa #[.int .i64 b, .int .i64 c, .int .i64 0, .int .i64 n2, .int .i64 n3, .int .i64 n4] rfl rfl tz _ hz (by rfl) rfl (six_one ⟨b, c, 0, n2, n3, n4⟩) ?_
            have hS2 := H6.out.rowSetS hS hB hpw (cs := #[.int .i64 b, .int .i64 c, .int .i64 0, .int .i64 n2, .int .i64 n3, .int .i64 n4])
            have hSb2 := hS2.pickM [(q, #[.int .i64 b, .int .i64 c]), (p, sixV Am.zero)] (by simp)
            replace hB := below_setRow hB hpw #[.int .i64 b, .int .i64 c, .int .i64 0, .int .i64 n2, .int .i64 n3, .int .i64 n4]
            clear hz hS hSb
            refine hK.out _ _ hSb2 (fun hHeld => ?_)
            clear hK K
            (try simp only [Act.put])
            refine wpAnyH_done (by kernel_rfl) ?_ _
            clear hHeld hSb2
            go_wp2_with fail
            go_meet
            exact ⟨pa, rfl, Lib.hid hpw, Lib.hid hS2, Lib.hid hB⟩
        · go_simp
          obtain ⟨pa, hpa⟩ : ∃ pa, pa = W6.heap.size := ⟨_, rfl⟩
          have hpw : w6.heap.size ≤ pa := by rw [hpa]; exact hB.size
          have hSb : St w (W6.alloc (.cells #[.int .i64 0, .int .i64 0, .int .i64 0, .int .i64 0, .int .i64 0, .int .i64 0] 25)) [(q, #[.int .i64 b, .int .i64 c]), (p, sixV Am.zero)] [strF bw ow y1 y2 y3 y4] := hS.on (below_new _ _)
          have hSn := hS.new #[.int .i64 0, .int .i64 0, .int .i64 0, .int .i64 0, .int .i64 0, .int .i64 0] 25
          replace hB := below2 hB (below_new W6 (.cells #[.int .i64 0, .int .i64 0, .int .i64 0, .int .i64 0, .int .i64 0, .int .i64 0] 25))
          rw [← hpa] at hSn ⊢
          clear hS hpa
          have hS := hSn
          clear hSn
          refine hK.out _ _ hSb (fun hHeld => ?_)
          clear hK K
          (try simp only [Act.put, List.setIfInBounds_toArray, List.set_cons_zero, List.set_cons_succ])
          refine wpAnyH_ready (rs := [4]) (by kernel_rfl) (by simp) ?_
          refine AllReadyH.cons (o := { dst := some 33, op := Op.call { callee := Callee.value (Operand.func 39), args := #[Operand.tmp 32], argTypes := #[9] }, type := 3, pos := _, after := #[{ on := 3, ground := Ground.data }], guard := none }) rfl (fun K hK => ?_) AllReadyH.nil
          go_simp
          refine (g2 _).mono ?_
          rintro e v7 ⟨rfl, hB'⟩
          replace hS := hS.on hB'
          replace hSb := hSb.on hB'
          replace hB := below2 hB hB'
          clear hB'
          go_wp2_with fail
          refine hK.out _ _ hSb (fun hHeld => ?_)
          clear hK K
          (try simp only [Act.put, List.setIfInBounds_toArray, List.set_cons_zero, List.set_cons_succ])
          refine wpAnyH_ready (rs := [8]) (by kernel_rfl) (by simp) ?_
          refine AllReadyH.cons (o := { dst := some 37, op := Op.call { callee := Callee.value (Operand.func 39), args := #[Operand.tmp 36], argTypes := #[9] }, type := 3, pos := _, after := #[{ on := 7, ground := Ground.data }, { on := 4, ground := Ground.chain }], guard := none }) rfl (fun K hK => ?_) AllReadyH.nil
          go_simp
          refine (g3 _).mono ?_
          rintro e v8 ⟨rfl, hB'⟩
          replace hS := hS.on hB'
          replace hSb := hSb.on hB'
          replace hB := below2 hB hB'
          clear hB'
          go_wp2_with fail
          refine hK.out _ _ hSb (fun hHeld => ?_)
          clear hK K
          (try simp only [Act.put, List.setIfInBounds_toArray, List.set_cons_zero, List.set_cons_succ])
          refine wpAnyH_ready (rs := [12]) (by kernel_rfl) (by simp) ?_
          refine AllReadyH.cons (o := { dst := some 41, op := Op.call { callee := Callee.value (Operand.func 39), args := #[Operand.tmp 40], argTypes := #[9] }, type := 3, pos := _, after := #[{ on := 11, ground := Ground.data }, { on := 8, ground := Ground.chain }], guard := none }) rfl (fun K hK => ?_) AllReadyH.nil
          go_simp
          refine (g4 _).mono ?_
          rintro e v9 ⟨rfl, hB'⟩
          replace hS := hS.on hB'
          replace hSb := hSb.on hB'
          replace hB := below2 hB hB'
          clear hB'
          go_wp2_with fail
          refine hK.out _ _ hSb (fun hHeld => ?_)
          clear hK K
          (try simp only [Act.put, List.setIfInBounds_toArray, List.set_cons_zero, List.set_cons_succ])
          refine wpAnyH_take (i := 13) (oi := { dst := some 42, op := Op.build 25 #[(0, Operand.tmp 29), (2, Operand.tmp 33), (3, Operand.tmp 37), (4, Operand.tmp 41)], type := 25, pos := _, after := #[{ on := 0, ground := Ground.data }, { on := 4, ground := Ground.data }, { on := 8, ground := Ground.data }, { on := 12, ground := Ground.data }], guard := none }) (v := ?_) rfl (by kernel_rfl) (by kernel_rfl) (by kernel_rfl) (fun _ _ _ h => h) (Or.inl ⟨by rfl, ?hy⟩) hHeld ?_
          case hy => intro w0 hSw; (try dsimp only at hSw); go_simp; (try with_reducible rfl)
          (try simp only [Act.put, List.setIfInBounds_toArray, List.set_cons_zero, List.set_cons_succ])
          refine wpAnyH_ready (rs := [15]) (by kernel_rfl) (by simp) ?_
          refine AllReadyH.cons (o := { dst := none, op := Op.store 25 (Operand.tmp 7) (Operand.tmp 42), type := 0, pos := _, after := #[{ on := 14, ground := Ground.data }, { on := 13, ground := Ground.data }, { on := 12, ground := Ground.chain }, { on := 0, ground := Ground.phase }, { on := 1, ground := Ground.phase }, { on := 2, ground := Ground.phase }, { on := 3, ground := Ground.phase }, { on := 4, ground := Ground.phase }, { on := 5, ground := Ground.phase }, { on := 6, ground := Ground.phase }, { on := 7, ground := Ground.phase }, { on := 8, ground := Ground.phase }, { on := 9, ground := Ground.phase }, { on := 10, ground := Ground.phase }, { on := 11, ground := Ground.phase }, { on := 12, ground := Ground.phase }, { on := 13, ground := Ground.phase }, { on := 14, ground := Ground.phase }], guard := none }) rfl (fun K hK => ?_) AllReadyH.nil
          rw [if_pos (by rfl)]
          obtain ⟨tz, hz⟩ := hS.live (pa, #[.int .i64 0, .int .i64 0, .int .i64 0, .int .i64 0, .int .i64 0, .int .i64 0]) (by simp)
          refine wp_store_row 25 _ _ rfl pa #[.int .i64 b, .int .i64 c, .int .i64 0, .int .i64 n2, .int .i64 n3, .int .i64 n4] rfl rfl tz _ hz (by rfl) rfl (six_one ⟨b, c, 0, n2, n3, n4⟩) ?_
          have hS2 := H6.out.rowSetS hS hB hpw (cs := #[.int .i64 b, .int .i64 c, .int .i64 0, .int .i64 n2, .int .i64 n3, .int .i64 n4])
          have hSb2 := hS2.pickM [(q, #[.int .i64 b, .int .i64 c]), (p, sixV Am.zero)] (by simp)
          replace hB := below_setRow hB hpw #[.int .i64 b, .int .i64 c, .int .i64 0, .int .i64 n2, .int .i64 n3, .int .i64 n4]
          clear hz hS hSb
          refine hK.out _ _ hSb2 (fun hHeld => ?_)
          clear hK K
          (try simp only [Act.put])
          refine wpAnyH_done (by kernel_rfl) ?_ _
          clear hHeld hSb2
          go_wp2_with fail
          go_meet
          exact ⟨pa, rfl, Lib.hid hpw, Lib.hid hS2, Lib.hid hB⟩
      case rest =>
        obtain ⟨pa, rfl, Hpw, HSc, HBc⟩ := hcut
        have HBw6 : Hid (Below w.heap.size w w6) := HB6
        clear HB6 g2 g3 g4
        go_wp2_with fail
        go_loopw [8] (fun kv wr => ∃ k : Nat, k ≤ 4 ∧ kv = .int .i64 ((k : Int) + 1) ∧ Hid (St w wr ((pa, #[.int .i64 b, .int .i64 c, .int .i64 (Sh.upTo (bl y1) k), .int .i64 n2, .int .i64 n3, .int .i64 n4]) :: [(q, #[.int .i64 b, .int .i64 c]), (p, sixV Am.zero)]) [strF bw ow y1 y2 y3 y4]) ∧ Hid (Below w6.heap.size w6 wr)) (fun kv _ => 6 - (intOf kv).toNat)
        case atStart => exact ⟨0, by omega, rfl, HSc, HBc⟩
        case round =>
          clear HSc HBc
          obtain ⟨k, hk, rfl, HSr, HBr⟩ := hrel
          by_cases hlt : k < 4
          · have i1 : ((k : Int) + 1 ≤ 4) = True := eq_true (by omega)
            have Ik : Hid (wrap64 ((k : Int) + 1 + 1) = ((k + 1 : Nat) : Int) + 1) := Lib.hid (by unfold wrap64; omega)
            have Hk := Lib.hid hlt
            have g5 := fun W => HK.out.line.name5 ((k : Int) + 1) W
            obtain ⟨u, hu⟩ : ∃ u, u = Sh.upTo (bl y1) k := ⟨_, rfl⟩
            have Hu : Hid (Sh.upTo (bl y1) (k + 1) = if Lf.nameL ((k : Int) + 1) = bl y1 then (k : Int) + 1 else u) := Lib.hid (by rw [hu]; rfl)
            rw [← hu] at HSr
            clear hk hlt hu
            by_cases hn : Lf.nameL ((k : Int) + 1) = bl y1
            · have hq : (strOf (Lf.nameL ((k : Int) + 1))).toList = y1.toList := by rw [hn, strOf_bl]
              rw [if_pos hn] at Hu
              clear hn
              go_wp2_with fail
              refine (g5 _).mono ?_
              rintro e w8 ⟨rfl, hB⟩
              have HS8 := Lib.hid (HSr.out.on hB)
              have HB8 := Lib.hid (below2 HBr.out hB)
              have f1 := (HS8.out.fact 0 rfl).2.1
              clear hB g5 HSr HBr
              go_wp2_with (refine wpList_storec_st rfl 3 _ _ rfl H6.out HS8.out HB8.out Hpw.out 2 (.int .i64 ((k : Int) + 1)) (.int .i64 u) rfl rfl rfl (by rfl) rfl ?_; intro w9 hS9 hB9; have HS9 := Lib.hid hS9; have HB9 := Lib.hid hB9; clear hS9 hB9 f1)
              go_roundw
              case rel => exact ⟨k + 1, Hk.out, by first | rfl | (rw [Ik.out]), by rw [Hu.out]; exact HS9, HB9⟩
              case measure => have := Hk.out; (try rw [Ik.out]); simp [intOf]; omega
            · have hq : ((strOf (Lf.nameL ((k : Int) + 1))).toList == y1.toList) = false := by
                rw [beq_eq_false_iff_ne, strOf_toList]
                intro h
                exact hn (by rw [h]; exact ByteArray.toList_eq y1)
              have hq2 : ¬ (strOf (Lf.nameL ((k : Int) + 1))).toList = y1.toList := by rw [beq_eq_false_iff_ne] at hq; exact hq
              rw [if_neg hn] at Hu
              clear hn
              go_wp2_with fail
              refine (g5 _).mono ?_
              rintro e w8 ⟨rfl, hB⟩
              have HS8 := Lib.hid (HSr.out.on hB)
              have HB8 := Lib.hid (below2 HBr.out hB)
              have f1 := (HS8.out.fact 0 rfl).2.1
              clear hB g5 HSr HBr
              go_wp2
              go_roundw
              case rel => exact ⟨k + 1, Hk.out, by first | rfl | (rw [Ik.out]), by rw [Hu.out]; exact HS8, HB8⟩
              case measure => have := Hk.out; (try rw [Ik.out]); simp [intOf]; omega
          · obtain rfl : k = 4 := by omega
            rw [Sh.upTo_four] at HSr
            obtain ⟨ph, hph⟩ : ∃ ph, ph = Sh.phaseOf (bl y1) := ⟨_, rfl⟩
            rw [← hph] at HSr Hc
            clear hk hlt hph
            have gL := fun W => RLine_any (Lib.hid HK.out.line) b c ph n2 n3 n4 W
            cases hright : Am.right ⟨b, c, ph, n2, n3, n4⟩ with
            | false =>
              have eE : Sh.lineE ⟨b, c, ph, n2, n3, n4⟩ = 1 := by unfold Sh.lineE; rw [hright]; rfl
              simp only [eE] at gL
              have He : Hid (r = Am.zero ∧ er = 20) := Lib.hid (HN.out (by unfold Sh.ok; rw [Hc.out]; simp [hright]))
              clear hright eE
              go_wp2_with (refine wpList_load_st rfl 25 _ rfl HSr.out 0 _ _ rfl rfl _ Tryz.underlying25 rfl (by rfl) ?_)
              refine (gL _).mono ?_
              rintro e w8 ⟨rfl, hB⟩
              have H68 : Hid (Six w8 p Am.zero) := Lib.hid ⟨(HSr.out.on hB).live (p, sixV Am.zero) (by simp)⟩
              have HB8 := Lib.hid (below2 HBw6.out (below2 HBr.out hB))
              clear hB gL
              go_wp2_with (refine wpList_store_six rfl 25 _ _ rfl p Am.zero Am.zero rfl rfl H68.out (by rfl) ?_; intro wz hwz; have HZ := Lib.hid (Six.put6 H68.out hwz); have HBz := Lib.hid (below_put6 HB8.out (Nat.le_of_eq Hp.out.symm) hwz); clear hwz)
              (try simp only [Exit.inBlock, Exit.then]); refine bodyPost_ret (ret_alarm (a := Am.zero) rfl rfl HZ.out) rfl ?_
              exact ⟨by rw [He.out.1, He.out.2]; rfl, HBz.out⟩
            | true =>
              have eE : Sh.lineE ⟨b, c, ph, n2, n3, n4⟩ = 0 := by unfold Sh.lineE; rw [hright]; rfl
              have eL : Sh.line ⟨b, c, ph, n2, n3, n4⟩ = Sh.lineL ⟨b, c, ph, n2, n3, n4⟩ := by unfold Sh.line; rw [hright]; rfl
              simp only [eE, eL] at gL
              by_cases hs : Sh.lineL ⟨b, c, ph, n2, n3, n4⟩ = bl s
              · have hok : Sh.ok (bl s) = true := by unfold Sh.ok; rw [Hc.out]; simp [hright, hs]
                have He : Hid (r = ⟨b, c, ph, n2, n3, n4⟩ ∧ er = 0) := Lib.hid ⟨by rw [Hr.out]; unfold Sh.parA; rw [if_pos hok, Hc.out]; rfl, by rw [Her.out]; unfold Sh.parE; rw [if_pos hok]⟩
                have hq : (strOf (Sh.lineL ⟨b, c, ph, n2, n3, n4⟩)).toList = s.toList := by rw [hs, strOf_bl]
                clear hright eE eL hs hok
                go_wp2_with (refine wpList_load_st rfl 25 _ rfl HSr.out 0 _ _ rfl rfl _ Tryz.underlying25 rfl (by rfl) ?_)
                refine (gL _).mono ?_
                rintro e w8 ⟨rfl, hB⟩
                have HS8 := Lib.hid (HSr.out.on hB)
                have H68 : Hid (Six w8 p Am.zero) := Lib.hid ⟨HS8.out.live (p, sixV Am.zero) (by simp)⟩
                have HB8 := Lib.hid (below2 HBw6.out (below2 HBr.out hB))
                clear hB gL
                go_wp2_with (first
                  | (refine wpList_load_st rfl 25 _ rfl HS8.out 0 _ _ rfl rfl _ Tryz.underlying25 rfl (by rfl) ?_)
                  | (refine wpList_store_six rfl 25 _ _ rfl p Am.zero ⟨b, c, ph, n2, n3, n4⟩ rfl rfl H68.out (by rfl) ?_; intro wz hwz; have HZ := Lib.hid (Six.put6 H68.out hwz); have HBz := Lib.hid (below_put6 HB8.out (Nat.le_of_eq Hp.out.symm) hwz); clear hwz))
                (try simp only [Exit.inBlock, Exit.then]); refine bodyPost_ret (ret_alarm (a := ⟨b, c, ph, n2, n3, n4⟩) rfl rfl HZ.out) rfl ?_
                exact ⟨by rw [He.out.1, He.out.2]; rfl, HBz.out⟩
              · have He : Hid (r = Am.zero ∧ er = 20) := Lib.hid (HN.out (by unfold Sh.ok; rw [Hc.out]; simp [hright, hs]))
                have hq : ((strOf (Sh.lineL ⟨b, c, ph, n2, n3, n4⟩)).toList == s.toList) = false := by
                  rw [beq_eq_false_iff_ne, strOf_toList]
                  intro h
                  exact hs (by rw [h]; exact ByteArray.toList_eq s)
                have hq2 : ¬ (strOf (Sh.lineL ⟨b, c, ph, n2, n3, n4⟩)).toList = s.toList := by rw [beq_eq_false_iff_ne] at hq; exact hq
                clear hright eE eL hs
                go_wp2_with (refine wpList_load_st rfl 25 _ rfl HSr.out 0 _ _ rfl rfl _ Tryz.underlying25 rfl (by rfl) ?_)
                refine (gL _).mono ?_
                rintro e w8 ⟨rfl, hB⟩
                have H68 : Hid (Six w8 p Am.zero) := Lib.hid ⟨(HSr.out.on hB).live (p, sixV Am.zero) (by simp)⟩
                have HB8 := Lib.hid (below2 HBw6.out (below2 HBr.out hB))
                clear hB gL
                go_wp2_with (refine wpList_store_six rfl 25 _ _ rfl p Am.zero Am.zero rfl rfl H68.out (by rfl) ?_; intro wz hwz; have HZ := Lib.hid (Six.put6 H68.out hwz); have HBz := Lib.hid (below_put6 HB8.out (Nat.le_of_eq Hp.out.symm) hwz); clear hwz)
                (try simp only [Exit.inBlock, Exit.then]); refine bodyPost_ret (ret_alarm (a := Am.zero) rfl rfl HZ.out) rfl ?_
                exact ⟨by rw [He.out.1, He.out.2]; rfl, HBz.out⟩
  · have i5 : ((n : Int) == 5) = false := by rw [beq_eq_false_iff_ne]; omega
    have i5' : ((n : Int) = 5) = False := eq_false (by omega)
    have He : Hid (r = Am.zero ∧ er = 20) := Lib.hid (HN.out (Sh.ok_none (Sh.cand_len (by
      rw [← Hxs.out, List.length_map, ← Hn.out]; exact h5))))
    have H62 : Hid (Six w2 p Am.zero) := Lib.hid ⟨HS2.out.live (p, sixV Am.zero) (by simp)⟩
    clear h5
    go_wp2_with (refine wpList_store_six rfl 25 _ _ rfl p Am.zero Am.zero rfl rfl H62.out (by rfl) ?_; intro wz hwz; have HZ := Lib.hid (Six.put6 H62.out hwz); have HBz := Lib.hid (below_put6 HB2.out (Nat.le_of_eq Hp.out.symm) hwz); clear hwz)
    (try simp only [Exit.inBlock, Exit.then]); refine bodyPost_ret (ret_alarm (a := Am.zero) rfl rfl HZ.out) rfl ?_
    exact ⟨by rw [He.out.1, He.out.2]; rfl, HBz.out⟩

end Go.Proofs.YtpgichlaghhdeaaGreatDoor
