/-
  Layer 11 (show): parsed (printed by tools/gen-showw10.py).
-/
import Derived.Test.YtpgichlaghhdeaaGreatDoorXShowW9
import Derived.Test.YtpgichlaghhdeaaGreatDoorXShowW3
import Derived.Test.YtpgichlaghhdeaaGreatDoorXRefShow5
import Derived.Test.YtpgichlaghhdeaaGreatDoorXSpotText
import Derived.Deep.DeepCutAuto
namespace Go.Proofs.YtpgichlaghhdeaaGreatDoor
set_option maxRecDepth 10000
open Go.RowKit

/-- What a text is read as. -/
def Sh.readO (l : List UInt8) : Option Alm := if Sh.ok l then some (Sh.parA l) else none
theorem Sh.readO_no {l : List UInt8} (h : Sh.ok l = false) : Sh.readO l = none := by unfold Sh.readO; rw [h]; rfl
theorem Sh.readO_line {a : Alm} {l : List UInt8} (h : Am.right a = true) (hl : Sh.lineL a = l) : Sh.readO l = some a := by
  subst hl
  unfold Sh.readO
  rw [if_pos (Sh.ok_line h), (Sh.parA_line h).1]
/-- What parsed ends with. -/
def parsedS (w : World) (o : Option Alm) (e : Ending) (w' : World) : Prop := (match o with | some a => e = .returned (.agg (sixV a)) | none => e = thr 20) ∧ Below w.heap.size w w'
theorem cells_five (y0 y1 y2 y3 y4 : ByteArray) (N : Nat) : (Lib.cellsOf [y0, y1, y2, y3, y4] N)[0]? = some (.string y0) ∧ (Lib.cellsOf [y0, y1, y2, y3, y4] N)[1]? = some (.string y1) ∧ (Lib.cellsOf [y0, y1, y2, y3, y4] N)[2]? = some (.string y2) ∧ (Lib.cellsOf [y0, y1, y2, y3, y4] N)[3]? = some (.string y3) ∧ (Lib.cellsOf [y0, y1, y2, y3, y4] N)[4]? = some (.string y4) := by
  simp [Lib.cellsOf]

/-- A whole block is read, under a guard that is met. -/
theorem wpList_loadg {P : Program} {ops : Array Oper} {rest : List Oper} {o : Oper} {a : Act} {w : World} {Q : Exit → Act → World → Prop} (hw : Region.wanted o (yielded ops a.tmps) = true) (ty : TypeId) (x : Operand) (ho : o.op = .load ty x)
    {w0 : World} {L : List (Nat × Array Value)} {M : List Fact} (hS : St w0 w L M) (i k : Nat) (cs : Array Value) (hi : L[i]? = some (k, cs)) (hx : a.eval x = .pointer (some ⟨k, 0, none⟩)) (d : TypeDesc)
    (hu : P.underlying ty = some d) (hd : (match d with | .struct _ | .array _ _ => true | _ => false) = true) (hz : (P.info? ty).map (·.size) = some cs.size)
    (h : wpList P ops Q rest (a.put o.dst (.agg cs)) w) : wpList P ops Q (o :: rest) a w := by
  obtain ⟨t, ht⟩ := hS.live (k, cs) (List.mem_of_getElem? hi)
  exact wpList_step fun K hK => by rw [if_pos hw]; exact wp_load_row ty x ho k hx t cs (0, 0) d ht hu hd hz (hK _ _ h)

set_option maxHeartbeats 8000000 in
theorem parsed_any (s : ByteArray) (hs : s.size ≤ 400) (w : World) (hE : Libs w) :
    Calls Tryz.prog 36 #[.string s] w (parsedS w (Sh.readO (bl s))) := by
  obtain ⟨o, ho⟩ : ∃ o, o = Sh.readO (bl s) := ⟨_, rfl⟩
  have Ho := Lib.hid ho
  rw [← ho]
  have HN : Hid (Sh.ok (bl s) = false → o = none) := Lib.hid (fun h => by rw [ho]; exact Sh.readO_no h)
  clear ho
  have HS0 := Lib.hid (((St.start w).more libF hE).new #[.int .i64 0, .int .i64 0, .int .i64 0, .int .i64 0, .int .i64 0, .int .i64 0] 25)
  have Hs := Lib.hid hs
  have gy := fun W => need_yes 20 W
  have gn := fun W => need_no 20 W
  clear hs hE
  go_enter Tryz.func36, Tryz.ntmps36
  go_wp2_with fail
  refine (split_any s Hs.out _ (HS0.out.fact 0 rfl)).mono ?_
  rintro e w1 ⟨ps, N, hps, hN, rfl, hw1⟩
  have hbk : w1.heap[(w.alloc (.cells #[.int .i64 0, .int .i64 0, .int .i64 0, .int .i64 0, .int .i64 0, .int .i64 0] 25)).heap.size]? = some (.cells (Lib.cellsOf ps N) 9 (0, 0)) := by rw [hw1]; exact heap_alloc_new _ _
  have hlt : (w.alloc (.cells #[.int .i64 0, .int .i64 0, .int .i64 0, .int .i64 0, .int .i64 0, .int .i64 0] 25)).heap.size < w1.heap.size := (Array.getElem?_eq_some_iff.1 hbk).1
  have hB1 : Below (w.alloc (.cells #[.int .i64 0, .int .i64 0, .int .i64 0, .int .i64 0, .int .i64 0, .int .i64 0] 25)).heap.size (w.alloc (.cells #[.int .i64 0, .int .i64 0, .int .i64 0, .int .i64 0, .int .i64 0, .int .i64 0] 25)) w1 := by rw [hw1]; exact below_new _ _
  obtain ⟨bw, hbw⟩ : ∃ bw, bw = (w.alloc (.cells #[.int .i64 0, .int .i64 0, .int .i64 0, .int .i64 0, .int .i64 0, .int .i64 0] 25)).heap.size := ⟨_, rfl⟩
  have HS1 : Hid (St w w1 [(w.heap.size, sixV Am.zero)] [libF]) := Lib.hid (HS0.out.on hB1)
  rw [← hbw] at hbk hlt ⊢
  have Hps := Lib.hid hps
  have HNn := Lib.hid hN
  have Hbk := Lib.hid hbk
  have Hlt := Lib.hid hlt
  obtain ⟨p, hp⟩ : ∃ p, p = w.heap.size := ⟨_, rfl⟩
  have Hp := Lib.hid hp
  rw [← hp] at HS1 ⊢
  clear hw1 hps hN hbk hlt hB1 hbw hp HS0
  obtain ⟨n, hn⟩ : ∃ n, n = ps.length := ⟨_, rfl⟩
  rw [← hn]
  have Hn := Lib.hid hn
  by_cases h5 : n = 5
  · obtain ⟨y0, y1, y2, y3, y4, rfl⟩ : ∃ y0 y1 y2 y3 y4, ps = [y0, y1, y2, y3, y4] := by
      have h5' : ps.length = 5 := by omega
      match ps, h5' with
      | [y0, y1, y2, y3, y4], _ => exact ⟨y0, y1, y2, y3, y4, rfl⟩
    have hw5 : (Sh.words (bl s)).length = 5 := by
      by_cases h : (Sh.words (bl s)).length = 5
      · exact h
      · have := Sh.split_other h
        rw [← Hps.out] at this
        exact absurd rfl this
    have ew : Sh.words (bl s) = [bl y0, bl y1, bl y2, bl y3, bl y4] := by rw [← Sh.split_five hw5, ← Hps.out]; rfl
    have Ew := Lib.hid ew
    have hle : ∀ y : ByteArray, bl y ∈ Sh.words (bl s) → y.size ≤ 400 := fun y hy => by
      have h1 := Sh.words_le _ _ hy
      have h2 := Hs.out
      rw [bl_length, bl_length] at h1
      omega
    have z0 : y0.size ≤ 400 := hle y0 (by rw [ew]; simp)
    have z2 : y2.size ≤ 400 := hle y2 (by rw [ew]; simp)
    have z3 : y3.size ≤ 400 := hle y3 (by rw [ew]; simp)
    have z4 : y4.size ≤ 400 := hle y4 (by rw [ew]; simp)
    have hc5 := cells_five y0 y1 y2 y3 y4 N
    have cellB : ∀ (j : Nat) (v : Value), (Lib.cellsOf [y0, y1, y2, y3, y4] N)[j]? = some v → w1.cell? ⟨bw, j, none⟩ = some v := fun j v h => by
      simp only [World.cell?, Hbk.out]
      exact h
    have e0 := cellB 0 _ hc5.1
    have hF : (strF bw 0 y1 y2 y3 y4).on w1 := ⟨Hlt.out, cellB 1 _ hc5.2.1, cellB 2 _ hc5.2.2.1, cellB 3 _ hc5.2.2.2.1, cellB 4 _ hc5.2.2.2.2⟩
    have HS3 := Lib.hid (HS1.out.more _ hF)
    obtain ⟨b, hb⟩ : ∃ b, b = Sp.parB (bl y0) := ⟨_, rfl⟩
    obtain ⟨c, hcc⟩ : ∃ c, c = Sp.parC (bl y0) := ⟨_, rfl⟩
    have gP := fun W h => Parse_any y0 z0 W h
    simp only [← hb, ← hcc] at gP
    have Hb := Lib.hid hb
    have Hc := Lib.hid hcc
    obtain rfl : n = 5 := h5
    clear hn hw5 ew hle z0 hc5 cellB hF HS1 hb hcc Hbk
    cases hok : Sp.ok (bl y0) with
    | false =>
      have hpe : Sp.parE (bl y0) = 20 := by unfold Sp.parE; rw [hok]; rfl
      simp only [hpe] at gP
      have He : Hid (o = none) := Lib.hid (HN.out (Sh.no_spot Ew.out hok))
      clear hok hpe z2 z3 z4
      go_wp2_with fail
      refine (gy _).mono ?_
      rintro e w2 ⟨rfl, rfl⟩
      clear gy
      go_wp2_with fail
      refine (gP _ (HS3.out.fact 1 rfl : Libs w2).errs).mono ?_
      rintro e w3 ⟨rfl, hB⟩
      have HS4 := Lib.hid (HS3.out.on hB)
      clear hB gP HS3 e0
      go_wp2_with (refine wpList_store_st rfl 23 _ _ rfl HS4.out _ #[.int .i64 b, .int .i64 c] _ rfl rfl (by rfl) rfl (by simp [Value.oneCell']) ?_; intro q w6 hq hS hBn; (try rw [← hq]); have H6 := Lib.hid hS; clear hS hq hBn)
      refine (gn _).mono ?_
      rintro e w7 ⟨rfl, rfl⟩
      exact ⟨rfl, by rw [He.out]; first | done | rfl, H6.out.below⟩
    | true =>
      have hpe : Sp.parE (bl y0) = 0 := by unfold Sp.parE; rw [hok]; rfl
      simp only [hpe] at gP
      clear hok hpe
      go_wp2_with fail
      refine (gy _).mono ?_
      rintro e w2 ⟨rfl, rfl⟩
      go_wp2_with fail
      refine (gP _ (HS3.out.fact 1 rfl : Libs w2).errs).mono ?_
      rintro e w3 ⟨rfl, hB⟩
      have HS4 := Lib.hid (HS3.out.on hB)
      clear hB gP HS3 e0
      go_wp2_with (refine wpList_store_st rfl 23 _ _ rfl HS4.out _ #[.int .i64 b, .int .i64 c] _ rfl rfl (by rfl) rfl (by simp [Value.oneCell']) ?_; intro q w6 hq hS hBn; (try rw [← hq]); have H6 := Lib.hid hS; clear hS hq hBn)
      refine (gy _).mono ?_
      rintro e w6 ⟨rfl, rfl⟩
      clear HS4
      have gN := fun W => named_any y1 W
      cases hph : Sh.phI (bl y1) with
      | none =>
        have He : Hid (o = none) := Lib.hid (HN.out (Sh.no_name Ew.out hph))
        have g1 : ∀ W, Calls Tryz.prog 65 #[.string y1] W fun e w' => e = thr 20 ∧ Below W.heap.size W w' := fun W => by
          have h := gN W
          rw [hph] at h
          exact h
        clear hph gN gy gn z2 z3 z4
        go_wp2_with fail
        have hS : St w w6.drew [(q, #[.int .i64 b, .int .i64 c]), (p, sixV Am.zero)] [strF bw 0 y1 y2 y3 y4, libF] := H6.out.drew
        have hB : Below w6.heap.size w6 w6.drew := below_drew (Below.refl _ _) 1
        refine wp_region_held_drew (S := (fun W : World => St w W [(q, #[.int .i64 b, .int .i64 c]), (p, sixV Am.zero)] [strF bw 0 y1 y2 y3 y4, libF])) (by kernel_rfl) hS (fun hHeld => ?_)
        generalize hW6 : w6.drew = W6 at hS hB hHeld ⊢
        clear hW6
        refine wpAnyH_take (i := 0) (oi := { dst := some 23, op := Op.load 23 (Operand.tmp 4), type := 23, pos := _, after := #[], guard := none }) (v := ?_) rfl (by kernel_rfl) (by kernel_rfl) (by kernel_rfl) (fun _ _ _ h => h) (Or.inl ⟨by rfl, ?hy⟩) hHeld ?_
        case hy => intro w0 hSw; have d0 := hSw.cell 0 rfl 0 rfl; have d1 := hSw.cell 0 rfl 1 rfl; clear hSw; go_simp; (try with_reducible rfl)
        (try simp only [Act.put, List.setIfInBounds_toArray, List.set_cons_zero, List.set_cons_succ])
        refine wpAnyH_take (i := 1) (oi := { dst := some 24, op := Op.move (Operand.tmp 3), type := 38, pos := _, after := #[], guard := none }) (v := ?_) rfl (by kernel_rfl) (by kernel_rfl) (by kernel_rfl) (fun _ _ _ h => h) (Or.inl ⟨by rfl, ?hy⟩) hHeld ?_
        case hy => intro w0 hSw; (try dsimp only at hSw); go_simp; (try with_reducible rfl)
        (try simp only [Act.put, List.setIfInBounds_toArray, List.set_cons_zero, List.set_cons_succ])
        refine wpAnyH_take (i := 2) (oi := { dst := some 25, op := Op.indexAddr 38 (Operand.tmp 24) (Operand.const (Value.int IntKind.i64 1)), type := 0, pos := _, after := #[{ on := 1, ground := Ground.data }], guard := none }) (v := ?_) rfl (by kernel_rfl) (by kernel_rfl) (by kernel_rfl) (fun _ _ _ h => h) (Or.inl ⟨by rfl, ?hy⟩) hHeld ?_
        case hy => intro w0 hSw; (try dsimp only at hSw); go_simp; (try with_reducible rfl)
        (try simp only [Act.put, List.setIfInBounds_toArray, List.set_cons_zero, List.set_cons_succ])
        refine wpAnyH_take (i := 3) (oi := { dst := some 26, op := Op.load 9 (Operand.tmp 25), type := 9, pos := _, after := #[{ on := 2, ground := Ground.data }], guard := none }) (v := ?_) rfl (by kernel_rfl) (by kernel_rfl) (by kernel_rfl) (fun _ _ _ h => h) (Or.inl ⟨by rfl, ?hy⟩) hHeld ?_
        case hy => intro w0 hSw; have d := (hSw.fact 0 rfl).2.1; clear hSw; go_simp; (try with_reducible rfl)
        (try simp only [Act.put, List.setIfInBounds_toArray, List.set_cons_zero, List.set_cons_succ])
        refine wpAnyH_take (i := 5) (oi := { dst := some 28, op := Op.move (Operand.tmp 3), type := 38, pos := _, after := #[], guard := none }) (v := ?_) rfl (by kernel_rfl) (by kernel_rfl) (by kernel_rfl) (fun _ _ _ h => h) (Or.inl ⟨by rfl, ?hy⟩) hHeld ?_
        case hy => intro w0 hSw; (try dsimp only at hSw); go_simp; (try with_reducible rfl)
        (try simp only [Act.put, List.setIfInBounds_toArray, List.set_cons_zero, List.set_cons_succ])
        refine wpAnyH_take (i := 6) (oi := { dst := some 29, op := Op.indexAddr 38 (Operand.tmp 28) (Operand.const (Value.int IntKind.i64 2)), type := 0, pos := _, after := #[{ on := 5, ground := Ground.data }], guard := none }) (v := ?_) rfl (by kernel_rfl) (by kernel_rfl) (by kernel_rfl) (fun _ _ _ h => h) (Or.inl ⟨by rfl, ?hy⟩) hHeld ?_
        case hy => intro w0 hSw; (try dsimp only at hSw); go_simp; (try with_reducible rfl)
        (try simp only [Act.put, List.setIfInBounds_toArray, List.set_cons_zero, List.set_cons_succ])
        refine wpAnyH_take (i := 7) (oi := { dst := some 30, op := Op.load 9 (Operand.tmp 29), type := 9, pos := _, after := #[{ on := 6, ground := Ground.data }], guard := none }) (v := ?_) rfl (by kernel_rfl) (by kernel_rfl) (by kernel_rfl) (fun _ _ _ h => h) (Or.inl ⟨by rfl, ?hy⟩) hHeld ?_
        case hy => intro w0 hSw; have d := (hSw.fact 0 rfl).2.2.1; clear hSw; go_simp; (try with_reducible rfl)
        (try simp only [Act.put, List.setIfInBounds_toArray, List.set_cons_zero, List.set_cons_succ])
        refine wpAnyH_take (i := 9) (oi := { dst := some 32, op := Op.move (Operand.tmp 3), type := 38, pos := _, after := #[], guard := none }) (v := ?_) rfl (by kernel_rfl) (by kernel_rfl) (by kernel_rfl) (fun _ _ _ h => h) (Or.inl ⟨by rfl, ?hy⟩) hHeld ?_
        case hy => intro w0 hSw; (try dsimp only at hSw); go_simp; (try with_reducible rfl)
        (try simp only [Act.put, List.setIfInBounds_toArray, List.set_cons_zero, List.set_cons_succ])
        refine wpAnyH_take (i := 10) (oi := { dst := some 33, op := Op.indexAddr 38 (Operand.tmp 32) (Operand.const (Value.int IntKind.i64 3)), type := 0, pos := _, after := #[{ on := 9, ground := Ground.data }], guard := none }) (v := ?_) rfl (by kernel_rfl) (by kernel_rfl) (by kernel_rfl) (fun _ _ _ h => h) (Or.inl ⟨by rfl, ?hy⟩) hHeld ?_
        case hy => intro w0 hSw; (try dsimp only at hSw); go_simp; (try with_reducible rfl)
        (try simp only [Act.put, List.setIfInBounds_toArray, List.set_cons_zero, List.set_cons_succ])
        refine wpAnyH_take (i := 11) (oi := { dst := some 34, op := Op.load 9 (Operand.tmp 33), type := 9, pos := _, after := #[{ on := 10, ground := Ground.data }], guard := none }) (v := ?_) rfl (by kernel_rfl) (by kernel_rfl) (by kernel_rfl) (fun _ _ _ h => h) (Or.inl ⟨by rfl, ?hy⟩) hHeld ?_
        case hy => intro w0 hSw; have d := (hSw.fact 0 rfl).2.2.2.1; clear hSw; go_simp; (try with_reducible rfl)
        (try simp only [Act.put, List.setIfInBounds_toArray, List.set_cons_zero, List.set_cons_succ])
        refine wpAnyH_take (i := 13) (oi := { dst := some 36, op := Op.move (Operand.tmp 3), type := 38, pos := _, after := #[], guard := none }) (v := ?_) rfl (by kernel_rfl) (by kernel_rfl) (by kernel_rfl) (fun _ _ _ h => h) (Or.inl ⟨by rfl, ?hy⟩) hHeld ?_
        case hy => intro w0 hSw; (try dsimp only at hSw); go_simp; (try with_reducible rfl)
        (try simp only [Act.put, List.setIfInBounds_toArray, List.set_cons_zero, List.set_cons_succ])
        refine wpAnyH_take (i := 14) (oi := { dst := some 37, op := Op.indexAddr 38 (Operand.tmp 36) (Operand.const (Value.int IntKind.i64 4)), type := 0, pos := _, after := #[{ on := 13, ground := Ground.data }], guard := none }) (v := ?_) rfl (by kernel_rfl) (by kernel_rfl) (by kernel_rfl) (fun _ _ _ h => h) (Or.inl ⟨by rfl, ?hy⟩) hHeld ?_
        case hy => intro w0 hSw; (try dsimp only at hSw); go_simp; (try with_reducible rfl)
        (try simp only [Act.put, List.setIfInBounds_toArray, List.set_cons_zero, List.set_cons_succ])
        refine wpAnyH_take (i := 15) (oi := { dst := some 38, op := Op.load 9 (Operand.tmp 37), type := 9, pos := _, after := #[{ on := 14, ground := Ground.data }], guard := none }) (v := ?_) rfl (by kernel_rfl) (by kernel_rfl) (by kernel_rfl) (fun _ _ _ h => h) (Or.inl ⟨by rfl, ?hy⟩) hHeld ?_
        case hy => intro w0 hSw; have d := (hSw.fact 0 rfl).2.2.2.2; clear hSw; go_simp; (try with_reducible rfl)
        (try simp only [Act.put, List.setIfInBounds_toArray, List.set_cons_zero, List.set_cons_succ])
        refine wpAnyH_ready (rs := [4, 18]) (by kernel_rfl) (by simp) ?_
        refine AllReadyH.cons (o := { dst := some 27, op := Op.call { callee := Callee.value (Operand.func 65), args := #[Operand.tmp 26], argTypes := #[9] }, type := 3, pos := _, after := #[{ on := 3, ground := Ground.data }], guard := none }) rfl (fun K hK => ?_) (AllReadyH.cons (o := { dst := some 6, op := Op.alloc 25, type := 0, pos := _, after := #[], guard := none }) rfl (fun K hK => ?_) AllReadyH.nil)
        · go_simp
          refine (g1 _).mono ?_
          rintro e v9 ⟨rfl, hB'⟩
          exact ⟨rfl, by rw [He.out]; first | done | rfl, (hS.on hB').below⟩
        · go_simp
          obtain ⟨pa, hpa⟩ : ∃ pa, pa = W6.heap.size := ⟨_, rfl⟩
          have hpw : w6.heap.size ≤ pa := by rw [hpa]; exact hB.size
          have hSb : St w (W6.alloc (.cells #[.int .i64 0, .int .i64 0, .int .i64 0, .int .i64 0, .int .i64 0, .int .i64 0] 25)) [(q, #[.int .i64 b, .int .i64 c]), (p, sixV Am.zero)] [strF bw 0 y1 y2 y3 y4, libF] := hS.on (below_new _ _)
          have hSn := hS.new #[.int .i64 0, .int .i64 0, .int .i64 0, .int .i64 0, .int .i64 0, .int .i64 0] 25
          replace hB := below2 hB (below_new W6 (.cells #[.int .i64 0, .int .i64 0, .int .i64 0, .int .i64 0, .int .i64 0, .int .i64 0] 25))
          rw [← hpa] at hSn ⊢
          clear hS hpa
          have hS := hSn
          clear hSn
          refine hK.out _ _ hSb (fun hHeld => ?_)
          clear hK K
          (try simp only [Act.put, List.setIfInBounds_toArray, List.set_cons_zero, List.set_cons_succ])
          refine wpAnyH_ready (rs := [4]) (by kernel_rfl) (by simp) ?_
          refine AllReadyH.cons (o := { dst := some 27, op := Op.call { callee := Callee.value (Operand.func 65), args := #[Operand.tmp 26], argTypes := #[9] }, type := 3, pos := _, after := #[{ on := 3, ground := Ground.data }], guard := none }) rfl (fun K hK => ?_) AllReadyH.nil
          go_simp
          refine (g1 _).mono ?_
          rintro e v9 ⟨rfl, hB'⟩
          exact ⟨rfl, by rw [He.out]; first | done | rfl, (hS.on hB').below⟩
      | some ph =>
        have g1 : ∀ W, Calls Tryz.prog 65 #[.string y1] W fun e w' => e = .returned (.int .i64 ph) ∧ Below W.heap.size W w' := fun W => by
          have h := gN W
          rw [hph] at h
          exact h
        have Hph := Lib.hid hph
        obtain ⟨n2, hn2⟩ : ∃ n2, n2 = Sp.loose (bl y2) := ⟨_, rfl⟩
        obtain ⟨n3, hn3⟩ : ∃ n3, n3 = Sp.loose (bl y3) := ⟨_, rfl⟩
        obtain ⟨n4, hn4⟩ : ∃ n4, n4 = Sp.loose (bl y4) := ⟨_, rfl⟩
        have g2 := fun W h => sloose_any y2 z2 W h
        have g3 := fun W h => sloose_any y3 z3 W h
        have g4 := fun W h => sloose_any y4 z4 W h
        simp only [← hn2] at g2
        simp only [← hn3] at g3
        simp only [← hn4] at g4
        have HA : Hid ((⟨Sp.parB (bl y0), Sp.parC (bl y0), ph, Sp.loose (bl y2), Sp.loose (bl y3), Sp.loose (bl y4)⟩ : Alm) = ⟨b, c, ph, n2, n3, n4⟩) := Lib.hid (by rw [Hb.out, Hc.out, hn2, hn3, hn4])
        clear hph gN hn2 hn3 hn4 z2 z3 z4
        go_wp2_with fail
        go_cut [6] (fun s6 wx => ∃ pa, s6 = .pointer (some ⟨pa, 0, none⟩) ∧ Hid (w6.heap.size ≤ pa) ∧ Hid (St w wx ((pa, #[.int .i64 b, .int .i64 c, .int .i64 ph, .int .i64 n2, .int .i64 n3, .int .i64 n4]) :: [(q, #[.int .i64 b, .int .i64 c]), (p, sixV Am.zero)]) [strF bw 0 y1 y2 y3 y4, libF]) ∧ Hid (Below w6.heap.size w6 wx))
        case first =>
          have hS : St w w6.drew [(q, #[.int .i64 b, .int .i64 c]), (p, sixV Am.zero)] [strF bw 0 y1 y2 y3 y4, libF] := H6.out.drew
          have hB : Below w6.heap.size w6 w6.drew := below_drew (Below.refl _ _) 1
          refine wp_region_held_drew (S := (fun W : World => St w W [(q, #[.int .i64 b, .int .i64 c]), (p, sixV Am.zero)] [strF bw 0 y1 y2 y3 y4, libF])) (by kernel_rfl) hS (fun hHeld => ?_)
          generalize hW6 : w6.drew = W6 at hS hB hHeld ⊢
          clear hW6
          refine wpAnyH_take (i := 0) (oi := { dst := some 23, op := Op.load 23 (Operand.tmp 4), type := 23, pos := _, after := #[], guard := none }) (v := ?_) rfl (by kernel_rfl) (by kernel_rfl) (by kernel_rfl) (fun _ _ _ h => h) (Or.inl ⟨by rfl, ?hy⟩) hHeld ?_
          case hy => intro w0 hSw; have d0 := hSw.cell 0 rfl 0 rfl; have d1 := hSw.cell 0 rfl 1 rfl; clear hSw; go_simp; (try with_reducible rfl)
          (try simp only [Act.put, List.setIfInBounds_toArray, List.set_cons_zero, List.set_cons_succ])
          refine wpAnyH_take (i := 1) (oi := { dst := some 24, op := Op.move (Operand.tmp 3), type := 38, pos := _, after := #[], guard := none }) (v := ?_) rfl (by kernel_rfl) (by kernel_rfl) (by kernel_rfl) (fun _ _ _ h => h) (Or.inl ⟨by rfl, ?hy⟩) hHeld ?_
          case hy => intro w0 hSw; (try dsimp only at hSw); go_simp; (try with_reducible rfl)
          (try simp only [Act.put, List.setIfInBounds_toArray, List.set_cons_zero, List.set_cons_succ])
          refine wpAnyH_take (i := 2) (oi := { dst := some 25, op := Op.indexAddr 38 (Operand.tmp 24) (Operand.const (Value.int IntKind.i64 1)), type := 0, pos := _, after := #[{ on := 1, ground := Ground.data }], guard := none }) (v := ?_) rfl (by kernel_rfl) (by kernel_rfl) (by kernel_rfl) (fun _ _ _ h => h) (Or.inl ⟨by rfl, ?hy⟩) hHeld ?_
          case hy => intro w0 hSw; (try dsimp only at hSw); go_simp; (try with_reducible rfl)
          (try simp only [Act.put, List.setIfInBounds_toArray, List.set_cons_zero, List.set_cons_succ])
          refine wpAnyH_take (i := 3) (oi := { dst := some 26, op := Op.load 9 (Operand.tmp 25), type := 9, pos := _, after := #[{ on := 2, ground := Ground.data }], guard := none }) (v := ?_) rfl (by kernel_rfl) (by kernel_rfl) (by kernel_rfl) (fun _ _ _ h => h) (Or.inl ⟨by rfl, ?hy⟩) hHeld ?_
          case hy => intro w0 hSw; have d := (hSw.fact 0 rfl).2.1; clear hSw; go_simp; (try with_reducible rfl)
          (try simp only [Act.put, List.setIfInBounds_toArray, List.set_cons_zero, List.set_cons_succ])
          refine wpAnyH_take (i := 5) (oi := { dst := some 28, op := Op.move (Operand.tmp 3), type := 38, pos := _, after := #[], guard := none }) (v := ?_) rfl (by kernel_rfl) (by kernel_rfl) (by kernel_rfl) (fun _ _ _ h => h) (Or.inl ⟨by rfl, ?hy⟩) hHeld ?_
          case hy => intro w0 hSw; (try dsimp only at hSw); go_simp; (try with_reducible rfl)
          (try simp only [Act.put, List.setIfInBounds_toArray, List.set_cons_zero, List.set_cons_succ])
          refine wpAnyH_take (i := 6) (oi := { dst := some 29, op := Op.indexAddr 38 (Operand.tmp 28) (Operand.const (Value.int IntKind.i64 2)), type := 0, pos := _, after := #[{ on := 5, ground := Ground.data }], guard := none }) (v := ?_) rfl (by kernel_rfl) (by kernel_rfl) (by kernel_rfl) (fun _ _ _ h => h) (Or.inl ⟨by rfl, ?hy⟩) hHeld ?_
          case hy => intro w0 hSw; (try dsimp only at hSw); go_simp; (try with_reducible rfl)
          (try simp only [Act.put, List.setIfInBounds_toArray, List.set_cons_zero, List.set_cons_succ])
          refine wpAnyH_take (i := 7) (oi := { dst := some 30, op := Op.load 9 (Operand.tmp 29), type := 9, pos := _, after := #[{ on := 6, ground := Ground.data }], guard := none }) (v := ?_) rfl (by kernel_rfl) (by kernel_rfl) (by kernel_rfl) (fun _ _ _ h => h) (Or.inl ⟨by rfl, ?hy⟩) hHeld ?_
          case hy => intro w0 hSw; have d := (hSw.fact 0 rfl).2.2.1; clear hSw; go_simp; (try with_reducible rfl)
          (try simp only [Act.put, List.setIfInBounds_toArray, List.set_cons_zero, List.set_cons_succ])
          refine wpAnyH_take (i := 9) (oi := { dst := some 32, op := Op.move (Operand.tmp 3), type := 38, pos := _, after := #[], guard := none }) (v := ?_) rfl (by kernel_rfl) (by kernel_rfl) (by kernel_rfl) (fun _ _ _ h => h) (Or.inl ⟨by rfl, ?hy⟩) hHeld ?_
          case hy => intro w0 hSw; (try dsimp only at hSw); go_simp; (try with_reducible rfl)
          (try simp only [Act.put, List.setIfInBounds_toArray, List.set_cons_zero, List.set_cons_succ])
          refine wpAnyH_take (i := 10) (oi := { dst := some 33, op := Op.indexAddr 38 (Operand.tmp 32) (Operand.const (Value.int IntKind.i64 3)), type := 0, pos := _, after := #[{ on := 9, ground := Ground.data }], guard := none }) (v := ?_) rfl (by kernel_rfl) (by kernel_rfl) (by kernel_rfl) (fun _ _ _ h => h) (Or.inl ⟨by rfl, ?hy⟩) hHeld ?_
          case hy => intro w0 hSw; (try dsimp only at hSw); go_simp; (try with_reducible rfl)
          (try simp only [Act.put, List.setIfInBounds_toArray, List.set_cons_zero, List.set_cons_succ])
          refine wpAnyH_take (i := 11) (oi := { dst := some 34, op := Op.load 9 (Operand.tmp 33), type := 9, pos := _, after := #[{ on := 10, ground := Ground.data }], guard := none }) (v := ?_) rfl (by kernel_rfl) (by kernel_rfl) (by kernel_rfl) (fun _ _ _ h => h) (Or.inl ⟨by rfl, ?hy⟩) hHeld ?_
          case hy => intro w0 hSw; have d := (hSw.fact 0 rfl).2.2.2.1; clear hSw; go_simp; (try with_reducible rfl)
          (try simp only [Act.put, List.setIfInBounds_toArray, List.set_cons_zero, List.set_cons_succ])
          refine wpAnyH_take (i := 13) (oi := { dst := some 36, op := Op.move (Operand.tmp 3), type := 38, pos := _, after := #[], guard := none }) (v := ?_) rfl (by kernel_rfl) (by kernel_rfl) (by kernel_rfl) (fun _ _ _ h => h) (Or.inl ⟨by rfl, ?hy⟩) hHeld ?_
          case hy => intro w0 hSw; (try dsimp only at hSw); go_simp; (try with_reducible rfl)
          (try simp only [Act.put, List.setIfInBounds_toArray, List.set_cons_zero, List.set_cons_succ])
          refine wpAnyH_take (i := 14) (oi := { dst := some 37, op := Op.indexAddr 38 (Operand.tmp 36) (Operand.const (Value.int IntKind.i64 4)), type := 0, pos := _, after := #[{ on := 13, ground := Ground.data }], guard := none }) (v := ?_) rfl (by kernel_rfl) (by kernel_rfl) (by kernel_rfl) (fun _ _ _ h => h) (Or.inl ⟨by rfl, ?hy⟩) hHeld ?_
          case hy => intro w0 hSw; (try dsimp only at hSw); go_simp; (try with_reducible rfl)
          (try simp only [Act.put, List.setIfInBounds_toArray, List.set_cons_zero, List.set_cons_succ])
          refine wpAnyH_take (i := 15) (oi := { dst := some 38, op := Op.load 9 (Operand.tmp 37), type := 9, pos := _, after := #[{ on := 14, ground := Ground.data }], guard := none }) (v := ?_) rfl (by kernel_rfl) (by kernel_rfl) (by kernel_rfl) (fun _ _ _ h => h) (Or.inl ⟨by rfl, ?hy⟩) hHeld ?_
          case hy => intro w0 hSw; have d := (hSw.fact 0 rfl).2.2.2.2; clear hSw; go_simp; (try with_reducible rfl)
          (try simp only [Act.put, List.setIfInBounds_toArray, List.set_cons_zero, List.set_cons_succ])
          refine wpAnyH_ready (rs := [4, 18]) (by kernel_rfl) (by simp) ?_
          refine AllReadyH.cons (o := { dst := some 27, op := Op.call { callee := Callee.value (Operand.func 65), args := #[Operand.tmp 26], argTypes := #[9] }, type := 3, pos := _, after := #[{ on := 3, ground := Ground.data }], guard := none }) rfl (fun K hK => ?_) (AllReadyH.cons (o := { dst := some 6, op := Op.alloc 25, type := 0, pos := _, after := #[], guard := none }) rfl (fun K hK => ?_) AllReadyH.nil)
          · go_simp
            refine (g1 _).mono ?_
            rintro e v1 ⟨rfl, hB'⟩
            replace hS := hS.on hB'
            replace hB := below2 hB hB'
            clear hB'
            go_wp2_with fail
            refine hK.out _ _ hS (fun hHeld => ?_)
            clear hK K
            (try simp only [Act.put, List.setIfInBounds_toArray, List.set_cons_zero, List.set_cons_succ])
            refine wpAnyH_ready (rs := [8, 18]) (by kernel_rfl) (by simp) ?_
            refine AllReadyH.cons (o := { dst := some 31, op := Op.call { callee := Callee.value (Operand.func 66), args := #[Operand.tmp 30], argTypes := #[9] }, type := 3, pos := _, after := #[{ on := 7, ground := Ground.data }, { on := 4, ground := Ground.chain }], guard := none }) rfl (fun K hK => ?_) (AllReadyH.cons (o := { dst := some 6, op := Op.alloc 25, type := 0, pos := _, after := #[], guard := none }) rfl (fun K hK => ?_) AllReadyH.nil)
            · go_simp
              refine (g2 _ (hS.fact 1 rfl : Libs _).errs).mono ?_
              rintro e v2 ⟨rfl, hB'⟩
              replace hS := hS.on hB'
              replace hB := below2 hB hB'
              clear hB'
              go_wp2_with fail
              refine hK.out _ _ hS (fun hHeld => ?_)
              clear hK K
              (try simp only [Act.put, List.setIfInBounds_toArray, List.set_cons_zero, List.set_cons_succ])
              refine wpAnyH_ready (rs := [12, 18]) (by kernel_rfl) (by simp) ?_
              refine AllReadyH.cons (o := { dst := some 35, op := Op.call { callee := Callee.value (Operand.func 66), args := #[Operand.tmp 34], argTypes := #[9] }, type := 3, pos := _, after := #[{ on := 11, ground := Ground.data }, { on := 8, ground := Ground.chain }], guard := none }) rfl (fun K hK => ?_) (AllReadyH.cons (o := { dst := some 6, op := Op.alloc 25, type := 0, pos := _, after := #[], guard := none }) rfl (fun K hK => ?_) AllReadyH.nil)
              · go_simp
                refine (g3 _ (hS.fact 1 rfl : Libs _).errs).mono ?_
                rintro e v3 ⟨rfl, hB'⟩
                replace hS := hS.on hB'
                replace hB := below2 hB hB'
                clear hB'
                go_wp2_with fail
                refine hK.out _ _ hS (fun hHeld => ?_)
                clear hK K
                (try simp only [Act.put, List.setIfInBounds_toArray, List.set_cons_zero, List.set_cons_succ])
                refine wpAnyH_ready (rs := [16, 18]) (by kernel_rfl) (by simp) ?_
                refine AllReadyH.cons (o := { dst := some 39, op := Op.call { callee := Callee.value (Operand.func 66), args := #[Operand.tmp 38], argTypes := #[9] }, type := 3, pos := _, after := #[{ on := 15, ground := Ground.data }, { on := 12, ground := Ground.chain }], guard := none }) rfl (fun K hK => ?_) (AllReadyH.cons (o := { dst := some 6, op := Op.alloc 25, type := 0, pos := _, after := #[], guard := none }) rfl (fun K hK => ?_) AllReadyH.nil)
                · go_simp
                  refine (g4 _ (hS.fact 1 rfl : Libs _).errs).mono ?_
                  rintro e v4 ⟨rfl, hB'⟩
                  replace hS := hS.on hB'
                  replace hB := below2 hB hB'
                  clear hB'
                  go_wp2_with fail
                  refine hK.out _ _ hS (fun hHeld => ?_)
                  clear hK K
                  (try simp only [Act.put, List.setIfInBounds_toArray, List.set_cons_zero, List.set_cons_succ])
                  refine wpAnyH_take (i := 17) (oi := { dst := some 40, op := Op.build 25 #[(0, Operand.tmp 23), (1, Operand.tmp 27), (2, Operand.tmp 31), (3, Operand.tmp 35), (4, Operand.tmp 39)], type := 25, pos := _, after := #[{ on := 0, ground := Ground.data }, { on := 4, ground := Ground.data }, { on := 8, ground := Ground.data }, { on := 12, ground := Ground.data }, { on := 16, ground := Ground.data }], guard := none }) (v := ?_) rfl (by kernel_rfl) (by kernel_rfl) (by kernel_rfl) (fun _ _ _ h => h) (Or.inl ⟨by rfl, ?hy⟩) hHeld ?_
                  case hy => intro w0 hSw; (try dsimp only at hSw); go_simp; (try with_reducible rfl)
                  (try simp only [Act.put, List.setIfInBounds_toArray, List.set_cons_zero, List.set_cons_succ])
                  refine wpAnyH_ready (rs := [18]) (by kernel_rfl) (by simp) ?_
                  refine AllReadyH.cons (o := { dst := some 6, op := Op.alloc 25, type := 0, pos := _, after := #[], guard := none }) rfl (fun K hK => ?_) AllReadyH.nil
                  go_simp
                  obtain ⟨pa, hpa⟩ : ∃ pa, pa = v4.heap.size := ⟨_, rfl⟩
                  have hpw : w6.heap.size ≤ pa := by rw [hpa]; exact hB.size
                  have hSb : St w (v4.alloc (.cells #[.int .i64 0, .int .i64 0, .int .i64 0, .int .i64 0, .int .i64 0, .int .i64 0] 25)) [(q, #[.int .i64 b, .int .i64 c]), (p, sixV Am.zero)] [strF bw 0 y1 y2 y3 y4, libF] := hS.on (below_new _ _)
                  have hSn := hS.new #[.int .i64 0, .int .i64 0, .int .i64 0, .int .i64 0, .int .i64 0, .int .i64 0] 25
                  replace hB := below2 hB (below_new v4 (.cells #[.int .i64 0, .int .i64 0, .int .i64 0, .int .i64 0, .int .i64 0, .int .i64 0] 25))
                  rw [← hpa] at hSn ⊢
                  clear hS hpa
                  have hS := hSn
                  clear hSn
                  refine hK.out _ _ hSb (fun hHeld => ?_)
                  clear hK K
                  (try simp only [Act.put, List.setIfInBounds_toArray, List.set_cons_zero, List.set_cons_succ])
                  refine wpAnyH_ready (rs := [19]) (by kernel_rfl) (by simp) ?_
                  refine AllReadyH.cons (o := { dst := none, op := Op.store 25 (Operand.tmp 6) (Operand.tmp 40), type := 0, pos := _, after := #[{ on := 18, ground := Ground.data }, { on := 17, ground := Ground.data }, { on := 16, ground := Ground.chain }, { on := 0, ground := Ground.phase }, { on := 1, ground := Ground.phase }, { on := 2, ground := Ground.phase }, { on := 3, ground := Ground.phase }, { on := 4, ground := Ground.phase }, { on := 5, ground := Ground.phase }, { on := 6, ground := Ground.phase }, { on := 7, ground := Ground.phase }, { on := 8, ground := Ground.phase }, { on := 9, ground := Ground.phase }, { on := 10, ground := Ground.phase }, { on := 11, ground := Ground.phase }, { on := 12, ground := Ground.phase }, { on := 13, ground := Ground.phase }, { on := 14, ground := Ground.phase }, { on := 15, ground := Ground.phase }, { on := 16, ground := Ground.phase }, { on := 17, ground := Ground.phase }, { on := 18, ground := Ground.phase }], guard := none }) rfl (fun K hK => ?_) AllReadyH.nil
                  rw [if_pos (by rfl)]
                  obtain ⟨tz, hz⟩ := hS.live (pa, #[.int .i64 0, .int .i64 0, .int .i64 0, .int .i64 0, .int .i64 0, .int .i64 0]) (by simp)
                  refine wp_store_row 25 _ _ rfl pa #[.int .i64 b, .int .i64 c, .int .i64 ph, .int .i64 n2, .int .i64 n3, .int .i64 n4] rfl rfl tz _ hz (by rfl) rfl (six_one ⟨b, c, ph, n2, n3, n4⟩) ?_
                  have hS2 := H6.out.rowSetS hS hB hpw (cs := #[.int .i64 b, .int .i64 c, .int .i64 ph, .int .i64 n2, .int .i64 n3, .int .i64 n4])
                  have hSb2 := hS2.pickM [(q, #[.int .i64 b, .int .i64 c]), (p, sixV Am.zero)] (by simp)
                  replace hB := below_setRow hB hpw #[.int .i64 b, .int .i64 c, .int .i64 ph, .int .i64 n2, .int .i64 n3, .int .i64 n4]
                  clear hz hS hSb
                  refine hK.out _ _ hSb2 (fun hHeld => ?_)
                  clear hK K
                  (try simp only [Act.put])
                  refine wpAnyH_done (by kernel_rfl) ?_ _
                  clear hHeld hSb2
                  go_wp2_with fail
                  go_meet
                  exact ⟨pa, rfl, Lib.hid hpw, Lib.hid hS2, Lib.hid hB⟩
                · go_simp
                  obtain ⟨pa, hpa⟩ : ∃ pa, pa = v3.heap.size := ⟨_, rfl⟩
                  have hpw : w6.heap.size ≤ pa := by rw [hpa]; exact hB.size
                  have hSb : St w (v3.alloc (.cells #[.int .i64 0, .int .i64 0, .int .i64 0, .int .i64 0, .int .i64 0, .int .i64 0] 25)) [(q, #[.int .i64 b, .int .i64 c]), (p, sixV Am.zero)] [strF bw 0 y1 y2 y3 y4, libF] := hS.on (below_new _ _)
                  have hSn := hS.new #[.int .i64 0, .int .i64 0, .int .i64 0, .int .i64 0, .int .i64 0, .int .i64 0] 25
                  replace hB := below2 hB (below_new v3 (.cells #[.int .i64 0, .int .i64 0, .int .i64 0, .int .i64 0, .int .i64 0, .int .i64 0] 25))
                  rw [← hpa] at hSn ⊢
                  clear hS hpa
                  have hS := hSn
                  clear hSn
                  refine hK.out _ _ hSb (fun hHeld => ?_)
                  clear hK K
                  (try simp only [Act.put, List.setIfInBounds_toArray, List.set_cons_zero, List.set_cons_succ])
                  refine wpAnyH_ready (rs := [16]) (by kernel_rfl) (by simp) ?_
                  refine AllReadyH.cons (o := { dst := some 39, op := Op.call { callee := Callee.value (Operand.func 66), args := #[Operand.tmp 38], argTypes := #[9] }, type := 3, pos := _, after := #[{ on := 15, ground := Ground.data }, { on := 12, ground := Ground.chain }], guard := none }) rfl (fun K hK => ?_) AllReadyH.nil
                  go_simp
                  refine (g4 _ (hS.fact 1 rfl : Libs _).errs).mono ?_
                  rintro e v5 ⟨rfl, hB'⟩
                  replace hS := hS.on hB'
                  replace hSb := hSb.on hB'
                  replace hB := below2 hB hB'
                  clear hB'
                  go_wp2_with fail
                  refine hK.out _ _ hSb (fun hHeld => ?_)
                  clear hK K
                  (try simp only [Act.put, List.setIfInBounds_toArray, List.set_cons_zero, List.set_cons_succ])
                  refine wpAnyH_take (i := 17) (oi := { dst := some 40, op := Op.build 25 #[(0, Operand.tmp 23), (1, Operand.tmp 27), (2, Operand.tmp 31), (3, Operand.tmp 35), (4, Operand.tmp 39)], type := 25, pos := _, after := #[{ on := 0, ground := Ground.data }, { on := 4, ground := Ground.data }, { on := 8, ground := Ground.data }, { on := 12, ground := Ground.data }, { on := 16, ground := Ground.data }], guard := none }) (v := ?_) rfl (by kernel_rfl) (by kernel_rfl) (by kernel_rfl) (fun _ _ _ h => h) (Or.inl ⟨by rfl, ?hy⟩) hHeld ?_
                  case hy => intro w0 hSw; (try dsimp only at hSw); go_simp; (try with_reducible rfl)
                  (try simp only [Act.put, List.setIfInBounds_toArray, List.set_cons_zero, List.set_cons_succ])
                  refine wpAnyH_ready (rs := [19]) (by kernel_rfl) (by simp) ?_
                  refine AllReadyH.cons (o := { dst := none, op := Op.store 25 (Operand.tmp 6) (Operand.tmp 40), type := 0, pos := _, after := #[{ on := 18, ground := Ground.data }, { on := 17, ground := Ground.data }, { on := 16, ground := Ground.chain }, { on := 0, ground := Ground.phase }, { on := 1, ground := Ground.phase }, { on := 2, ground := Ground.phase }, { on := 3, ground := Ground.phase }, { on := 4, ground := Ground.phase }, { on := 5, ground := Ground.phase }, { on := 6, ground := Ground.phase }, { on := 7, ground := Ground.phase }, { on := 8, ground := Ground.phase }, { on := 9, ground := Ground.phase }, { on := 10, ground := Ground.phase }, { on := 11, ground := Ground.phase }, { on := 12, ground := Ground.phase }, { on := 13, ground := Ground.phase }, { on := 14, ground := Ground.phase }, { on := 15, ground := Ground.phase }, { on := 16, ground := Ground.phase }, { on := 17, ground := Ground.phase }, { on := 18, ground := Ground.phase }], guard := none }) rfl (fun K hK => ?_) AllReadyH.nil
                  rw [if_pos (by rfl)]
                  obtain ⟨tz, hz⟩ := hS.live (pa, #[.int .i64 0, .int .i64 0, .int .i64 0, .int .i64 0, .int .i64 0, .int .i64 0]) (by simp)
                  refine wp_store_row 25 _ _ rfl pa #[.int .i64 b, .int .i64 c, .int .i64 ph, .int .i64 n2, .int .i64 n3, .int .i64 n4] rfl rfl tz _ hz (by rfl) rfl (six_one ⟨b, c, ph, n2, n3, n4⟩) ?_
                  have hS2 := H6.out.rowSetS hS hB hpw (cs := #[.int .i64 b, .int .i64 c, .int .i64 ph, .int .i64 n2, .int .i64 n3, .int .i64 n4])
                  have hSb2 := hS2.pickM [(q, #[.int .i64 b, .int .i64 c]), (p, sixV Am.zero)] (by simp)
                  replace hB := below_setRow hB hpw #[.int .i64 b, .int .i64 c, .int .i64 ph, .int .i64 n2, .int .i64 n3, .int .i64 n4]
                  clear hz hS hSb
                  refine hK.out _ _ hSb2 (fun hHeld => ?_)
                  clear hK K
                  (try simp only [Act.put])
                  refine wpAnyH_done (by kernel_rfl) ?_ _
                  clear hHeld hSb2
                  go_wp2_with fail
                  go_meet
                  exact ⟨pa, rfl, Lib.hid hpw, Lib.hid hS2, Lib.hid hB⟩
              · go_simp
                obtain ⟨pa, hpa⟩ : ∃ pa, pa = v2.heap.size := ⟨_, rfl⟩
                have hpw : w6.heap.size ≤ pa := by rw [hpa]; exact hB.size
                have hSb : St w (v2.alloc (.cells #[.int .i64 0, .int .i64 0, .int .i64 0, .int .i64 0, .int .i64 0, .int .i64 0] 25)) [(q, #[.int .i64 b, .int .i64 c]), (p, sixV Am.zero)] [strF bw 0 y1 y2 y3 y4, libF] := hS.on (below_new _ _)
                have hSn := hS.new #[.int .i64 0, .int .i64 0, .int .i64 0, .int .i64 0, .int .i64 0, .int .i64 0] 25
                replace hB := below2 hB (below_new v2 (.cells #[.int .i64 0, .int .i64 0, .int .i64 0, .int .i64 0, .int .i64 0, .int .i64 0] 25))
                rw [← hpa] at hSn ⊢
                clear hS hpa
                have hS := hSn
                clear hSn
                refine hK.out _ _ hSb (fun hHeld => ?_)
                clear hK K
                (try simp only [Act.put, List.setIfInBounds_toArray, List.set_cons_zero, List.set_cons_succ])
                refine wpAnyH_ready (rs := [12]) (by kernel_rfl) (by simp) ?_
                refine AllReadyH.cons (o := { dst := some 35, op := Op.call { callee := Callee.value (Operand.func 66), args := #[Operand.tmp 34], argTypes := #[9] }, type := 3, pos := _, after := #[{ on := 11, ground := Ground.data }, { on := 8, ground := Ground.chain }], guard := none }) rfl (fun K hK => ?_) AllReadyH.nil
                go_simp
                refine (g3 _ (hS.fact 1 rfl : Libs _).errs).mono ?_
                rintro e v6 ⟨rfl, hB'⟩
                replace hS := hS.on hB'
                replace hSb := hSb.on hB'
                replace hB := below2 hB hB'
                clear hB'
                go_wp2_with fail
                refine hK.out _ _ hSb (fun hHeld => ?_)
                clear hK K
                (try simp only [Act.put, List.setIfInBounds_toArray, List.set_cons_zero, List.set_cons_succ])
                refine wpAnyH_ready (rs := [16]) (by kernel_rfl) (by simp) ?_
                refine AllReadyH.cons (o := { dst := some 39, op := Op.call { callee := Callee.value (Operand.func 66), args := #[Operand.tmp 38], argTypes := #[9] }, type := 3, pos := _, after := #[{ on := 15, ground := Ground.data }, { on := 12, ground := Ground.chain }], guard := none }) rfl (fun K hK => ?_) AllReadyH.nil
                go_simp
                refine (g4 _ (hS.fact 1 rfl : Libs _).errs).mono ?_
                rintro e v7 ⟨rfl, hB'⟩
                replace hS := hS.on hB'
                replace hSb := hSb.on hB'
                replace hB := below2 hB hB'
                clear hB'
                go_wp2_with fail
                refine hK.out _ _ hSb (fun hHeld => ?_)
                clear hK K
                (try simp only [Act.put, List.setIfInBounds_toArray, List.set_cons_zero, List.set_cons_succ])
                refine wpAnyH_take (i := 17) (oi := { dst := some 40, op := Op.build 25 #[(0, Operand.tmp 23), (1, Operand.tmp 27), (2, Operand.tmp 31), (3, Operand.tmp 35), (4, Operand.tmp 39)], type := 25, pos := _, after := #[{ on := 0, ground := Ground.data }, { on := 4, ground := Ground.data }, { on := 8, ground := Ground.data }, { on := 12, ground := Ground.data }, { on := 16, ground := Ground.data }], guard := none }) (v := ?_) rfl (by kernel_rfl) (by kernel_rfl) (by kernel_rfl) (fun _ _ _ h => h) (Or.inl ⟨by rfl, ?hy⟩) hHeld ?_
                case hy => intro w0 hSw; (try dsimp only at hSw); go_simp; (try with_reducible rfl)
                (try simp only [Act.put, List.setIfInBounds_toArray, List.set_cons_zero, List.set_cons_succ])
                refine wpAnyH_ready (rs := [19]) (by kernel_rfl) (by simp) ?_
                refine AllReadyH.cons (o := { dst := none, op := Op.store 25 (Operand.tmp 6) (Operand.tmp 40), type := 0, pos := _, after := #[{ on := 18, ground := Ground.data }, { on := 17, ground := Ground.data }, { on := 16, ground := Ground.chain }, { on := 0, ground := Ground.phase }, { on := 1, ground := Ground.phase }, { on := 2, ground := Ground.phase }, { on := 3, ground := Ground.phase }, { on := 4, ground := Ground.phase }, { on := 5, ground := Ground.phase }, { on := 6, ground := Ground.phase }, { on := 7, ground := Ground.phase }, { on := 8, ground := Ground.phase }, { on := 9, ground := Ground.phase }, { on := 10, ground := Ground.phase }, { on := 11, ground := Ground.phase }, { on := 12, ground := Ground.phase }, { on := 13, ground := Ground.phase }, { on := 14, ground := Ground.phase }, { on := 15, ground := Ground.phase }, { on := 16, ground := Ground.phase }, { on := 17, ground := Ground.phase }, { on := 18, ground := Ground.phase }], guard := none }) rfl (fun K hK => ?_) AllReadyH.nil
                rw [if_pos (by rfl)]
                obtain ⟨tz, hz⟩ := hS.live (pa, #[.int .i64 0, .int .i64 0, .int .i64 0, .int .i64 0, .int .i64 0, .int .i64 0]) (by simp)
                refine wp_store_row 25 _ _ rfl pa #[.int .i64 b, .int .i64 c, .int .i64 ph, .int .i64 n2, .int .i64 n3, .int .i64 n4] rfl rfl tz _ hz (by rfl) rfl (six_one ⟨b, c, ph, n2, n3, n4⟩) ?_
                have hS2 := H6.out.rowSetS hS hB hpw (cs := #[.int .i64 b, .int .i64 c, .int .i64 ph, .int .i64 n2, .int .i64 n3, .int .i64 n4])
                have hSb2 := hS2.pickM [(q, #[.int .i64 b, .int .i64 c]), (p, sixV Am.zero)] (by simp)
                replace hB := below_setRow hB hpw #[.int .i64 b, .int .i64 c, .int .i64 ph, .int .i64 n2, .int .i64 n3, .int .i64 n4]
                clear hz hS hSb
                refine hK.out _ _ hSb2 (fun hHeld => ?_)
                clear hK K
                (try simp only [Act.put])
                refine wpAnyH_done (by kernel_rfl) ?_ _
                clear hHeld hSb2
                go_wp2_with fail
                go_meet
                exact ⟨pa, rfl, Lib.hid hpw, Lib.hid hS2, Lib.hid hB⟩
            · go_simp
              obtain ⟨pa, hpa⟩ : ∃ pa, pa = v1.heap.size := ⟨_, rfl⟩
              have hpw : w6.heap.size ≤ pa := by rw [hpa]; exact hB.size
              have hSb : St w (v1.alloc (.cells #[.int .i64 0, .int .i64 0, .int .i64 0, .int .i64 0, .int .i64 0, .int .i64 0] 25)) [(q, #[.int .i64 b, .int .i64 c]), (p, sixV Am.zero)] [strF bw 0 y1 y2 y3 y4, libF] := hS.on (below_new _ _)
              have hSn := hS.new #[.int .i64 0, .int .i64 0, .int .i64 0, .int .i64 0, .int .i64 0, .int .i64 0] 25
              replace hB := below2 hB (below_new v1 (.cells #[.int .i64 0, .int .i64 0, .int .i64 0, .int .i64 0, .int .i64 0, .int .i64 0] 25))
              rw [← hpa] at hSn ⊢
              clear hS hpa
              have hS := hSn
              clear hSn
              refine hK.out _ _ hSb (fun hHeld => ?_)
              clear hK K
              (try simp only [Act.put, List.setIfInBounds_toArray, List.set_cons_zero, List.set_cons_succ])
              refine wpAnyH_ready (rs := [8]) (by kernel_rfl) (by simp) ?_
              refine AllReadyH.cons (o := { dst := some 31, op := Op.call { callee := Callee.value (Operand.func 66), args := #[Operand.tmp 30], argTypes := #[9] }, type := 3, pos := _, after := #[{ on := 7, ground := Ground.data }, { on := 4, ground := Ground.chain }], guard := none }) rfl (fun K hK => ?_) AllReadyH.nil
              go_simp
              refine (g2 _ (hS.fact 1 rfl : Libs _).errs).mono ?_
              rintro e v8 ⟨rfl, hB'⟩
              replace hS := hS.on hB'
              replace hSb := hSb.on hB'
              replace hB := below2 hB hB'
              clear hB'
              go_wp2_with fail
              refine hK.out _ _ hSb (fun hHeld => ?_)
              clear hK K
              (try simp only [Act.put, List.setIfInBounds_toArray, List.set_cons_zero, List.set_cons_succ])
              refine wpAnyH_ready (rs := [12]) (by kernel_rfl) (by simp) ?_
              refine AllReadyH.cons (o := { dst := some 35, op := Op.call { callee := Callee.value (Operand.func 66), args := #[Operand.tmp 34], argTypes := #[9] }, type := 3, pos := _, after := #[{ on := 11, ground := Ground.data }, { on := 8, ground := Ground.chain }], guard := none }) rfl (fun K hK => ?_) AllReadyH.nil
              go_simp
              refine (g3 _ (hS.fact 1 rfl : Libs _).errs).mono ?_
              rintro e v9 ⟨rfl, hB'⟩
              replace hS := hS.on hB'
              replace hSb := hSb.on hB'
              replace hB := below2 hB hB'
              clear hB'
              go_wp2_with fail
              refine hK.out _ _ hSb (fun hHeld => ?_)
              clear hK K
              (try simp only [Act.put, List.setIfInBounds_toArray, List.set_cons_zero, List.set_cons_succ])
              refine wpAnyH_ready (rs := [16]) (by kernel_rfl) (by simp) ?_
              refine AllReadyH.cons (o := { dst := some 39, op := Op.call { callee := Callee.value (Operand.func 66), args := #[Operand.tmp 38], argTypes := #[9] }, type := 3, pos := _, after := #[{ on := 15, ground := Ground.data }, { on := 12, ground := Ground.chain }], guard := none }) rfl (fun K hK => ?_) AllReadyH.nil
              go_simp
              refine (g4 _ (hS.fact 1 rfl : Libs _).errs).mono ?_
              rintro e v10 ⟨rfl, hB'⟩
              replace hS := hS.on hB'
              replace hSb := hSb.on hB'
              replace hB := below2 hB hB'
              clear hB'
              go_wp2_with fail
              refine hK.out _ _ hSb (fun hHeld => ?_)
              clear hK K
              (try simp only [Act.put, List.setIfInBounds_toArray, List.set_cons_zero, List.set_cons_succ])
              refine wpAnyH_take (i := 17) (oi := { dst := some 40, op := Op.build 25 #[(0, Operand.tmp 23), (1, Operand.tmp 27), (2, Operand.tmp 31), (3, Operand.tmp 35), (4, Operand.tmp 39)], type := 25, pos := _, after := #[{ on := 0, ground := Ground.data }, { on := 4, ground := Ground.data }, { on := 8, ground := Ground.data }, { on := 12, ground := Ground.data }, { on := 16, ground := Ground.data }], guard := none }) (v := ?_) rfl (by kernel_rfl) (by kernel_rfl) (by kernel_rfl) (fun _ _ _ h => h) (Or.inl ⟨by rfl, ?hy⟩) hHeld ?_
              case hy => intro w0 hSw; (try dsimp only at hSw); go_simp; (try with_reducible rfl)
              (try simp only [Act.put, List.setIfInBounds_toArray, List.set_cons_zero, List.set_cons_succ])
              refine wpAnyH_ready (rs := [19]) (by kernel_rfl) (by simp) ?_
              refine AllReadyH.cons (o := { dst := none, op := Op.store 25 (Operand.tmp 6) (Operand.tmp 40), type := 0, pos := _, after := #[{ on := 18, ground := Ground.data }, { on := 17, ground := Ground.data }, { on := 16, ground := Ground.chain }, { on := 0, ground := Ground.phase }, { on := 1, ground := Ground.phase }, { on := 2, ground := Ground.phase }, { on := 3, ground := Ground.phase }, { on := 4, ground := Ground.phase }, { on := 5, ground := Ground.phase }, { on := 6, ground := Ground.phase }, { on := 7, ground := Ground.phase }, { on := 8, ground := Ground.phase }, { on := 9, ground := Ground.phase }, { on := 10, ground := Ground.phase }, { on := 11, ground := Ground.phase }, { on := 12, ground := Ground.phase }, { on := 13, ground := Ground.phase }, { on := 14, ground := Ground.phase }, { on := 15, ground := Ground.phase }, { on := 16, ground := Ground.phase }, { on := 17, ground := Ground.phase }, { on := 18, ground := Ground.phase }], guard := none }) rfl (fun K hK => ?_) AllReadyH.nil
              rw [if_pos (by rfl)]
              obtain ⟨tz, hz⟩ := hS.live (pa, #[.int .i64 0, .int .i64 0, .int .i64 0, .int .i64 0, .int .i64 0, .int .i64 0]) (by simp)
              refine wp_store_row 25 _ _ rfl pa #[.int .i64 b, .int .i64 c, .int .i64 ph, .int .i64 n2, .int .i64 n3, .int .i64 n4] rfl rfl tz _ hz (by rfl) rfl (six_one ⟨b, c, ph, n2, n3, n4⟩) ?_
              have hS2 := H6.out.rowSetS hS hB hpw (cs := #[.int .i64 b, .int .i64 c, .int .i64 ph, .int .i64 n2, .int .i64 n3, .int .i64 n4])
              have hSb2 := hS2.pickM [(q, #[.int .i64 b, .int .i64 c]), (p, sixV Am.zero)] (by simp)
              replace hB := below_setRow hB hpw #[.int .i64 b, .int .i64 c, .int .i64 ph, .int .i64 n2, .int .i64 n3, .int .i64 n4]
              clear hz hS hSb
              refine hK.out _ _ hSb2 (fun hHeld => ?_)
              clear hK K
              (try simp only [Act.put])
              refine wpAnyH_done (by kernel_rfl) ?_ _
              clear hHeld hSb2
              go_wp2_with fail
              go_meet
              exact ⟨pa, rfl, Lib.hid hpw, Lib.hid hS2, Lib.hid hB⟩
          · go_simp
            obtain ⟨pa, hpa⟩ : ∃ pa, pa = W6.heap.size := ⟨_, rfl⟩
            have hpw : w6.heap.size ≤ pa := by rw [hpa]; exact hB.size
            have hSb : St w (W6.alloc (.cells #[.int .i64 0, .int .i64 0, .int .i64 0, .int .i64 0, .int .i64 0, .int .i64 0] 25)) [(q, #[.int .i64 b, .int .i64 c]), (p, sixV Am.zero)] [strF bw 0 y1 y2 y3 y4, libF] := hS.on (below_new _ _)
            have hSn := hS.new #[.int .i64 0, .int .i64 0, .int .i64 0, .int .i64 0, .int .i64 0, .int .i64 0] 25
            replace hB := below2 hB (below_new W6 (.cells #[.int .i64 0, .int .i64 0, .int .i64 0, .int .i64 0, .int .i64 0, .int .i64 0] 25))
            rw [← hpa] at hSn ⊢
            clear hS hpa
            have hS := hSn
            clear hSn
            refine hK.out _ _ hSb (fun hHeld => ?_)
            clear hK K
            (try simp only [Act.put, List.setIfInBounds_toArray, List.set_cons_zero, List.set_cons_succ])
            refine wpAnyH_ready (rs := [4]) (by kernel_rfl) (by simp) ?_
            refine AllReadyH.cons (o := { dst := some 27, op := Op.call { callee := Callee.value (Operand.func 65), args := #[Operand.tmp 26], argTypes := #[9] }, type := 3, pos := _, after := #[{ on := 3, ground := Ground.data }], guard := none }) rfl (fun K hK => ?_) AllReadyH.nil
            go_simp
            refine (g1 _).mono ?_
            rintro e v11 ⟨rfl, hB'⟩
            replace hS := hS.on hB'
            replace hSb := hSb.on hB'
            replace hB := below2 hB hB'
            clear hB'
            go_wp2_with fail
            refine hK.out _ _ hSb (fun hHeld => ?_)
            clear hK K
            (try simp only [Act.put, List.setIfInBounds_toArray, List.set_cons_zero, List.set_cons_succ])
            refine wpAnyH_ready (rs := [8]) (by kernel_rfl) (by simp) ?_
            refine AllReadyH.cons (o := { dst := some 31, op := Op.call { callee := Callee.value (Operand.func 66), args := #[Operand.tmp 30], argTypes := #[9] }, type := 3, pos := _, after := #[{ on := 7, ground := Ground.data }, { on := 4, ground := Ground.chain }], guard := none }) rfl (fun K hK => ?_) AllReadyH.nil
            go_simp
            refine (g2 _ (hS.fact 1 rfl : Libs _).errs).mono ?_
            rintro e v12 ⟨rfl, hB'⟩
            replace hS := hS.on hB'
            replace hSb := hSb.on hB'
            replace hB := below2 hB hB'
            clear hB'
            go_wp2_with fail
            refine hK.out _ _ hSb (fun hHeld => ?_)
            clear hK K
            (try simp only [Act.put, List.setIfInBounds_toArray, List.set_cons_zero, List.set_cons_succ])
            refine wpAnyH_ready (rs := [12]) (by kernel_rfl) (by simp) ?_
            refine AllReadyH.cons (o := { dst := some 35, op := Op.call { callee := Callee.value (Operand.func 66), args := #[Operand.tmp 34], argTypes := #[9] }, type := 3, pos := _, after := #[{ on := 11, ground := Ground.data }, { on := 8, ground := Ground.chain }], guard := none }) rfl (fun K hK => ?_) AllReadyH.nil
            go_simp
            refine (g3 _ (hS.fact 1 rfl : Libs _).errs).mono ?_
            rintro e v13 ⟨rfl, hB'⟩
            replace hS := hS.on hB'
            replace hSb := hSb.on hB'
            replace hB := below2 hB hB'
            clear hB'
            go_wp2_with fail
            refine hK.out _ _ hSb (fun hHeld => ?_)
            clear hK K
            (try simp only [Act.put, List.setIfInBounds_toArray, List.set_cons_zero, List.set_cons_succ])
            refine wpAnyH_ready (rs := [16]) (by kernel_rfl) (by simp) ?_
            refine AllReadyH.cons (o := { dst := some 39, op := Op.call { callee := Callee.value (Operand.func 66), args := #[Operand.tmp 38], argTypes := #[9] }, type := 3, pos := _, after := #[{ on := 15, ground := Ground.data }, { on := 12, ground := Ground.chain }], guard := none }) rfl (fun K hK => ?_) AllReadyH.nil
            go_simp
            refine (g4 _ (hS.fact 1 rfl : Libs _).errs).mono ?_
            rintro e v14 ⟨rfl, hB'⟩
            replace hS := hS.on hB'
            replace hSb := hSb.on hB'
            replace hB := below2 hB hB'
            clear hB'
            go_wp2_with fail
            refine hK.out _ _ hSb (fun hHeld => ?_)
            clear hK K
            (try simp only [Act.put, List.setIfInBounds_toArray, List.set_cons_zero, List.set_cons_succ])
            refine wpAnyH_take (i := 17) (oi := { dst := some 40, op := Op.build 25 #[(0, Operand.tmp 23), (1, Operand.tmp 27), (2, Operand.tmp 31), (3, Operand.tmp 35), (4, Operand.tmp 39)], type := 25, pos := _, after := #[{ on := 0, ground := Ground.data }, { on := 4, ground := Ground.data }, { on := 8, ground := Ground.data }, { on := 12, ground := Ground.data }, { on := 16, ground := Ground.data }], guard := none }) (v := ?_) rfl (by kernel_rfl) (by kernel_rfl) (by kernel_rfl) (fun _ _ _ h => h) (Or.inl ⟨by rfl, ?hy⟩) hHeld ?_
            case hy => intro w0 hSw; (try dsimp only at hSw); go_simp; (try with_reducible rfl)
            (try simp only [Act.put, List.setIfInBounds_toArray, List.set_cons_zero, List.set_cons_succ])
            refine wpAnyH_ready (rs := [19]) (by kernel_rfl) (by simp) ?_
            refine AllReadyH.cons (o := { dst := none, op := Op.store 25 (Operand.tmp 6) (Operand.tmp 40), type := 0, pos := _, after := #[{ on := 18, ground := Ground.data }, { on := 17, ground := Ground.data }, { on := 16, ground := Ground.chain }, { on := 0, ground := Ground.phase }, { on := 1, ground := Ground.phase }, { on := 2, ground := Ground.phase }, { on := 3, ground := Ground.phase }, { on := 4, ground := Ground.phase }, { on := 5, ground := Ground.phase }, { on := 6, ground := Ground.phase }, { on := 7, ground := Ground.phase }, { on := 8, ground := Ground.phase }, { on := 9, ground := Ground.phase }, { on := 10, ground := Ground.phase }, { on := 11, ground := Ground.phase }, { on := 12, ground := Ground.phase }, { on := 13, ground := Ground.phase }, { on := 14, ground := Ground.phase }, { on := 15, ground := Ground.phase }, { on := 16, ground := Ground.phase }, { on := 17, ground := Ground.phase }, { on := 18, ground := Ground.phase }], guard := none }) rfl (fun K hK => ?_) AllReadyH.nil
            rw [if_pos (by rfl)]
            obtain ⟨tz, hz⟩ := hS.live (pa, #[.int .i64 0, .int .i64 0, .int .i64 0, .int .i64 0, .int .i64 0, .int .i64 0]) (by simp)
            refine wp_store_row 25 _ _ rfl pa #[.int .i64 b, .int .i64 c, .int .i64 ph, .int .i64 n2, .int .i64 n3, .int .i64 n4] rfl rfl tz _ hz (by rfl) rfl (six_one ⟨b, c, ph, n2, n3, n4⟩) ?_
            have hS2 := H6.out.rowSetS hS hB hpw (cs := #[.int .i64 b, .int .i64 c, .int .i64 ph, .int .i64 n2, .int .i64 n3, .int .i64 n4])
            have hSb2 := hS2.pickM [(q, #[.int .i64 b, .int .i64 c]), (p, sixV Am.zero)] (by simp)
            replace hB := below_setRow hB hpw #[.int .i64 b, .int .i64 c, .int .i64 ph, .int .i64 n2, .int .i64 n3, .int .i64 n4]
            clear hz hS hSb
            refine hK.out _ _ hSb2 (fun hHeld => ?_)
            clear hK K
            (try simp only [Act.put])
            refine wpAnyH_done (by kernel_rfl) ?_ _
            clear hHeld hSb2
            go_wp2_with fail
            go_meet
            exact ⟨pa, rfl, Lib.hid hpw, Lib.hid hS2, Lib.hid hB⟩
        obtain ⟨pa, rfl, Hpw, HSc, HBc⟩ := hcut
        clear g1 g2 g3 g4 H6 Hpw HBc
        have gI := fun W => AIs_any b c ph n2 n3 n4 W
        cases hright : Am.right ⟨b, c, ph, n2, n3, n4⟩ with
        | false =>
          simp only [hright] at gI
          have He : Hid (o = none) := Lib.hid (HN.out (Sh.no_right Ew.out Hph.out (by rw [HA.out]; exact hright)))
          clear hright
          go_wp2_with (refine wpList_load_st rfl 25 _ rfl HSc.out 0 _ _ rfl rfl _ Tryz.underlying25 rfl (by rfl) ?_)
          refine (gI _).mono ?_
          rintro e w8 ⟨rfl, hB⟩
          have HS8 := Lib.hid (HSc.out.on hB)
          clear hB gI HSc
          go_wp2_with fail
          refine (gn _).mono ?_
          rintro e w9 ⟨rfl, rfl⟩
          exact ⟨rfl, by rw [He.out]; first | done | rfl, HS8.out.below⟩
        | true =>
          simp only [hright] at gI
          have gL := fun W h => line_ok b c ph n2 n3 n4 hright W h
          by_cases hl : Sh.lineL ⟨b, c, ph, n2, n3, n4⟩ = bl s
          · have He : Hid (o = some ⟨b, c, ph, n2, n3, n4⟩) := Lib.hid (by rw [Ho.out]; exact Sh.readO_line hright hl)
            simp only [hl, strOf_bl] at gL
            clear hright hl
            go_wp2_with (refine wpList_load_st rfl 25 _ rfl HSc.out 0 _ _ rfl rfl _ Tryz.underlying25 rfl (by rfl) ?_)
            refine (gI _).mono ?_
            rintro e w8 ⟨rfl, hB⟩
            have HS8 := Lib.hid (HSc.out.on hB)
            clear hB gI HSc
            go_wp2_with (refine wpList_loadg (by rfl) 25 _ rfl HS8.out 0 _ _ rfl rfl _ Tryz.underlying25 rfl (by rfl) ?_)
            refine (gL _ (HS8.out.fact 1 rfl)).mono ?_
            rintro e w9 ⟨rfl, hB⟩
            have HS9 := Lib.hid (HS8.out.on hB)
            clear hB gL HS8
            go_wp2_with fail
            refine (gy _).mono ?_
            rintro e w10 ⟨rfl, rfl⟩
            have H69 : Hid (Six w10 p Am.zero) := Lib.hid ⟨HS9.out.live (p, sixV Am.zero) (by simp)⟩
            have HB9 := Lib.hid HS9.out.below
            go_wp2_with (first
              | (refine wpList_load_st rfl 25 _ rfl HS9.out 0 _ _ rfl rfl _ Tryz.underlying25 rfl (by rfl) ?_)
              | (refine wpList_store_six rfl 25 _ _ rfl p Am.zero ⟨b, c, ph, n2, n3, n4⟩ rfl rfl H69.out (by rfl) ?_; intro wz hwz; have HZ := Lib.hid (Six.put6 H69.out hwz); have HBz := Lib.hid (below_put6 HB9.out (Nat.le_of_eq Hp.out.symm) hwz); clear hwz))
            (try simp only [Exit.inBlock, Exit.then]); refine bodyPost_ret (ret_alarm1 (a := ⟨b, c, ph, n2, n3, n4⟩) rfl rfl HZ.out) rfl ?_
            exact ⟨by rw [He.out]; first | done | rfl, HBz.out⟩
          · have He : Hid (o = none) := Lib.hid (HN.out (Sh.no_line Ew.out Hph.out (by rw [HA.out]; exact hl)))
            have hne : ¬ strOf (Sh.lineL ⟨b, c, ph, n2, n3, n4⟩) = s := fun h => hl (by rw [← h, bl_strOf])
            have hne1 : ((strOf (Sh.lineL ⟨b, c, ph, n2, n3, n4⟩)).toList == s.toList) = false := by
              rw [beq_eq_false_iff_ne, strOf_toList, ByteArray.toList_eq]
              exact hl
            obtain ⟨u, hu⟩ : ∃ u, u = strOf (Sh.lineL ⟨b, c, ph, n2, n3, n4⟩) := ⟨_, rfl⟩
            simp only [← hu] at gL
            rw [← hu] at hne hne1
            have Hne := Lib.hid hne
            clear hright hl hu hne
            go_wp2_with (refine wpList_load_st rfl 25 _ rfl HSc.out 0 _ _ rfl rfl _ Tryz.underlying25 rfl (by rfl) ?_)
            refine (gI _).mono ?_
            rintro e w8 ⟨rfl, hB⟩
            have HS8 := Lib.hid (HSc.out.on hB)
            clear hB gI HSc
            go_wp2_with (refine wpList_loadg (by rfl) 25 _ rfl HS8.out 0 _ _ rfl rfl _ Tryz.underlying25 rfl (by rfl) ?_)
            refine (gL _ (HS8.out.fact 1 rfl)).mono ?_
            rintro e w9 ⟨rfl, hB⟩
            have HS9 := Lib.hid (HS8.out.on hB)
            clear hB gL HS8
            go_wp2_with fail
            refine (gn _).mono ?_
            rintro e w10 ⟨rfl, rfl⟩
            exact ⟨rfl, by rw [He.out]; first | done | rfl, HS9.out.below⟩
  · have He : Hid (o = none) := Lib.hid (HN.out (by
      refine Sh.no_five (fun h => h5 ?_)
      rw [Hn.out]
      have h1 : (ps.map bl).length = 5 := by rw [Hps.out, Sh.split_five h]; exact h
      simpa using h1))
    have b5 : ((n : Int) == 5) = false := by rw [beq_eq_false_iff_ne]; omega
    have c5 : ((n : Int) = 5) = False := eq_false (by omega)
    clear hn h5
    go_wp2_with fail
    refine (gn _).mono ?_
    rintro e w2 ⟨rfl, rfl⟩
    exact ⟨rfl, by rw [He.out]; first | done | rfl, HS1.out.below⟩
end Go.Proofs.YtpgichlaghhdeaaGreatDoor
