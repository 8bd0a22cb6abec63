/-
  Layer 11 (show), the reference: Heard, Lines, Count.
-/
import Derived.Test.YtpgichlaghhdeaaGreatDoorXRefShow4
import Derived.Test.YtpgichlaghhdeaaGreatDoorXJb
import Derived.Deep.RegionHeld3
namespace Go.Proofs.YtpgichlaghhdeaaGreatDoor
set_option maxRecDepth 10000
open Go.RowKit

/-- What the reference asks of the layers ahead to tell who is heard. -/
structure RefHK : Prop where
  is8 : ∀ (m n : Int) (A : Option Addr) (l c : Nat) (ls : List Alm) (w : World) (_h : Told w A l c ls), Calls Tryz.prog 42 #[.agg #[.int .i64 m, .int .i64 n, .slice A l c]] w fun e w' => e = .returned (.bool (Bd.isB m n ls)) ∧ Below w.heap.size w w'
  is10 : ∀ (A : Option Addr) (l c : Nat) (ls : List Win) (w : World) (_hl : l = ls.length) (_hA : WinsAt w w.heap.size A ls) (_hf : l ≤ 1000), Calls Tryz.prog 43 #[.slice A l c] w fun e w' => e = .returned (.bool (Mu.isL ls)) ∧ Below w.heap.size w w'
  has10 : ∀ (A : Option Addr) (l c : Nat) (ls : List Win) (b t : Int) (w : World) (_hl : l = ls.length) (_hA : WinsAt w w.heap.size A ls) (_hf : l ≤ 1000), Calls Tryz.prog 45 #[.slice A l c, .int .i64 b, .int .i64 t] w fun e w' => e = .returned (.bool (Mu.has ls b t)) ∧ w' = w
  sort7 : ∀ (A : Option Addr) (l cap : Nat) (ls : List Alm) (w : World) (_hl : l = ls.length) (_hA : AlmsAt w w.heap.size A ls) (_hf : l ≤ 1000), Calls Tryz.prog 44 #[.slice A l cap] w (OwnedA w (Rk.sort ls))

/-- What a call ends with that hands back alarms in memory of their own, and an error. -/
def GivesH (w : World) (ls : List Alm) (er : Int) (e : Ending) (w' : World) : Prop := ∃ A q c, q = ls.length ∧ e = .returned (.tuple #[.slice A q c, .int .i64 er]) ∧ OwnA w' w.heap.size (.slice A q c) ls ∧ Below w.heap.size w w'
/-- .. and texts. -/
def GivesX (w : World) (xs : List ByteArray) (er : Int) (e : Ending) (w' : World) : Prop := ∃ A q c, q = xs.length ∧ e = .returned (.tuple #[.slice A q c, .int .i64 er]) ∧ StrsAt w' w'.heap.size A xs ∧ (A = none → c = 0) ∧ q ≤ c ∧ Below w.heap.size w w'
/-- Is a bed not muted? -/
def Sh.un (ws : List Win) (now : Int) (a : Alm) : Bool := !Mu.has ws a.b now
theorem AlmsAt.oneH (w : World) (x0 x1 x2 x3 x4 x5 : Int) (t : TypeId) : AlmsAt (w.alloc (.cells #[.int .i64 x0, .int .i64 x1, .int .i64 x2, .int .i64 x3, .int .i64 x4, .int .i64 x5] t)) (w.alloc (.cells #[.int .i64 x0, .int .i64 x1, .int .i64 x2, .int .i64 x3, .int .i64 x4, .int .i64 x5] t)).heap.size (some ⟨w.heap.size, 0, none⟩) [⟨x0, x1, x2, x3, x4, x5⟩] := fun i hi => by
  obtain rfl : i = 0 := by simpa using hi
  have hb := World.alloc_heap_new w (.cells #[.int .i64 x0, .int .i64 x1, .int .i64 x2, .int .i64 x3, .int .i64 x4, .int .i64 x5] t)
  refine ⟨w.heap.size, 0, rfl, by simp, ?_⟩
  exact ⟨by simp only [World.cell?, hb]; rfl, by simp only [World.cell?, hb]; rfl, by simp only [World.cell?, hb]; rfl, by simp only [World.cell?, hb]; rfl, by simp only [World.cell?, hb]; rfl, by simp only [World.cell?, hb]; rfl⟩

set_option maxHeartbeats 4000000 in
theorem RHeard_any (HK : Hid RefHK) (m n : Int) (A : Option Addr) (l c : Nat) (ls : List Alm) (B : Option Addr) (k0 d : Nat) (ws : List Win) (w : World) (h1 : Told w A l c ls) (h2 : ToldW w B k0 d ws) :
    Calls Tryz.prog 14 #[.agg #[.int .i64 m, .int .i64 n, .slice A l c], .slice B k0 d] w (GivesH w (Sh.heard m n ls ws) (Sh.heardE m n ls ws)) := by
  obtain ⟨r, hr⟩ : ∃ r, r = Sh.heard m n ls ws := ⟨_, rfl⟩
  obtain ⟨er, her⟩ : ∃ er, er = Sh.heardE m n ls ws := ⟨_, rfl⟩
  rw [← hr, ← her]
  have g8 := fun W (h : Told W A l c ls) => HK.out.is8 m n A l c ls W h
  have g10 := fun W (h : WinsAt W W.heap.size B ws) => HK.out.is10 B k0 d ws W h2.1 h h2.2.2.2
  have HS0 : Hid (St w (w.alloc (.cells #[.int .i64 m, .int .i64 n, .slice A l c] 28)) [(w.heap.size, #[.int .i64 m, .int .i64 n, .slice A l c])] [rowF A ls, winF B ws]) := Lib.hid (by
    have h := (((St.start w).more (winF B ws) h2.2.1).more (rowF A ls) h1.2.1).new #[.int .i64 m, .int .i64 n, .slice A l c] 28
    exact h)
  have Hl := Lib.hid h1.1
  have Hl1 := Lib.hid h1.2.2.2
  have Hn0 := Lib.hid h1.2.2.1
  have H2 := Lib.hid (show k0 = ws.length ∧ k0 ≤ 1000 from ⟨h2.1, h2.2.2.2⟩)
  clear h1 h2
  cases hb : Bd.isB m n ls with
  | false =>
    have He : Hid (r = [] ∧ er = 1) := Lib.hid (by
      have e : Sh.heardE m n ls ws = 1 := by unfold Sh.heardE; rw [hb]; rfl
      exact ⟨by rw [hr]; unfold Sh.heard; rw [e]; rfl, by rw [her, e]⟩)
    simp only [hb] at g8
    clear hb hr her g10
    go_enter Tryz.func14, Tryz.ntmps14
    go_wp2_with (refine wpList_load_st rfl 28 _ rfl HS0.out 0 _ _ rfl rfl _ Tryz.underlying28 rfl (by rfl) ?_)
    refine (g8 _ ⟨Hl.out, HS0.out.fact 0 rfl, Hn0.out, Hl1.out⟩).mono ?_
    rintro e w2 ⟨rfl, hB⟩
    have HB := Lib.hid (HS0.out.on hB).below
    clear hB g8
    go_wp2
    go_ret2
    exact ⟨none, 0, 0, by rw [He.out.1]; rfl, by rw [He.out.2]; rfl, by rw [He.out.1]; exact OwnA.nil _ _, HB.out⟩
  | true =>
    simp only [hb] at g8
    cases hi : Mu.isL ws with
    | false =>
      have He : Hid (r = [] ∧ er = 1) := Lib.hid (by
        have e : Sh.heardE m n ls ws = 1 := by unfold Sh.heardE; rw [hi, Bool.and_false]; rfl
        exact ⟨by rw [hr]; unfold Sh.heard; rw [e]; rfl, by rw [her, e]⟩)
      simp only [hi] at g10
      clear hb hi hr her
      go_enter Tryz.func14, Tryz.ntmps14
      go_wp2_with (refine wpList_load_st rfl 28 _ rfl HS0.out 0 _ _ rfl rfl _ Tryz.underlying28 rfl (by rfl) ?_)
      refine (g8 _ ⟨Hl.out, HS0.out.fact 0 rfl, Hn0.out, Hl1.out⟩).mono ?_
      rintro e w2 ⟨rfl, hB⟩
      have HS1 := Lib.hid (HS0.out.on hB)
      clear hB g8
      go_wp2_with fail
      refine (g10 _ (HS1.out.fact 1 rfl)).mono ?_
      rintro e w3 ⟨rfl, hB⟩
      have HB := Lib.hid (HS1.out.on hB).below
      clear hB g10
      go_wp2
      go_ret2
      exact ⟨none, 0, 0, by rw [He.out.1]; rfl, by rw [He.out.2]; rfl, by rw [He.out.1]; exact OwnA.nil _ _, HB.out⟩
    | true =>
      have He : Hid (er = 0) := Lib.hid (by rw [her]; unfold Sh.heardE; rw [hb, hi]; rfl)
      have Hr : Hid ([] ++ ((Rk.sort ls).drop 0).filter (Sh.un ws n) = r) := Lib.hid (by rw [hr]; unfold Sh.heard Sh.heardE; rw [hb, hi]; rfl)
      simp only [hi] at g10
      have g7 := fun W (h : AlmsAt W W.heap.size A ls) => HK.out.sort7 A l c ls W Hl.out h Hl1.out
      clear hb hi hr her
      go_enter Tryz.func14, Tryz.ntmps14
      go_wp2_with (refine wpList_load_st rfl 28 _ rfl HS0.out 0 _ _ rfl rfl _ Tryz.underlying28 rfl (by rfl) ?_)
      refine (g8 _ ⟨Hl.out, HS0.out.fact 0 rfl, Hn0.out, Hl1.out⟩).mono ?_
      rintro e w2 ⟨rfl, hB⟩
      have HS1 := Lib.hid (HS0.out.on hB)
      clear hB g8 HS0
      go_wp2_with fail
      refine (g10 _ (HS1.out.fact 1 rfl)).mono ?_
      rintro e w3 ⟨rfl, hB⟩
      have HS2 := Lib.hid (HS1.out.on hB)
      clear hB g10 HS1
      obtain ⟨p, hp⟩ : ∃ p, p = w.heap.size := ⟨_, rfl⟩
      have Hp := Lib.hid hp
      rw [← hp] at HS2 ⊢
      clear hp
      have d2 := HS2.out.cell 0 rfl 2 rfl
      go_wp2_with fail
      refine (g7 _ (HS2.out.fact 0 rfl)).mono ?_
      rintro e w4 ⟨v, rfl, hO, hB⟩
      obtain ⟨A7, c7, rfl, hA7, _, _⟩ := hO.slice
      have hsl : (Rk.sort ls).length = l := by rw [Rk.sort_len, Hl.out]
      rw [hsl]
      obtain ⟨ss, hss⟩ : ∃ ss, ss = Rk.sort ls := ⟨_, rfl⟩
      rw [← hss] at hA7 Hr hsl
      have Hsl := Lib.hid hsl
      have HS3 := Lib.hid ((HS2.out.on hB).more (rowF A7 ss) hA7)
      have Hwp : Hid (w.heap.size ≤ w4.heap.size) := Lib.hid (HS2.out.on hB).below.size
      have StH0 : Hid (∀ W, Below w4.heap.size w4 W → St w W [(p, #[.int .i64 m, .int .i64 n, .slice A l c])] [rowF A7 ss, rowF A ls, winF B ws]) := Lib.hid (fun W h => HS3.out.on h)
      clear hB g7 HS2 hO hA7 hsl hss d2
      go_wp2_with fail
      go_loopw [7, 8] (fun z i wr => ∃ (k : Nat) (out : List Alm) (A' : Option Addr) (q c' : Nat), z = .slice A' q c' ∧ Hid (q = out.length) ∧ k ≤ l ∧ i = .int .i64 (k : Int) ∧ Hid (OwnA wr w4.heap.size (.slice A' q c') out) ∧ Hid (St w wr [(p, #[.int .i64 m, .int .i64 n, .slice A l c])] [rowF A7 ss, rowF A ls, winF B ws]) ∧ Hid (Below w4.heap.size w4 wr) ∧ Hid (out ++ (ss.drop k).filter (Sh.un ws n) = r) ∧ Hid (out.length ≤ k)) (fun _ i _ => l - (intOf i).toNat)
      case atStart => exact ⟨0, [], none, 0, 0, rfl, Lib.hid rfl, Nat.zero_le _, rfl, Lib.hid (OwnA.nil _ _), HS3, Lib.hid (Below.refl _ _), Hr, Lib.hid (Nat.zero_le _)⟩
      case round =>
        clear HS3 Hr
        obtain ⟨k, out, A', q, c', rfl, Hq, hk, rfl, HO, HS, HB4, Ho, Hlen⟩ := hrel
        by_cases hlt : k < l
        · have kl : k < ss.length := by rw [Hsl.out]; exact hlt
          obtain ⟨b7, o7, hA7, hb7, h6⟩ := (show AlmsAt wr wr.heap.size A7 ss from HS.out.fact 0 rfl) k kl
          subst hA7
          obtain ⟨x, hx⟩ : ∃ x, x = ss[k] := ⟨_, rfl⟩
          have Hd : Hid (ss.drop k = x :: ss.drop (k + 1)) := Lib.hid (by rw [hx]; exact List.drop_eq_getElem_cons kl)
          rw [← hx] at h6
          obtain ⟨x0, x1, x2, x3, x4, x5⟩ := x
          have StH := StH0
          have H6 := Lib.hid h6
          have Hb7 := Lib.hid hb7
          have d1 := HS.out.cell 0 rfl 1 rfl
          have gH := fun W (h : WinsAt W W.heap.size B ws) => HK.out.has10 B k0 d ws x0 n W H2.out.1 h H2.out.2
          have HSd : Hid (St w wr.drew [(p, #[.int .i64 m, .int .i64 n, .slice A l c])] [rowF (some ⟨b7, o7, none⟩) ss, rowF A ls, winF B ws]) := Lib.hid HS.out.drew
          have i1 : (k : Int) < (l : Int) := by omega
          have i3 : (0 : Int) ≤ (k : Int) := by omega
          have Ik : Hid (wrap64 ((k : Int) + 1) = (k : Int) + 1) := Lib.hid (by have := Hl1.out; unfold wrap64; omega)
          have Hk := Lib.hid hlt
          have hS : wr.drew.cell? ⟨b7, o7 + k * 6, none⟩ = some (.int .i64 x0) ∧ wr.drew.cell? ⟨p, 1, none⟩ = some (.int .i64 n) := ⟨h6.c0, d1⟩
          clear hx kl hk hlt h6 hb7 d1
          cases hh : Mu.has ws x0 n with
          | true =>
            simp only [hh] at gH
            have Ho2 : Hid (out ++ (ss.drop (k + 1)).filter (Sh.un ws n) = r) := Lib.hid (by rw [← Ho.out, Hd.out, List.filter_cons]; unfold Sh.un; simp only [hh]; rfl)
            clear hh Ho Hd
            go_wp2_with fail
            refine wp_region_held_drew (S := (fun W : World => W.cell? ⟨b7, o7 + k * 6, none⟩ = some (.int .i64 x0) ∧ W.cell? ⟨p, 1, none⟩ = some (.int .i64 n))) (by kernel_rfl) hS (fun hHeld => ?_)
            refine wpAnyH_take (i := 0) (oi := { dst := some 26, op := Op.move (Operand.tmp 1), type := 29, pos := _, after := #[], guard := none }) (v := ?_) rfl (by kernel_rfl) (by kernel_rfl) (by kernel_rfl) (fun _ _ _ h => h) (Or.inl ⟨by rfl, ?hy⟩) hHeld ?_
            case hy => intro w0 hSw; (try dsimp only at hSw); go_simp; (try with_reducible rfl)
            (try simp only [Act.put, List.setIfInBounds_toArray, List.set_cons_zero, List.set_cons_succ])
            refine wpAnyH_take (i := 1) (oi := { dst := some 27, op := Op.move (Operand.tmp 6), type := 26, pos := _, after := #[], guard := none }) (v := ?_) rfl (by kernel_rfl) (by kernel_rfl) (by kernel_rfl) (fun _ _ _ h => h) (Or.inl ⟨by rfl, ?hy⟩) hHeld ?_
            case hy => intro w0 hSw; (try dsimp only at hSw); go_simp; (try with_reducible rfl)
            (try simp only [Act.put, List.setIfInBounds_toArray, List.set_cons_zero, List.set_cons_succ])
            refine wpAnyH_take (i := 2) (oi := { dst := some 28, op := Op.move (Operand.tmp 8), type := 3, pos := _, after := #[], guard := none }) (v := ?_) rfl (by kernel_rfl) (by kernel_rfl) (by kernel_rfl) (fun _ _ _ h => h) (Or.inl ⟨by rfl, ?hy⟩) hHeld ?_
            case hy => intro w0 hSw; (try dsimp only at hSw); go_simp; (try with_reducible rfl)
            (try simp only [Act.put, List.setIfInBounds_toArray, List.set_cons_zero, List.set_cons_succ])
            refine wpAnyH_take (i := 3) (oi := { dst := some 29, op := Op.indexAddr 26 (Operand.tmp 27) (Operand.tmp 28), type := 0, pos := _, after := #[{ on := 1, ground := Ground.data }, { on := 2, ground := Ground.data }], guard := none }) (v := ?_) rfl (by kernel_rfl) (by kernel_rfl) (by kernel_rfl) (fun _ _ _ h => h) (Or.inl ⟨by rfl, ?hy⟩) hHeld ?_
            case hy => intro w0 hSw; (try dsimp only at hSw); go_simp; (try with_reducible rfl)
            (try simp only [Act.put, List.setIfInBounds_toArray, List.set_cons_zero, List.set_cons_succ])
            refine wpAnyH_take (i := 4) (oi := { dst := some 30, op := Op.fieldAddr 25 (Operand.tmp 29) 0, type := 0, pos := _, after := #[{ on := 3, ground := Ground.data }], guard := none }) (v := ?_) rfl (by kernel_rfl) (by kernel_rfl) (by kernel_rfl) (fun _ _ _ h => h) (Or.inl ⟨by rfl, ?hy⟩) hHeld ?_
            case hy => intro w0 hSw; (try dsimp only at hSw); go_simp; (try with_reducible rfl)
            (try simp only [Act.put, List.setIfInBounds_toArray, List.set_cons_zero, List.set_cons_succ])
            refine wpAnyH_take (i := 5) (oi := { dst := some 31, op := Op.fieldAddr 23 (Operand.tmp 30) 0, type := 0, pos := _, after := #[{ on := 4, ground := Ground.data }], guard := none }) (v := ?_) rfl (by kernel_rfl) (by kernel_rfl) (by kernel_rfl) (fun _ _ _ h => h) (Or.inl ⟨by rfl, ?hy⟩) hHeld ?_
            case hy => intro w0 hSw; (try dsimp only at hSw); go_simp; (try with_reducible rfl)
            (try simp only [Act.put, List.setIfInBounds_toArray, List.set_cons_zero, List.set_cons_succ])
            refine wpAnyH_take (i := 6) (oi := { dst := some 32, op := Op.load 3 (Operand.tmp 31), type := 3, pos := _, after := #[{ on := 5, ground := Ground.data }], guard := none }) (v := ?_) rfl (by kernel_rfl) (by kernel_rfl) (by kernel_rfl) (fun _ _ _ h => h) (Or.inl ⟨by rfl, ?hy⟩) hHeld ?_
            case hy => intro w0 hSw; have d := hSw.1; clear hSw; go_simp; (try with_reducible rfl)
            (try simp only [Act.put, List.setIfInBounds_toArray, List.set_cons_zero, List.set_cons_succ])
            refine wpAnyH_take (i := 7) (oi := { dst := some 33, op := Op.fieldAddr 28 (Operand.tmp 2) 1, type := 0, pos := _, after := #[], guard := none }) (v := ?_) rfl (by kernel_rfl) (by kernel_rfl) (by kernel_rfl) (fun _ _ _ h => h) (Or.inl ⟨by rfl, ?hy⟩) hHeld ?_
            case hy => intro w0 hSw; (try dsimp only at hSw); go_simp; (try with_reducible rfl)
            (try simp only [Act.put, List.setIfInBounds_toArray, List.set_cons_zero, List.set_cons_succ])
            refine wpAnyH_take (i := 8) (oi := { dst := some 34, op := Op.load 3 (Operand.tmp 33), type := 3, pos := _, after := #[{ on := 7, ground := Ground.data }], guard := none }) (v := ?_) rfl (by kernel_rfl) (by kernel_rfl) (by kernel_rfl) (fun _ _ _ h => h) (Or.inl ⟨by rfl, ?hy⟩) hHeld ?_
            case hy => intro w0 hSw; have d := hSw.2; clear hSw; go_simp; (try with_reducible rfl)
            (try simp only [Act.put, List.setIfInBounds_toArray, List.set_cons_zero, List.set_cons_succ])
            refine wpAnyH_ready (rs := [9]) (by kernel_rfl) (by simp) ?_
            refine AllReadyH.cons (o := { dst := some 35, op := Op.call { callee := Callee.value (Operand.func 45), args := #[Operand.tmp 26, Operand.tmp 32, Operand.tmp 34], argTypes := #[29, 3, 3] }, type := 4, pos := _, after := #[{ on := 0, ground := Ground.data }, { on := 6, ground := Ground.data }, { on := 8, ground := Ground.data }], guard := none }) rfl (fun K hK => ?_) AllReadyH.nil
            go_simp
            refine (gH _ (by first | exact HSd.out.fact 2 rfl | exact HSd.out.fact 2 rfl)).mono ?_
            rintro e wq ⟨rfl, hww⟩
            subst hww
            go_wp2_with fail
            refine hK.out _ _ hS (fun hHeld => ?_)
            clear hK K
            (try simp only [Act.put, List.setIfInBounds_toArray, List.set_cons_zero, List.set_cons_succ])
            refine wpAnyH_take (i := 10) (oi := { dst := some 36, op := Op.unOp UnOp.not 4 (Operand.tmp 35), type := 4, pos := _, after := #[{ on := 9, ground := Ground.data }], guard := none }) (v := ?_) rfl (by kernel_rfl) (by kernel_rfl) (by kernel_rfl) (fun _ _ _ h => h) (Or.inl ⟨by rfl, ?hy⟩) hHeld ?_
            case hy => intro w0 hSw; (try dsimp only at hSw); go_simp; (try with_reducible rfl)
            (try simp only [Act.put, List.setIfInBounds_toArray, List.set_cons_zero, List.set_cons_succ])
            refine wpAnyH_done (by kernel_rfl) ?_ _
            clear hHeld hS
            have HO2 : Hid (OwnA wr.drew w4.heap.size (.slice A' q c') out) := Lib.hid (HO.out.below (below_drew (Below.refl _ _) 1))
            have HB5 : Hid (Below w4.heap.size w4 wr.drew) := Lib.hid (below_drew HB4.out 1)
            go_wp2
            go_roundw
            case rel => exact ⟨k + 1, out, A', q, c', rfl, Hq, Hk.out, by first | rfl | (rw [Ik.out]; rfl), HO2, HSd, HB5, Ho2, Lib.hid (Nat.le_succ_of_le Hlen.out)⟩
            case measure => have := Hk.out; (try rw [Ik.out]); simp [intOf]; omega
          | false =>
            simp only [hh] at gH
            have Ho2 : Hid ((out ++ [(⟨x0, x1, x2, x3, x4, x5⟩ : Alm)]) ++ (ss.drop (k + 1)).filter (Sh.un ws n) = r) := Lib.hid (by rw [← Ho.out, Hd.out, List.filter_cons]; unfold Sh.un; simp only [hh]; simp)
            clear hh Ho Hd
            go_wp2_with fail
            refine wp_region_held_drew (S := (fun W : World => W.cell? ⟨b7, o7 + k * 6, none⟩ = some (.int .i64 x0) ∧ W.cell? ⟨p, 1, none⟩ = some (.int .i64 n))) (by kernel_rfl) hS (fun hHeld => ?_)
            refine wpAnyH_take (i := 0) (oi := { dst := some 26, op := Op.move (Operand.tmp 1), type := 29, pos := _, after := #[], guard := none }) (v := ?_) rfl (by kernel_rfl) (by kernel_rfl) (by kernel_rfl) (fun _ _ _ h => h) (Or.inl ⟨by rfl, ?hy⟩) hHeld ?_
            case hy => intro w0 hSw; (try dsimp only at hSw); go_simp; (try with_reducible rfl)
            (try simp only [Act.put, List.setIfInBounds_toArray, List.set_cons_zero, List.set_cons_succ])
            refine wpAnyH_take (i := 1) (oi := { dst := some 27, op := Op.move (Operand.tmp 6), type := 26, pos := _, after := #[], guard := none }) (v := ?_) rfl (by kernel_rfl) (by kernel_rfl) (by kernel_rfl) (fun _ _ _ h => h) (Or.inl ⟨by rfl, ?hy⟩) hHeld ?_
            case hy => intro w0 hSw; (try dsimp only at hSw); go_simp; (try with_reducible rfl)
            (try simp only [Act.put, List.setIfInBounds_toArray, List.set_cons_zero, List.set_cons_succ])
            refine wpAnyH_take (i := 2) (oi := { dst := some 28, op := Op.move (Operand.tmp 8), type := 3, pos := _, after := #[], guard := none }) (v := ?_) rfl (by kernel_rfl) (by kernel_rfl) (by kernel_rfl) (fun _ _ _ h => h) (Or.inl ⟨by rfl, ?hy⟩) hHeld ?_
            case hy => intro w0 hSw; (try dsimp only at hSw); go_simp; (try with_reducible rfl)
            (try simp only [Act.put, List.setIfInBounds_toArray, List.set_cons_zero, List.set_cons_succ])
            refine wpAnyH_take (i := 3) (oi := { dst := some 29, op := Op.indexAddr 26 (Operand.tmp 27) (Operand.tmp 28), type := 0, pos := _, after := #[{ on := 1, ground := Ground.data }, { on := 2, ground := Ground.data }], guard := none }) (v := ?_) rfl (by kernel_rfl) (by kernel_rfl) (by kernel_rfl) (fun _ _ _ h => h) (Or.inl ⟨by rfl, ?hy⟩) hHeld ?_
            case hy => intro w0 hSw; (try dsimp only at hSw); go_simp; (try with_reducible rfl)
            (try simp only [Act.put, List.setIfInBounds_toArray, List.set_cons_zero, List.set_cons_succ])
            refine wpAnyH_take (i := 4) (oi := { dst := some 30, op := Op.fieldAddr 25 (Operand.tmp 29) 0, type := 0, pos := _, after := #[{ on := 3, ground := Ground.data }], guard := none }) (v := ?_) rfl (by kernel_rfl) (by kernel_rfl) (by kernel_rfl) (fun _ _ _ h => h) (Or.inl ⟨by rfl, ?hy⟩) hHeld ?_
            case hy => intro w0 hSw; (try dsimp only at hSw); go_simp; (try with_reducible rfl)
            (try simp only [Act.put, List.setIfInBounds_toArray, List.set_cons_zero, List.set_cons_succ])
            refine wpAnyH_take (i := 5) (oi := { dst := some 31, op := Op.fieldAddr 23 (Operand.tmp 30) 0, type := 0, pos := _, after := #[{ on := 4, ground := Ground.data }], guard := none }) (v := ?_) rfl (by kernel_rfl) (by kernel_rfl) (by kernel_rfl) (fun _ _ _ h => h) (Or.inl ⟨by rfl, ?hy⟩) hHeld ?_
            case hy => intro w0 hSw; (try dsimp only at hSw); go_simp; (try with_reducible rfl)
            (try simp only [Act.put, List.setIfInBounds_toArray, List.set_cons_zero, List.set_cons_succ])
            refine wpAnyH_take (i := 6) (oi := { dst := some 32, op := Op.load 3 (Operand.tmp 31), type := 3, pos := _, after := #[{ on := 5, ground := Ground.data }], guard := none }) (v := ?_) rfl (by kernel_rfl) (by kernel_rfl) (by kernel_rfl) (fun _ _ _ h => h) (Or.inl ⟨by rfl, ?hy⟩) hHeld ?_
            case hy => intro w0 hSw; have d := hSw.1; clear hSw; go_simp; (try with_reducible rfl)
            (try simp only [Act.put, List.setIfInBounds_toArray, List.set_cons_zero, List.set_cons_succ])
            refine wpAnyH_take (i := 7) (oi := { dst := some 33, op := Op.fieldAddr 28 (Operand.tmp 2) 1, type := 0, pos := _, after := #[], guard := none }) (v := ?_) rfl (by kernel_rfl) (by kernel_rfl) (by kernel_rfl) (fun _ _ _ h => h) (Or.inl ⟨by rfl, ?hy⟩) hHeld ?_
            case hy => intro w0 hSw; (try dsimp only at hSw); go_simp; (try with_reducible rfl)
            (try simp only [Act.put, List.setIfInBounds_toArray, List.set_cons_zero, List.set_cons_succ])
            refine wpAnyH_take (i := 8) (oi := { dst := some 34, op := Op.load 3 (Operand.tmp 33), type := 3, pos := _, after := #[{ on := 7, ground := Ground.data }], guard := none }) (v := ?_) rfl (by kernel_rfl) (by kernel_rfl) (by kernel_rfl) (fun _ _ _ h => h) (Or.inl ⟨by rfl, ?hy⟩) hHeld ?_
            case hy => intro w0 hSw; have d := hSw.2; clear hSw; go_simp; (try with_reducible rfl)
            (try simp only [Act.put, List.setIfInBounds_toArray, List.set_cons_zero, List.set_cons_succ])
            refine wpAnyH_ready (rs := [9]) (by kernel_rfl) (by simp) ?_
            refine AllReadyH.cons (o := { dst := some 35, op := Op.call { callee := Callee.value (Operand.func 45), args := #[Operand.tmp 26, Operand.tmp 32, Operand.tmp 34], argTypes := #[29, 3, 3] }, type := 4, pos := _, after := #[{ on := 0, ground := Ground.data }, { on := 6, ground := Ground.data }, { on := 8, ground := Ground.data }], guard := none }) rfl (fun K hK => ?_) AllReadyH.nil
            go_simp
            refine (gH _ (by first | exact HSd.out.fact 2 rfl | exact HSd.out.fact 2 rfl)).mono ?_
            rintro e wq ⟨rfl, hww⟩
            subst hww
            go_wp2_with fail
            refine hK.out _ _ hS (fun hHeld => ?_)
            clear hK K
            (try simp only [Act.put, List.setIfInBounds_toArray, List.set_cons_zero, List.set_cons_succ])
            refine wpAnyH_take (i := 10) (oi := { dst := some 36, op := Op.unOp UnOp.not 4 (Operand.tmp 35), type := 4, pos := _, after := #[{ on := 9, ground := Ground.data }], guard := none }) (v := ?_) rfl (by kernel_rfl) (by kernel_rfl) (by kernel_rfl) (fun _ _ _ h => h) (Or.inl ⟨by rfl, ?hy⟩) hHeld ?_
            case hy => intro w0 hSw; (try dsimp only at hSw); go_simp; (try with_reducible rfl)
            (try simp only [Act.put, List.setIfInBounds_toArray, List.set_cons_zero, List.set_cons_succ])
            refine wpAnyH_done (by kernel_rfl) ?_ _
            clear hHeld hS
            obtain ⟨W8, hW8⟩ : ∃ W, W = wr.drew := ⟨_, rfl⟩
            have HO2 : Hid (OwnA W8 w4.heap.size (.slice A' q c') out) := Lib.hid (by rw [hW8]; exact HO.out.below (below_drew (Below.refl _ _) 1))
            have HB5 : Hid (Below w4.heap.size w4 W8) := Lib.hid (by rw [hW8]; exact below_drew HB4.out 1)
            have h6 : Al6 W8 b7 (o7 + k * 6) ⟨x0, x1, x2, x3, x4, x5⟩ := by rw [hW8]; exact H6.out.below (below_drew (Below.refl _ _) 1) Hb7.out
            rw [← hW8] at HSd ⊢
            clear hW8 HO HB4 HS H6
            have e0 := h6.c0
            have e1 := h6.c1
            have e2 := h6.c2
            have e3 := h6.c3
            have e4 := h6.c4
            have e5 := h6.c5
            simp only at e0 e1 e2 e3 e4 e5
            have ON := Lib.hid (AlmsAt.oneH W8 x0 x1 x2 x3 x4 x5 25)
            have HBn := Lib.hid (below_new W8 (.cells #[.int .i64 x0, .int .i64 x1, .int .i64 x2, .int .i64 x3, .int .i64 x4, .int .i64 x5] 25))
            have HOn := Lib.hid (HO2.out.below HBn.out)
            clear h6
            go_wp2_with (at_builtin; refine wpList_append_alms rfl _ _ rfl w4.heap.size _ out [(⟨x0, x1, x2, x3, x4, x5⟩ : Alm)] rfl HOn.out (some ⟨W8.heap.size, 0, none⟩) 1 _ rfl rfl ON.out (fun e => nomatch e) (Nat.le_trans HB5.out.size HBn.out.size) (by have := Hlen.out; have := Hk.out; have := Hl1.out; simp only [List.length_cons, List.length_nil]; omega) ?_; intro v' w9 hown' hgrow; obtain ⟨A9, c9, rfl, _⟩ := hown'.slice; obtain ⟨q9, hq9⟩ : ∃ q9, q9 = (out ++ [(⟨x0, x1, x2, x3, x4, x5⟩ : Alm)]).length := ⟨_, rfl⟩; rw [← hq9] at hown' ⊢; have Hq9 := Lib.hid hq9; have HO9 := Lib.hid hown'; have HB9 : Hid (Below w4.heap.size w4 w9) := Lib.hid ((below2 HB5.out HBn.out).grown hgrow (Nat.le_trans HB5.out.size HBn.out.size) (fun k hk => (World.ownsRow.lt HOn.out k hk).1)); have HS9 : Hid (St w w9 [(p, #[.int .i64 m, .int .i64 n, .slice A l c])] [rowF (some ⟨b7, o7, none⟩) ss, rowF A ls, winF B ws]) := Lib.hid (StH.out w9 HB9.out); clear hq9 hown' hgrow)
            go_roundw
            case rel => exact ⟨k + 1, _, A9, q9, c9, rfl, Hq9, Hk.out, by first | rfl | (rw [Ik.out]; rfl), HO9, HS9, HB9, Ho2, Lib.hid (by rw [List.length_append, List.length_singleton]; have := Hlen.out; omega)⟩
            case measure => have := Hk.out; (try rw [Ik.out]); simp [intOf]; omega
        · have ik : ((k : Int) < (l : Int)) = False := eq_false (by omega)
          have hnil : ss.drop k = [] := List.drop_eq_nil_of_le (by rw [Hsl.out]; omega)
          have Ho2 : Hid (out = r) := Lib.hid (by have h := Ho.out; rw [hnil] at h; simpa using h)
          rw [Ho2.out] at HO Hq
          clear hk hlt Ho hnil
          go_wp2
          go_ret2
          exact ⟨A', q, c', Hq.out, by rw [He.out]; rfl, HO.out.lower Hwp.out, HS.out.below⟩
end Go.Proofs.YtpgichlaghhdeaaGreatDoor
