/-
  Layer 12 (file): the landed code: Crash, Sync (printed by tools/gen-filew2.py).
-/
import Derived.Test.YteepemibmjpnfaaFileW2
namespace Go.Proofs.Yteepemibmjpnfaa
set_option maxRecDepth 10000
open Go.RowKit

theorem fil_one12 (m : Int) (k l : ByteArray) : (#[Value.int .i64 m, .string k, .string l]).all (·.oneCell') = true := by simp [Value.oneCell']
theorem St.pick12 {w0 w : World} {L : List (Nat × Array Value)} {M : List Fact} (h : St w0 w L M) (L' : List (Nat × Array Value)) (hL : ∀ x ∈ L', x ∈ L) : St w0 w L' [] := ⟨fun x hx => h.live x (hL x hx), (fun _ h => nomatch h), h.below⟩
theorem Fi.read_take12 (f : Fil) (q : Nat) (hq : q ≤ f.loose.size) : (Fi.read f).extract 0 ((f.kept.size : Int) + (q : Nat)).toNat = f.kept ++ f.loose.extract 0 q := by
  have e : ((f.kept.size : Int) + (q : Nat)).toNat = f.kept.size + q := by omega
  rw [e]
  apply bl_inj
  have h1 : f.kept.size + q ≤ (Fi.read f).size := by rw [Fi.read_size]; omega
  rw [bl_extract_to _ _ h1, bl_append, bl_extract_to _ _ hq]
  unfold Fi.read
  rw [bl_append, ← bl_length, List.take_length_add_append]
theorem St.after12 {w0 w : World} {L : List (Nat × Array Value)} {M : List Fact} (h : St w0 w L M) (cs : Array Value) (L' : List (Nat × Array Value)) (hL : ∀ x ∈ L', x ∈ L) {k : Nat} (hne : ∀ x ∈ L', x.1 ≠ k) (hk : w0.heap.size ≤ k) : St w0 (w.setRow k cs) L' [] :=
  ⟨fun y hy => by
    obtain ⟨t, ht⟩ := h.live y (hL y hy)
    exact ⟨t, (setRow_other w k y.1 cs (hne y hy)).trans ht⟩, (fun _ h => nomatch h), below_setRow h.below hk cs⟩
theorem lt_row12 {w : World} {k g : Nat} {cs : Array Value} (h : k < w.heap.size) : k < (w.setRow g cs).heap.size := by simpa [World.setRow] using h

set_option maxHeartbeats 400000 in
theorem fcrash_no (m : Int) (k l : ByteArray) (n : Int) (hs : k.size ≤ 9000 ∧ l.size ≤ 9000) (w : World) (h : Fi.is ⟨m, k, l⟩ = false) :
    Calls Try.prog 34 #[.agg #[.int .i64 m, .string k, .string l], .int .i64 n] w fun e w' => e = .returned (.tuple #[Fi.no.v, .int .i64 1]) ∧ Below w.heap.size w w' := by
  have p1 := fun W => fis_any m k l hs W
  rw [h] at p1
  clear h hs
  go_enter Try.func34, Try.ntmps34
  go_wp2_with fail
  refine (p1 _).mono ?_
  rintro e w1 ⟨rfl, hB⟩
  have hF1 := (FilAt.new1 w (.cells #[.int .i64 m, .string k, .string l] 23) 0 ⟨#[]⟩ ⟨#[]⟩ 23).below hB
  have Hb := Lib.hid (below2 (below_new2 w _ _) hB)
  have a0 := hF1.f0
  have a1 := hF1.f1
  have a2 := hF1.f2
  have b0 := hF1.c0
  have b1 := hF1.c1
  have b2 := hF1.c2
  have HF := Lib.hid hF1
  clear p1 hB hF1
  go_wp2_with fail
  (try simp only [Exit.inBlock, Exit.then]); refine bodyPost_ret (ret_file rfl rfl (((HF.out.set0 0).set1 _).set2 _)) rfl ?_
  exact ⟨rfl, below_set3 Hb.out (by omega) _ _ _⟩

set_option maxHeartbeats 1000000 in
theorem fcrash_lo (m : Int) (k l : ByteArray) (n : Int) (hs : k.size ≤ 9000 ∧ l.size ≤ 9000) (w : World) (h : Fi.is ⟨m, k, l⟩ = true) (s : ByteArray) (j1 : ((l.size : Int) < n) = False) (j2 : (0 < n) = False) (iw : IntKind.i64.wrap (k.size : Int) = (k.size : Int))
    (p3 : ∀ W : World, Calls Try.prog 51 #[.agg #[.int .i64 m, .string k, .string l], .int .i64 (k.size : Int)] W fun e w' => e = .returned (.agg #[.int .i64 m, .string s, .string ⟨#[]⟩]) ∧ Below W.heap.size W w') :
    Calls Try.prog 34 #[.agg #[.int .i64 m, .string k, .string l], .int .i64 n] w fun e w' => e = .returned (.tuple #[.agg #[.int .i64 m, .string s, .string ⟨#[]⟩], .int .i64 0]) ∧ Below w.heap.size w w' := by
  have p1 := fun W => fis_any m k l hs W
  have p2 := fun W => fof_any m k l W
  rw [h] at p1
  have J1 := Lib.hid j1
  have J2 := Lib.hid j2
  have Iw := Lib.hid iw
  clear h hs j1 j2 iw
  go_enter Try.func34, Try.ntmps34
  go_wp2_with fail
  refine (p1 _).mono ?_
  rintro e w1 ⟨rfl, hB⟩
  have hF1 := (FilAt.new1 w (.cells #[.int .i64 m, .string k, .string l] 23) 0 ⟨#[]⟩ ⟨#[]⟩ 23).below hB
  have S0 := Lib.hid (((((St.start w).new #[.int .i64 m, .string k, .string l] 23).new #[.int .i64 0, .string ⟨#[]⟩, .string ⟨#[]⟩] 23).pick12 [(w.heap.size, #[.int .i64 m, .string k, .string l])] (by simp)).on hB)
  have HR := Lib.hid hF1
  clear p1 hB hF1
  go_wp2_with fail
  have hS : St w w1.drew [(w.heap.size, #[.int .i64 m, .string k, .string l])] [] := S0.out.drew
  clear S0
  refine wp_region_held_drew (S := (fun W : World => St w W [(w.heap.size, #[.int .i64 m, .string k, .string l])] [])) (by kernel_rfl) hS (fun hHeld => ?_)
  refine wpAnyH_take (i := 0) (oi := { dst := some 10, op := Op.load 23 (Operand.tmp 2), type := 23, pos := _, after := #[], guard := none }) (v := ?_) rfl (by kernel_rfl) (by kernel_rfl) (by kernel_rfl) (fun _ _ _ h => h) (Or.inl ⟨by rfl, ?hy⟩) hHeld ?_
  case hy => intro w0 hSw; have d0 := hSw.cell 0 rfl 0 rfl; have d1 := hSw.cell 0 rfl 1 rfl; have d2 := hSw.cell 0 rfl 2 rfl; clear hSw; go_simp; (try with_reducible rfl)
  (try simp only [Act.put, List.setIfInBounds_toArray, List.set_cons_zero, List.set_cons_succ])
  refine wpAnyH_take (i := 2) (oi := { dst := some 12, op := Op.fieldAddr 23 (Operand.tmp 2) 1, type := 0, pos := _, after := #[], guard := none }) (v := ?_) rfl (by kernel_rfl) (by kernel_rfl) (by kernel_rfl) (fun _ _ _ h => h) (Or.inl ⟨by rfl, ?hy⟩) hHeld ?_
  case hy => intro w0 hSw; (try dsimp only at hSw); go_simp; (try with_reducible rfl)
  (try simp only [Act.put, List.setIfInBounds_toArray, List.set_cons_zero, List.set_cons_succ])
  refine wpAnyH_take (i := 3) (oi := { dst := some 13, op := Op.load 9 (Operand.tmp 12), type := 9, pos := _, after := #[{ on := 2, ground := Ground.data }], guard := none }) (v := ?_) rfl (by kernel_rfl) (by kernel_rfl) (by kernel_rfl) (fun _ _ _ h => h) (Or.inl ⟨by rfl, ?hy⟩) hHeld ?_
  case hy => intro w0 hSw; have d0 := hSw.cell 0 rfl 0 rfl; have d1 := hSw.cell 0 rfl 1 rfl; have d2 := hSw.cell 0 rfl 2 rfl; clear hSw; go_simp; (try with_reducible rfl)
  (try simp only [Act.put, List.setIfInBounds_toArray, List.set_cons_zero, List.set_cons_succ])
  refine wpAnyH_take (i := 4) (oi := { dst := some 14, op := Op.call { callee := Callee.builtin Builtin.len, args := #[Operand.tmp 13], argTypes := #[9] }, type := 3, pos := _, after := #[{ on := 3, ground := Ground.data }], guard := none }) (v := ?_) rfl (by kernel_rfl) (by kernel_rfl) (by kernel_rfl) (fun _ _ _ h => h) (Or.inl ⟨by rfl, ?hy⟩) hHeld ?_
  case hy => intro w0 hSw; (try dsimp only at hSw); go_simp; (try with_reducible rfl)
  (try simp only [Act.put, List.setIfInBounds_toArray, List.set_cons_zero, List.set_cons_succ])
  refine wpAnyH_take (i := 5) (oi := { dst := some 15, op := Op.move (Operand.tmp 1), type := 3, pos := _, after := #[], guard := none }) (v := ?_) rfl (by kernel_rfl) (by kernel_rfl) (by kernel_rfl) (fun _ _ _ h => h) (Or.inl ⟨by rfl, ?hy⟩) hHeld ?_
  case hy => intro w0 hSw; (try dsimp only at hSw); go_simp; (try with_reducible rfl)
  (try simp only [Act.put, List.setIfInBounds_toArray, List.set_cons_zero, List.set_cons_succ])
  refine wpAnyH_take (i := 6) (oi := { dst := some 16, op := Op.fieldAddr 23 (Operand.tmp 2) 2, type := 0, pos := _, after := #[], guard := none }) (v := ?_) rfl (by kernel_rfl) (by kernel_rfl) (by kernel_rfl) (fun _ _ _ h => h) (Or.inl ⟨by rfl, ?hy⟩) hHeld ?_
  case hy => intro w0 hSw; (try dsimp only at hSw); go_simp; (try with_reducible rfl)
  (try simp only [Act.put, List.setIfInBounds_toArray, List.set_cons_zero, List.set_cons_succ])
  refine wpAnyH_take (i := 7) (oi := { dst := some 17, op := Op.load 9 (Operand.tmp 16), type := 9, pos := _, after := #[{ on := 6, ground := Ground.data }], guard := none }) (v := ?_) rfl (by kernel_rfl) (by kernel_rfl) (by kernel_rfl) (fun _ _ _ h => h) (Or.inl ⟨by rfl, ?hy⟩) hHeld ?_
  case hy => intro w0 hSw; have d0 := hSw.cell 0 rfl 0 rfl; have d1 := hSw.cell 0 rfl 1 rfl; have d2 := hSw.cell 0 rfl 2 rfl; clear hSw; go_simp; (try with_reducible rfl)
  (try simp only [Act.put, List.setIfInBounds_toArray, List.set_cons_zero, List.set_cons_succ])
  refine wpAnyH_take (i := 8) (oi := { dst := some 18, op := Op.call { callee := Callee.builtin Builtin.len, args := #[Operand.tmp 17], argTypes := #[9] }, type := 3, pos := _, after := #[{ on := 7, ground := Ground.data }], guard := none }) (v := ?_) rfl (by kernel_rfl) (by kernel_rfl) (by kernel_rfl) (fun _ _ _ h => h) (Or.inl ⟨by rfl, ?hy⟩) hHeld ?_
  case hy => intro w0 hSw; (try dsimp only at hSw); go_simp; (try with_reducible rfl)
  (try simp only [Act.put, List.setIfInBounds_toArray, List.set_cons_zero, List.set_cons_succ])
  refine wpAnyH_take (i := 9) (oi := { dst := some 19, op := Op.call { callee := Callee.builtin Builtin.min, args := #[Operand.tmp 15, Operand.tmp 18], argTypes := #[3, 3] }, type := 3, pos := _, after := #[{ on := 5, ground := Ground.data }, { on := 8, ground := Ground.data }], guard := none }) (v := ?_) rfl (by kernel_rfl) (by kernel_rfl) (by kernel_rfl) (fun _ _ _ h => h) (Or.inl ⟨by rfl, ?hy⟩) hHeld ?_
  case hy => have j1 := J1.out; have j2 := J2.out; have iw := Iw.out; intro w0 hSw; (try dsimp only at hSw); go_simp; (try with_reducible rfl)
  (try simp only [Act.put, List.setIfInBounds_toArray, List.set_cons_zero, List.set_cons_succ])
  refine wpAnyH_take (i := 10) (oi := { dst := some 20, op := Op.call { callee := Callee.builtin Builtin.max, args := #[Operand.const (Value.int IntKind.i64 0), Operand.tmp 19], argTypes := #[3, 3] }, type := 3, pos := _, after := #[{ on := 9, ground := Ground.data }], guard := none }) (v := ?_) rfl (by kernel_rfl) (by kernel_rfl) (by kernel_rfl) (fun _ _ _ h => h) (Or.inl ⟨by rfl, ?hy⟩) hHeld ?_
  case hy => have j1 := J1.out; have j2 := J2.out; have iw := Iw.out; intro w0 hSw; (try dsimp only at hSw); go_simp; (try with_reducible rfl)
  (try simp only [Act.put, List.setIfInBounds_toArray, List.set_cons_zero, List.set_cons_succ])
  refine wpAnyH_take (i := 11) (oi := { dst := some 21, op := Op.binOp BinOp.add 3 (Operand.tmp 14) (Operand.tmp 20) 3, type := 3, pos := _, after := #[{ on := 4, ground := Ground.data }, { on := 10, ground := Ground.data }], guard := none }) (v := ?_) rfl (by kernel_rfl) (by kernel_rfl) (by kernel_rfl) (fun _ _ _ h => h) (Or.inl ⟨by rfl, ?hy⟩) hHeld ?_
  case hy => have j1 := J1.out; have j2 := J2.out; have iw := Iw.out; intro w0 hSw; (try dsimp only at hSw); go_simp; (try with_reducible rfl)
  (try simp only [Act.put, List.setIfInBounds_toArray, List.set_cons_zero, List.set_cons_succ])
  refine wpAnyH_ready (rs := [1]) (by kernel_rfl) (by simp) ?_
  refine AllReadyH.cons (o := { dst := some 11, op := Op.call { callee := Callee.value (Operand.func 50), args := #[Operand.tmp 10], argTypes := #[23] }, type := 77, pos := _, after := #[{ on := 0, ground := Ground.data }], guard := none }) rfl (fun K hK => ?_) AllReadyH.nil
  go_simp
  refine (p2 _).mono ?_
  rintro e y1 ⟨rfl, hB'⟩
  replace hS := hS.on hB'
  replace HR := Lib.hid (HR.out.drew.below hB')
  clear hB'
  go_wp2_with fail
  refine hK.out _ _ hS (fun hHeld => ?_)
  clear hK K
  (try simp only [Act.put, List.setIfInBounds_toArray, List.set_cons_zero, List.set_cons_succ])
  refine wpAnyH_ready (rs := [12]) (by kernel_rfl) (by simp) ?_
  refine AllReadyH.cons (o := { dst := some 22, op := Op.call { callee := Callee.value (Operand.func 51), args := #[Operand.tmp 11, Operand.tmp 21], argTypes := #[77, 3] }, type := 23, pos := _, after := #[{ on := 1, ground := Ground.data }, { on := 11, ground := Ground.data }, { on := 1, ground := Ground.chain }], guard := none }) rfl (fun K hK => ?_) AllReadyH.nil
  go_simp
  refine (p3 _).mono ?_
  rintro e y2 ⟨rfl, hB'⟩
  replace hS := hS.on hB'
  replace HR := Lib.hid (HR.out.below hB')
  clear hB'
  go_wp2_with fail
  refine hK.out _ _ hS (fun hHeld => ?_)
  clear hK K
  (try simp only [Act.put, List.setIfInBounds_toArray, List.set_cons_zero, List.set_cons_succ])
  refine wpAnyH_ready (rs := [13]) (by kernel_rfl) (by simp) ?_
  refine AllReadyH.cons (o := { dst := none, op := Op.store 23 (Operand.tmp 4) (Operand.tmp 22), type := 0, pos := _, after := #[{ on := 12, ground := Ground.data }, { on := 12, ground := Ground.chain }, { on := 0, ground := Ground.phase }, { on := 1, ground := Ground.phase }, { on := 2, ground := Ground.phase }, { on := 3, ground := Ground.phase }, { on := 4, ground := Ground.phase }, { on := 5, ground := Ground.phase }, { on := 6, ground := Ground.phase }, { on := 7, ground := Ground.phase }, { on := 8, ground := Ground.phase }, { on := 9, ground := Ground.phase }, { on := 10, ground := Ground.phase }, { on := 11, ground := Ground.phase }, { on := 12, ground := Ground.phase }], guard := none }) rfl (fun K hK => ?_) AllReadyH.nil
  rw [if_pos (by rfl)]
  obtain ⟨tz, hz⟩ := HR.out.blk
  refine wp_store_row 23 _ _ rfl (w.heap.size + 1) #[.int .i64 m, .string s, .string ⟨#[]⟩] rfl rfl tz _ hz (by rfl) rfl (fil_one12 _ _ _) ?_
  have HR2 : FilAt (y2.setRow (w.heap.size + 1) #[.int .i64 m, .string s, .string ⟨#[]⟩]) (w.heap.size + 1) m s ⟨#[]⟩ := ⟨lt_row12 HR.out.lt, tz, setRow_heap _ _ _ _ _ _ hz⟩
  replace hS := hS.after12 #[.int .i64 m, .string s, .string ⟨#[]⟩] [(w.heap.size, #[.int .i64 m, .string k, .string l])] (by simp) (k := w.heap.size + 1) (by simp) (by omega)
  clear hz HR
  refine hK.out _ _ hS (fun hHeld => ?_)
  clear hK K
  (try simp only [Act.put])
  refine wpAnyH_take (i := 14) (oi := { dst := some 5, op := Op.assign (Operand.const (Value.int IntKind.i64 0)), type := 27, pos := _, after := #[{ on := 13, ground := Ground.chain }, { on := 0, ground := Ground.phase }, { on := 1, ground := Ground.phase }, { on := 2, ground := Ground.phase }, { on := 3, ground := Ground.phase }, { on := 4, ground := Ground.phase }, { on := 5, ground := Ground.phase }, { on := 6, ground := Ground.phase }, { on := 7, ground := Ground.phase }, { on := 8, ground := Ground.phase }, { on := 9, ground := Ground.phase }, { on := 10, ground := Ground.phase }, { on := 11, ground := Ground.phase }, { on := 12, ground := Ground.phase }, { on := 13, ground := Ground.phase }], guard := none }) (v := ?_) rfl (by kernel_rfl) (by kernel_rfl) (by kernel_rfl) (fun _ _ _ h => h) (Or.inl ⟨by rfl, ?hy⟩) hHeld ?_
  case hy => intro w0 hSw; (try dsimp only at hSw); go_simp; (try with_reducible rfl)
  (try simp only [Act.put, List.setIfInBounds_toArray, List.set_cons_zero, List.set_cons_succ])
  refine wpAnyH_done (by kernel_rfl) ?_ _
  clear hHeld
  have HSe := Lib.hid hS
  have HR := Lib.hid HR2
  clear hS HR2
  go_wp2
  (try simp only [Exit.inBlock, Exit.then]); refine bodyPost_ret (ret_file rfl rfl HR.out) rfl ?_
  exact ⟨rfl, HSe.out.below⟩

set_option maxHeartbeats 1000000 in
theorem fcrash_mid (m : Int) (k l : ByteArray) (n : Int) (hs : k.size ≤ 9000 ∧ l.size ≤ 9000) (w : World) (h : Fi.is ⟨m, k, l⟩ = true) (s : ByteArray) (j1 : ((l.size : Int) < n) = False) (j2 : (0 < n) = True) (iw : IntKind.i64.wrap ((k.size : Int) + n) = (k.size : Int) + n)
    (p3 : ∀ W : World, Calls Try.prog 51 #[.agg #[.int .i64 m, .string k, .string l], .int .i64 ((k.size : Int) + n)] W fun e w' => e = .returned (.agg #[.int .i64 m, .string s, .string ⟨#[]⟩]) ∧ Below W.heap.size W w') :
    Calls Try.prog 34 #[.agg #[.int .i64 m, .string k, .string l], .int .i64 n] w fun e w' => e = .returned (.tuple #[.agg #[.int .i64 m, .string s, .string ⟨#[]⟩], .int .i64 0]) ∧ Below w.heap.size w w' := by
  have p1 := fun W => fis_any m k l hs W
  have p2 := fun W => fof_any m k l W
  rw [h] at p1
  have J1 := Lib.hid j1
  have J2 := Lib.hid j2
  have Iw := Lib.hid iw
  clear h hs j1 j2 iw
  go_enter Try.func34, Try.ntmps34
  go_wp2_with fail
  refine (p1 _).mono ?_
  rintro e w1 ⟨rfl, hB⟩
  have hF1 := (FilAt.new1 w (.cells #[.int .i64 m, .string k, .string l] 23) 0 ⟨#[]⟩ ⟨#[]⟩ 23).below hB
  have S0 := Lib.hid (((((St.start w).new #[.int .i64 m, .string k, .string l] 23).new #[.int .i64 0, .string ⟨#[]⟩, .string ⟨#[]⟩] 23).pick12 [(w.heap.size, #[.int .i64 m, .string k, .string l])] (by simp)).on hB)
  have HR := Lib.hid hF1
  clear p1 hB hF1
  go_wp2_with fail
  have hS : St w w1.drew [(w.heap.size, #[.int .i64 m, .string k, .string l])] [] := S0.out.drew
  clear S0
  refine wp_region_held_drew (S := (fun W : World => St w W [(w.heap.size, #[.int .i64 m, .string k, .string l])] [])) (by kernel_rfl) hS (fun hHeld => ?_)
  refine wpAnyH_take (i := 0) (oi := { dst := some 10, op := Op.load 23 (Operand.tmp 2), type := 23, pos := _, after := #[], guard := none }) (v := ?_) rfl (by kernel_rfl) (by kernel_rfl) (by kernel_rfl) (fun _ _ _ h => h) (Or.inl ⟨by rfl, ?hy⟩) hHeld ?_
  case hy => intro w0 hSw; have d0 := hSw.cell 0 rfl 0 rfl; have d1 := hSw.cell 0 rfl 1 rfl; have d2 := hSw.cell 0 rfl 2 rfl; clear hSw; go_simp; (try with_reducible rfl)
  (try simp only [Act.put, List.setIfInBounds_toArray, List.set_cons_zero, List.set_cons_succ])
  refine wpAnyH_take (i := 2) (oi := { dst := some 12, op := Op.fieldAddr 23 (Operand.tmp 2) 1, type := 0, pos := _, after := #[], guard := none }) (v := ?_) rfl (by kernel_rfl) (by kernel_rfl) (by kernel_rfl) (fun _ _ _ h => h) (Or.inl ⟨by rfl, ?hy⟩) hHeld ?_
  case hy => intro w0 hSw; (try dsimp only at hSw); go_simp; (try with_reducible rfl)
  (try simp only [Act.put, List.setIfInBounds_toArray, List.set_cons_zero, List.set_cons_succ])
  refine wpAnyH_take (i := 3) (oi := { dst := some 13, op := Op.load 9 (Operand.tmp 12), type := 9, pos := _, after := #[{ on := 2, ground := Ground.data }], guard := none }) (v := ?_) rfl (by kernel_rfl) (by kernel_rfl) (by kernel_rfl) (fun _ _ _ h => h) (Or.inl ⟨by rfl, ?hy⟩) hHeld ?_
  case hy => intro w0 hSw; have d0 := hSw.cell 0 rfl 0 rfl; have d1 := hSw.cell 0 rfl 1 rfl; have d2 := hSw.cell 0 rfl 2 rfl; clear hSw; go_simp; (try with_reducible rfl)
  (try simp only [Act.put, List.setIfInBounds_toArray, List.set_cons_zero, List.set_cons_succ])
  refine wpAnyH_take (i := 4) (oi := { dst := some 14, op := Op.call { callee := Callee.builtin Builtin.len, args := #[Operand.tmp 13], argTypes := #[9] }, type := 3, pos := _, after := #[{ on := 3, ground := Ground.data }], guard := none }) (v := ?_) rfl (by kernel_rfl) (by kernel_rfl) (by kernel_rfl) (fun _ _ _ h => h) (Or.inl ⟨by rfl, ?hy⟩) hHeld ?_
  case hy => intro w0 hSw; (try dsimp only at hSw); go_simp; (try with_reducible rfl)
  (try simp only [Act.put, List.setIfInBounds_toArray, List.set_cons_zero, List.set_cons_succ])
  refine wpAnyH_take (i := 5) (oi := { dst := some 15, op := Op.move (Operand.tmp 1), type := 3, pos := _, after := #[], guard := none }) (v := ?_) rfl (by kernel_rfl) (by kernel_rfl) (by kernel_rfl) (fun _ _ _ h => h) (Or.inl ⟨by rfl, ?hy⟩) hHeld ?_
  case hy => intro w0 hSw; (try dsimp only at hSw); go_simp; (try with_reducible rfl)
  (try simp only [Act.put, List.setIfInBounds_toArray, List.set_cons_zero, List.set_cons_succ])
  refine wpAnyH_take (i := 6) (oi := { dst := some 16, op := Op.fieldAddr 23 (Operand.tmp 2) 2, type := 0, pos := _, after := #[], guard := none }) (v := ?_) rfl (by kernel_rfl) (by kernel_rfl) (by kernel_rfl) (fun _ _ _ h => h) (Or.inl ⟨by rfl, ?hy⟩) hHeld ?_
  case hy => intro w0 hSw; (try dsimp only at hSw); go_simp; (try with_reducible rfl)
  (try simp only [Act.put, List.setIfInBounds_toArray, List.set_cons_zero, List.set_cons_succ])
  refine wpAnyH_take (i := 7) (oi := { dst := some 17, op := Op.load 9 (Operand.tmp 16), type := 9, pos := _, after := #[{ on := 6, ground := Ground.data }], guard := none }) (v := ?_) rfl (by kernel_rfl) (by kernel_rfl) (by kernel_rfl) (fun _ _ _ h => h) (Or.inl ⟨by rfl, ?hy⟩) hHeld ?_
  case hy => intro w0 hSw; have d0 := hSw.cell 0 rfl 0 rfl; have d1 := hSw.cell 0 rfl 1 rfl; have d2 := hSw.cell 0 rfl 2 rfl; clear hSw; go_simp; (try with_reducible rfl)
  (try simp only [Act.put, List.setIfInBounds_toArray, List.set_cons_zero, List.set_cons_succ])
  refine wpAnyH_take (i := 8) (oi := { dst := some 18, op := Op.call { callee := Callee.builtin Builtin.len, args := #[Operand.tmp 17], argTypes := #[9] }, type := 3, pos := _, after := #[{ on := 7, ground := Ground.data }], guard := none }) (v := ?_) rfl (by kernel_rfl) (by kernel_rfl) (by kernel_rfl) (fun _ _ _ h => h) (Or.inl ⟨by rfl, ?hy⟩) hHeld ?_
  case hy => intro w0 hSw; (try dsimp only at hSw); go_simp; (try with_reducible rfl)
  (try simp only [Act.put, List.setIfInBounds_toArray, List.set_cons_zero, List.set_cons_succ])
  refine wpAnyH_take (i := 9) (oi := { dst := some 19, op := Op.call { callee := Callee.builtin Builtin.min, args := #[Operand.tmp 15, Operand.tmp 18], argTypes := #[3, 3] }, type := 3, pos := _, after := #[{ on := 5, ground := Ground.data }, { on := 8, ground := Ground.data }], guard := none }) (v := ?_) rfl (by kernel_rfl) (by kernel_rfl) (by kernel_rfl) (fun _ _ _ h => h) (Or.inl ⟨by rfl, ?hy⟩) hHeld ?_
  case hy => have j1 := J1.out; have j2 := J2.out; have iw := Iw.out; intro w0 hSw; (try dsimp only at hSw); go_simp; (try with_reducible rfl)
  (try simp only [Act.put, List.setIfInBounds_toArray, List.set_cons_zero, List.set_cons_succ])
  refine wpAnyH_take (i := 10) (oi := { dst := some 20, op := Op.call { callee := Callee.builtin Builtin.max, args := #[Operand.const (Value.int IntKind.i64 0), Operand.tmp 19], argTypes := #[3, 3] }, type := 3, pos := _, after := #[{ on := 9, ground := Ground.data }], guard := none }) (v := ?_) rfl (by kernel_rfl) (by kernel_rfl) (by kernel_rfl) (fun _ _ _ h => h) (Or.inl ⟨by rfl, ?hy⟩) hHeld ?_
  case hy => have j1 := J1.out; have j2 := J2.out; have iw := Iw.out; intro w0 hSw; (try dsimp only at hSw); go_simp; (try with_reducible rfl)
  (try simp only [Act.put, List.setIfInBounds_toArray, List.set_cons_zero, List.set_cons_succ])
  refine wpAnyH_take (i := 11) (oi := { dst := some 21, op := Op.binOp BinOp.add 3 (Operand.tmp 14) (Operand.tmp 20) 3, type := 3, pos := _, after := #[{ on := 4, ground := Ground.data }, { on := 10, ground := Ground.data }], guard := none }) (v := ?_) rfl (by kernel_rfl) (by kernel_rfl) (by kernel_rfl) (fun _ _ _ h => h) (Or.inl ⟨by rfl, ?hy⟩) hHeld ?_
  case hy => have j1 := J1.out; have j2 := J2.out; have iw := Iw.out; intro w0 hSw; (try dsimp only at hSw); go_simp; (try with_reducible rfl)
  (try simp only [Act.put, List.setIfInBounds_toArray, List.set_cons_zero, List.set_cons_succ])
  refine wpAnyH_ready (rs := [1]) (by kernel_rfl) (by simp) ?_
  refine AllReadyH.cons (o := { dst := some 11, op := Op.call { callee := Callee.value (Operand.func 50), args := #[Operand.tmp 10], argTypes := #[23] }, type := 77, pos := _, after := #[{ on := 0, ground := Ground.data }], guard := none }) rfl (fun K hK => ?_) AllReadyH.nil
  go_simp
  refine (p2 _).mono ?_
  rintro e y1 ⟨rfl, hB'⟩
  replace hS := hS.on hB'
  replace HR := Lib.hid (HR.out.drew.below hB')
  clear hB'
  go_wp2_with fail
  refine hK.out _ _ hS (fun hHeld => ?_)
  clear hK K
  (try simp only [Act.put, List.setIfInBounds_toArray, List.set_cons_zero, List.set_cons_succ])
  refine wpAnyH_ready (rs := [12]) (by kernel_rfl) (by simp) ?_
  refine AllReadyH.cons (o := { dst := some 22, op := Op.call { callee := Callee.value (Operand.func 51), args := #[Operand.tmp 11, Operand.tmp 21], argTypes := #[77, 3] }, type := 23, pos := _, after := #[{ on := 1, ground := Ground.data }, { on := 11, ground := Ground.data }, { on := 1, ground := Ground.chain }], guard := none }) rfl (fun K hK => ?_) AllReadyH.nil
  go_simp
  refine (p3 _).mono ?_
  rintro e y2 ⟨rfl, hB'⟩
  replace hS := hS.on hB'
  replace HR := Lib.hid (HR.out.below hB')
  clear hB'
  go_wp2_with fail
  refine hK.out _ _ hS (fun hHeld => ?_)
  clear hK K
  (try simp only [Act.put, List.setIfInBounds_toArray, List.set_cons_zero, List.set_cons_succ])
  refine wpAnyH_ready (rs := [13]) (by kernel_rfl) (by simp) ?_
  refine AllReadyH.cons (o := { dst := none, op := Op.store 23 (Operand.tmp 4) (Operand.tmp 22), type := 0, pos := _, after := #[{ on := 12, ground := Ground.data }, { on := 12, ground := Ground.chain }, { on := 0, ground := Ground.phase }, { on := 1, ground := Ground.phase }, { on := 2, ground := Ground.phase }, { on := 3, ground := Ground.phase }, { on := 4, ground := Ground.phase }, { on := 5, ground := Ground.phase }, { on := 6, ground := Ground.phase }, { on := 7, ground := Ground.phase }, { on := 8, ground := Ground.phase }, { on := 9, ground := Ground.phase }, { on := 10, ground := Ground.phase }, { on := 11, ground := Ground.phase }, { on := 12, ground := Ground.phase }], guard := none }) rfl (fun K hK => ?_) AllReadyH.nil
  rw [if_pos (by rfl)]
  obtain ⟨tz, hz⟩ := HR.out.blk
  refine wp_store_row 23 _ _ rfl (w.heap.size + 1) #[.int .i64 m, .string s, .string ⟨#[]⟩] rfl rfl tz _ hz (by rfl) rfl (fil_one12 _ _ _) ?_
  have HR2 : FilAt (y2.setRow (w.heap.size + 1) #[.int .i64 m, .string s, .string ⟨#[]⟩]) (w.heap.size + 1) m s ⟨#[]⟩ := ⟨lt_row12 HR.out.lt, tz, setRow_heap _ _ _ _ _ _ hz⟩
  replace hS := hS.after12 #[.int .i64 m, .string s, .string ⟨#[]⟩] [(w.heap.size, #[.int .i64 m, .string k, .string l])] (by simp) (k := w.heap.size + 1) (by simp) (by omega)
  clear hz HR
  refine hK.out _ _ hS (fun hHeld => ?_)
  clear hK K
  (try simp only [Act.put])
  refine wpAnyH_take (i := 14) (oi := { dst := some 5, op := Op.assign (Operand.const (Value.int IntKind.i64 0)), type := 27, pos := _, after := #[{ on := 13, ground := Ground.chain }, { on := 0, ground := Ground.phase }, { on := 1, ground := Ground.phase }, { on := 2, ground := Ground.phase }, { on := 3, ground := Ground.phase }, { on := 4, ground := Ground.phase }, { on := 5, ground := Ground.phase }, { on := 6, ground := Ground.phase }, { on := 7, ground := Ground.phase }, { on := 8, ground := Ground.phase }, { on := 9, ground := Ground.phase }, { on := 10, ground := Ground.phase }, { on := 11, ground := Ground.phase }, { on := 12, ground := Ground.phase }, { on := 13, ground := Ground.phase }], guard := none }) (v := ?_) rfl (by kernel_rfl) (by kernel_rfl) (by kernel_rfl) (fun _ _ _ h => h) (Or.inl ⟨by rfl, ?hy⟩) hHeld ?_
  case hy => intro w0 hSw; (try dsimp only at hSw); go_simp; (try with_reducible rfl)
  (try simp only [Act.put, List.setIfInBounds_toArray, List.set_cons_zero, List.set_cons_succ])
  refine wpAnyH_done (by kernel_rfl) ?_ _
  clear hHeld
  have HSe := Lib.hid hS
  have HR := Lib.hid HR2
  clear hS HR2
  go_wp2
  (try simp only [Exit.inBlock, Exit.then]); refine bodyPost_ret (ret_file rfl rfl HR.out) rfl ?_
  exact ⟨rfl, HSe.out.below⟩

set_option maxHeartbeats 1000000 in
theorem fcrash_hi (m : Int) (k l : ByteArray) (n : Int) (hs : k.size ≤ 9000 ∧ l.size ≤ 9000) (w : World) (h : Fi.is ⟨m, k, l⟩ = true) (s : ByteArray) (j1 : ((l.size : Int) < n) = True) (j2 : (0 < l.size) = True) (iw : IntKind.i64.wrap ((k.size : Int) + l.size) = (k.size : Int) + l.size)
    (p3 : ∀ W : World, Calls Try.prog 51 #[.agg #[.int .i64 m, .string k, .string l], .int .i64 ((k.size : Int) + l.size)] W fun e w' => e = .returned (.agg #[.int .i64 m, .string s, .string ⟨#[]⟩]) ∧ Below W.heap.size W w') :
    Calls Try.prog 34 #[.agg #[.int .i64 m, .string k, .string l], .int .i64 n] w fun e w' => e = .returned (.tuple #[.agg #[.int .i64 m, .string s, .string ⟨#[]⟩], .int .i64 0]) ∧ Below w.heap.size w w' := by
  have p1 := fun W => fis_any m k l hs W
  have p2 := fun W => fof_any m k l W
  rw [h] at p1
  have J1 := Lib.hid j1
  have J2 := Lib.hid j2
  have Iw := Lib.hid iw
  clear h hs j1 j2 iw
  go_enter Try.func34, Try.ntmps34
  go_wp2_with fail
  refine (p1 _).mono ?_
  rintro e w1 ⟨rfl, hB⟩
  have hF1 := (FilAt.new1 w (.cells #[.int .i64 m, .string k, .string l] 23) 0 ⟨#[]⟩ ⟨#[]⟩ 23).below hB
  have S0 := Lib.hid (((((St.start w).new #[.int .i64 m, .string k, .string l] 23).new #[.int .i64 0, .string ⟨#[]⟩, .string ⟨#[]⟩] 23).pick12 [(w.heap.size, #[.int .i64 m, .string k, .string l])] (by simp)).on hB)
  have HR := Lib.hid hF1
  clear p1 hB hF1
  go_wp2_with fail
  have hS : St w w1.drew [(w.heap.size, #[.int .i64 m, .string k, .string l])] [] := S0.out.drew
  clear S0
  refine wp_region_held_drew (S := (fun W : World => St w W [(w.heap.size, #[.int .i64 m, .string k, .string l])] [])) (by kernel_rfl) hS (fun hHeld => ?_)
  refine wpAnyH_take (i := 0) (oi := { dst := some 10, op := Op.load 23 (Operand.tmp 2), type := 23, pos := _, after := #[], guard := none }) (v := ?_) rfl (by kernel_rfl) (by kernel_rfl) (by kernel_rfl) (fun _ _ _ h => h) (Or.inl ⟨by rfl, ?hy⟩) hHeld ?_
  case hy => intro w0 hSw; have d0 := hSw.cell 0 rfl 0 rfl; have d1 := hSw.cell 0 rfl 1 rfl; have d2 := hSw.cell 0 rfl 2 rfl; clear hSw; go_simp; (try with_reducible rfl)
  (try simp only [Act.put, List.setIfInBounds_toArray, List.set_cons_zero, List.set_cons_succ])
  refine wpAnyH_take (i := 2) (oi := { dst := some 12, op := Op.fieldAddr 23 (Operand.tmp 2) 1, type := 0, pos := _, after := #[], guard := none }) (v := ?_) rfl (by kernel_rfl) (by kernel_rfl) (by kernel_rfl) (fun _ _ _ h => h) (Or.inl ⟨by rfl, ?hy⟩) hHeld ?_
  case hy => intro w0 hSw; (try dsimp only at hSw); go_simp; (try with_reducible rfl)
  (try simp only [Act.put, List.setIfInBounds_toArray, List.set_cons_zero, List.set_cons_succ])
  refine wpAnyH_take (i := 3) (oi := { dst := some 13, op := Op.load 9 (Operand.tmp 12), type := 9, pos := _, after := #[{ on := 2, ground := Ground.data }], guard := none }) (v := ?_) rfl (by kernel_rfl) (by kernel_rfl) (by kernel_rfl) (fun _ _ _ h => h) (Or.inl ⟨by rfl, ?hy⟩) hHeld ?_
  case hy => intro w0 hSw; have d0 := hSw.cell 0 rfl 0 rfl; have d1 := hSw.cell 0 rfl 1 rfl; have d2 := hSw.cell 0 rfl 2 rfl; clear hSw; go_simp; (try with_reducible rfl)
  (try simp only [Act.put, List.setIfInBounds_toArray, List.set_cons_zero, List.set_cons_succ])
  refine wpAnyH_take (i := 4) (oi := { dst := some 14, op := Op.call { callee := Callee.builtin Builtin.len, args := #[Operand.tmp 13], argTypes := #[9] }, type := 3, pos := _, after := #[{ on := 3, ground := Ground.data }], guard := none }) (v := ?_) rfl (by kernel_rfl) (by kernel_rfl) (by kernel_rfl) (fun _ _ _ h => h) (Or.inl ⟨by rfl, ?hy⟩) hHeld ?_
  case hy => intro w0 hSw; (try dsimp only at hSw); go_simp; (try with_reducible rfl)
  (try simp only [Act.put, List.setIfInBounds_toArray, List.set_cons_zero, List.set_cons_succ])
  refine wpAnyH_take (i := 5) (oi := { dst := some 15, op := Op.move (Operand.tmp 1), type := 3, pos := _, after := #[], guard := none }) (v := ?_) rfl (by kernel_rfl) (by kernel_rfl) (by kernel_rfl) (fun _ _ _ h => h) (Or.inl ⟨by rfl, ?hy⟩) hHeld ?_
  case hy => intro w0 hSw; (try dsimp only at hSw); go_simp; (try with_reducible rfl)
  (try simp only [Act.put, List.setIfInBounds_toArray, List.set_cons_zero, List.set_cons_succ])
  refine wpAnyH_take (i := 6) (oi := { dst := some 16, op := Op.fieldAddr 23 (Operand.tmp 2) 2, type := 0, pos := _, after := #[], guard := none }) (v := ?_) rfl (by kernel_rfl) (by kernel_rfl) (by kernel_rfl) (fun _ _ _ h => h) (Or.inl ⟨by rfl, ?hy⟩) hHeld ?_
  case hy => intro w0 hSw; (try dsimp only at hSw); go_simp; (try with_reducible rfl)
  (try simp only [Act.put, List.setIfInBounds_toArray, List.set_cons_zero, List.set_cons_succ])
  refine wpAnyH_take (i := 7) (oi := { dst := some 17, op := Op.load 9 (Operand.tmp 16), type := 9, pos := _, after := #[{ on := 6, ground := Ground.data }], guard := none }) (v := ?_) rfl (by kernel_rfl) (by kernel_rfl) (by kernel_rfl) (fun _ _ _ h => h) (Or.inl ⟨by rfl, ?hy⟩) hHeld ?_
  case hy => intro w0 hSw; have d0 := hSw.cell 0 rfl 0 rfl; have d1 := hSw.cell 0 rfl 1 rfl; have d2 := hSw.cell 0 rfl 2 rfl; clear hSw; go_simp; (try with_reducible rfl)
  (try simp only [Act.put, List.setIfInBounds_toArray, List.set_cons_zero, List.set_cons_succ])
  refine wpAnyH_take (i := 8) (oi := { dst := some 18, op := Op.call { callee := Callee.builtin Builtin.len, args := #[Operand.tmp 17], argTypes := #[9] }, type := 3, pos := _, after := #[{ on := 7, ground := Ground.data }], guard := none }) (v := ?_) rfl (by kernel_rfl) (by kernel_rfl) (by kernel_rfl) (fun _ _ _ h => h) (Or.inl ⟨by rfl, ?hy⟩) hHeld ?_
  case hy => intro w0 hSw; (try dsimp only at hSw); go_simp; (try with_reducible rfl)
  (try simp only [Act.put, List.setIfInBounds_toArray, List.set_cons_zero, List.set_cons_succ])
  refine wpAnyH_take (i := 9) (oi := { dst := some 19, op := Op.call { callee := Callee.builtin Builtin.min, args := #[Operand.tmp 15, Operand.tmp 18], argTypes := #[3, 3] }, type := 3, pos := _, after := #[{ on := 5, ground := Ground.data }, { on := 8, ground := Ground.data }], guard := none }) (v := ?_) rfl (by kernel_rfl) (by kernel_rfl) (by kernel_rfl) (fun _ _ _ h => h) (Or.inl ⟨by rfl, ?hy⟩) hHeld ?_
  case hy => have j1 := J1.out; have j2 := J2.out; have iw := Iw.out; intro w0 hSw; (try dsimp only at hSw); go_simp; (try with_reducible rfl)
  (try simp only [Act.put, List.setIfInBounds_toArray, List.set_cons_zero, List.set_cons_succ])
  refine wpAnyH_take (i := 10) (oi := { dst := some 20, op := Op.call { callee := Callee.builtin Builtin.max, args := #[Operand.const (Value.int IntKind.i64 0), Operand.tmp 19], argTypes := #[3, 3] }, type := 3, pos := _, after := #[{ on := 9, ground := Ground.data }], guard := none }) (v := ?_) rfl (by kernel_rfl) (by kernel_rfl) (by kernel_rfl) (fun _ _ _ h => h) (Or.inl ⟨by rfl, ?hy⟩) hHeld ?_
  case hy => have j1 := J1.out; have j2 := J2.out; have iw := Iw.out; intro w0 hSw; (try dsimp only at hSw); go_simp; (try with_reducible rfl)
  (try simp only [Act.put, List.setIfInBounds_toArray, List.set_cons_zero, List.set_cons_succ])
  refine wpAnyH_take (i := 11) (oi := { dst := some 21, op := Op.binOp BinOp.add 3 (Operand.tmp 14) (Operand.tmp 20) 3, type := 3, pos := _, after := #[{ on := 4, ground := Ground.data }, { on := 10, ground := Ground.data }], guard := none }) (v := ?_) rfl (by kernel_rfl) (by kernel_rfl) (by kernel_rfl) (fun _ _ _ h => h) (Or.inl ⟨by rfl, ?hy⟩) hHeld ?_
  case hy => have j1 := J1.out; have j2 := J2.out; have iw := Iw.out; intro w0 hSw; (try dsimp only at hSw); go_simp; (try with_reducible rfl)
  (try simp only [Act.put, List.setIfInBounds_toArray, List.set_cons_zero, List.set_cons_succ])
  refine wpAnyH_ready (rs := [1]) (by kernel_rfl) (by simp) ?_
  refine AllReadyH.cons (o := { dst := some 11, op := Op.call { callee := Callee.value (Operand.func 50), args := #[Operand.tmp 10], argTypes := #[23] }, type := 77, pos := _, after := #[{ on := 0, ground := Ground.data }], guard := none }) rfl (fun K hK => ?_) AllReadyH.nil
  go_simp
  refine (p2 _).mono ?_
  rintro e y1 ⟨rfl, hB'⟩
  replace hS := hS.on hB'
  replace HR := Lib.hid (HR.out.drew.below hB')
  clear hB'
  go_wp2_with fail
  refine hK.out _ _ hS (fun hHeld => ?_)
  clear hK K
  (try simp only [Act.put, List.setIfInBounds_toArray, List.set_cons_zero, List.set_cons_succ])
  refine wpAnyH_ready (rs := [12]) (by kernel_rfl) (by simp) ?_
  refine AllReadyH.cons (o := { dst := some 22, op := Op.call { callee := Callee.value (Operand.func 51), args := #[Operand.tmp 11, Operand.tmp 21], argTypes := #[77, 3] }, type := 23, pos := _, after := #[{ on := 1, ground := Ground.data }, { on := 11, ground := Ground.data }, { on := 1, ground := Ground.chain }], guard := none }) rfl (fun K hK => ?_) AllReadyH.nil
  go_simp
  refine (p3 _).mono ?_
  rintro e y2 ⟨rfl, hB'⟩
  replace hS := hS.on hB'
  replace HR := Lib.hid (HR.out.below hB')
  clear hB'
  go_wp2_with fail
  refine hK.out _ _ hS (fun hHeld => ?_)
  clear hK K
  (try simp only [Act.put, List.setIfInBounds_toArray, List.set_cons_zero, List.set_cons_succ])
  refine wpAnyH_ready (rs := [13]) (by kernel_rfl) (by simp) ?_
  refine AllReadyH.cons (o := { dst := none, op := Op.store 23 (Operand.tmp 4) (Operand.tmp 22), type := 0, pos := _, after := #[{ on := 12, ground := Ground.data }, { on := 12, ground := Ground.chain }, { on := 0, ground := Ground.phase }, { on := 1, ground := Ground.phase }, { on := 2, ground := Ground.phase }, { on := 3, ground := Ground.phase }, { on := 4, ground := Ground.phase }, { on := 5, ground := Ground.phase }, { on := 6, ground := Ground.phase }, { on := 7, ground := Ground.phase }, { on := 8, ground := Ground.phase }, { on := 9, ground := Ground.phase }, { on := 10, ground := Ground.phase }, { on := 11, ground := Ground.phase }, { on := 12, ground := Ground.phase }], guard := none }) rfl (fun K hK => ?_) AllReadyH.nil
  rw [if_pos (by rfl)]
  obtain ⟨tz, hz⟩ := HR.out.blk
  refine wp_store_row 23 _ _ rfl (w.heap.size + 1) #[.int .i64 m, .string s, .string ⟨#[]⟩] rfl rfl tz _ hz (by rfl) rfl (fil_one12 _ _ _) ?_
  have HR2 : FilAt (y2.setRow (w.heap.size + 1) #[.int .i64 m, .string s, .string ⟨#[]⟩]) (w.heap.size + 1) m s ⟨#[]⟩ := ⟨lt_row12 HR.out.lt, tz, setRow_heap _ _ _ _ _ _ hz⟩
  replace hS := hS.after12 #[.int .i64 m, .string s, .string ⟨#[]⟩] [(w.heap.size, #[.int .i64 m, .string k, .string l])] (by simp) (k := w.heap.size + 1) (by simp) (by omega)
  clear hz HR
  refine hK.out _ _ hS (fun hHeld => ?_)
  clear hK K
  (try simp only [Act.put])
  refine wpAnyH_take (i := 14) (oi := { dst := some 5, op := Op.assign (Operand.const (Value.int IntKind.i64 0)), type := 27, pos := _, after := #[{ on := 13, ground := Ground.chain }, { on := 0, ground := Ground.phase }, { on := 1, ground := Ground.phase }, { on := 2, ground := Ground.phase }, { on := 3, ground := Ground.phase }, { on := 4, ground := Ground.phase }, { on := 5, ground := Ground.phase }, { on := 6, ground := Ground.phase }, { on := 7, ground := Ground.phase }, { on := 8, ground := Ground.phase }, { on := 9, ground := Ground.phase }, { on := 10, ground := Ground.phase }, { on := 11, ground := Ground.phase }, { on := 12, ground := Ground.phase }, { on := 13, ground := Ground.phase }], guard := none }) (v := ?_) rfl (by kernel_rfl) (by kernel_rfl) (by kernel_rfl) (fun _ _ _ h => h) (Or.inl ⟨by rfl, ?hy⟩) hHeld ?_
  case hy => intro w0 hSw; (try dsimp only at hSw); go_simp; (try with_reducible rfl)
  (try simp only [Act.put, List.setIfInBounds_toArray, List.set_cons_zero, List.set_cons_succ])
  refine wpAnyH_done (by kernel_rfl) ?_ _
  clear hHeld
  have HSe := Lib.hid hS
  have HR := Lib.hid HR2
  clear hS HR2
  go_wp2
  (try simp only [Exit.inBlock, Exit.then]); refine bodyPost_ret (ret_file rfl rfl HR.out) rfl ?_
  exact ⟨rfl, HSe.out.below⟩

set_option maxHeartbeats 1000000 in
theorem fcrash_zero (m : Int) (k l : ByteArray) (n : Int) (hs : k.size ≤ 9000 ∧ l.size ≤ 9000) (w : World) (h : Fi.is ⟨m, k, l⟩ = true) (s : ByteArray) (j1 : ((l.size : Int) < n) = True) (j2 : (0 < l.size) = False) (iw : IntKind.i64.wrap (k.size : Int) = (k.size : Int))
    (p3 : ∀ W : World, Calls Try.prog 51 #[.agg #[.int .i64 m, .string k, .string l], .int .i64 (k.size : Int)] W fun e w' => e = .returned (.agg #[.int .i64 m, .string s, .string ⟨#[]⟩]) ∧ Below W.heap.size W w') :
    Calls Try.prog 34 #[.agg #[.int .i64 m, .string k, .string l], .int .i64 n] w fun e w' => e = .returned (.tuple #[.agg #[.int .i64 m, .string s, .string ⟨#[]⟩], .int .i64 0]) ∧ Below w.heap.size w w' := by
  have p1 := fun W => fis_any m k l hs W
  have p2 := fun W => fof_any m k l W
  rw [h] at p1
  have J1 := Lib.hid j1
  have J2 := Lib.hid j2
  have Iw := Lib.hid iw
  clear h hs j1 j2 iw
  go_enter Try.func34, Try.ntmps34
  go_wp2_with fail
  refine (p1 _).mono ?_
  rintro e w1 ⟨rfl, hB⟩
  have hF1 := (FilAt.new1 w (.cells #[.int .i64 m, .string k, .string l] 23) 0 ⟨#[]⟩ ⟨#[]⟩ 23).below hB
  have S0 := Lib.hid (((((St.start w).new #[.int .i64 m, .string k, .string l] 23).new #[.int .i64 0, .string ⟨#[]⟩, .string ⟨#[]⟩] 23).pick12 [(w.heap.size, #[.int .i64 m, .string k, .string l])] (by simp)).on hB)
  have HR := Lib.hid hF1
  clear p1 hB hF1
  go_wp2_with fail
  have hS : St w w1.drew [(w.heap.size, #[.int .i64 m, .string k, .string l])] [] := S0.out.drew
  clear S0
  refine wp_region_held_drew (S := (fun W : World => St w W [(w.heap.size, #[.int .i64 m, .string k, .string l])] [])) (by kernel_rfl) hS (fun hHeld => ?_)
  refine wpAnyH_take (i := 0) (oi := { dst := some 10, op := Op.load 23 (Operand.tmp 2), type := 23, pos := _, after := #[], guard := none }) (v := ?_) rfl (by kernel_rfl) (by kernel_rfl) (by kernel_rfl) (fun _ _ _ h => h) (Or.inl ⟨by rfl, ?hy⟩) hHeld ?_
  case hy => intro w0 hSw; have d0 := hSw.cell 0 rfl 0 rfl; have d1 := hSw.cell 0 rfl 1 rfl; have d2 := hSw.cell 0 rfl 2 rfl; clear hSw; go_simp; (try with_reducible rfl)
  (try simp only [Act.put, List.setIfInBounds_toArray, List.set_cons_zero, List.set_cons_succ])
  refine wpAnyH_take (i := 2) (oi := { dst := some 12, op := Op.fieldAddr 23 (Operand.tmp 2) 1, type := 0, pos := _, after := #[], guard := none }) (v := ?_) rfl (by kernel_rfl) (by kernel_rfl) (by kernel_rfl) (fun _ _ _ h => h) (Or.inl ⟨by rfl, ?hy⟩) hHeld ?_
  case hy => intro w0 hSw; (try dsimp only at hSw); go_simp; (try with_reducible rfl)
  (try simp only [Act.put, List.setIfInBounds_toArray, List.set_cons_zero, List.set_cons_succ])
  refine wpAnyH_take (i := 3) (oi := { dst := some 13, op := Op.load 9 (Operand.tmp 12), type := 9, pos := _, after := #[{ on := 2, ground := Ground.data }], guard := none }) (v := ?_) rfl (by kernel_rfl) (by kernel_rfl) (by kernel_rfl) (fun _ _ _ h => h) (Or.inl ⟨by rfl, ?hy⟩) hHeld ?_
  case hy => intro w0 hSw; have d0 := hSw.cell 0 rfl 0 rfl; have d1 := hSw.cell 0 rfl 1 rfl; have d2 := hSw.cell 0 rfl 2 rfl; clear hSw; go_simp; (try with_reducible rfl)
  (try simp only [Act.put, List.setIfInBounds_toArray, List.set_cons_zero, List.set_cons_succ])
  refine wpAnyH_take (i := 4) (oi := { dst := some 14, op := Op.call { callee := Callee.builtin Builtin.len, args := #[Operand.tmp 13], argTypes := #[9] }, type := 3, pos := _, after := #[{ on := 3, ground := Ground.data }], guard := none }) (v := ?_) rfl (by kernel_rfl) (by kernel_rfl) (by kernel_rfl) (fun _ _ _ h => h) (Or.inl ⟨by rfl, ?hy⟩) hHeld ?_
  case hy => intro w0 hSw; (try dsimp only at hSw); go_simp; (try with_reducible rfl)
  (try simp only [Act.put, List.setIfInBounds_toArray, List.set_cons_zero, List.set_cons_succ])
  refine wpAnyH_take (i := 5) (oi := { dst := some 15, op := Op.move (Operand.tmp 1), type := 3, pos := _, after := #[], guard := none }) (v := ?_) rfl (by kernel_rfl) (by kernel_rfl) (by kernel_rfl) (fun _ _ _ h => h) (Or.inl ⟨by rfl, ?hy⟩) hHeld ?_
  case hy => intro w0 hSw; (try dsimp only at hSw); go_simp; (try with_reducible rfl)
  (try simp only [Act.put, List.setIfInBounds_toArray, List.set_cons_zero, List.set_cons_succ])
  refine wpAnyH_take (i := 6) (oi := { dst := some 16, op := Op.fieldAddr 23 (Operand.tmp 2) 2, type := 0, pos := _, after := #[], guard := none }) (v := ?_) rfl (by kernel_rfl) (by kernel_rfl) (by kernel_rfl) (fun _ _ _ h => h) (Or.inl ⟨by rfl, ?hy⟩) hHeld ?_
  case hy => intro w0 hSw; (try dsimp only at hSw); go_simp; (try with_reducible rfl)
  (try simp only [Act.put, List.setIfInBounds_toArray, List.set_cons_zero, List.set_cons_succ])
  refine wpAnyH_take (i := 7) (oi := { dst := some 17, op := Op.load 9 (Operand.tmp 16), type := 9, pos := _, after := #[{ on := 6, ground := Ground.data }], guard := none }) (v := ?_) rfl (by kernel_rfl) (by kernel_rfl) (by kernel_rfl) (fun _ _ _ h => h) (Or.inl ⟨by rfl, ?hy⟩) hHeld ?_
  case hy => intro w0 hSw; have d0 := hSw.cell 0 rfl 0 rfl; have d1 := hSw.cell 0 rfl 1 rfl; have d2 := hSw.cell 0 rfl 2 rfl; clear hSw; go_simp; (try with_reducible rfl)
  (try simp only [Act.put, List.setIfInBounds_toArray, List.set_cons_zero, List.set_cons_succ])
  refine wpAnyH_take (i := 8) (oi := { dst := some 18, op := Op.call { callee := Callee.builtin Builtin.len, args := #[Operand.tmp 17], argTypes := #[9] }, type := 3, pos := _, after := #[{ on := 7, ground := Ground.data }], guard := none }) (v := ?_) rfl (by kernel_rfl) (by kernel_rfl) (by kernel_rfl) (fun _ _ _ h => h) (Or.inl ⟨by rfl, ?hy⟩) hHeld ?_
  case hy => intro w0 hSw; (try dsimp only at hSw); go_simp; (try with_reducible rfl)
  (try simp only [Act.put, List.setIfInBounds_toArray, List.set_cons_zero, List.set_cons_succ])
  refine wpAnyH_take (i := 9) (oi := { dst := some 19, op := Op.call { callee := Callee.builtin Builtin.min, args := #[Operand.tmp 15, Operand.tmp 18], argTypes := #[3, 3] }, type := 3, pos := _, after := #[{ on := 5, ground := Ground.data }, { on := 8, ground := Ground.data }], guard := none }) (v := ?_) rfl (by kernel_rfl) (by kernel_rfl) (by kernel_rfl) (fun _ _ _ h => h) (Or.inl ⟨by rfl, ?hy⟩) hHeld ?_
  case hy => have j1 := J1.out; have j2 := J2.out; have iw := Iw.out; intro w0 hSw; (try dsimp only at hSw); go_simp; (try with_reducible rfl)
  (try simp only [Act.put, List.setIfInBounds_toArray, List.set_cons_zero, List.set_cons_succ])
  refine wpAnyH_take (i := 10) (oi := { dst := some 20, op := Op.call { callee := Callee.builtin Builtin.max, args := #[Operand.const (Value.int IntKind.i64 0), Operand.tmp 19], argTypes := #[3, 3] }, type := 3, pos := _, after := #[{ on := 9, ground := Ground.data }], guard := none }) (v := ?_) rfl (by kernel_rfl) (by kernel_rfl) (by kernel_rfl) (fun _ _ _ h => h) (Or.inl ⟨by rfl, ?hy⟩) hHeld ?_
  case hy => have j1 := J1.out; have j2 := J2.out; have iw := Iw.out; intro w0 hSw; (try dsimp only at hSw); go_simp; (try with_reducible rfl)
  (try simp only [Act.put, List.setIfInBounds_toArray, List.set_cons_zero, List.set_cons_succ])
  refine wpAnyH_take (i := 11) (oi := { dst := some 21, op := Op.binOp BinOp.add 3 (Operand.tmp 14) (Operand.tmp 20) 3, type := 3, pos := _, after := #[{ on := 4, ground := Ground.data }, { on := 10, ground := Ground.data }], guard := none }) (v := ?_) rfl (by kernel_rfl) (by kernel_rfl) (by kernel_rfl) (fun _ _ _ h => h) (Or.inl ⟨by rfl, ?hy⟩) hHeld ?_
  case hy => have j1 := J1.out; have j2 := J2.out; have iw := Iw.out; intro w0 hSw; (try dsimp only at hSw); go_simp; (try with_reducible rfl)
  (try simp only [Act.put, List.setIfInBounds_toArray, List.set_cons_zero, List.set_cons_succ])
  refine wpAnyH_ready (rs := [1]) (by kernel_rfl) (by simp) ?_
  refine AllReadyH.cons (o := { dst := some 11, op := Op.call { callee := Callee.value (Operand.func 50), args := #[Operand.tmp 10], argTypes := #[23] }, type := 77, pos := _, after := #[{ on := 0, ground := Ground.data }], guard := none }) rfl (fun K hK => ?_) AllReadyH.nil
  go_simp
  refine (p2 _).mono ?_
  rintro e y1 ⟨rfl, hB'⟩
  replace hS := hS.on hB'
  replace HR := Lib.hid (HR.out.drew.below hB')
  clear hB'
  go_wp2_with fail
  refine hK.out _ _ hS (fun hHeld => ?_)
  clear hK K
  (try simp only [Act.put, List.setIfInBounds_toArray, List.set_cons_zero, List.set_cons_succ])
  refine wpAnyH_ready (rs := [12]) (by kernel_rfl) (by simp) ?_
  refine AllReadyH.cons (o := { dst := some 22, op := Op.call { callee := Callee.value (Operand.func 51), args := #[Operand.tmp 11, Operand.tmp 21], argTypes := #[77, 3] }, type := 23, pos := _, after := #[{ on := 1, ground := Ground.data }, { on := 11, ground := Ground.data }, { on := 1, ground := Ground.chain }], guard := none }) rfl (fun K hK => ?_) AllReadyH.nil
  go_simp
  refine (p3 _).mono ?_
  rintro e y2 ⟨rfl, hB'⟩
  replace hS := hS.on hB'
  replace HR := Lib.hid (HR.out.below hB')
  clear hB'
  go_wp2_with fail
  refine hK.out _ _ hS (fun hHeld => ?_)
  clear hK K
  (try simp only [Act.put, List.setIfInBounds_toArray, List.set_cons_zero, List.set_cons_succ])
  refine wpAnyH_ready (rs := [13]) (by kernel_rfl) (by simp) ?_
  refine AllReadyH.cons (o := { dst := none, op := Op.store 23 (Operand.tmp 4) (Operand.tmp 22), type := 0, pos := _, after := #[{ on := 12, ground := Ground.data }, { on := 12, ground := Ground.chain }, { on := 0, ground := Ground.phase }, { on := 1, ground := Ground.phase }, { on := 2, ground := Ground.phase }, { on := 3, ground := Ground.phase }, { on := 4, ground := Ground.phase }, { on := 5, ground := Ground.phase }, { on := 6, ground := Ground.phase }, { on := 7, ground := Ground.phase }, { on := 8, ground := Ground.phase }, { on := 9, ground := Ground.phase }, { on := 10, ground := Ground.phase }, { on := 11, ground := Ground.phase }, { on := 12, ground := Ground.phase }], guard := none }) rfl (fun K hK => ?_) AllReadyH.nil
  rw [if_pos (by rfl)]
  obtain ⟨tz, hz⟩ := HR.out.blk
  refine wp_store_row 23 _ _ rfl (w.heap.size + 1) #[.int .i64 m, .string s, .string ⟨#[]⟩] rfl rfl tz _ hz (by rfl) rfl (fil_one12 _ _ _) ?_
  have HR2 : FilAt (y2.setRow (w.heap.size + 1) #[.int .i64 m, .string s, .string ⟨#[]⟩]) (w.heap.size + 1) m s ⟨#[]⟩ := ⟨lt_row12 HR.out.lt, tz, setRow_heap _ _ _ _ _ _ hz⟩
  replace hS := hS.after12 #[.int .i64 m, .string s, .string ⟨#[]⟩] [(w.heap.size, #[.int .i64 m, .string k, .string l])] (by simp) (k := w.heap.size + 1) (by simp) (by omega)
  clear hz HR
  refine hK.out _ _ hS (fun hHeld => ?_)
  clear hK K
  (try simp only [Act.put])
  refine wpAnyH_take (i := 14) (oi := { dst := some 5, op := Op.assign (Operand.const (Value.int IntKind.i64 0)), type := 27, pos := _, after := #[{ on := 13, ground := Ground.chain }, { on := 0, ground := Ground.phase }, { on := 1, ground := Ground.phase }, { on := 2, ground := Ground.phase }, { on := 3, ground := Ground.phase }, { on := 4, ground := Ground.phase }, { on := 5, ground := Ground.phase }, { on := 6, ground := Ground.phase }, { on := 7, ground := Ground.phase }, { on := 8, ground := Ground.phase }, { on := 9, ground := Ground.phase }, { on := 10, ground := Ground.phase }, { on := 11, ground := Ground.phase }, { on := 12, ground := Ground.phase }, { on := 13, ground := Ground.phase }], guard := none }) (v := ?_) rfl (by kernel_rfl) (by kernel_rfl) (by kernel_rfl) (fun _ _ _ h => h) (Or.inl ⟨by rfl, ?hy⟩) hHeld ?_
  case hy => intro w0 hSw; (try dsimp only at hSw); go_simp; (try with_reducible rfl)
  (try simp only [Act.put, List.setIfInBounds_toArray, List.set_cons_zero, List.set_cons_succ])
  refine wpAnyH_done (by kernel_rfl) ?_ _
  clear hHeld
  have HSe := Lib.hid hS
  have HR := Lib.hid HR2
  clear hS HR2
  go_wp2
  (try simp only [Exit.inBlock, Exit.then]); refine bodyPost_ret (ret_file rfl rfl HR.out) rfl ?_
  exact ⟨rfl, HSe.out.below⟩

theorem fcrash_any (m : Int) (k l : ByteArray) (n : Int) (hs : k.size ≤ 9000 ∧ l.size ≤ 9000) (w : World) :
    Calls Try.prog 34 #[.agg #[.int .i64 m, .string k, .string l], .int .i64 n] w fun e w' => e = .returned (.tuple #[(Fi.crash ⟨m, k, l⟩ n).v, .int .i64 (Fi.badE ⟨m, k, l⟩)]) ∧ Below w.heap.size w w' := by
  cases h : Fi.is ⟨m, k, l⟩
  · have e1 : Fi.crash ⟨m, k, l⟩ n = Fi.no := by unfold Fi.crash; rw [h]; rfl
    have e2 : Fi.badE ⟨m, k, l⟩ = 1 := by unfold Fi.badE; rw [h]; rfl
    rw [e1, e2]; exact fcrash_no m k l n hs w h
  · have e1 : Fi.crash ⟨m, k, l⟩ n = ⟨m, k ++ l.extract 0 (Fi.many ⟨m, k, l⟩ n), ⟨#[]⟩⟩ := by unfold Fi.crash; rw [h]; rfl
    have e2 : Fi.badE ⟨m, k, l⟩ = 0 := by unfold Fi.badE; rw [h]; rfl
    have hrs := Fi.read_size ⟨m, k, l⟩
    simp only at hrs
    have hq : Fi.many ⟨m, k, l⟩ n ≤ l.size := by unfold Fi.many; exact Nat.min_le_right _ _
    have t := Fi.read_take12 ⟨m, k, l⟩ _ hq
    rw [e1, e2, ← t]
    have p := fun (z : Int) (h0 : 0 ≤ z) (hz : z = (k.size : Int) + (Fi.many ⟨m, k, l⟩ n : Nat)) W => (hz ▸ fkeep_any m k l z hs h0 _ rfl (by rw [hrs]; omega) W : Calls Try.prog 51 #[.agg #[.int .i64 m, .string k, .string l], .int .i64 z] W fun e w' => e = .returned (.agg #[.int .i64 m, .string ((Fi.read ⟨m, k, l⟩).extract 0 ((k.size : Int) + (Fi.many ⟨m, k, l⟩ n : Nat)).toNat), .string ⟨#[]⟩]) ∧ Below W.heap.size W w')
    have hm : Fi.many ⟨m, k, l⟩ n = min n.toNat l.size := rfl
    have W : ∀ z : Int, 0 ≤ z → z ≤ 100000 → IntKind.i64.wrap z = z := fun z h1 h2 => by rw [IntKind.wrap_i64]; omega
    by_cases h1 : (l.size : Int) < n
    · by_cases h2 : 0 < l.size
      · exact fcrash_hi m k l n hs w h _ (eq_true h1) (eq_true h2) (W _ (by omega) (by omega)) (p _ (by omega) (by omega))
      · exact fcrash_zero m k l n hs w h _ (eq_true h1) (eq_false h2) (W _ (by omega) (by omega)) (p _ (by omega) (by omega))
    · by_cases h2 : 0 < n
      · exact fcrash_mid m k l n hs w h _ (eq_false h1) (eq_true h2) (W _ (by omega) (by omega)) (p _ (by omega) (by omega))
      · exact fcrash_lo m k l n hs w h _ (eq_false h1) (eq_false h2) (W _ (by omega) (by omega)) (p _ (by omega) (by omega))

set_option maxHeartbeats 1000000 in
theorem fsync_any (m : Int) (k l : ByteArray) (hs : k.size ≤ 9000 ∧ l.size ≤ 9000) (w : World) :
    Calls Try.prog 28 #[.agg #[.int .i64 m, .string k, .string l]] w fun e w' => e = .returned (.tuple #[(Fi.sync ⟨m, k, l⟩).v, .int .i64 (Fi.badE ⟨m, k, l⟩)]) ∧ Below w.heap.size w w' := by
  have e : Fi.sync ⟨m, k, l⟩ = Fi.crash ⟨m, k, l⟩ (l.size : Int) := by
    unfold Fi.sync Fi.crash Fi.read Fi.many
    simp only [Int.toNat_natCast, Nat.min_self, ba_extract_all]
  have p1 := fun W => fcrash_any m k l (l.size : Int) hs W
  rw [← e] at p1
  obtain ⟨X, hX⟩ : ∃ X, X = Fi.sync ⟨m, k, l⟩ := ⟨_, rfl⟩
  rw [← hX] at p1 ⊢
  obtain ⟨xm, xk, xl⟩ := X
  clear hX e hs
  unfold Fil.v filV at p1 ⊢
  simp only at p1 ⊢
  obtain ⟨y, hy⟩ : ∃ y, y = Fi.badE ⟨m, k, l⟩ := ⟨_, rfl⟩
  rw [← hy] at p1 ⊢
  clear hy
  go_enter Try.func28, Try.ntmps28
  go_wp2_with fail
  refine (p1 _).mono ?_
  rintro e w1 ⟨rfl, hB⟩
  have hF1 := (FilAt.new1 w (.cells #[.int .i64 m, .string k, .string l] 23) 0 ⟨#[]⟩ ⟨#[]⟩ 23).below hB
  have Hb := Lib.hid (below2 (below_new2 w _ _) hB)
  have a0 := hF1.f0
  have a1 := hF1.f1
  have a2 := hF1.f2
  have b0 := hF1.c0
  have b1 := hF1.c1
  have b2 := hF1.c2
  have HF := Lib.hid hF1
  clear p1 hB hF1
  go_wp2_with fail
  (try simp only [Exit.inBlock, Exit.then]); refine bodyPost_ret (ret_file rfl rfl (((HF.out.set0 _).set1 _).set2 _)) rfl ?_
  exact ⟨rfl, below_set3 Hb.out (by omega) _ _ _⟩

end Go.Proofs.Yteepemibmjpnfaa
