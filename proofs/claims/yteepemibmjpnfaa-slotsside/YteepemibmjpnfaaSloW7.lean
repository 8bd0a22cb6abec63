/-
  Layer 15 (slots): the landed code: Save put together; the structure of slots' functions.
-/
import Derived.Test.YteepemibmjpnfaaSloW6
import Derived.Test.YteepemibmjpnfaaSloK
namespace Go.Proofs.Yteepemibmjpnfaa
set_option maxRecDepth 10000
open Go.RowKit

theorem Sl.badE_wr15 {s : Slo} {t : List UInt8} (h : Sl.saveE s t = 0) (d : Int) : Fi.badE (Sl.wr s t d) = 0 := by
  unfold Fi.badE; rw [(Sl.wr_is h d).1]; rfl
theorem ba_nil_app15 (b : ByteArray) : (⟨#[]⟩ : ByteArray) ++ b = b := by
  apply bl_inj; rw [bl_append]; show [] ++ bl b = bl b; rfl
theorem Sl.note_add15 {s : Slo} {t : List UInt8} (hm : Fi.newE s.a.most = 0) : Fi.addE (Fi.new s.a.most) [strOf (Sl.noteB ((Sl.best s).2.1 + 1) t)] = (if s.a.most < ((Sl.noteB ((Sl.best s).2.1 + 1) t).length : Int) then 81 else 0) := by
  have hm2 : 1 ≤ s.a.most ∧ s.a.most ≤ 4000 := by unfold Fi.newE at hm; split at hm <;> first | assumption | cases hm
  have en : Fi.new s.a.most = ⟨s.a.most, ⟨#[]⟩, ⟨#[]⟩⟩ := by unfold Fi.new; rw [if_pos hm2]
  have hi : Fi.is ⟨s.a.most, ⟨#[]⟩, ⟨#[]⟩⟩ = true := decide_eq_true ⟨hm2.1, hm2.2, by show (0 : Int) + 0 ≤ s.a.most; omega⟩
  have ea : Fi.all [strOf (Sl.noteB ((Sl.best s).2.1 + 1) t)] = strOf (Sl.noteB ((Sl.best s).2.1 + 1) t) := by
    unfold Fi.all; apply bl_inj; rw [bl_strOf]; simp
  unfold Fi.addE
  rw [en, if_pos hi, ea, strOf_size]
  show (if (0 : Int) + 0 + _ ≤ s.a.most then (0 : Int) else 81) = _
  by_cases h : s.a.most < ((Sl.noteB ((Sl.best s).2.1 + 1) t).length : Int)
  · rw [if_pos h, if_neg (by omega)]
  · rw [if_neg h, if_pos (by omega)]
theorem Sl.note_put15 {s : Slo} {t : List UInt8} (hm : Fi.newE s.a.most = 0) (h : Fi.addE (Fi.new s.a.most) [strOf (Sl.noteB ((Sl.best s).2.1 + 1) t)] = 0) : Fi.add (Fi.new s.a.most) [strOf (Sl.noteB ((Sl.best s).2.1 + 1) t)] = Sl.wr s t 1 := by
  have hm2 : 1 ≤ s.a.most ∧ s.a.most ≤ 4000 := by unfold Fi.newE at hm; split at hm <;> first | assumption | cases hm
  have en : Fi.new s.a.most = ⟨s.a.most, ⟨#[]⟩, ⟨#[]⟩⟩ := by unfold Fi.new; rw [if_pos hm2]
  have ea : Fi.all [strOf (Sl.noteB ((Sl.best s).2.1 + 1) t)] = strOf (Sl.noteB ((Sl.best s).2.1 + 1) t) := by
    unfold Fi.all; apply bl_inj; rw [bl_strOf]; simp
  unfold Fi.add
  rw [if_pos h, en, ea]
  unfold Sl.wr
  rw [if_pos rfl]
  show (⟨s.a.most, ⟨#[]⟩, (⟨#[]⟩ : ByteArray) ++ _⟩ : Fil) = _
  rw [ba_nil_app15]
theorem Sl.wr_sync15 {s : Slo} {t : List UInt8} (h : Sl.saveE s t = 0) : Fi.sync (Sl.wr s t 1) = Sl.wr s t 2 := by
  unfold Fi.sync
  rw [if_pos (Sl.wr_is h 1).1]
  unfold Sl.wr Fi.read
  rw [if_pos rfl, if_neg (by decide)]
  show (⟨s.a.most, (⟨#[]⟩ : ByteArray) ++ _, ⟨#[]⟩⟩ : Fil) = _
  rw [ba_nil_app15]
theorem Sl.wr_other15 {s : Slo} {t : List UInt8} {d : Int} (h : d ≠ 1) : Sl.wr s t d = Sl.wr s t 2 := by
  unfold Sl.wr; rw [if_neg h, if_neg (by decide)]

theorem ssave_any (s : Slo) (t : ByteArray) (d : Int) (hs : Sl.small s) (w : World) :
    Calls Try.prog 11 #[.agg (Sl.v s), .string t, .int .i64 d] w fun e w' => e = .returned (.tuple #[.agg (Sl.v (Sl.save s (bl t) d)), .bool (Sl.done s (bl t) d), .int .i64 (Sl.saveE s (bl t))]) ∧ Below w.heap.size w w' := by
  have pO := fun W => sof_any s.a.most s.b.most s.a.kept s.a.loose s.b.kept s.b.loose W
  have pI := fun W => sright_any s hs W
  have pC := fun W => sbest_any s hs W
  have pM := fun W => smost_any s.a.most s.b.most s.a.kept s.a.loose s.b.kept s.b.loose W
  cases hi : Sl.is s
  · rw [hi] at pI
    have e3 : Sl.saveE s (bl t) = 1 := by unfold Sl.saveE; rw [hi]; rfl
    obtain ⟨e1, e2⟩ := Sl.save_no (s := s) (t := bl t) (d := d) (by rw [e3]; decide)
    rw [e1, e2, e3]
    exact ssave_no _ _ _ _ _ _ d t w pO pI
  · rw [hi] at pI
    by_cases h1 : 1000 < t.size
    · have e3 : Sl.saveE s (bl t) = 2 := by unfold Sl.saveE; rw [if_pos hi, if_pos (Or.inl (by rw [bl_length]; exact h1))]
      obtain ⟨e1, e2⟩ := Sl.save_no (s := s) (t := bl t) (d := d) (by rw [e3]; decide)
      rw [e1, e2, e3]
      exact ssave_long _ _ _ _ _ _ d _ _ t _ (eq_true (by omega)) w pO pI pC
    · have hnum := Sl.best_num s
      by_cases h2 : (Sl.best s).2.1 = 1000000000
      · have e3 : Sl.saveE s (bl t) = 2 := by unfold Sl.saveE; rw [if_pos hi, if_pos (Or.inr (by rw [h2]; exact Int.le_refl _))]
        obtain ⟨e1, e2⟩ := Sl.save_no (s := s) (t := bl t) (d := d) (by rw [e3]; decide)
        rw [e1, e2, e3]
        exact ssave_last _ _ _ _ _ _ d _ _ t _ (eq_false (by omega)) h2 w pO pI pC
      · have hlt : (Sl.best s).2.1 < 1000000000 := by omega
        have hn : Sl.nOk ((Sl.best s).2.1 + 1) = true := Sl.nOk_iff.2 (by omega)
        have hia := Fi.is_small (Sl.is_iff.1 hi).1
        have hm : Fi.newE s.a.most = 0 := by unfold Fi.newE; rw [if_pos ⟨hia.1, hia.2.1⟩]
        have pW := fun W => snote_any s.a.most ((Sl.best s).2.1 + 1) t hm hn (by omega) W
        have ee := Sl.note_add15 (s := s) (t := bl t) hm
        have h1' : ((1000 : Int) < (t.size : Int)) = False := eq_false (by omega)
        have h2' : ((Sl.best s).2.1 == 1000000000) = false := by rw [beq_eq_false_iff_ne]; exact h2
        have iw : wrap64 ((Sl.best s).2.1 + 1) = (Sl.best s).2.1 + 1 := by unfold wrap64; omega
        have hsave : Sl.saveE s (bl t) = Fi.addE (Fi.new s.a.most) [strOf (Sl.noteB ((Sl.best s).2.1 + 1) (bl t))] := by
          rw [ee]; unfold Sl.saveE; rw [if_pos hi, if_neg]
          intro h; rw [bl_length] at h; omega
        by_cases hE : Fi.addE (Fi.new s.a.most) [strOf (Sl.noteB ((Sl.best s).2.1 + 1) (bl t))] = 0
        · have h0 : Sl.saveE s (bl t) = 0 := by rw [hsave]; exact hE
          rw [Sl.note_put15 hm hE, hE] at pW
          rw [h0]
          have pY := fun W => fsync_any (Sl.wr s (bl t) 1).most (Sl.wr s (bl t) 1).kept (Sl.wr s (bl t) 1).loose (Rc.is_small9 (Sl.wr_is h0 1).1) W
          have eY : Fi.sync ⟨(Sl.wr s (bl t) 1).most, (Sl.wr s (bl t) 1).kept, (Sl.wr s (bl t) 1).loose⟩ = Sl.wr s (bl t) 2 := Sl.wr_sync15 h0
          have eB : Fi.badE ⟨(Sl.wr s (bl t) 1).most, (Sl.wr s (bl t) 1).kept, (Sl.wr s (bl t) 1).loose⟩ = 0 := Sl.badE_wr15 h0 1
          rw [eY, eB] at pY
          have pS := fun W => sspare_any (Sl.best s).2.2 W
          have hd5 : d = 0 ∨ d = 1 ∨ d = 2 ∨ (d < 0) = True ∨ ((d < 0) = False ∧ (2 < d) = True) := by
            by_cases a : d < 0
            · exact .inr (.inr (.inr (.inl (eq_true a))))
            · by_cases b : 2 < d
              · exact .inr (.inr (.inr (.inr ⟨eq_false a, eq_true b⟩)))
              · omega
          by_cases hat : (Sl.best s).2.2 = 0
          · rw [if_pos hat] at pS
            refine ssave_yes1 _ _ _ _ _ _ d _ _ _ _ t _ _ _ _ _ _ _ h1' h2' iw ?_ w pO pI pC pM pW pY pS (fun a b k l x y W => stold_any a b k l x y W)
            have put : ∀ f, Sl.put s f = ⟨s.a, f⟩ := fun f => by unfold Sl.put; rw [if_pos hat]
            rcases hd5 with rfl | rfl | rfl | h | ⟨h, h'⟩
            · exact .inl ⟨rfl, by rw [Sl.save_zero h0]; rfl, by rw [Sl.done_iff h0]; rfl⟩
            · exact .inr (.inl ⟨rfl, by rw [Sl.save_yes h0 (by decide), put]; rfl, by rw [Sl.done_iff h0]; rfl⟩)
            · exact .inr (.inr (.inl ⟨rfl, by rw [Sl.save_yes h0 (by decide), put]; rfl, by rw [Sl.done_iff h0]; rfl⟩))
            · have a := of_eq_true h
              exact .inr (.inr (.inr (.inl ⟨h, by rw [Sl.save_yes h0 (by omega), put, Sl.wr_other15 (by omega)]; rfl, by rw [Sl.done_iff h0]; exact decide_eq_true ⟨by omega, by omega⟩⟩)))
            · have a := of_eq_true h'
              exact .inr (.inr (.inr (.inr ⟨h, h', by rw [Sl.save_yes h0 (by omega), put, Sl.wr_other15 (by omega)]; rfl, by rw [Sl.done_iff h0]; exact decide_eq_true ⟨by omega, by omega⟩⟩)))
          · rw [if_neg hat] at pS
            refine ssave_yes0 _ _ _ _ _ _ d _ _ _ _ t _ _ _ _ _ _ _ h1' h2' iw ?_ w pO pI pC pM pW pY pS (fun a b k l x y W => stold_any a b k l x y W)
            have put : ∀ f, Sl.put s f = ⟨f, s.b⟩ := fun f => by unfold Sl.put; rw [if_neg hat]
            rcases hd5 with rfl | rfl | rfl | h | ⟨h, h'⟩
            · exact .inl ⟨rfl, by rw [Sl.save_zero h0]; rfl, by rw [Sl.done_iff h0]; rfl⟩
            · exact .inr (.inl ⟨rfl, by rw [Sl.save_yes h0 (by decide), put]; rfl, by rw [Sl.done_iff h0]; rfl⟩)
            · exact .inr (.inr (.inl ⟨rfl, by rw [Sl.save_yes h0 (by decide), put]; rfl, by rw [Sl.done_iff h0]; rfl⟩))
            · have a := of_eq_true h
              exact .inr (.inr (.inr (.inl ⟨h, by rw [Sl.save_yes h0 (by omega), put, Sl.wr_other15 (by omega)]; rfl, by rw [Sl.done_iff h0]; exact decide_eq_true ⟨by omega, by omega⟩⟩)))
            · have a := of_eq_true h'
              exact .inr (.inr (.inr (.inr ⟨h, h', by rw [Sl.save_yes h0 (by omega), put, Sl.wr_other15 (by omega)]; rfl, by rw [Sl.done_iff h0]; exact decide_eq_true ⟨by omega, by omega⟩⟩)))
        · obtain ⟨e1, e2⟩ := Sl.save_no (s := s) (t := bl t) (d := d) (by rw [hsave]; exact hE)
          rw [e1, e2, hsave]
          exact ssave_full _ _ _ _ _ _ d _ _ _ _ t _ _ _ h1' h2' iw (by rw [bne_iff_ne]; exact hE) w pO pI pC pM pW

/-- The landed code's functions. -/
theorem slotsK : SlotsK (fun _ => True) :=
  ⟨fun _ _ _ _ => trivial, fun n w _ => snew_any n w, fun s w _ hs => sload_any s hs w, fun s t d w _ hs _ => ssave_any s t d hs w, fun s n w _ hs => scrash_any s n hs w,
   fun a b w _ ha hb => sBetter_any a b w (Nat.le_trans ha (by decide)) (Nat.le_trans hb (by decide))⟩
end Go.Proofs.Yteepemibmjpnfaa
