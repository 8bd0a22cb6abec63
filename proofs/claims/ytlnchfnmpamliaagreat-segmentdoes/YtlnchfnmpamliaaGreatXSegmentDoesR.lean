/-
  Layer 14 (segment): the law SegmentDoes: the references that it stands beside.
-/
import Derived.Test.YtlnchfnmpamliaaGreatXSegmentDoes
import Derived.Test.YtlnchfnmpamliaaGreatXJh
import Derived.Test.YtlnchfnmpamliaaGreatXJk
import Derived.Test.YtlnchfnmpamliaaGreatXRefSeg7
import Derived.Test.YtlnchfnmpamliaaGreatXRefSeg8
import Derived.Test.YtlnchfnmpamliaaGreatXRefSeg10
import Derived.Test.YtlnchfnmpamliaaGreatXJb
namespace Go.Proofs.YtlnchfnmpamliaaGreat
set_option maxRecDepth 10000
open Go.RowKit
namespace Sg
theorem len_sync (s : Seg) (h : s.fs.length ≤ 1000) : (sync s).fs.length ≤ 1000 := by
  unfold sync; split
  · simp only; rw [onLast_len]; exact h
  · exact Nat.zero_le _
theorem len_crash (s : Seg) (n : Int) (h : s.fs.length ≤ 1000) : (crash s n).fs.length ≤ 1000 := by
  unfold crash; split
  · simp only; rw [onLast_len]; exact h
  · exact Nat.zero_le _
theorem len_is {s : Seg} (h : is s = true) : s.fs.length ≤ 1000 := by have := (is_iff.1 h).1.2.2.2; omega
theorem len_mend (s : Seg) : (mend s).fs.length ≤ 1000 := by
  by_cases hi : is s = true
  · exact len_is (mend_is hi).2
  · unfold mend; rw [if_neg hi]; exact Nat.zero_le _
theorem len_drop (s : Seg) (u : Int) : (drop s u).fs.length ≤ 1000 := by
  by_cases hi : is s = true
  · rw [drop_ok hi]
    have h := is_iff.1 hi
    have := (dropL_ok s.sz u s.fs s.fi h.2 (by intro e; have := h.1.2.2.1; rw [e] at this; simp at this)).2.2
    simp only; have := h.1.2.2.2; omega
  · unfold drop; rw [if_neg hi]; exact Nat.zero_le _
theorem len_add (s : Seg) (l : List ByteArray) : (add s l).fs.length ≤ 1000 := by
  by_cases h : addE s l = 0
  · exact len_is (add_ok h).1
  · rw [add_bad h]; exact Nat.zero_le _
theorem len_new (a b : Int) : (new a b).fs.length ≤ 1000 := by
  unfold new; split
  · simp [newS]
  · exact Nat.zero_le _
end Sg
theorem segmentDoes_walk {E : World → Prop} (HS : Hid (SegK E)) (HC : Hid (PartedK E)) (sz fi : Int) (A : Option Addr) (n c : Nat) (fs : List Fil) (A1 : Option Addr) (N1 cap1 : Nat) (ss : List ByteArray) (u size : Int) (w : World) (hE : E w) (hA : FilsAt w w.heap.size A fs) (hn : n = fs.length) (hR : RoomyF A fs c) (hl : fs.length ≤ maxLen) (hz : ∀ f ∈ fs, f.kept.size ≤ maxLen ∧ f.loose.size ≤ maxLen) (hI : IsStrs w A1 N1 cap1 ss) :
    Calls Tryz.prog 3 #[.agg #[.int .i64 sz, .int .i64 fi, .slice A n c], .slice A1 N1 cap1, .int .i64 u, .int .i64 size] w fun e w' => e = .returned (.bool true) ∧ Below w.heap.size w w' := by
  subst hn
  obtain ⟨hN1, hM1, hA1, hs1⟩ := hI.strs
  have hc1 := hI.cap13
  subst hN1
  have pf := fun W (h : FilsAt W W.heap.size A fs) (hB : StrsAt W W.heap.size A1 ss) => Lib.hid (far14_any sz fi A c fs A1 cap1 ss W h hl hz hB hM1 hs1)
  cases hf : far14B fs ss
  case true => rw [hf] at pf; exact segmentDoes_far HS sz fi A _ c fs A1 _ cap1 ss u size w hE hA hA1 pf
  rw [hf] at pf
  obtain ⟨⟨hl25, hz6⟩, hl2, hz2⟩ := far14B_no hf
  have hsm : Sg.small ⟨sz, fi, fs⟩ := ⟨by simp only; omega, fun f hf => by have := hz6 f hf; unfold Fi.small; omega⟩
  have h9 : ∀ s ∈ ss, s.size ≤ 9000 := fun s hs => by have := (hz2 s hs).1; omega
  have hml : ∀ k : Nat, k ≤ 1000 → k ≤ maxLen := fun k h => by unfold maxLen; omega
  have l1 := Sg.len_add ⟨sz, fi, fs⟩ ss
  have l2 := Sg.len_sync ⟨sz, fi, fs⟩ hsm.1
  have l3 := Sg.len_crash ⟨sz, fi, fs⟩ u hsm.1
  have l4 := Sg.len_mend ⟨sz, fi, fs⟩
  have l5 := Sg.len_drop ⟨sz, fi, fs⟩ u
  have l6 := Sg.len_new size u
  exact segmentDoes_go HS HC sz fi A fs.length c fs A1 ss.length cap1 ss u size w hE hA hA1 (Lib.hid hR) (Sg.texts ⟨sz, fi, fs⟩) (Sg.texts ⟨sz, fi, fs⟩).length (Sg.badE ⟨sz, fi, fs⟩) (Sg.is ⟨sz, fi, fs⟩)
    (Sg.add ⟨sz, fi, fs⟩ ss).sz (Sg.add ⟨sz, fi, fs⟩ ss).fi (Sg.add ⟨sz, fi, fs⟩ ss).fs.length (Sg.add ⟨sz, fi, fs⟩ ss).fs (Sg.addE ⟨sz, fi, fs⟩ ss)
    (Sg.sync ⟨sz, fi, fs⟩).sz (Sg.sync ⟨sz, fi, fs⟩).fi (Sg.sync ⟨sz, fi, fs⟩).fs.length (Sg.sync ⟨sz, fi, fs⟩).fs (Sg.badE ⟨sz, fi, fs⟩)
    (Sg.crash ⟨sz, fi, fs⟩ u).sz (Sg.crash ⟨sz, fi, fs⟩ u).fi (Sg.crash ⟨sz, fi, fs⟩ u).fs.length (Sg.crash ⟨sz, fi, fs⟩ u).fs (Sg.badE ⟨sz, fi, fs⟩)
    (Sg.mend ⟨sz, fi, fs⟩).sz (Sg.mend ⟨sz, fi, fs⟩).fi (Sg.mend ⟨sz, fi, fs⟩).fs.length (Sg.mend ⟨sz, fi, fs⟩).fs (Sg.badE ⟨sz, fi, fs⟩)
    (Sg.drop ⟨sz, fi, fs⟩ u).sz (Sg.drop ⟨sz, fi, fs⟩ u).fi (Sg.drop ⟨sz, fi, fs⟩ u).fs.length (Sg.drop ⟨sz, fi, fs⟩ u).fs (Sg.badE ⟨sz, fi, fs⟩)
    (Sg.new size u).sz (Sg.new size u).fi (Sg.new size u).fs.length (Sg.new size u).fs (Sg.newE size u)
    pf
    (fun W A c hA hR => Lib.hid ((RSOwn_any sz fi A fs.length c fs W hA rfl hR.1 hsm.1).mono fun e w' ⟨A', c', h1, h2, h3⟩ => ⟨A', c', h1, h2.rows.1, h2.rows.2, h3⟩))
    (fun W A c h hA _ => Lib.hid (HS.out.read ⟨sz, fi, fs⟩ A fs.length c W h hsm hA rfl))
    (fun W A c hA _ => Lib.hid (RSRead_any sz fi A fs.length c fs W hA hsm rfl))
    (fun W hB => Lib.hid ((OwnTexts_any A1 cap1 ss W hB hc1.2 (by omega)).mono fun e w' ⟨A2, c2, h1, h2, h3⟩ => ⟨A2, c2, h1, StrsAt.of_own h2, h3⟩))
    (fun W A c h hA hR hB => Lib.hid (HS.out.add ⟨sz, fi, fs⟩ A fs.length c A1 ss.length cap1 ss W h hsm hA rfl hR hB rfl (by omega) hc1.1 h9))
    (fun W A c A2 c2 hA hR hB => Lib.hid (RSAdd_any sz fi A fs.length c fs A2 ss.length c2 ss W hA hsm rfl hR.1 hB rfl (by omega) h9))
    (fun W A c h hA hR => Lib.hid (HS.out.sync ⟨sz, fi, fs⟩ A fs.length c W h hsm hA rfl hR))
    (fun W A c hA hR => Lib.hid (RSSync_any sz fi A fs.length c fs W hA hsm rfl hR.1))
    (fun W A c h hA hR => Lib.hid (HS.out.crash ⟨sz, fi, fs⟩ A fs.length c u W h hsm hA rfl hR))
    (fun W A c hA hR => Lib.hid (RSCrash_any sz fi u A fs.length c fs W hA hsm rfl hR.1))
    (fun W A c h hA hR => Lib.hid (HS.out.mend ⟨sz, fi, fs⟩ A fs.length c W h hsm hA rfl hR))
    (fun W A c hA hR => Lib.hid (RSMend_any sz fi A fs.length c fs W hA hsm rfl hR.1))
    (fun W A c h hA hR => Lib.hid (HS.out.drop ⟨sz, fi, fs⟩ A fs.length c u W h hsm hA rfl hR))
    (fun W A c hA hR => Lib.hid (RSDrop_any sz fi u A fs.length c fs W hA hsm rfl hR.1))
    (fun W h => Lib.hid (HS.out.new size u W h))
    (fun W => Lib.hid (RSNew_any size u W))
    (texts14 _ _ rfl (Sg.texts_len _))
    (same14 _ _ _ _ rfl (hml _ l1)) (same14 _ _ _ _ rfl (hml _ l2)) (same14 _ _ _ _ rfl (hml _ l3)) (same14 _ _ _ _ rfl (hml _ l4)) (same14 _ _ _ _ rfl (hml _ l5)) (same14 _ _ _ _ rfl (hml _ l6))
    (same14 sz fi fs _ rfl hl)
    (fun W A c base h => Lib.hid (smudge14_any _ _ A _ c base _ W h rfl l1)) (fun W A c base h => Lib.hid (smudge14_any _ _ A _ c base _ W h rfl l2)) (fun W A c base h => Lib.hid (smudge14_any _ _ A _ c base _ W h rfl l3)) (fun W A c base h => Lib.hid (smudge14_any _ _ A _ c base _ W h rfl l4)) (fun W A c base h => Lib.hid (smudge14_any _ _ A _ c base _ W h rfl l5))
    (fun W A c h hA _ => Lib.hid (HS.out.is ⟨sz, fi, fs⟩ A fs.length c W h hsm hA rfl))
    (fun W A c hA _ => Lib.hid (RSIs_any sz fi A fs.length c fs W hA hsm rfl))
end Go.Proofs.YtlnchfnmpamliaaGreat
