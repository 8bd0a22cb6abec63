/-
  Layer 14 (segment): the landed code: filled.
-/
import Derived.Test.YtlnchfnmpamliaaGreatXSegW8
import Derived.Test.YtlnchfnmpamliaaGreatXFileW7
import Derived.Deep.LoopGhost
import Derived.WalkMore
namespace Go.Proofs.YtlnchfnmpamliaaGreat
set_option maxRecDepth 10000
open Go.RowKit

/-- What filled hands back. -/
def FilledS (w : World) (x : Seg × Int) (e : Ending) (w' : World) : Prop := ∃ A n c, e = .returned (.tuple #[.slice A n c, .int .i64 x.2]) ∧ Below w.heap.size w w' ∧ (x.2 = 0 → n = x.1.fs.length ∧ OwnF w' w.heap.size (.slice A n c) x.1.fs)
theorem FilledS.bad {w w' : World} {x : Seg × Int} {E : Int} {s : Seg} (hx : x = (s, E)) (hE : E ≠ 0) (hB : Below w.heap.size w w') : FilledS w x (.returned (.tuple #[.slice none 0 0, .int .i64 E])) w' := by
  subst hx
  exact ⟨none, 0, 0, rfl, hB, fun h => absurd h hE⟩
theorem all_one14 (r : ByteArray) : Fi.all [r] = r := by unfold Fi.all; apply bl_inj; rw [bl_strOf]; simp
theorem strs_one14 (w : World) (r : ByteArray) (t : TypeId) : StrsAt (w.alloc (.cells #[.string r] t)) (w.alloc (.cells #[.string r] t)).heap.size (some ⟨w.heap.size, 0, none⟩) [r] := by
  have h := StrsAt.new w [r] t
  rw [show (w.alloc (.cells #[.string r] t)).heap.size = w.heap.size + 1 by simp]
  exact h
/-- The text stands ahead of the others, or not: what the outer loop holds. -/
def Waits (sz nn : Int) (pre : List Fil) (f : Fil) (rest : List ByteArray) (I : Nat) : Prop :=
  I = pre.length ∨ (I = pre.length + 1 ∧ ∃ t r, rest = t :: r ∧ Rc.putE nn (bl t) = 0 ∧ ¬ sz < ((Rc.rec1 nn (bl t)).length : Nat) ∧ ¬ ((Fi.read f).size : Int) + ((Rc.rec1 nn (bl t)).length : Nat) ≤ sz)

set_option maxRecDepth 1000000 in
set_option maxHeartbeats 4000000 in
theorem filled_any (sz fi nn0 : Int) (A : Option Addr) (n c : Nat) (fs : List Fil) (A2 : Option Addr) (l c2 : Nat) (ss : List ByteArray) (w : World) (hA : FilsAt w w.heap.size A fs) (hn : n = fs.length)
    (hA2 : StrsAt w w.heap.size A2 ss) (hl : l = ss.length) (hl2 : l ≤ 1000) (hc2 : l ≤ c2) (hz : ∀ s ∈ ss, s.size ≤ 9000) (hi : Sg.is ⟨sz, fi, fs⟩ = true) (hw : (Sg.rd fs fi).2 = true) (hnn : nn0 = fi + ((Sg.rd fs fi).1.length : Nat)) :
    Calls Tryz.prog 32 #[.slice A n c, .int .i64 nn0, .slice A2 l c2] w (FilledS w (Sg.go ⟨sz, fi, fs⟩ (ss.map bl))) := by
  have hb := (Sg.is_iff.1 hi).1
  simp only at hb
  obtain ⟨B, off, rfl⟩ : ∃ B off, A = some ⟨B, off, none⟩ := by
    obtain ⟨b, off, e, _⟩ := hA 0 (by omega)
    exact ⟨b, off, e⟩
  obtain ⟨x, hx⟩ : ∃ x, x = Sg.go ⟨sz, fi, fs⟩ (ss.map bl) := ⟨_, rfl⟩
  have F0 := Sg.Fill.start (l0 := ss.map bl) hi hw
  rw [← hnn] at F0
  obtain ⟨pre0, f0, hfs⟩ : ∃ pre f, fs = pre ++ [f] := by
    obtain ⟨a, f, h, _⟩ := Sg.is_split hi
    exact ⟨a, f, h⟩
  have p1 := fun W (h : FilsAt W W.heap.size (some ⟨B, off, none⟩) fs) => clone_any (some ⟨B, off, none⟩) n c fs W h hn (fun e => nomatch e) (by omega)
  have S0 := Lib.hid ((St.start w).more (strsF14 A2 w.heap.size ss) ⟨hA2, Nat.le_refl _⟩)
  have HF0 := Lib.hid F0
  have HA2 := Lib.hid hA2
  have Hfs := Lib.hid hfs
  have Hx := Lib.hid hx
  have Hz := Lib.hid hz
  have Hl := Lib.hid hl
  have Hl2 := Lib.hid hl2
  have Hc2 := Lib.hid hc2
  have Hfi : Hid (0 ≤ fi ∧ fi ≤ 900000000) := Lib.hid hb.2.1
  have Hsz : Hid (20 ≤ sz ∧ sz ≤ 4000) := Lib.hid hb.1
  have Hn : Hid (n = pre0.length + 1) := Lib.hid (by rw [hn, hfs]; simp)
  have wk : wrap64 ((n : Int) - 1) = ((n - 1 : Nat) : Int) := by unfold wrap64; omega
  have Hn20 : Hid (1 ≤ n ∧ n ≤ 20) := Lib.hid (by omega)
  rw [← hx]
  clear hA2 hl hl2 hc2 hz hi hw hnn hb F0 hfs hx hn
  go_enter Tryz.func32, Tryz.ntmps32
  go_wp2
  go_step3
  go_wp2_with fail
  refine (p1 _ hA).mono ?_
  rintro e w1 ⟨A1, c1, rfl, hO, hB⟩
  have S1 := Lib.hid (S0.out.on hB)
  rw [Hfs.out] at hO
  have HO1 := Lib.hid hO
  clear p1 hA hO hB S0
  go_wp2
  go_step3
  go_wp2
  rw [wk]
  clear wk
  go_loopg [1, 2, 8, 9] (21 - n) (fun g s1 s2 s8 s9 wr => ∃ (pre : List Fil) (f : Fil) (nn : Int) (rest : List ByteArray) (I : Nat) (Al : Option Addr) (L C : Nat) (Av : Option Addr) (N Cv : Nat), I + g = 20 ∧ s1 = .int .i64 nn ∧ s2 = .slice Al L C ∧ s8 = .slice Av N Cv ∧ s9 = .int .i64 (I : Int) ∧ N = pre.length + 1 ∧
    Hid (Waits sz nn pre f rest I) ∧ Hid (Sg.Fill sz fi fs (ss.map bl) (pre ++ [f]) nn (rest.map bl)) ∧ Hid (OwnF wr w.heap.size (.slice Av N Cv) (pre ++ [f])) ∧ Hid (StrsAt w w.heap.size Al rest) ∧ Hid (L = rest.length ∧ L ≤ C ∧ L ≤ 1000) ∧ Hid (∀ s ∈ rest, s.size ≤ 9000) ∧ Hid (Below w.heap.size w wr))
  case atStart => exact ⟨pre0, f0, nn0, ss, n - 1, A2, l, c2, A1, n, c1, by have := Hn20.out; omega, rfl, rfl, rfl, rfl, Hn.out, Lib.hid (Or.inl (by have := Hn.out; omega)), by have := HF0.out; rw [Hfs.out] at this ⊢; exact Lib.hid this, HO1, HA2, Lib.hid ⟨Hl.out, Hc2.out, Hl2.out⟩, Hz, Lib.hid S1.out.below⟩
  case round =>
    obtain ⟨pre, f, nn, rest, I, Al, L, C, Av, N2, Cv, hIg, rfl, rfl, rfl, rfl, hN, HW, HF, HO, HT, HL, HZ, HB⟩ := hrel
    clear HF0 HO1 S1
    obtain ⟨wo, hwo⟩ : ∃ W, W = wr := ⟨_, rfl⟩
    subst hwo
    have HN3 := Lib.hid hN
    cases gk with
    | zero =>
      have hI20 : I = 20 := by omega
      have HR : Hid (x = (Sg.no, 81)) := Lib.hid (by
        have hlen := (Sg.is_iff.1 HF.out.is).1.2.2.2
        simp only [List.length_append, List.length_singleton] at hlen
        rcases HW.out with h | ⟨h, t, r, hr, h1, h2, h3⟩
        · omega
        · have hF := HF.out
          rw [hr, List.map_cons] at hF
          exact Hx.out.trans (hF.full h1 h2 (by rw [Sg.lastF_split]; exact h3) (by simp; omega)))
      have i1 : ((I : Int) < 20) = False := eq_false (by omega)
      clear hI20 hIg
      go_wp2
      (try rw [Exit.noGoto_ret])
      go_ret2
      exact FilledS.bad HR.out (by decide) HB.out
    | succ g =>
      have hI20 : I < 20 := by omega
      have i1 : ((I : Int) < 20) = True := eq_true (by omega)
      have HI20 := Lib.hid hI20
      have HIg : Hid (I + 1 + g = 20) := Lib.hid (by omega)
      rcases HW.out with h | ⟨h, t, r, hr, h1, h2, h3⟩
      · have HIp := Lib.hid h
        have HN2 : Hid (N2 = I + 1) := Lib.hid (by omega)
        have j0 : ((I : Int) == (N2 : Int)) = false := by rw [beq_eq_false_iff_ne]; omega
        clear h hI20 hIg hN HW HN3
        go_wp2
        clear j0
        go_loopg [1, 2] rest.length (fun g2 s1 s2 wy => ∃ (f : Fil) (nn : Int) (rest : List ByteArray) (Al : Option Addr) (L C : Nat), rest.length = g2 ∧ s1 = .int .i64 nn ∧ s2 = .slice Al L C ∧ Hid (Sg.Fill sz fi fs (ss.map bl) (pre ++ [f]) nn (rest.map bl)) ∧ Hid (OwnF wy w.heap.size (.slice Av N2 Cv) (pre ++ [f])) ∧ Hid (StrsAt w w.heap.size Al rest) ∧ Hid (L = rest.length ∧ L ≤ C ∧ L ≤ 1000) ∧ Hid (∀ s ∈ rest, s.size ≤ 9000) ∧ Hid (Below w.heap.size w wy))
        case atStart => exact ⟨f, nn, rest, Al, L, C, rfl, rfl, rfl, HF, HO, HT, HL, HZ, HB⟩
        case round =>
          clear HF HO HT HL HZ HB
          obtain ⟨f, nn, rest, Al, L, C, hrl, rfl, rfl, HF, HO, HT, HL, HZ, HB⟩ := hrel
          cases gk with
          | zero =>
            obtain rfl := List.eq_nil_of_length_eq_zero hrl
            have i1 : ((0 : Int) < (L : Int)) = False := eq_false (by have := HL.out.1; simp at this; omega)
            have i2 : (0 < L) = False := eq_false (by have := HL.out.1; simp at this; omega)
            have HR : Hid (x = (⟨sz, fi, pre ++ [f]⟩, 0)) := Lib.hid (by rw [Hx.out]; exact HF.out.done)
            clear hrl
            go_wp2
            (try rw [Exit.noGoto_ret])
            go_ret2
            rw [HR.out]
            exact ⟨Av, N2, Cv, rfl, HB.out, fun _ => ⟨by rw [HN2.out, HIp.out]; simp, HO.out⟩⟩
          | succ g2 =>
            obtain ⟨t, r, rfl⟩ : ∃ t r, rest = t :: r := by
              cases rest with
              | nil => simp at hrl
              | cons t r => exact ⟨t, r, rfl⟩
            have hrl2 : r.length = g2 := by simpa using hrl
            obtain ⟨b, o, rfl, hb, hx9⟩ := HT.out 0 (by simp)
            simp only [Nat.add_zero, List.getElem_cons_zero] at hx9
            have hx0 : wr.cell? ⟨b, o, none⟩ = some (.string t) := (HB.out.cell (p := ⟨b, o, none⟩) hb).trans hx9
            have hbw : b < wr.heap.size := Nat.lt_of_lt_of_le hb HB.out.size
            obtain ⟨g9, rfl, hn9, h3, h9⟩ := HO.out.lastw
            have hg9 : g9 < wr.heap.size := (World.ownsRow.lt HO.out g9 rfl).2
            rw [← HIp.out] at h3
            have hF := HF.out
            rw [List.map_cons] at hF
            have Hok := Lib.hid hF
            obtain ⟨fm, fk, fl⟩ := f
            have hif : Fi.is ⟨fm, fk, fl⟩ = true ∧ fm = sz := by
              obtain ⟨_, h2⟩ := Sg.is_iff.1 HF.out.is
              exact ((Sg.okF_split _ _ _).1 h2).2
            have hts : t.size ≤ 9000 := HZ.out t (by simp)
            have Hif := Lib.hid hif
            have Hts := Lib.hid hts
            have d0 := h3.c0
            have d1 := h3.c1
            have d2 := h3.c2
            simp only at d0 d1 d2
            have i1 : ((0 : Int) < (L : Int)) = True := eq_true (by have := HL.out.1; simp at this; omega)
            have i2 : 0 < L := by have := HL.out.1; simp at this; omega
            have i3 : (I : Int) < (N2 : Int) := by have := HN2.out; omega
            have i4 : (0 : Int) ≤ (I : Int) := by omega
            have Hrl := Lib.hid hrl2
            clear hrl hrl2 hn9 h9 h3 hif hts hF hx9 hb
            by_cases he : Rc.putE nn (bl t) = 0
            case neg =>
              have HR := Lib.hid (Hx.out.trans (Hok.out.badPut he))
              have p2 := fun W => recFor_bad ⟨fm, fk, fl⟩ nn t Hts.out he W
              unfold filV at p2
              simp only at p2
              obtain ⟨E, hE⟩ : ∃ E, E = Rc.putE nn (bl t) := ⟨_, rfl⟩
              rw [← hE] at p2 HR he
              have HE := Lib.hid he
              have j1 : (E != 0) = true := by rw [bne_iff_ne]; exact he
              clear hE he
              go_wp2_with fail
              go_region_held3 (fun W => W.cell? ⟨g9, I * 3, none⟩ = some (.int .i64 fm) ∧ W.cell? ⟨g9, I * 3 + 1, none⟩ = some (.string fk) ∧ W.cell? ⟨g9, I * 3 + 2, none⟩ = some (.string fl) ∧ W.cell? ⟨b, o, none⟩ = some (.string t)) (exact ⟨d0, d1, d2, hx0⟩) ((go_at_call 52; refine (p2 _).mono ?_; rintro e wq ⟨rfl, hB'⟩; have hB2 : Below wr.heap.size wr wq := (by first | exact hB' | exact below_undrew hB'); replace d0 := (hB2.cell (p := ⟨g9, I * 3, none⟩) hg9).trans d0; replace d1 := (hB2.cell (p := ⟨g9, I * 3 + 1, none⟩) hg9).trans d1; replace d2 := (hB2.cell (p := ⟨g9, I * 3 + 2, none⟩) hg9).trans d2; replace hx0 := (hB2.cell (p := ⟨b, o, none⟩) hbw).trans hx0; have HY := Lib.hid hB2; clear hB' hB2))
              clear p2 d0 d1 d2 hx0
              go_wp2_with fail
              (try rw [Exit.noGoto_ret])
              go_ret2
              exact FilledS.bad HR.out HE.out (HB.out.trans (HY.out.mono HB.out.size))
            by_cases hl : sz < ((Rc.rec1 nn (bl t)).length : Nat)
            case pos =>
              have HR := Lib.hid (Hx.out.trans (Hok.out.badLen he hl))
              have p2 := fun W => recFor_ok ⟨fm, fk, fl⟩ nn t Hts.out he W
              unfold filV at p2
              simp only at p2
              rw [if_pos (by rw [Hif.out.2]; exact hl)] at p2
              clear he hl
              go_wp2_with fail
              go_region_held3 (fun W => W.cell? ⟨g9, I * 3, none⟩ = some (.int .i64 fm) ∧ W.cell? ⟨g9, I * 3 + 1, none⟩ = some (.string fk) ∧ W.cell? ⟨g9, I * 3 + 2, none⟩ = some (.string fl) ∧ W.cell? ⟨b, o, none⟩ = some (.string t)) (exact ⟨d0, d1, d2, hx0⟩) ((go_at_call 52; refine (p2 _).mono ?_; rintro e wq ⟨rfl, hB'⟩; have hB2 : Below wr.heap.size wr wq := (by first | exact hB' | exact below_undrew hB'); replace d0 := (hB2.cell (p := ⟨g9, I * 3, none⟩) hg9).trans d0; replace d1 := (hB2.cell (p := ⟨g9, I * 3 + 1, none⟩) hg9).trans d1; replace d2 := (hB2.cell (p := ⟨g9, I * 3 + 2, none⟩) hg9).trans d2; replace hx0 := (hB2.cell (p := ⟨b, o, none⟩) hbw).trans hx0; have HY := Lib.hid hB2; clear hB' hB2))
              clear p2 d0 d1 d2 hx0
              go_wp2_with fail
              (try rw [Exit.noGoto_ret])
              go_ret2
              exact FilledS.bad HR.out (by decide) (HB.out.trans (HY.out.mono HB.out.size))
            have p2 := fun W => recFor_ok ⟨fm, fk, fl⟩ nn t Hts.out he W
            unfold filV at p2
            simp only at p2
            rw [if_neg (by rw [Hif.out.2]; exact hl)] at p2
            obtain ⟨rc, hrc⟩ : ∃ rc, rc = strOf (Rc.rec1 nn (bl t)) := ⟨_, rfl⟩
            have hrz : (Rc.rec1 nn (bl t)).length = rc.size := by rw [hrc, strOf_size]
            have hrs : rc.size ≤ 9000 := by rw [← hrz]; have := Hsz.out; omega
            rw [← hrc] at p2
            have p3 := fun W k (hA : StrsAt W W.heap.size (some ⟨k, 0, none⟩) [rc]) => fadd_any fm fk fl (some ⟨k, 0, none⟩) 1 [rc] (Rc.is_small9 Hif.out.1) W hA (by simp) (by intro s hs; rw [List.mem_singleton.1 hs]; exact hrs) (by simp)
            have hall : Fi.all [rc] = rc := all_one14 rc
            have hadd : Fi.addE ⟨fm, fk, fl⟩ [rc] = if ((Fi.read ⟨fm, fk, fl⟩).size : Int) + rc.size ≤ sz then 0 else 81 := by
              unfold Fi.addE; rw [if_pos Hif.out.1, hall, Hif.out.2, Fi.read_size]
              simp only [Int.natCast_add]
            by_cases hr : ((Fi.read ⟨fm, fk, fl⟩).size : Int) + ((Rc.rec1 nn (bl t)).length : Nat) ≤ sz
            case neg =>
              have HW2 : Hid (Waits sz nn (pre) ⟨fm, fk, fl⟩ (t :: r) (I + 1)) := Lib.hid (Or.inr ⟨by rw [HIp.out], t, r, rfl, he, hl, hr⟩)
              rw [hrz] at hr
              rw [if_neg hr] at hadd
              have hadd2 : Fi.add ⟨fm, fk, fl⟩ [rc] = Fi.no := by unfold Fi.add; rw [hadd]; rfl
              rw [hadd, hadd2] at p3
              unfold Fil.v filV Fi.no at p3
              simp only [List.length_singleton] at p3
              clear hadd hadd2 hall he hl hr hrc hrz hrs
              go_wp2_with fail
              go_region_held3 (fun W => W.cell? ⟨g9, I * 3, none⟩ = some (.int .i64 fm) ∧ W.cell? ⟨g9, I * 3 + 1, none⟩ = some (.string fk) ∧ W.cell? ⟨g9, I * 3 + 2, none⟩ = some (.string fl) ∧ W.cell? ⟨b, o, none⟩ = some (.string t)) (exact ⟨d0, d1, d2, hx0⟩) ((go_at_call 52; refine (p2 _).mono ?_; rintro e wq ⟨rfl, hB'⟩; have hB2 : Below wr.heap.size wr wq := (by first | exact hB' | exact below_undrew hB'); replace d0 := (hB2.cell (p := ⟨g9, I * 3, none⟩) hg9).trans d0; replace d1 := (hB2.cell (p := ⟨g9, I * 3 + 1, none⟩) hg9).trans d1; replace d2 := (hB2.cell (p := ⟨g9, I * 3 + 2, none⟩) hg9).trans d2; replace hx0 := (hB2.cell (p := ⟨b, o, none⟩) hbw).trans hx0; have HY := Lib.hid hB2; clear hB' hB2))
              clear p2
              go_wp2_with fail
              refine (p3 _ _ (strs_one14 wq rc _)).mono ?_
              rintro e w8 ⟨rfl, hB⟩
              have HY2 := Lib.hid (below2 (below2 HY.out (below_new wq (.cells #[.string rc] 9))) hB)
              clear hB p3 d0 d1 d2 hx0
              have HY3 := Lib.hid (below2 HY2.out (below_new w8 (.cells #[.int .i64 0, .string ⟨#[]⟩, .string ⟨#[]⟩] 47)))
              have iw : wrap64 ((I : Int) + 1) = ((I + 1 : Nat) : Int) := by have := HI20.out; unfold wrap64; omega
              have Hiw := Lib.hid iw
              clear iw
              go_wp2_with fail
              go_roundg g
              case measure => exact Nat.lt_succ_self g
              case rel => exact ⟨pre, ⟨fm, fk, fl⟩, nn, t :: r, I + 1, some ⟨b, o, none⟩, L, C, some ⟨g9, 0, none⟩, N2, Cv, HIg.out, rfl, rfl, rfl, by rw [Hiw.out], by rw [HN2.out, HIp.out], HW2, HF, Lib.hid (HO.out.below HY3.out), HT, HL, HZ, Lib.hid (HB.out.trans (HY3.out.mono HB.out.size))⟩
            have HF2 : Hid (Sg.Fill sz fi fs (ss.map bl) (pre ++ [⟨fm, fk, fl ++ rc⟩]) (nn + 1) (r.map bl)) := Lib.hid (by have h := Hok.out.last he hl hr; rw [← hrc] at h; exact h)
            rw [hrz] at hr
            rw [if_pos hr] at hadd
            have hadd2 : Fi.add ⟨fm, fk, fl⟩ [rc] = ⟨fm, fk, fl ++ rc⟩ := by unfold Fi.add; rw [hadd, if_pos rfl, hall]
            rw [hadd, hadd2] at p3
            unfold Fil.v filV at p3
            simp only [List.length_singleton] at p3
            have Hnb : Hid (0 ≤ nn ∧ nn ≤ 1000000000) := Lib.hid (by
              have h1 := Sg.rd_cnt (Sg.files_is HF.out.is) fi
              have h2 := HF.out.num
              have h3 := (Sg.is_iff.1 HF.out.is).1.2.2.2
              have h4 := Hfi.out
              simp only at h1 h3
              omega)
            have Hwn : Hid (wrap64 (nn + 1) = nn + 1) := Lib.hid (by have := Hnb.out; unfold wrap64; omega)
            have Hlr : Hid (L = r.length + 1 ∧ L ≤ C) := Lib.hid (by have := HL.out; simp at this; omega)
            have HTr : Hid ((C = 1 → StrsAt w w.heap.size (some ⟨b, o, none⟩) r) ∧ (¬ C = 1 → StrsAt w w.heap.size (some ⟨b, o + 1, none⟩) r)) := Lib.hid ⟨fun hC => by
              have : r = [] := List.eq_nil_of_length_eq_zero (by have := Hlr.out; omega)
              rw [this]; exact StrsAt.nil _ _ _, fun hC i hi2 => by
              obtain ⟨b', o', e, hb', hc'⟩ := HT.out (i + 1) (by simp; omega)
              cases e
              refine ⟨b, o + 1, rfl, hb', ?_⟩
              rw [show o + 1 + i = o + (i + 1) by omega]; exact hc'⟩
            clear hadd hadd2 hall he hl hr hrc hrz hrs
            go_wp2_with fail
            go_region_held3 (fun W => W.cell? ⟨g9, I * 3, none⟩ = some (.int .i64 fm) ∧ W.cell? ⟨g9, I * 3 + 1, none⟩ = some (.string fk) ∧ W.cell? ⟨g9, I * 3 + 2, none⟩ = some (.string fl) ∧ W.cell? ⟨b, o, none⟩ = some (.string t)) (exact ⟨d0, d1, d2, hx0⟩) ((go_at_call 52; refine (p2 _).mono ?_; rintro e wq ⟨rfl, hB'⟩; have hB2 : Below wr.heap.size wr wq := (by first | exact hB' | exact below_undrew hB'); replace d0 := (hB2.cell (p := ⟨g9, I * 3, none⟩) hg9).trans d0; replace d1 := (hB2.cell (p := ⟨g9, I * 3 + 1, none⟩) hg9).trans d1; replace d2 := (hB2.cell (p := ⟨g9, I * 3 + 2, none⟩) hg9).trans d2; replace hx0 := (hB2.cell (p := ⟨b, o, none⟩) hbw).trans hx0; have HY := Lib.hid hB2; clear hB' hB2))
            clear p2
            go_wp2_with fail
            refine (p3 _ _ (strs_one14 wq rc _)).mono ?_
            rintro e w8 ⟨rfl, hB⟩
            have HY2 := Lib.hid (below2 (below2 HY.out (below_new wq (.cells #[.string rc] 9))) hB)
            have HY3 := Lib.hid (below2 HY2.out (below_new w8 (.cells #[.int .i64 fm, .string fk, .string (fl ++ rc)] 47)))
            have F7 := FilAt.new w8 fm fk (fl ++ rc) 47
            have f0 := F7.c0
            have f1 := F7.c1
            have f2 := F7.c2
            have HO8 := Lib.hid (HO.out.below HY3.out)
            have HB8 := Lib.hid (HB.out.trans (HY3.out.mono HB.out.size))
            clear hB p3 d0 d1 d2 hx0 F7
            have k1 : 1 ≤ L := by omega
            have k2 : 1 ≤ C := by have := Hlr.out; omega
            have k3 : (1 : Int) ≤ (C : Int) := by omega
            have k4 : (1 : Int) ≤ (L : Int) := by omega
            by_cases hC : C = 1
            · have HTX := Lib.hid (HTr.out.1 hC)
              subst hC
              go_wp2_with (refine wpList_store_fil rfl _ _ rfl w.heap.size g9 N2 Cv I (pre) [] ⟨fm, fk, fl⟩ ⟨fm, fk, fl ++ rc⟩ HIp.out rfl rfl HO8.out ?_; intro w9 hO hg; have HO9 := Lib.hid hO; have HB9 := Lib.hid (HB8.out.grown hg HB8.out.size (fun k hk => (World.ownsRow.lt HO8.out k hk).1)); clear hO hg f0 f1 f2)
              go_roundg g2
              case measure => exact Nat.lt_succ_self g2
              case rel => exact ⟨⟨fm, fk, fl ++ rc⟩, nn + 1, r, _, L - 1, 0, Hrl.out, by rw [Hwn.out], rfl, HF2, HO9, HTX, Lib.hid (by have := Hlr.out; have := HL.out; omega), Lib.hid (fun s hs => HZ.out s (List.mem_cons_of_mem _ hs)), HB9⟩
            · have k5 : (C = 1) = False := eq_false hC
              have HTX := Lib.hid (HTr.out.2 hC)
              clear hC
              go_wp2_with (refine wpList_store_fil rfl _ _ rfl w.heap.size g9 N2 Cv I (pre) [] ⟨fm, fk, fl⟩ ⟨fm, fk, fl ++ rc⟩ HIp.out rfl rfl HO8.out ?_; intro w9 hO hg; have HO9 := Lib.hid hO; have HB9 := Lib.hid (HB8.out.grown hg HB8.out.size (fun k hk => (World.ownsRow.lt HO8.out k hk).1)); clear hO hg f0 f1 f2)
              go_roundg g2
              case measure => exact Nat.lt_succ_self g2
              case rel => exact ⟨⟨fm, fk, fl ++ rc⟩, nn + 1, r, _, L - 1, C - 1, Hrl.out, by rw [Hwn.out], rfl, HF2, HO9, HTX, Lib.hid (by have := Hlr.out; have := HL.out; omega), Lib.hid (fun s hs => HZ.out s (List.mem_cons_of_mem _ hs)), HB9⟩
      · obtain ⟨pre2, hpre2⟩ : ∃ p, p = pre ++ [Fi.sync f] := ⟨_, rfl⟩
        have HIp : Hid (I = pre2.length) := Lib.hid (by rw [h, hpre2]; simp)
        have HM2 : Hid (N2 + 1 = I + 1) := Lib.hid (by omega)
        subst hr
        have hF := HF.out
        rw [List.map_cons] at hF
        have hF5 := hF.more h1 h2 h3 (by omega)
        rw [← hpre2] at hF5
        have HF5 := Lib.hid hF5
        have hff : Fi.is f = true ∧ f.most = sz := by
          obtain ⟨_, h2⟩ := Sg.is_iff.1 HF.out.is
          exact ((Sg.okF_split _ _ _).1 h2).2
        have hcv := HO.out.rows.2.2
        have hcv2 : N2 ≤ Cv := by rw [hN]; simpa using hcv
        have p4 := fun W (hA : FilsAt W W.heap.size Av (pre ++ [f])) => oneMore_any sz Av N2 Cv pre f W hA hN (by omega) hcv2 hff.1 hff.2
        rw [← hpre2] at p4
        have j0 : ((I : Int) == (N2 : Int)) = true := by rw [beq_iff_eq]; omega
        obtain ⟨M2, hM2⟩ : ∃ M2, M2 = N2 + 1 := ⟨_, rfl⟩
        rw [← hM2] at p4 HM2
        clear h hI20 hIg hN HW HN3 h1 h2 h3 hF hff hcv hcv2 hM2 hF5 hpre2
        go_wp2_with fail
        refine (p4 _ HO.out.rows.1).mono ?_
        rintro e w5 ⟨A5, c5, rfl, hO, hB⟩
        have HO5 := Lib.hid (hO.lower HB.out.size)
        have HB5 := Lib.hid (HB.out.trans (hB.mono HB.out.size))
        clear hO hB p4 j0
        go_wp2_with fail
        go_loopg [1, 2] (t :: r).length (fun g2 s1 s2 wy => ∃ (f : Fil) (nn : Int) (rest : List ByteArray) (Al : Option Addr) (L C : Nat), rest.length = g2 ∧ s1 = .int .i64 nn ∧ s2 = .slice Al L C ∧ Hid (Sg.Fill sz fi fs (ss.map bl) (pre2 ++ [f]) nn (rest.map bl)) ∧ Hid (OwnF wy w.heap.size (.slice A5 M2 c5) (pre2 ++ [f])) ∧ Hid (StrsAt w w.heap.size Al rest) ∧ Hid (L = rest.length ∧ L ≤ C ∧ L ≤ 1000) ∧ Hid (∀ s ∈ rest, s.size ≤ 9000) ∧ Hid (Below w.heap.size w wy))
        case atStart => exact ⟨⟨sz, ⟨#[]⟩, ⟨#[]⟩⟩, nn, t :: r, Al, L, C, rfl, rfl, rfl, HF5, HO5, HT, HL, HZ, HB5⟩
        case round =>
          clear HF5 HO5 HT HL HZ HB5
          obtain ⟨f, nn, rest, Al, L, C, hrl, rfl, rfl, HF, HO, HT, HL, HZ, HB⟩ := hrel
          cases gk with
          | zero =>
            obtain rfl := List.eq_nil_of_length_eq_zero hrl
            have i1 : ((0 : Int) < (L : Int)) = False := eq_false (by have := HL.out.1; simp at this; omega)
            have i2 : (0 < L) = False := eq_false (by have := HL.out.1; simp at this; omega)
            have HR : Hid (x = (⟨sz, fi, pre2 ++ [f]⟩, 0)) := Lib.hid (by rw [Hx.out]; exact HF.out.done)
            clear hrl
            go_wp2
            (try rw [Exit.noGoto_ret])
            go_ret2
            rw [HR.out]
            exact ⟨A5, M2, c5, rfl, HB.out, fun _ => ⟨by rw [HM2.out, HIp.out]; simp, HO.out⟩⟩
          | succ g2 =>
            obtain ⟨t, r, rfl⟩ : ∃ t r, rest = t :: r := by
              cases rest with
              | nil => simp at hrl
              | cons t r => exact ⟨t, r, rfl⟩
            have hrl2 : r.length = g2 := by simpa using hrl
            obtain ⟨b, o, rfl, hb, hx9⟩ := HT.out 0 (by simp)
            simp only [Nat.add_zero, List.getElem_cons_zero] at hx9
            have hx0 : wr.cell? ⟨b, o, none⟩ = some (.string t) := (HB.out.cell (p := ⟨b, o, none⟩) hb).trans hx9
            have hbw : b < wr.heap.size := Nat.lt_of_lt_of_le hb HB.out.size
            obtain ⟨g9, rfl, hn9, h3, h9⟩ := HO.out.lastw
            have hg9 : g9 < wr.heap.size := (World.ownsRow.lt HO.out g9 rfl).2
            rw [← HIp.out] at h3
            have hF := HF.out
            rw [List.map_cons] at hF
            have Hok := Lib.hid hF
            obtain ⟨fm, fk, fl⟩ := f
            have hif : Fi.is ⟨fm, fk, fl⟩ = true ∧ fm = sz := by
              obtain ⟨_, h2⟩ := Sg.is_iff.1 HF.out.is
              exact ((Sg.okF_split _ _ _).1 h2).2
            have hts : t.size ≤ 9000 := HZ.out t (by simp)
            have Hif := Lib.hid hif
            have Hts := Lib.hid hts
            have d0 := h3.c0
            have d1 := h3.c1
            have d2 := h3.c2
            simp only at d0 d1 d2
            have i1 : ((0 : Int) < (L : Int)) = True := eq_true (by have := HL.out.1; simp at this; omega)
            have i2 : 0 < L := by have := HL.out.1; simp at this; omega
            have i3 : (I : Int) < (M2 : Int) := by have := HM2.out; omega
            have i4 : (0 : Int) ≤ (I : Int) := by omega
            have Hrl := Lib.hid hrl2
            clear hrl hrl2 hn9 h9 h3 hif hts hF hx9 hb
            by_cases he : Rc.putE nn (bl t) = 0
            case neg =>
              have HR := Lib.hid (Hx.out.trans (Hok.out.badPut he))
              have p2 := fun W => recFor_bad ⟨fm, fk, fl⟩ nn t Hts.out he W
              unfold filV at p2
              simp only at p2
              obtain ⟨E, hE⟩ : ∃ E, E = Rc.putE nn (bl t) := ⟨_, rfl⟩
              rw [← hE] at p2 HR he
              have HE := Lib.hid he
              have j1 : (E != 0) = true := by rw [bne_iff_ne]; exact he
              clear hE he
              go_wp2_with fail
              go_region_held3 (fun W => W.cell? ⟨g9, I * 3, none⟩ = some (.int .i64 fm) ∧ W.cell? ⟨g9, I * 3 + 1, none⟩ = some (.string fk) ∧ W.cell? ⟨g9, I * 3 + 2, none⟩ = some (.string fl) ∧ W.cell? ⟨b, o, none⟩ = some (.string t)) (exact ⟨d0, d1, d2, hx0⟩) ((go_at_call 52; refine (p2 _).mono ?_; rintro e wq ⟨rfl, hB'⟩; have hB2 : Below wr.heap.size wr wq := (by first | exact hB' | exact below_undrew hB'); replace d0 := (hB2.cell (p := ⟨g9, I * 3, none⟩) hg9).trans d0; replace d1 := (hB2.cell (p := ⟨g9, I * 3 + 1, none⟩) hg9).trans d1; replace d2 := (hB2.cell (p := ⟨g9, I * 3 + 2, none⟩) hg9).trans d2; replace hx0 := (hB2.cell (p := ⟨b, o, none⟩) hbw).trans hx0; have HY := Lib.hid hB2; clear hB' hB2))
              clear p2 d0 d1 d2 hx0
              go_wp2_with fail
              (try rw [Exit.noGoto_ret])
              go_ret2
              exact FilledS.bad HR.out HE.out (HB.out.trans (HY.out.mono HB.out.size))
            by_cases hl : sz < ((Rc.rec1 nn (bl t)).length : Nat)
            case pos =>
              have HR := Lib.hid (Hx.out.trans (Hok.out.badLen he hl))
              have p2 := fun W => recFor_ok ⟨fm, fk, fl⟩ nn t Hts.out he W
              unfold filV at p2
              simp only at p2
              rw [if_pos (by rw [Hif.out.2]; exact hl)] at p2
              clear he hl
              go_wp2_with fail
              go_region_held3 (fun W => W.cell? ⟨g9, I * 3, none⟩ = some (.int .i64 fm) ∧ W.cell? ⟨g9, I * 3 + 1, none⟩ = some (.string fk) ∧ W.cell? ⟨g9, I * 3 + 2, none⟩ = some (.string fl) ∧ W.cell? ⟨b, o, none⟩ = some (.string t)) (exact ⟨d0, d1, d2, hx0⟩) ((go_at_call 52; refine (p2 _).mono ?_; rintro e wq ⟨rfl, hB'⟩; have hB2 : Below wr.heap.size wr wq := (by first | exact hB' | exact below_undrew hB'); replace d0 := (hB2.cell (p := ⟨g9, I * 3, none⟩) hg9).trans d0; replace d1 := (hB2.cell (p := ⟨g9, I * 3 + 1, none⟩) hg9).trans d1; replace d2 := (hB2.cell (p := ⟨g9, I * 3 + 2, none⟩) hg9).trans d2; replace hx0 := (hB2.cell (p := ⟨b, o, none⟩) hbw).trans hx0; have HY := Lib.hid hB2; clear hB' hB2))
              clear p2 d0 d1 d2 hx0
              go_wp2_with fail
              (try rw [Exit.noGoto_ret])
              go_ret2
              exact FilledS.bad HR.out (by decide) (HB.out.trans (HY.out.mono HB.out.size))
            have p2 := fun W => recFor_ok ⟨fm, fk, fl⟩ nn t Hts.out he W
            unfold filV at p2
            simp only at p2
            rw [if_neg (by rw [Hif.out.2]; exact hl)] at p2
            obtain ⟨rc, hrc⟩ : ∃ rc, rc = strOf (Rc.rec1 nn (bl t)) := ⟨_, rfl⟩
            have hrz : (Rc.rec1 nn (bl t)).length = rc.size := by rw [hrc, strOf_size]
            have hrs : rc.size ≤ 9000 := by rw [← hrz]; have := Hsz.out; omega
            rw [← hrc] at p2
            have p3 := fun W k (hA : StrsAt W W.heap.size (some ⟨k, 0, none⟩) [rc]) => fadd_any fm fk fl (some ⟨k, 0, none⟩) 1 [rc] (Rc.is_small9 Hif.out.1) W hA (by simp) (by intro s hs; rw [List.mem_singleton.1 hs]; exact hrs) (by simp)
            have hall : Fi.all [rc] = rc := all_one14 rc
            have hadd : Fi.addE ⟨fm, fk, fl⟩ [rc] = if ((Fi.read ⟨fm, fk, fl⟩).size : Int) + rc.size ≤ sz then 0 else 81 := by
              unfold Fi.addE; rw [if_pos Hif.out.1, hall, Hif.out.2, Fi.read_size]
              simp only [Int.natCast_add]
            by_cases hr : ((Fi.read ⟨fm, fk, fl⟩).size : Int) + ((Rc.rec1 nn (bl t)).length : Nat) ≤ sz
            case neg =>
              have HW2 : Hid (Waits sz nn (pre2) ⟨fm, fk, fl⟩ (t :: r) (I + 1)) := Lib.hid (Or.inr ⟨by rw [HIp.out], t, r, rfl, he, hl, hr⟩)
              rw [hrz] at hr
              rw [if_neg hr] at hadd
              have hadd2 : Fi.add ⟨fm, fk, fl⟩ [rc] = Fi.no := by unfold Fi.add; rw [hadd]; rfl
              rw [hadd, hadd2] at p3
              unfold Fil.v filV Fi.no at p3
              simp only [List.length_singleton] at p3
              clear hadd hadd2 hall he hl hr hrc hrz hrs
              go_wp2_with fail
              go_region_held3 (fun W => W.cell? ⟨g9, I * 3, none⟩ = some (.int .i64 fm) ∧ W.cell? ⟨g9, I * 3 + 1, none⟩ = some (.string fk) ∧ W.cell? ⟨g9, I * 3 + 2, none⟩ = some (.string fl) ∧ W.cell? ⟨b, o, none⟩ = some (.string t)) (exact ⟨d0, d1, d2, hx0⟩) ((go_at_call 52; refine (p2 _).mono ?_; rintro e wq ⟨rfl, hB'⟩; have hB2 : Below wr.heap.size wr wq := (by first | exact hB' | exact below_undrew hB'); replace d0 := (hB2.cell (p := ⟨g9, I * 3, none⟩) hg9).trans d0; replace d1 := (hB2.cell (p := ⟨g9, I * 3 + 1, none⟩) hg9).trans d1; replace d2 := (hB2.cell (p := ⟨g9, I * 3 + 2, none⟩) hg9).trans d2; replace hx0 := (hB2.cell (p := ⟨b, o, none⟩) hbw).trans hx0; have HY := Lib.hid hB2; clear hB' hB2))
              clear p2
              go_wp2_with fail
              refine (p3 _ _ (strs_one14 wq rc _)).mono ?_
              rintro e w8 ⟨rfl, hB⟩
              have HY2 := Lib.hid (below2 (below2 HY.out (below_new wq (.cells #[.string rc] 9))) hB)
              clear hB p3 d0 d1 d2 hx0
              have HY3 := Lib.hid (below2 HY2.out (below_new w8 (.cells #[.int .i64 0, .string ⟨#[]⟩, .string ⟨#[]⟩] 47)))
              have iw : wrap64 ((I : Int) + 1) = ((I + 1 : Nat) : Int) := by have := HI20.out; unfold wrap64; omega
              have Hiw := Lib.hid iw
              clear iw
              go_wp2_with fail
              go_roundg g
              case measure => exact Nat.lt_succ_self g
              case rel => exact ⟨pre2, ⟨fm, fk, fl⟩, nn, t :: r, I + 1, some ⟨b, o, none⟩, L, C, some ⟨g9, 0, none⟩, M2, c5, HIg.out, rfl, rfl, rfl, by rw [Hiw.out], by rw [HM2.out, HIp.out], HW2, HF, Lib.hid (HO.out.below HY3.out), HT, HL, HZ, Lib.hid (HB.out.trans (HY3.out.mono HB.out.size))⟩
            have HF2 : Hid (Sg.Fill sz fi fs (ss.map bl) (pre2 ++ [⟨fm, fk, fl ++ rc⟩]) (nn + 1) (r.map bl)) := Lib.hid (by have h := Hok.out.last he hl hr; rw [← hrc] at h; exact h)
            rw [hrz] at hr
            rw [if_pos hr] at hadd
            have hadd2 : Fi.add ⟨fm, fk, fl⟩ [rc] = ⟨fm, fk, fl ++ rc⟩ := by unfold Fi.add; rw [hadd, if_pos rfl, hall]
            rw [hadd, hadd2] at p3
            unfold Fil.v filV at p3
            simp only [List.length_singleton] at p3
            have Hnb : Hid (0 ≤ nn ∧ nn ≤ 1000000000) := Lib.hid (by
              have h1 := Sg.rd_cnt (Sg.files_is HF.out.is) fi
              have h2 := HF.out.num
              have h3 := (Sg.is_iff.1 HF.out.is).1.2.2.2
              have h4 := Hfi.out
              simp only at h1 h3
              omega)
            have Hwn : Hid (wrap64 (nn + 1) = nn + 1) := Lib.hid (by have := Hnb.out; unfold wrap64; omega)
            have Hlr : Hid (L = r.length + 1 ∧ L ≤ C) := Lib.hid (by have := HL.out; simp at this; omega)
            have HTr : Hid ((C = 1 → StrsAt w w.heap.size (some ⟨b, o, none⟩) r) ∧ (¬ C = 1 → StrsAt w w.heap.size (some ⟨b, o + 1, none⟩) r)) := Lib.hid ⟨fun hC => by
              have : r = [] := List.eq_nil_of_length_eq_zero (by have := Hlr.out; omega)
              rw [this]; exact StrsAt.nil _ _ _, fun hC i hi2 => by
              obtain ⟨b', o', e, hb', hc'⟩ := HT.out (i + 1) (by simp; omega)
              cases e
              refine ⟨b, o + 1, rfl, hb', ?_⟩
              rw [show o + 1 + i = o + (i + 1) by omega]; exact hc'⟩
            clear hadd hadd2 hall he hl hr hrc hrz hrs
            go_wp2_with fail
            go_region_held3 (fun W => W.cell? ⟨g9, I * 3, none⟩ = some (.int .i64 fm) ∧ W.cell? ⟨g9, I * 3 + 1, none⟩ = some (.string fk) ∧ W.cell? ⟨g9, I * 3 + 2, none⟩ = some (.string fl) ∧ W.cell? ⟨b, o, none⟩ = some (.string t)) (exact ⟨d0, d1, d2, hx0⟩) ((go_at_call 52; refine (p2 _).mono ?_; rintro e wq ⟨rfl, hB'⟩; have hB2 : Below wr.heap.size wr wq := (by first | exact hB' | exact below_undrew hB'); replace d0 := (hB2.cell (p := ⟨g9, I * 3, none⟩) hg9).trans d0; replace d1 := (hB2.cell (p := ⟨g9, I * 3 + 1, none⟩) hg9).trans d1; replace d2 := (hB2.cell (p := ⟨g9, I * 3 + 2, none⟩) hg9).trans d2; replace hx0 := (hB2.cell (p := ⟨b, o, none⟩) hbw).trans hx0; have HY := Lib.hid hB2; clear hB' hB2))
            clear p2
            go_wp2_with fail
            refine (p3 _ _ (strs_one14 wq rc _)).mono ?_
            rintro e w8 ⟨rfl, hB⟩
            have HY2 := Lib.hid (below2 (below2 HY.out (below_new wq (.cells #[.string rc] 9))) hB)
            have HY3 := Lib.hid (below2 HY2.out (below_new w8 (.cells #[.int .i64 fm, .string fk, .string (fl ++ rc)] 47)))
            have F7 := FilAt.new w8 fm fk (fl ++ rc) 47
            have f0 := F7.c0
            have f1 := F7.c1
            have f2 := F7.c2
            have HO8 := Lib.hid (HO.out.below HY3.out)
            have HB8 := Lib.hid (HB.out.trans (HY3.out.mono HB.out.size))
            clear hB p3 d0 d1 d2 hx0 F7
            have k1 : 1 ≤ L := by omega
            have k2 : 1 ≤ C := by have := Hlr.out; omega
            have k3 : (1 : Int) ≤ (C : Int) := by omega
            have k4 : (1 : Int) ≤ (L : Int) := by omega
            by_cases hC : C = 1
            · have HTX := Lib.hid (HTr.out.1 hC)
              subst hC
              go_wp2_with (refine wpList_store_fil rfl _ _ rfl w.heap.size g9 M2 c5 I (pre2) [] ⟨fm, fk, fl⟩ ⟨fm, fk, fl ++ rc⟩ HIp.out rfl rfl HO8.out ?_; intro w9 hO hg; have HO9 := Lib.hid hO; have HB9 := Lib.hid (HB8.out.grown hg HB8.out.size (fun k hk => (World.ownsRow.lt HO8.out k hk).1)); clear hO hg f0 f1 f2)
              go_roundg g2
              case measure => exact Nat.lt_succ_self g2
              case rel => exact ⟨⟨fm, fk, fl ++ rc⟩, nn + 1, r, _, L - 1, 0, Hrl.out, by rw [Hwn.out], rfl, HF2, HO9, HTX, Lib.hid (by have := Hlr.out; have := HL.out; omega), Lib.hid (fun s hs => HZ.out s (List.mem_cons_of_mem _ hs)), HB9⟩
            · have k5 : (C = 1) = False := eq_false hC
              have HTX := Lib.hid (HTr.out.2 hC)
              clear hC
              go_wp2_with (refine wpList_store_fil rfl _ _ rfl w.heap.size g9 M2 c5 I (pre2) [] ⟨fm, fk, fl⟩ ⟨fm, fk, fl ++ rc⟩ HIp.out rfl rfl HO8.out ?_; intro w9 hO hg; have HO9 := Lib.hid hO; have HB9 := Lib.hid (HB8.out.grown hg HB8.out.size (fun k hk => (World.ownsRow.lt HO8.out k hk).1)); clear hO hg f0 f1 f2)
              go_roundg g2
              case measure => exact Nat.lt_succ_self g2
              case rel => exact ⟨⟨fm, fk, fl ++ rc⟩, nn + 1, r, _, L - 1, C - 1, Hrl.out, by rw [Hwn.out], rfl, HF2, HO9, HTX, Lib.hid (by have := Hlr.out; have := HL.out; omega), Lib.hid (fun s hs => HZ.out s (List.mem_cons_of_mem _ hs)), HB9⟩
end Go.Proofs.YtlnchfnmpamliaaGreat
