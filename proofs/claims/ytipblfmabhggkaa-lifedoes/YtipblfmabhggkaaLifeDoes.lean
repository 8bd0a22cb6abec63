/-
  Layer 5 (life): the walk of the law LifeDoes.
-/
import Derived.Test.YtipblfmabhggkaaRefWay
import Derived.Test.YtipblfmabhggkaaRefOwn
namespace Go.Proofs.Ytipblfmabhggkaa
open Go.RowKit

theorem Same_eq (A B : Option Addr) (ca cb : Nat) (xs : List Int) (w : World) (hA : IntsAt w w.heap.size A xs) (hB : IntsAt w w.heap.size B xs) (hl : xs.length ≤ 1000) :
    Calls Try.prog 17 #[.slice A xs.length ca, .slice B xs.length cb] w fun e w' => e = .returned (.bool true) ∧ Below w.heap.size w w' := by
  refine (Same_any A B ca cb xs xs w hA hB (by omega) (by omega)).mono ?_
  rintro e w' ⟨rfl, n, rfl⟩
  exact ⟨by rw [decide_eq_true (rfl : xs = xs)], below_drew (Below.refl _ _) n⟩

set_option maxRecDepth 10000 in
set_option maxHeartbeats 4000000 in
theorem lifeDoes_main (p d to : Int) (A : Option Addr) (cap : Nat) (zs : List Int) (w : World) (hA : IntsAt w w.heap.size A zs) (hnil : A = none → cap = 0) (hl : zs.length ≤ maxLen) :
    Calls Try.prog 3 #[.int .i64 p, .int .i64 d, .int .i64 to, .slice A zs.length cap] w fun e w' => e = .returned (.bool true) ∧ Below w.heap.size w w' := by
  unfold maxLen at hl
  by_cases hlen : (200 : Int) < zs.length
  · go_enter Try.func3, Try.ntmps3
    go_wp2
    go_ret
    exact ⟨rfl, Below.refl _ _⟩
  · have hle : (zs.length : Int) ≤ 200 := by omega
    have Hz : Hid (zs.length ≤ 200) := Lib.hid (by omega)
    have h0 := Own_any A cap zs w hA hnil (by omega)
    have h1 := fun W => Next_any p d W
    have h2 := fun W => RNext_any p d W
    have h3 := fun W hW => Run_any p A cap zs W hW (by omega)
    have h4 := fun A' c' W hW => RRun_any p A' c' zs W hW (by omega)
    have h5 := fun W => Way_any p to W
    have h6 := fun W => RWay_any p to W
    have h7 := fun W => Name_any p W
    have h8 := fun W => RName_any p W
    have h9 := fun W => Reach_any p W
    have h10 := fun W => RReach_any p W
    have Hw := Lib.hid (Lf.way_len p to)
    have Hr : Hid ((Lf.reach p).length ≤ 5) := Lib.hid (by unfold Lf.reach; split <;> simp)
    obtain ⟨x1, hx1⟩ : ∃ x, x = Lf.nx p d := ⟨_, rfl⟩
    obtain ⟨b1, hb1⟩ : ∃ x, x = Lf.ok p d := ⟨_, rfl⟩
    obtain ⟨x2, hx2⟩ : ∃ x, x = Lf.runP p zs := ⟨_, rfl⟩
    obtain ⟨x3, hx3⟩ : ∃ x, x = Lf.runN p zs := ⟨_, rfl⟩
    obtain ⟨wy, hwy⟩ : ∃ x, x = Lf.way p to := ⟨_, rfl⟩
    obtain ⟨b2, hb2⟩ : ∃ x, x = (Lf.isP p && Lf.isP to) := ⟨_, rfl⟩
    obtain ⟨s, hs⟩ : ∃ x, x = nameS p := ⟨_, rfl⟩
    obtain ⟨rc, hrc⟩ : ∃ x, x = Lf.reach p := ⟨_, rfl⟩
    rw [← hx1, ← hb1] at h1 h2
    rw [← hx2, ← hx3] at h3 h4
    rw [← hwy, ← hb2] at h5 h6
    rw [← hs] at h7 h8
    rw [← hrc] at h9 h10 Hr
    rw [← hwy] at Hw
    obtain ⟨b3, hb3⟩ : ∃ x, x = Lf.isP p := ⟨_, rfl⟩
    rw [← hb3] at h7 h8
    have HA := Lib.hid hA
    clear hx1 hb1 hx2 hx3 hwy hb2 hs hrc hb3 hA hl hlen
    go_enter Try.func3, Try.ntmps3
    go_wp2_with fail
    refine h0.mono ?_
    rintro e w1 ⟨Ao, co, rfl, hown, hB0⟩
    have hO := IntsAt.of_own hown
    have hD := HA.out.on hB0
    clear h0 hown HA
    go_wp2_with fail
    refine (h1 _).mono ?_
    rintro e w2 ⟨rfl, hB⟩
    replace hB0 := below2 hB0 hB
    replace hO := hO.on hB
    replace hD := hD.on hB
    clear h1 hB
    go_wp2_with fail
    refine (h2 _).mono ?_
    rintro e w3 ⟨rfl, rfl⟩
    clear h2
    go_wp2_with fail
    refine (h3 _ hD).mono ?_
    rintro e w4 ⟨rfl, hB⟩
    replace hB0 := below2 hB0 hB
    replace hO := hO.on hB
    replace hD := hD.on hB
    clear h3 hB
    go_wp2_with fail
    refine (h4 _ _ _ hO).mono ?_
    rintro e w5 ⟨rfl, rfl⟩
    clear h4
    go_wp2_with fail
    refine (h5 _).mono ?_
    rintro e w6 ⟨u, rfl, hown, hB⟩
    obtain ⟨Ax, cx, rfl⟩ := ownsRow_slice hown
    have hX := IntsAt.of_own hown
    replace hB0 := below2 hB0 hB
    replace hO := hO.on hB
    replace hD := hD.on hB
    clear h5 hB hown
    go_wp2_with fail
    refine (h6 _).mono ?_
    rintro e w7 ⟨Ay, cy, rfl, hY, hB⟩
    replace hB0 := below2 hB0 hB
    replace hO := hO.on hB
    replace hD := hD.on hB
    replace hX := hX.on hB
    clear h6 hB
    go_wp2_with fail
    refine (h7 _).mono ?_
    rintro e w8 ⟨rfl, hB⟩
    replace hB0 := below2 hB0 hB
    replace hO := hO.on hB
    replace hD := hD.on hB
    replace hX := hX.on hB
    replace hY := hY.on hB
    clear h7 hB
    go_wp2_with fail
    refine (h8 _).mono ?_
    rintro e w9 ⟨rfl, hB⟩
    replace hB0 := below2 hB0 hB
    replace hO := hO.on hB
    replace hD := hD.on hB
    replace hX := hX.on hB
    replace hY := hY.on hB
    clear h8 hB
    go_wp2_with fail
    refine (Same_eq _ _ _ _ wy _ hX hY (by have := Hw.out; omega)).mono ?_
    rintro e w10 ⟨rfl, hB⟩
    replace hB0 := below2 hB0 hB
    replace hO := hO.on hB
    replace hD := hD.on hB
    clear hX hY hB
    go_wp2_with fail
    refine (lived_any _).mono ?_
    rintro e w11 ⟨rfl, hB⟩
    replace hB0 := below2 hB0 hB
    replace hO := hO.on hB
    replace hD := hD.on hB
    clear hB
    go_wp2_with fail
    refine (h9 _).mono ?_
    rintro e w12 ⟨u, rfl, hown, hB⟩
    obtain ⟨Ar, cr, rfl⟩ := ownsRow_slice hown
    have hX := IntsAt.of_own hown
    replace hB0 := below2 hB0 hB
    replace hO := hO.on hB
    replace hD := hD.on hB
    clear h9 hB hown
    go_wp2_with fail
    refine (h10 _).mono ?_
    rintro e w13 ⟨u, rfl, hown, hB⟩
    obtain ⟨Aq, cq, rfl⟩ := ownsRow_slice hown
    have hY := IntsAt.of_own hown
    replace hB0 := below2 hB0 hB
    replace hO := hO.on hB
    replace hD := hD.on hB
    replace hX := hX.on hB
    clear h10 hB hown
    go_wp2_with fail
    refine (Same_eq _ _ _ _ rc _ hX hY (by have := Hr.out; omega)).mono ?_
    rintro e w14 ⟨rfl, hB⟩
    replace hB0 := below2 hB0 hB
    replace hO := hO.on hB
    replace hD := hD.on hB
    clear hX hY hB
    go_wp2_with fail
    refine (Same_eq _ _ _ _ zs _ hD hO (by have := Hz.out; omega)).mono ?_
    rintro e w15 ⟨rfl, hB⟩
    have HB := Lib.hid (below2 hB0 hB)
    clear hO hD hB hB0
    go_wp2
    go_ret
    exact ⟨rfl, HB.out⟩

theorem lifeDoes_walk (p d to : Int) (A : Option Addr) (len cap : Nat) (zs : List Int) (w : World) (_h0 : (Lit.int .i64 p).wf = true) (_h1 : (Lit.int .i64 d).wf = true) (_h2 : (Lit.int .i64 to).wf = true) (h : IsRow .i64 w A len cap zs) :
    Calls Try.prog 3 #[.int .i64 p, .int .i64 d, .int .i64 to, .slice A len cap] w fun e w' => e = .returned (.bool true) ∧ Below w.heap.size w w' := by
  obtain ⟨e, h1, h2, _⟩ := h.ints
  have n1 : A = none → cap = 0 := fun hn => by
    rcases h with ⟨_, _, h, _⟩ | ⟨x, h, _⟩
    · exact h
    · rw [h] at hn; cases hn
  have := lifeDoes_main p d to A cap (zs.take len) w h2 n1 (by rw [← e]; exact h1)
  rw [← e] at this; exact this
end Go.Proofs.Ytipblfmabhggkaa
