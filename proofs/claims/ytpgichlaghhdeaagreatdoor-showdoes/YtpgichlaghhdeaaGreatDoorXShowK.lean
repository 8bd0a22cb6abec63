/-
  Layer 11 (show): what the laws ask of show's functions. E is what they ask of the world (what the library reads, or nothing).
-/
import Derived.Test.YtpgichlaghhdeaaGreatDoorXRefShow7
namespace Go.Proofs.YtpgichlaghhdeaaGreatDoor
set_option maxRecDepth 10000
open Go.RowKit

structure ShowK (E : World → Prop) : Prop where
  mono : ∀ (w w' : World), E w → Below w.heap.size w w' → E w'
  line : ∀ (x0 x1 x2 x3 x4 x5 : Int) (w : World) (_hE : E w), Calls Tryz.prog 9 #[.agg #[.int .i64 x0, .int .i64 x1, .int .i64 x2, .int .i64 x3, .int .i64 x4, .int .i64 x5]] w fun e w' => e = .returned (.tuple #[.string (strOf (Sh.line ⟨x0, x1, x2, x3, x4, x5⟩)), .int .i64 (Sh.lineE ⟨x0, x1, x2, x3, x4, x5⟩)]) ∧ Below w.heap.size w w'
  parse : ∀ (s : ByteArray) (_hs : s.size ≤ 400) (w : World) (_hE : E w), Calls Tryz.prog 11 #[.string s] w fun e w' => e = .returned (.tuple #[.agg (sixV (Sh.parA (bl s))), .int .i64 (Sh.parE (bl s))]) ∧ Below w.heap.size w w'
  heard : ∀ (m n : Int) (A : Option Addr) (l c : Nat) (ls : List Alm) (B : Option Addr) (k0 d : Nat) (ws : List Win) (w : World) (_hE : E w) (_h1 : Told w A l c ls) (_h2 : ToldW w B k0 d ws), Calls Tryz.prog 13 #[.agg #[.int .i64 m, .int .i64 n, .slice A l c], .slice B k0 d] w (GivesH w (Sh.heard m n ls ws) (Sh.heardE m n ls ws))
  lines : ∀ (m n : Int) (A : Option Addr) (l c : Nat) (ls : List Alm) (B : Option Addr) (k0 d : Nat) (ws : List Win) (t : Int) (w : World) (_hE : E w) (_h1 : Told w A l c ls) (_h2 : ToldW w B k0 d ws), Calls Tryz.prog 15 #[.agg #[.int .i64 m, .int .i64 n, .slice A l c], .slice B k0 d, .int .i64 t] w (GivesX w (Sh.linesS m n ls ws t) (Sh.linesE m n ls ws t))
  count : ∀ (m n : Int) (A : Option Addr) (l c : Nat) (ls : List Alm) (w : World) (_hE : E w) (_h1 : Told w A l c ls), Calls Tryz.prog 17 #[.agg #[.int .i64 m, .int .i64 n, .slice A l c]] w fun e w' => e = .returned (.agg #[.int .i64 (Sh.cnt 0 ls : Int), .int .i64 (Sh.cnt 1 ls : Int), .int .i64 (Sh.cnt 2 ls : Int), .int .i64 (Sh.cnt 3 ls : Int), .int .i64 (Sh.cnt 4 ls : Int)]) ∧ Below w.heap.size w w'
/-- Texts that are the same. -/
def XSameK : Prop := ∀ (A B : Option Addr) (l c c2 : Nat) (xs : List ByteArray) (w : World) (_h : l = xs.length) (_h1 : StrsAt w w.heap.size A xs) (_h2 : StrsAt w w.heap.size B xs) (_h3 : l ≤ 1000),
    Calls Tryz.prog 19 #[.slice A l c, .slice B l c2] w fun e w' => e = .returned (.bool true) ∧ Below w.heap.size w w'
/-- The document's rows. -/
def ShownK (E : World → Prop) : Prop := ∀ (w : World) (_hE : E w), Calls Tryz.prog 20 #[] w fun e w' => e = .returned (.bool true) ∧ Below w.heap.size w w'

/-! ### the document's rows, reckoned -/
def shA : Alm := ⟨12, 3, 2, 1, 5, 15⟩
def shS : ByteArray := ⟨#[49, 50, 47, 51, 32, 101, 115, 99, 97, 108, 97, 116, 101, 100, 32, 49, 32, 53, 32, 49, 53]⟩
def shT : ByteArray := ⟨#[49, 50, 47, 51, 32, 101, 115, 99, 97, 108, 97, 116, 101, 100, 32, 49, 32, 48, 53, 32, 49, 53]⟩
theorem sh_right : Am.right shA = true := by decide
theorem sh_lineL : Sh.lineL shA = bl shS := by
  have d12 : Lib.decDigits 12 = [49, 50] := by rw [Lib.decDigits_two (by decide) (by decide)]; rfl
  have d3 : Lib.decDigits 3 = [51] := by rw [Lib.decDigits_one (by decide)]; rfl
  have d1 : Lib.decDigits 1 = [49] := by rw [Lib.decDigits_one (by decide)]; rfl
  have d5 : Lib.decDigits 5 = [53] := by rw [Lib.decDigits_one (by decide)]; rfl
  have d15 : Lib.decDigits 15 = [49, 53] := by rw [Lib.decDigits_two (by decide) (by decide)]; rfl
  show (Lib.decDigits 12 ++ [47] ++ Lib.decDigits 3) ++ 32 :: (Lf.nameL 2 ++ 32 :: (Lib.decDigits 1 ++ 32 :: (Lib.decDigits 5 ++ 32 :: Lib.decDigits 15))) = _
  rw [d12, d3, d1, d5, d15]
  rfl
theorem sh_line : strOf (Sh.line shA) = shS ∧ Sh.lineE shA = 0 := by
  unfold Sh.line Sh.lineE
  rw [sh_right, if_pos rfl, if_pos rfl, sh_lineL]
  exact ⟨rfl, rfl⟩
theorem sh_parse : Sh.parA (bl shS) = shA ∧ Sh.parE (bl shS) = 0 := by
  have h := Sh.parA_line sh_right
  rw [sh_lineL] at h
  exact h
theorem sh_bad : Sh.parE (bl shT) = 20 := by
  have hw : Sh.words (bl shT) = [[49, 50, 47, 51], [101, 115, 99, 97, 108, 97, 116, 101, 100], [49], [48, 53], [49, 53]] := by decide
  have h5 : Sh.numI [48, 53] = -1 := by
    unfold Sh.numI
    rw [if_neg]
    intro h
    have h1 : Lib.decDigits 5 = [48, 53] := h.2.2.2
    rw [Lib.decDigits_one (by decide)] at h1
    exact absurd h1 (by decide)
  have ho : Sh.ok (bl shT) = false := by
    unfold Sh.ok Sh.cand
    rw [hw]
    simp only
    split
    · rename_i a e
      split at e
      · cases e
        rw [h5]
        simp [Am.right, Am.isT]
      · cases e
    · rfl
  exact (Sh.not_ok ho).2
theorem sh_heardE : Sh.heardE 2 20 [shA] [] = 0 ∧ Sh.heardE 2 20 [shA] [⟨12, 20, 21⟩] = 0 := by decide
theorem sh_heard : Sh.heard 2 20 [shA] [] = [shA] ∧ Sh.heard 2 20 [shA] [⟨12, 20, 21⟩] = [] := by decide
theorem sh_linesE : Sh.linesE 2 20 [shA] [] 1 = 0 := by decide
theorem sh_lines : Sh.linesS 2 20 [shA] [] 1 = [shS] := by
  have e : Sh.lines 2 20 [shA] [] 1 = [Sh.line shA] := by
    unfold Sh.lines
    rw [if_pos sh_linesE]
    rfl
  unfold Sh.linesS
  rw [e, List.map_singleton, sh_line.1]
theorem sh_cnt : Sh.cnt 0 [shA] = 0 ∧ Sh.cnt 1 [shA] = 0 ∧ Sh.cnt 2 [shA] = 1 ∧ Sh.cnt 3 [shA] = 0 ∧ Sh.cnt 4 [shA] = 0 := by decide
end Go.Proofs.YtpgichlaghhdeaaGreatDoor
