/-
  Layer 10 (mute): what the laws ask of mute's functions.
-/
import Derived.Test.YthbkfjnpdcfepaaMuteRow
namespace Go.Proofs.Ythbkfjnpdcfepaa
set_option maxRecDepth 10000
open Go.RowKit

/-- What is asked of windows that are told. -/
def ToldW (w : World) (A : Option Addr) (l c : Nat) (ls : List Win) : Prop := l = ls.length ∧ WinsAt w w.heap.size A ls ∧ Roomy A ls c ∧ l ≤ 1000
theorem ToldW.on {w w' : World} {A : Option Addr} {l c : Nat} {ls : List Win} (h : ToldW w A l c ls) (hb : Below w.heap.size w w') : ToldW w' A l c ls := ⟨h.1, h.2.1.on hb, h.2.2.1, h.2.2.2⟩

structure MuteK : Prop where
  is : ∀ (A : Option Addr) (l c : Nat) (ls : List Win) (w : World) (_h : ToldW w A l c ls), Calls Try.prog 16 #[.slice A l c] w fun e w' => e = .returned (.bool (Mu.isL ls)) ∧ Below w.heap.size w w'
  add : ∀ (A : Option Addr) (l c : Nat) (ls : List Win) (B : Option Addr) (k d : Nat) (ms : List Win) (q : Nat) (w : World) (_h : ToldW w A l c ls) (_h2 : ToldW w B k d ms) (_hq : q = (Mu.turn ls ms true).length), Calls Try.prog 8 #[.slice A l c, .slice B k d] w (GivesW w q (Mu.turn ls ms true) (Mu.turnE ls ms true))
  cut : ∀ (A : Option Addr) (l c : Nat) (ls : List Win) (B : Option Addr) (k d : Nat) (ms : List Win) (q : Nat) (w : World) (_h : ToldW w A l c ls) (_h2 : ToldW w B k d ms) (_hq : q = (Mu.turn ls ms false).length), Calls Try.prog 10 #[.slice A l c, .slice B k d] w (GivesW w q (Mu.turn ls ms false) (Mu.turnE ls ms false))
  has : ∀ (A : Option Addr) (l c : Nat) (ls : List Win) (b t : Int) (w : World) (_h : ToldW w A l c ls), Calls Try.prog 18 #[.slice A l c, .int .i64 b, .int .i64 t] w fun e w' => e = .returned (.bool (Mu.has ls b t)) ∧ Below w.heap.size w w'
  till : ∀ (A : Option Addr) (l c : Nat) (ls : List Win) (b t : Int) (w : World) (_h : ToldW w A l c ls), Calls Try.prog 12 #[.slice A l c, .int .i64 b, .int .i64 t] w fun e w' => e = .returned (.tuple #[.int .i64 (Mu.tillN ls b t), .bool (Mu.has ls b t)]) ∧ Below w.heap.size w w'
  total : ∀ (A : Option Addr) (l c : Nat) (ls : List Win) (b : Int) (w : World) (_h : ToldW w A l c ls), Calls Try.prog 20 #[.slice A l c, .int .i64 b] w fun e w' => e = .returned (.int .i64 (Mu.total ls b)) ∧ Below w.heap.size w w'

/-- Windows that are the same. -/
def WSameK : Prop := ∀ (A B : Option Addr) (l c c2 : Nat) (ts : List Win) (w : World) (_h : l = ts.length) (_h1 : WinsAt w w.heap.size A ts) (_h2 : WinsAt w w.heap.size B ts) (_h3 : l ≤ 1000),
    Calls Try.prog 14 #[.slice A l c, .slice B l c2] w fun e w' => e = .returned (.bool true) ∧ Below w.heap.size w w'
/-- The document's rows. -/
def MutedK : Prop := ∀ (w : World), Calls Try.prog 15 #[] w fun e w' => e = .returned (.bool true) ∧ Below w.heap.size w w'

theorem WinsAt.one (w : World) (a0 a1 a2 : Int) (t : TypeId) : WinsAt (w.alloc (.cells #[.int .i64 a0, .int .i64 a1, .int .i64 a2] t)) (w.alloc (.cells #[.int .i64 a0, .int .i64 a1, .int .i64 a2] t)).heap.size (some ⟨w.heap.size, 0, none⟩) [⟨a0, a1, a2⟩] := fun i hi => by
  obtain rfl : i = 0 := by simpa using hi
  have hb := World.alloc_heap_new w (.cells #[.int .i64 a0, .int .i64 a1, .int .i64 a2] t)
  refine ⟨w.heap.size, 0, rfl, by simp, ?_⟩
  exact ⟨by simp only [World.cell?, hb]; rfl, by simp only [World.cell?, hb]; rfl, by simp only [World.cell?, hb]; rfl⟩
theorem WinsAt.two (w : World) (a0 a1 a2 b0 b1 b2 : Int) (t : TypeId) : WinsAt (w.alloc (.cells #[.int .i64 a0, .int .i64 a1, .int .i64 a2, .int .i64 b0, .int .i64 b1, .int .i64 b2] t)) (w.alloc (.cells #[.int .i64 a0, .int .i64 a1, .int .i64 a2, .int .i64 b0, .int .i64 b1, .int .i64 b2] t)).heap.size (some ⟨w.heap.size, 0, none⟩) [⟨a0, a1, a2⟩, ⟨b0, b1, b2⟩] := fun i hi => by
  have hb := World.alloc_heap_new w (.cells #[.int .i64 a0, .int .i64 a1, .int .i64 a2, .int .i64 b0, .int .i64 b1, .int .i64 b2] t)
  have hi' : i = 0 ∨ i = 1 := by simp at hi; omega
  rcases hi' with rfl | rfl
  · refine ⟨w.heap.size, 0, rfl, by simp, ?_⟩
    exact ⟨by simp only [World.cell?, hb]; rfl, by simp only [World.cell?, hb]; rfl, by simp only [World.cell?, hb]; rfl⟩
  · refine ⟨w.heap.size, 0, rfl, by simp, ?_⟩
    exact ⟨by simp only [World.cell?, hb]; rfl, by simp only [World.cell?, hb]; rfl, by simp only [World.cell?, hb]; rfl⟩
end Go.Proofs.Ythbkfjnpdcfepaa
