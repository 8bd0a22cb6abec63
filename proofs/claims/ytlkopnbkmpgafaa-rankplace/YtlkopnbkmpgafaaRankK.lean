/-
  Layer 7 (rank): what the laws ask of rank's functions (RankC shows it of the program).
-/
import Derived.Test.YtlkopnbkmpgafaaRefRank4
namespace Go.Proofs.Ytlkopnbkmpgafaa
open Go.RowKit

structure RankK : Prop where
  compare : ∀ (b c ph pr si un b' c' ph' pr' si' un' : Int) (w : World),
    Calls Try.prog 18 #[.agg #[.int .i64 b, .int .i64 c, .int .i64 ph, .int .i64 pr, .int .i64 si, .int .i64 un], .agg #[.int .i64 b', .int .i64 c', .int .i64 ph', .int .i64 pr', .int .i64 si', .int .i64 un']] w fun e w' => e = .returned (.int .i64 (Rk.cmp ⟨b, c, ph, pr, si, un⟩ ⟨b', c', ph', pr', si', un'⟩)) ∧ Below w.heap.size w w'
  sort : ∀ (A : Option Addr) (n cap : Nat) (ls : List Alm) (w : World) (_hn : n = ls.length) (_hA : AlmsAt w w.heap.size A ls) (_hnil : A = none → cap = 0) (_hl : ls.length ≤ 1000),
    Calls Try.prog 9 #[.slice A n cap] w (OwnedA w (Rk.sort ls))
  top : ∀ (k : Int) (A : Option Addr) (n cap : Nat) (ls : List Alm) (w : World) (_hn : n = ls.length) (_hA : AlmsAt w w.heap.size A ls) (_hnil : A = none → cap = 0) (_hl : ls.length ≤ 1000),
    Calls Try.prog 10 #[.int .i64 k, .slice A n cap] w (OwnedA w (Rk.top k ls))
  place : ∀ (A : Option Addr) (n cap : Nat) (ls : List Alm) (b c : Int) (w : World) (_hn : n = ls.length) (_hA : AlmsAt w w.heap.size A ls) (_hnil : A = none → cap = 0) (_hl : ls.length ≤ 1000),
    Calls Try.prog 11 #[.slice A n cap, .agg #[.int .i64 b, .int .i64 c]] w fun e w' => e = .returned (.tuple #[.int .i64 (Rk.place ls b c).1, .bool (Rk.place ls b c).2]) ∧ Below w.heap.size w w'
  merge : ∀ (A B : Option Addr) (m n ca cb : Nat) (ls ms : List Alm) (w : World) (_hm : m = ls.length) (_hn : n = ms.length) (_hA : AlmsAt w w.heap.size A ls) (_hB : AlmsAt w w.heap.size B ms) (_ha : A = none → ca = 0) (_hb : B = none → cb = 0) (_hl : ls.length ≤ 400) (_hl2 : ms.length ≤ 400),
    Calls Try.prog 13 #[.slice A m ca, .slice B n cb] w (OwnedA w (Rk.merge ls ms))

theorem KCompare_any (HK : Hid RankK) (b c ph pr si un b' c' ph' pr' si' un' : Int) (w : World) :
    Calls Try.prog 18 #[.agg #[.int .i64 b, .int .i64 c, .int .i64 ph, .int .i64 pr, .int .i64 si, .int .i64 un], .agg #[.int .i64 b', .int .i64 c', .int .i64 ph', .int .i64 pr', .int .i64 si', .int .i64 un']] w fun e w' => e = .returned (.int .i64 (Rk.cmp ⟨b, c, ph, pr, si, un⟩ ⟨b', c', ph', pr', si', un'⟩)) ∧ Below w.heap.size w w' := HK.out.compare b c ph pr si un b' c' ph' pr' si' un' w
theorem KSort_n (HK : Hid RankK) (A : Option Addr) (n cap : Nat) (ls : List Alm) (w : World) (hn : n = ls.length) (hA : AlmsAt w w.heap.size A ls) (hnil : A = none → cap = 0) (hl : ls.length ≤ 1000) :
    Calls Try.prog 9 #[.slice A n cap] w (OwnedA w (Rk.sort ls)) := HK.out.sort A n cap ls w hn hA hnil hl
theorem KTop_n (HK : Hid RankK) (k : Int) (A : Option Addr) (n cap : Nat) (ls : List Alm) (w : World) (hn : n = ls.length) (hA : AlmsAt w w.heap.size A ls) (hnil : A = none → cap = 0) (hl : ls.length ≤ 1000) :
    Calls Try.prog 10 #[.int .i64 k, .slice A n cap] w (OwnedA w (Rk.top k ls)) := HK.out.top k A n cap ls w hn hA hnil hl
theorem KPlace_n (HK : Hid RankK) (A : Option Addr) (n cap : Nat) (ls : List Alm) (b c : Int) (w : World) (hn : n = ls.length) (hA : AlmsAt w w.heap.size A ls) (hnil : A = none → cap = 0) (hl : ls.length ≤ 1000) :
    Calls Try.prog 11 #[.slice A n cap, .agg #[.int .i64 b, .int .i64 c]] w fun e w' => e = .returned (.tuple #[.int .i64 (Rk.place ls b c).1, .bool (Rk.place ls b c).2]) ∧ Below w.heap.size w w' := HK.out.place A n cap ls b c w hn hA hnil hl
theorem KMerge_n (HK : Hid RankK) (A B : Option Addr) (m n ca cb : Nat) (ls ms : List Alm) (w : World) (hm : m = ls.length) (hn : n = ms.length) (hA : AlmsAt w w.heap.size A ls) (hB : AlmsAt w w.heap.size B ms) (ha : A = none → ca = 0) (hb : B = none → cb = 0) (hl : ls.length ≤ 400) (hl2 : ms.length ≤ 400) :
    Calls Try.prog 13 #[.slice A m ca, .slice B n cb] w (OwnedA w (Rk.merge ls ms)) := HK.out.merge A B m n ca cb ls ms w hm hn hA hB ha hb hl hl2
end Go.Proofs.Ytlkopnbkmpgafaa
