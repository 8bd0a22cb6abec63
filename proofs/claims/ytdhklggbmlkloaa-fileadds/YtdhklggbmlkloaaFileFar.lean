/-
  Layer 12 (file): the law's far; texts that stay where they are, as a fact.
-/
import Derived.Test.YtdhklggbmlkloaaRefShort
import Derived.Test.YtdhklggbmlkloaaFileW7
namespace Go.Proofs.Ytdhklggbmlkloaa
set_option maxRecDepth 10000
open Go.RowKit

theorem far12_any (A : Option Addr) (cap : Nat) (ss : List ByteArray) (w : World) (hA : StrsAt w w.heap.size A ss) (hl : ss.length ≤ maxLen) (hsz : ∀ s ∈ ss, s.size ≤ maxLen) :
    Calls Try.prog 9 #[.slice A ss.length cap] w fun e w' => e = .returned (.bool (!shortB ss)) ∧ Below w.heap.size w w' := by
  have p1 := Short_any A cap ss w hA hl hsz
  obtain ⟨b, hb⟩ : ∃ b, b = shortB ss := ⟨_, rfl⟩
  obtain ⟨n, hn⟩ : ∃ n, n = ss.length := ⟨_, rfl⟩
  rw [← hb, ← hn] at p1
  rw [← hb, ← hn]
  clear hb hn hl hsz hA
  go_enter Try.func9, Try.ntmps9
  go_wp2_with fail
  refine p1.mono ?_
  rintro e w1 ⟨rfl, rfl⟩
  clear p1
  go_wp2
  go_ret
  exact ⟨rfl, Below.refl _ _⟩
end Go.Proofs.Ytdhklggbmlkloaa
