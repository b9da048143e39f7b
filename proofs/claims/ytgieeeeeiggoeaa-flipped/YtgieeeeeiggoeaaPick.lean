/-
  Which of some things a raw number speaks of. Nothing of the program here.
-/
import Derived.Test.YtgieeeeeiggoeaaMath
namespace Go.Proofs.Ytgieeeeeiggoeaa

def pickI (c n : Int) : Int := (if c < 0 then -(c + 1) else c) % n

theorem pickI_lt (c n : Int) (h : 0 < n) : 0 ≤ pickI c n ∧ pickI c n < n := ⟨Int.emod_nonneg _ (by omega), Int.emod_lt_of_pos _ h⟩

end Go.Proofs.Ytgieeeeeiggoeaa
