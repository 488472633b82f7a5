/- Which of n things a raw number speaks of. Nothing of the program stands here. -/
import Derived.Test.YtoalckcpahnpmaaLib
namespace Go.Proofs.Ytoalckcpahnpmaa
open Go.RowKit

def pickZ (c n : Int) : Int := (if c < 0 then -(c + 1) else c) % n
theorem pickZ_in (c n : Int) (h : 1 ≤ n) : 0 ≤ pickZ c n ∧ pickZ c n < n := ⟨Int.emod_nonneg _ (by omega), Int.emod_lt_of_pos _ (by omega)⟩
end Go.Proofs.Ytoalckcpahnpmaa
