/- alive of the statements of layer 1 returns true; it asks that math/bits' table lie in block 0. SetsMix returns true at every two sets. -/
import Derived.Test.YtaahefhiiggagaaDoorS1W9
import Derived.Test.YtaahefhiiggagaaDoorS1W6
namespace Go.Proofs.YtaahefhiiggagaaDoor.S1
open Go.RowKit Go.Shelf

theorem spans_in (f : Nat → Bool) (w : World) (hT : Tab w) : Calls Tryd.prog 22 #[(.agg #[.int .u64 (wd f 0), .int .u64 (wd f 1), .int .u64 (wd f 2), .int .u64 (wd f 3)])] w (GivesSpans w (spAll (el f 256))) := (callsIn_wide (n := 5)).1 (spans_wide 5 (by decide) f w hT)

end Go.Proofs.YtaahefhiiggagaaDoor.S1
