/- MatchLaws, whole. -/

import Derived.Test.YtkpoegnekeiieaaDoorS10W23
namespace Go.Proofs.YtkpoegnekeiieaaDoor
open Go.RowKit
open Go.Tree7
open S7
open S5 (nl nl_length nl_small at_nl nl_at Gives idx idx_at ix ix_no ix_yes)
theorem matchLaws_in (w : World) {a b : T} (hTa : T.In w w.heap.size a) (hTb : T.In w w.heap.size b) {ad : Option Addr} {m c : Nat} {l : List Nat} (hs : Src w ad m c l) (hm : m ≤ 9223372036854775807) (cA : ∀ w', Bel w w' → Calls Tryd.prog 7 #[] w' fun e w'' => e = .returned (.bool true) ∧ Below w'.heap.size w' w'') :
    Calls Tryd.prog 5 #[.agg a.cells.toArray, .agg b.cells.toArray, .slice ad m c] w fun e w' => e = .returned (.bool true) ∧ Below w.heap.size w w' := by
  by_cases hz : a.size < 40
  · by_cases hy : b.size < 40
    · by_cases h : m ≤ 10
      · exact laws_main hTa hTb hs hz hy h cA
      · exact laws_long hTa hTb hz hy h hm cA
    · exact laws_full2 hTa hTb hz (by omega) cA
  · exact laws_full1 hTa hTb (by omega) cA
end Go.Proofs.YtkpoegnekeiieaaDoor
