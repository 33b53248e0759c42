/- SizesJoin. -/

import Derived.Test.YtaebhbcamhmhoaaDoorS9W16vn
import Derived.Test.YtaebhbcamhmhoaaDoorS9W16vf
import Derived.Test.YtaebhbcamhmhoaaDoorS9W16lnv
import Derived.Test.YtaebhbcamhmhoaaDoorS9W16lnl
import Derived.Test.YtaebhbcamhmhoaaDoorS9W16lfv
import Derived.Test.YtaebhbcamhmhoaaDoorS9W16lfl
namespace Go.Proofs.YtaebhbcamhmhoaaDoor
open Go.RowKit
open Go.Tree7
open S7
open S5 (nl nl_length nl_small at_nl nl_at Gives idx idx_at ix ix_no ix_yes)
theorem sizesJoin_in {a b : T} (w : World) (hTa : T.In w w.heap.size a) (hTb : T.In w w.heap.size b) (cA9 : ∀ w', Bel w w' → Calls Tryd.prog 6 #[] w' fun e w'' => e = .returned (.bool true) ∧ Below w'.heap.size w' w'')
    (hV : void_holds) (hN : nullable_holds) (hW : weight_holds) (hLe : least_holds) (hMo : most_holds) (hF : first_holds) :
    Calls Tryd.prog 4 #[.agg a.cells.toArray, .agg b.cells.toArray] w fun e w' => e = .returned (.bool true) ∧ Below w.heap.size w w' := by
  by_cases h2 : 200 ≤ a.size
  · exact join_wrong w hTa hTb cA9 (.inl h2)
  by_cases h3 : 200 ≤ b.size
  · exact join_wrong w hTa hTb cA9 (.inr (.inl h3))
  cases hR : rightB (.mk 2 0 0 0 0 none 0 0 0 ⟨#[]⟩ [a.strip, b.strip]) with
  | false => exact join_wrong w hTa hTb cA9 (.inr (.inr (.inl hR)))
  | true =>
    cases hR' : rightB (.mk 3 0 0 0 0 none 0 0 0 ⟨#[]⟩ [a.strip, b.strip]) with
    | false => exact join_wrong w hTa hTb cA9 (.inr (.inr (.inr hR')))
    | true =>
      cases hva : voidT a <;> cases hna : nullT a
      · cases hvb : voidT b
        · exact join_lfl w hTa hTb cA9 hV hN hW hLe hMo hF h2 h3 hR hR' hva hna hvb
        · exact join_lfv w hTa hTb cA9 hV hN hW hLe hMo hF h2 h3 hR hR' hva hna hvb
      · cases hvb : voidT b
        · exact join_lnl w hTa hTb cA9 hV hN hW hLe hMo hF h2 h3 hR hR' hva hna hvb
        · exact join_lnv w hTa hTb cA9 hV hN hW hLe hMo hF h2 h3 hR hR' hva hna hvb
      · exact join_vf w hTa hTb cA9 hV hN hW hLe hMo hF h2 h3 hR hR' hva hna
      · exact join_vn w hTa hTb cA9 hV hN hW hLe hMo hF h2 h3 hR hR' hva hna
end Go.Proofs.YtaebhbcamhmhoaaDoor
