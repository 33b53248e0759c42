/- SizesOften. -/

import Derived.Test.YtaebhbcamhmhoaaDoorWT
import Derived.Test.YtaebhbcamhmhoaaDoorWU
import Derived.Test.YtaebhbcamhmhoaaDoorS9W11l0u
import Derived.Test.YtaebhbcamhmhoaaDoorS9W11l0b
import Derived.Test.YtaebhbcamhmhoaaDoorS9W11l1u
import Derived.Test.YtaebhbcamhmhoaaDoorS9W11l1b
namespace Go.Proofs.YtaebhbcamhmhoaaDoor
open Go.RowKit
open Go.Tree7
open S7
open S5 (nl nl_length nl_small at_nl nl_at Gives idx idx_at ix ix_no ix_yes)
theorem sizesOften_in {n : T} {l b : Int} (hl : (Lit.int .i64 l).wf = true) (hbw : (Lit.int .i64 b).wf = true) (w : World) (hT : T.In w w.heap.size n) (cA9 : ∀ w', Bel w w' → Calls Tryd.prog 6 #[] w' fun e w'' => e = .returned (.bool true) ∧ Below w'.heap.size w' w'')
    (hV : void_holds) (hN : nullable_holds) (hW : weight_holds) (hLe : least_holds) (hMo : most_holds) (hF : first_holds) (hA : alphabet_holds) :
    Calls Tryd.prog 5 #[.agg n.cells.toArray, .int .i64 l, .int .i64 b] w fun e w' => e = .returned (.bool true) ∧ Below w.heap.size w w' := by
  by_cases h3 : 300 ≤ n.size
  · exact often_full hl hbw w hT cA9 hV hN hW hLe hMo hF hA h3
  · by_cases hRb : rightB (.mk 4 0 0 0 0 none 0 l b ⟨#[]⟩ [n.strip]) = true
    · cases hva : voidT n <;> by_cases l0 : l = 0 <;> by_cases b1 : b = -1
      · exact often_l0u hl hbw w hT cA9 hV hN hW hLe hMo hF hA h3 hRb hva l0 b1
      · exact often_l0b hl hbw w hT cA9 hV hN hW hLe hMo hF hA h3 hRb hva l0 b1
      · exact often_l1u hl hbw w hT cA9 hV hN hW hLe hMo hF hA h3 hRb hva l0 b1
      · exact often_l1b hl hbw w hT cA9 hV hN hW hLe hMo hF hA h3 hRb hva l0 b1
      · exact often_v0u hl hbw w hT cA9 hV hN hW hLe hMo hF hA h3 hRb hva l0 b1
      · exact often_v0b hl hbw w hT cA9 hV hN hW hLe hMo hF hA h3 hRb hva l0 b1
      · exact often_v1u hl hbw w hT cA9 hV hN hW hLe hMo hF hA h3 hRb hva l0 b1
      · exact often_v1b hl hbw w hT cA9 hV hN hW hLe hMo hF hA h3 hRb hva l0 b1
    · exact often_wrong hl hbw w hT cA9 hV hN hW hLe hMo hF hA h3 hRb
end Go.Proofs.YtaebhbcamhmhoaaDoor
