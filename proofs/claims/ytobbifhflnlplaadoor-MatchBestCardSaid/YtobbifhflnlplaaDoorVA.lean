/- The small functions of sizes: a language's void and nullable, the empty one, that of one byte, a limited number. -/

import Derived.Test.YtobbifhflnlplaaDoorMB
import Derived.Test.YtobbifhflnlplaaDoorS1C
import Derived.Test.YtobbifhflnlplaaDoorS7C
import Derived.Test.YtobbifhflnlplaaDoorLL
namespace Go.Proofs.YtobbifhflnlplaaDoor
open Go.RowKit
open Go.Tree7
open S7
open S5 (nl nl_length nl_small at_nl nl_at Gives idx idx_at ix ix_no ix_yes)
set_option maxHeartbeats 1000000 in
theorem lim_in (x : Int) (w : World) : Calls Tryd.prog 80 #[.int .i64 x] w fun e w' => e = .returned (.int .i64 (cut20 x)) ∧ Below w.heap.size w w' := by
 obtain ⟨Q, hQ⟩ : ∃ Q, (if (1048576 : Int) < x then 1048576 else x) = Q := ⟨_, rfl⟩
 have hc : Q = cut20 x := by rw [← hQ]; unfold cut20; rfl
 rw [← hc]
 clear hc
 go_enter Tryd.func80, Tryd.ntmps80
 go_wp2
 go_ret
 all_goals exact ⟨rfl, Below.refl _ _⟩
end Go.Proofs.YtobbifhflnlplaaDoor
