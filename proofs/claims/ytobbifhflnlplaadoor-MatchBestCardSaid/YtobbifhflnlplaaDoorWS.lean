/- Texts merged: S9W5, S9W7. -/

import Derived.Test.YtobbifhflnlplaaDoorMB
import Derived.Test.YtobbifhflnlplaaDoorS1C
import Derived.Test.YtobbifhflnlplaaDoorS7C
import Derived.Test.YtobbifhflnlplaaDoorLL
import Derived.Test.YtobbifhflnlplaaDoorWG
import Derived.Test.YtobbifhflnlplaaDoorS7W25
import Derived.Test.YtobbifhflnlplaaDoorS7E
import Derived.Test.YtobbifhflnlplaaDoorMA
namespace Go.Proofs.YtobbifhflnlplaaDoor
open Go.RowKit
open Go.Tree7
open S7
open S5 (nl nl_length nl_small at_nl nl_at Gives idx idx_at ix ix_no ix_yes)
noncomputable def voidR (t : T) : Bool := !rightB t || voidT t
noncomputable def firstR (back : Bool) (t : T) : Nat → Bool := if voidR t = true then S1.noS else endsT back t
noncomputable def alphaR (t : T) : Nat → Bool := if voidR t = true then S1.noS else alphaT t
noncomputable def leastR (t : T) : Int := if voidR t = true then -1 else leastT t
noncomputable def mostR (t : T) : Int := if voidR t = true then -1 else mostT t
noncomputable def weightR (t : T) : Int := if rightB t = true then weightT t else 0
def weight_holds : Prop := ∀ (n : T) (w : World), T.In w w.heap.size n → Calls Tryd.prog 35 #[.agg n.cells.toArray] w fun e w' => e = .returned (.int .i64 (weightR n)) ∧ Below w.heap.size w w'
theorem of_full {w : World} {t : T} {n : Nat} {c : Int} (hT : T.In w w.heap.size t) (h1 : 1 ≤ n) (h2 : n ≤ 2000) (hc : c = (n : Int)) (hz : n ≤ t.size) : ∀ w', Bel w w' → Calls Tryd.prog 20 #[.agg t.cells.toArray, .int .i64 c] w' fun e w'' => ∃ m : T, e = .returned (.tuple #[.agg m.cells.toArray, .int .i64 0]) ∧ Below w'.heap.size w' w'' := fun w' hb => hc ▸
 (of_in (Nat.le_refl _) t n w' h1 h2 hT hb).mono fun e w'' h => by
  obtain ⟨m, h1, h2, -⟩ := h
  rw [show n - t.size = 0 by omega] at h1
  exact ⟨m, h1, h2⟩
theorem of_room {w : World} {t : T} {n : Nat} {c : Int} (hT : T.In w w.heap.size t) (h2 : n ≤ 2000) (hc : c = (n : Int)) (hz : t.size < n) : ∀ w', Bel w w' → Calls Tryd.prog 20 #[.agg t.cells.toArray, .int .i64 c] w' fun e w'' =>
  ∃ (m : T) (d : Int), 0 < d ∧ e = .returned (.tuple #[.agg m.cells.toArray, .int .i64 d]) ∧ Below w'.heap.size w' w'' ∧ T.InP w'' (fun b => w'.heap.size ≤ b ∧ b < w''.heap.size) m ∧ m.strip = t.strip := fun w' hb => hc ▸
 (of_in (Nat.le_refl _) t n w' (by omega) h2 hT hb).mono fun e w'' h => by
  obtain ⟨m, h1, h2, h3⟩ := h
  obtain ⟨h4, h5⟩ := h3 hz
  exact ⟨m, _, by omega, h1, h2, h4, h5⟩
end Go.Proofs.YtobbifhflnlplaaDoor
namespace Go.Proofs.YtobbifhflnlplaaDoor
open Go.RowKit
open Go.Tree7
open S7
open S5 (nl nl_length nl_small at_nl nl_at Gives idx idx_at ix ix_no ix_yes)
theorem le_sum9 {l : List Nat} {x : Nat} (h : x ∈ l) : x ≤ l.sum := by
 induction l with
 | nil => cases h
 | cons y ys ih =>
  rw [List.sum_cons]
  rcases List.mem_cons.1 h with rfl | h
  ·omega
  ·have := ih h; omega
structure Often (n r : T) (l b o : Int) : Prop where
 rl : 0 ≤ l ∧ l ≤ 40
 rb : b = -1 ∨ (l ≤ b ∧ 1 ≤ b ∧ b ≤ 40)
 ro : o = if b = -1 then l + 1 else b
 vr : voidR r = (decide (0 < l) && voidT n)
 vn : voidR n = voidT n
 nr : (rightB r && nullT r) = (decide (l = 0) || nullT n)
 nn : (rightB n && nullT n) = nullT n
 wr : weightR r = min (1 + min (weightT n * o) 1048576) 1048576
 wn : weightR n = weightT n
 ww : 1 ≤ weightT n ∧ weightT n ≤ 1048576
 mv : voidT n = true → mostR r = if l = 0 then 0 else -1
 lr : voidT n = false → leastR r = min (leastT n * l) 1048576
 ln : voidT n = false → leastR n = leastT n
 lw : voidT n = false → 0 ≤ leastT n ∧ leastT n ≤ 1048576
 mr : voidT n = false → mostR r = if b = -1 then min (mostT n * 1048576) 1048576 else min (mostT n * b) 1048576
 mn : voidT n = false → mostR n = mostT n
 mw : 0 ≤ mostT n ∧ mostT n ≤ 1048576
 fr : voidT n = false → firstR false r = firstR false n
 ar : voidT n = false → alphaR r = alphaR n
end Go.Proofs.YtobbifhflnlplaaDoor
