/- What the calls say of two trees together. -/

import Derived.Test.YtaebhbcamhmhoaaDoorWS
namespace Go.Proofs.YtaebhbcamhmhoaaDoor
open Go.RowKit
open Go.Tree7
open S7
open S5 (nl nl_length nl_small at_nl nl_at Gives idx idx_at ix ix_no ix_yes)
theorem join_calls {W : World} {a b c d : T} {p q : Option Addr} {cp cq : Nat} (hV : void_holds) (hN : nullable_holds) (hW : weight_holds) (hLe : least_holds) (hMo : most_holds) (hF : first_holds) (hc : T.In W W.heap.size (.mk 2 0 0 0 0 p cp 0 0 ⟨#[]⟩ [a, b])) (hd : T.In W W.heap.size (.mk 3 0 0 0 0 q cq 0 0 ⟨#[]⟩ [a, b])) (ha : T.In W W.heap.size a) (hb : T.In W W.heap.size b)
    (hR : rightB (.mk 2 0 0 0 0 p cp 0 0 ⟨#[]⟩ [a, b]) = true) (hR' : rightB (.mk 3 0 0 0 0 q cq 0 0 ⟨#[]⟩ [a, b]) = true) (ec : c = T.mk 2 0 0 0 0 p cp 0 0 ⟨#[]⟩ [a, b]) (ed : d = T.mk 3 0 0 0 0 q cq 0 0 ⟨#[]⟩ [a, b]) : ∀ w', Bel W w' →
    (Calls Tryd.prog 15 #[.agg c.cells.toArray] w' fun e w'' => e = .returned (.bool true) ∧ Below w'.heap.size w' w'') ∧
    (Calls Tryd.prog 15 #[.agg d.cells.toArray] w' fun e w'' => e = .returned (.bool true) ∧ Below w'.heap.size w' w'') ∧
    (Calls Tryd.prog 16 #[.agg c.cells.toArray] w' fun e w'' => e = .returned (.bool (voidT a || voidT b)) ∧ Below w'.heap.size w' w'') ∧
    (Calls Tryd.prog 16 #[.agg d.cells.toArray] w' fun e w'' => e = .returned (.bool (voidT a && voidT b)) ∧ Below w'.heap.size w' w'') ∧
    (Calls Tryd.prog 16 #[.agg a.cells.toArray] w' fun e w'' => e = .returned (.bool (voidT a)) ∧ Below w'.heap.size w' w'') ∧
    (Calls Tryd.prog 16 #[.agg b.cells.toArray] w' fun e w'' => e = .returned (.bool (voidT b)) ∧ Below w'.heap.size w' w'') ∧
    (Calls Tryd.prog 17 #[.agg c.cells.toArray] w' fun e w'' => e = .returned (.bool (nullT a && nullT b)) ∧ Below w'.heap.size w' w'') ∧
    (Calls Tryd.prog 17 #[.agg d.cells.toArray] w' fun e w'' => e = .returned (.bool (nullT a || nullT b)) ∧ Below w'.heap.size w' w'') ∧
    (Calls Tryd.prog 17 #[.agg a.cells.toArray] w' fun e w'' => e = .returned (.bool (nullT a)) ∧ Below w'.heap.size w' w'') ∧
    (Calls Tryd.prog 17 #[.agg b.cells.toArray] w' fun e w'' => e = .returned (.bool (nullT b)) ∧ Below w'.heap.size w' w'') ∧
    (Calls Tryd.prog 12 #[.agg d.cells.toArray] w' fun e w'' => e = .returned (.agg #[.int .u64 (S1.wd (S1.orS (firstR false a) (firstR false b)) 0), .int .u64 (S1.wd (S1.orS (firstR false a) (firstR false b)) 1), .int .u64 (S1.wd (S1.orS (firstR false a) (firstR false b)) 2), .int .u64 (S1.wd (S1.orS (firstR false a) (firstR false b)) 3)]) ∧ Below w'.heap.size w' w'') ∧
    (Calls Tryd.prog 12 #[.agg a.cells.toArray] w' fun e w'' => e = .returned (.agg #[.int .u64 (S1.wd (firstR false a) 0), .int .u64 (S1.wd (firstR false a) 1), .int .u64 (S1.wd (firstR false a) 2), .int .u64 (S1.wd (firstR false a) 3)]) ∧ Below w'.heap.size w' w'') ∧
    (Calls Tryd.prog 12 #[.agg b.cells.toArray] w' fun e w'' => e = .returned (.agg #[.int .u64 (S1.wd (firstR false b) 0), .int .u64 (S1.wd (firstR false b) 1), .int .u64 (S1.wd (firstR false b) 2), .int .u64 (S1.wd (firstR false b) 3)]) ∧ Below w'.heap.size w' w'') ∧
    (Calls Tryd.prog 19 #[.agg c.cells.toArray] w' fun e w'' => e = .returned (.int .i64 (min (1 + weightT a + weightT b) 1048576)) ∧ Below w'.heap.size w' w'') ∧
    (Calls Tryd.prog 19 #[.agg a.cells.toArray] w' fun e w'' => e = .returned (.int .i64 (weightT a)) ∧ Below w'.heap.size w' w'') ∧
    (Calls Tryd.prog 19 #[.agg b.cells.toArray] w' fun e w'' => e = .returned (.int .i64 (weightT b)) ∧ Below w'.heap.size w' w'') ∧
    (voidT a = false → voidT b = false → (Calls Tryd.prog 20 #[.agg c.cells.toArray] w' fun e w'' => e = .returned (.int .i64 (min (leastT a + leastT b) 1048576)) ∧ Below w'.heap.size w' w'') ∧
      (Calls Tryd.prog 20 #[.agg d.cells.toArray] w' fun e w'' => e = .returned (.int .i64 (min (leastT a) (leastT b))) ∧ Below w'.heap.size w' w'') ∧
      (Calls Tryd.prog 20 #[.agg a.cells.toArray] w' fun e w'' => e = .returned (.int .i64 (leastT a)) ∧ Below w'.heap.size w' w'') ∧
      (Calls Tryd.prog 20 #[.agg b.cells.toArray] w' fun e w'' => e = .returned (.int .i64 (leastT b)) ∧ Below w'.heap.size w' w'') ∧
      (Calls Tryd.prog 21 #[.agg d.cells.toArray] w' fun e w'' => e = .returned (.int .i64 (max (mostT a) (mostT b))) ∧ Below w'.heap.size w' w'') ∧
      (Calls Tryd.prog 21 #[.agg a.cells.toArray] w' fun e w'' => e = .returned (.int .i64 (mostT a)) ∧ Below w'.heap.size w' w'') ∧
      (Calls Tryd.prog 21 #[.agg b.cells.toArray] w' fun e w'' => e = .returned (.int .i64 (mostT b)) ∧ Below w'.heap.size w' w'')) := by
  subst ec ed
  intro w' hw
  have h1 : rightB a = true := right_kid hR (by simp)
  have h2 : rightB b = true := right_kid hR (by simp)
  have ala := (right_all ((rightB_iff _).1 h1)).1
  have alb := (right_all ((rightB_iff _).1 h2)).1
  have va : voidR a = voidT a := by unfold voidR; rw [h1]; rfl
  have vb : voidR b = voidT b := by unfold voidR; rw [h2]; rfl
  have vc : voidR (.mk 2 0 0 0 0 p cp 0 0 ⟨#[]⟩ [a, b]) = (voidT a || voidT b) := by unfold voidR; rw [hR, (void_two 2 _ _ _ _ _ _ _ _ _ _ _).1 rfl]; rfl
  have vd : voidR (.mk 3 0 0 0 0 q cq 0 0 ⟨#[]⟩ [a, b]) = (voidT a && voidT b) := by unfold voidR; rw [hR', (void_two 3 _ _ _ _ _ _ _ _ _ _ _).2 rfl]; rfl
  have tc := in_bel hc hw
  have td := in_bel hd hw
  have ta := in_bel ha hw
  have tb := in_bel hb hw
  have c1 := right_in tc
  have c2 := right_in td
  have c3 := hV _ w' tc
  have c4 := hV _ w' td
  have c5 := hV _ w' ta
  have c6 := hV _ w' tb
  have c7 := hN _ w' tc
  have c8 := hN _ w' td
  have c9 := hN _ w' ta
  have c10 := hN _ w' tb
  have c11 := hF _ w' td
  have c12 := hF _ w' ta
  have c13 := hF _ w' tb
  have c14 := hW _ w' tc
  have c15 := hW _ w' ta
  have c16 := hW _ w' tb
  have hf : firstR false (.mk 3 0 0 0 0 q cq 0 0 ⟨#[]⟩ [a, b]) = S1.orS (firstR false a) (firstR false b) := by
    funext x
    have hx := first_alt false 0 0 0 0 q cq 0 0 ⟨#[]⟩ a b x
    have e1 : firstR false (.mk 3 0 0 0 0 q cq 0 0 ⟨#[]⟩ [a, b]) = firstS false (.mk 3 0 0 0 0 q cq 0 0 ⟨#[]⟩ [a, b]) := by unfold firstR firstS; rw [vd, (void_two 3 _ _ _ _ _ _ _ _ _ _ _).2 rfl]
    have e2 : firstR false a = firstS false a := by unfold firstR firstS; rw [va]
    have e3 : firstR false b = firstS false b := by unfold firstR firstS; rw [vb]
    rw [e1, e2, e3, hx]
    rfl
  rw [hR] at c1
  rw [hR'] at c2
  rw [vc] at c3
  rw [vd] at c4
  rw [va] at c5
  rw [vb] at c6
  rw [hR, (null_two 2 _ _ _ _ _ _ _ _ _ _ _).1 rfl, Bool.true_and] at c7
  rw [hR', (null_two 3 _ _ _ _ _ _ _ _ _ _ _).2 rfl, Bool.true_and] at c8
  rw [h1, Bool.true_and] at c9
  rw [h2, Bool.true_and] at c10
  rw [hf] at c11
  rw [show weightR (.mk 2 0 0 0 0 p cp 0 0 ⟨#[]⟩ [a, b]) = min (1 + weightT a + weightT b) 1048576 by unfold weightR; rw [if_pos hR, weight_cat _ _ _ _ _ _ _ _ _ (by have := weight_within alb; omega)]] at c14
  rw [show weightR a = weightT a by unfold weightR; rw [if_pos h1]] at c15
  rw [show weightR b = weightT b by unfold weightR; rw [if_pos h2]] at c16
  refine ⟨c1, c2, c3, c4, c5, c6, c7, c8, c9, c10, c11, c12, c13, c14, c15, c16, fun ea eb => ?_⟩
  have d1 := hLe _ w' tc
  have d2 := hLe _ w' td
  have d3 := hLe _ w' ta
  have d4 := hLe _ w' tb
  have d5 := hMo _ w' td
  have d6 := hMo _ w' ta
  have d7 := hMo _ w' tb
  have la := least_within ala ea
  have lb := least_within alb eb
  have ma := most_within ala
  rw [show leastR (.mk 2 0 0 0 0 p cp 0 0 ⟨#[]⟩ [a, b]) = min (leastT a + leastT b) 1048576 by unfold leastR; rw [vc, ea, eb, if_neg (by decide), least_cat _ _ _ _ _ _ _ _ _ ea eb lb.1]] at d1
  rw [show leastR (.mk 3 0 0 0 0 q cq 0 0 ⟨#[]⟩ [a, b]) = min (leastT a) (leastT b) by unfold leastR; rw [vd, ea, eb, if_neg (by decide), least_alt _ _ _ _ _ _ _ _ _ ea eb la.1]] at d2
  rw [show leastR a = leastT a by unfold leastR; rw [va, ea, if_neg (by decide)]] at d3
  rw [show leastR b = leastT b by unfold leastR; rw [vb, eb, if_neg (by decide)]] at d4
  rw [show mostR (.mk 3 0 0 0 0 q cq 0 0 ⟨#[]⟩ [a, b]) = max (mostT a) (mostT b) by unfold mostR; rw [vd, ea, eb, if_neg (by decide), most_alt _ _ _ _ _ _ _ _ _ ea eb ma.1]] at d5
  rw [show mostR a = mostT a by unfold mostR; rw [va, ea, if_neg (by decide)]] at d6
  rw [show mostR b = mostT b by unfold mostR; rw [vb, eb, if_neg (by decide)]] at d7
  exact ⟨d1, d2, d3, d4, d5, d6, d7⟩
end Go.Proofs.YtaebhbcamhmhoaaDoor
