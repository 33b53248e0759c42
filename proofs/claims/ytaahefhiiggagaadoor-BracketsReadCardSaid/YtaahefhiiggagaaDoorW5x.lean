/- A bracket expression: the reference's Read, what it gives back. -/
import Derived.Test.YtaahefhiiggagaaDoorW5
import Derived.Test.YtaahefhiiggagaaDoorS1W6
namespace Go.Proofs.YtaahefhiiggagaaDoor
open Go.RowKit
open S5 (nl nl_length nl_small at_nl nl_at Rd Sp Gives Two errV)
open S1 (Blk4 SetBox BoolRow wd noS oneS spanS orS notS spU eqB)
/-- What the reference gives back. -/
def roV (f : Nat → Bool) (t : Int) (e : Nat) : Value :=
  if e = 0 then .tuple #[(.agg #[.int .u64 (S1.wd (f) 0), .int .u64 (S1.wd (f) 1), .int .u64 (S1.wd (f) 2), .int .u64 (S1.wd (f) 3)]), .int .i64 t, .int .i64 0] else .tuple #[(.agg #[.int .u64 0, .int .u64 0, .int .u64 0, .int .u64 0]), .int .i64 t, .int .i64 e]
theorem roV_err (f : Nat → Bool) (t : Int) {e : Nat} (he : e ≠ 0) : roV f t e = .tuple #[(.agg #[.int .u64 0, .int .u64 0, .int .u64 0, .int .u64 0]), .int .i64 t, .int .i64 e] := if_neg he
/-- What is marked behind j - c rounds. -/
def upU (acc : List (Nat × Nat)) (c j : Nat) : Nat → Bool := fun x => spU acc x || (decide (c ≤ x) && decide (x < j))
theorem upU_step (acc : List (Nat × Nat)) {c j : Nat} (h : c ≤ j) (x : Nat) : (if x = j then true else upU acc c j x) = upU acc c (j + 1) x := by
  unfold upU
  by_cases e : x = j
  · subst e; simp [h]
  · have a : (x < j + 1) ↔ (x < j) := by omega
    simp [e, a]
theorem upU_end (acc : List (Nat × Nat)) (c d : Nat) (x : Nat) : upU acc c (d + 1) x = spU (acc ++ [(c, d)]) x := by
  unfold upU
  rw [S1.spU_snoc]
  have a : (x < d + 1) ↔ (x ≤ d) := by omega
  simp [a]
def flipS (f : Nat → Bool) (j : Nat) : Nat → Bool := fun x => if x < j then !f x else f x
theorem flip_step (f : Nat → Bool) (j x : Nat) : (if x = j then !f j else flipS f j x) = flipS f (j + 1) x := by
  unfold flipS
  by_cases e : x = j
  · subst e; simp
  · have a : (x < j + 1) ↔ (x < j) := by omega
    simp [e, a]
end Go.Proofs.YtaahefhiiggagaaDoor
