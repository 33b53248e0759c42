/- Nth and Least of package sets: the member below which n members lie, and -1 where there is none. They ask that math/bits' table lie in block 0. -/
import Derived.Test.YtaahefhiiggagaaDoorS1W8
import Derived.WalkSmall
namespace Go.Proofs.YtaahefhiiggagaaDoor.S1
open Go.RowKit Go.Shelf

attribute [local go_sem] Oper.semAt_some

theorem boxed_own' {X Y : World} {row : Option Nat} {B : Nat} {t : TypeId} {v : Value} (hs : Boxed X B t v) (hg : X.grownBy Y row) (hr : ∀ b, row = some b → ∃ o, X.heap[b]? = some o ∧ o.isCells = false) : Boxed Y B t v :=
  boxed_own B t (fun _ : Unit => v) () X Y row hs hg hr
/-- The member at place n. -/
def nthS (f : Nat → Bool) (n : Int) : Int := if 0 ≤ n then (match (el f 256)[n.toNat]? with | some c => (c : Int) | none => -1) else -1

def GivesNth (w0 : World) (ys : List Nat) (n : Int) (e : Ending) (w' : World) : Prop :=
  ∃ r : Int, e = .returned (.int .i64 r) ∧ r = (if 0 ≤ n then (match ys[n.toNat]? with | some c => (c : Int) | none => -1) else -1) ∧ Below w0.heap.size w0 w'

end Go.Proofs.YtaahefhiiggagaaDoor.S1
