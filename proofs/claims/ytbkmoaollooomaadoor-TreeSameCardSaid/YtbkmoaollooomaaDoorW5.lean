/- Small functions: bounds, plain. -/
import Derived.Test.YtbkmoaollooomaaDoorW2
import Derived.Test.YtbkmoaollooomaaDoorW1
import Derived.Test.YtbkmoaollooomaaDoorS1A
import Derived.BigQuiet
import Derived.OpenShut
import Derived.Lib.Hide
namespace Go.Proofs.YtbkmoaollooomaaDoor
open Go.RowKit
open Go.Tree7
open S5 (nl nl_length nl_small at_nl nl_at)
/-- How often something may be repeated. -/
def boundsB (mn mx : Int) : Bool := decide (0 ≤ mn) && decide (mn ≤ 40) && (decide (mx = -1) || (decide (1 ≤ mx) && decide (mn ≤ mx) && decide (mx ≤ 40)))
set_option maxRecDepth 10000 in
set_option maxHeartbeats 2000000 in
theorem bounds_in (mn mx : Int) (w : World) : Calls Tryd.prog 45 #[.int .i64 mn, .int .i64 mx] w fun e w' => e = .returned (.bool (boundsB mn mx)) ∧ w = w' := by
  unfold boundsB
  go_enter Tryd.func45, Tryd.ntmps45
  go_wp2
  all_goals
    go_ret
    exact ⟨ret_bool (by rw [Bool.eq_iff_iff]; simp; omega), rfl⟩
theorem wd4 (u0 u1 u2 u3 : Int) (h : (Lit.int .u64 u0).wf = true ∧ (Lit.int .u64 u1).wf = true ∧ (Lit.int .u64 u2).wf = true ∧ (Lit.int .u64 u3).wf = true) : ∃ f, u0 = (S1.wd f 0 : Nat) ∧ u1 = (S1.wd f 1 : Nat) ∧ u2 = (S1.wd f 2 : Nat) ∧ u3 = (S1.wd f 3 : Nat) := by
  obtain ⟨h0, h1, h2, h3⟩ := h
  have b0 := bounds_u64 h0
  have b1 := bounds_u64 h1
  have b2 := bounds_u64 h2
  have b3 := bounds_u64 h3
  obtain ⟨n0, rfl⟩ := Int.eq_ofNat_of_zero_le b0.1
  obtain ⟨n1, rfl⟩ := Int.eq_ofNat_of_zero_le b1.1
  obtain ⟨n2, rfl⟩ := Int.eq_ofNat_of_zero_le b2.1
  obtain ⟨n3, rfl⟩ := Int.eq_ofNat_of_zero_le b3.1
  obtain ⟨q0, q1, q2, q3⟩ := S1.wd_mem4 (a := n0) (b := n1) (c := n2) (d := n3) (by omega) (by omega) (by omega) (by omega)
  exact ⟨S1.mem4 n0 n1 n2 n3, by rw [q0], by rw [q1], by rw [q2], by rw [q3]⟩
theorem box_cells {w w1 : World} {cs : Array Value} {t : TypeId} (hb : Below (w.alloc (.cells cs t)).heap.size (w.alloc (.cells cs t)) w1) : ∀ q v, cs[q]? = some v → w1.cell? ⟨w.heap.size, q, none⟩ = some v := fun q v h => by
  have hk : w1.heap[w.heap.size]? = some (.cells cs t (0, 0)) := (hb.block _ (by simp)).trans (World.alloc_heap_new w _)
  rw [cell_of_row _ _ _ _ _ (0, 0) hk]; exact h
/-- What only some kinds use is zero. -/
def plainB (f : Nat → Bool) (mn mx : Int) (tx : ByteArray) : Bool := S1.eqB f S1.noS && decide (mn = 0) && decide (mx = 0) && tx.toList.isEmpty
def NCells (f : Nat → Bool) (k : Int) (p : Option Addr) (len cap : Nat) (mn mx : Int) (tx : ByteArray) : Array Value := #[.int .i64 k, .int .u64 (S1.wd f 0), .int .u64 (S1.wd f 1), .int .u64 (S1.wd f 2), .int .u64 (S1.wd f 3), .slice p len cap, .int .i64 mn, .int .i64 mx, .string tx]
set_option maxRecDepth 10000 in
set_option maxHeartbeats 2000000 in
theorem plain_in (f : Nat → Bool) (k : Int) (p : Option Addr) (len cap : Nat) (mn mx : Int) (tx : ByteArray) (w : World) : Calls Tryd.prog 44 #[.agg (NCells f k p len cap mn mx tx)] w fun e w' => e = .returned (.bool (plainB f mn mx tx)) ∧ Below w.heap.size w w' := by
  have C := S1.empty_in f (w.alloc (.cells (NCells f k p len cap mn mx tx) 27))
  unfold plainB
  generalize S1.eqB f S1.noS = r at *
  unfold NCells at *
  replace C := Lib.hid C
  have hB := Lib.hid ((Below.refl w.heap.size w).alloc (Nat.le_refl _) (.cells #[.int .i64 k, .int .u64 (S1.wd f 0), .int .u64 (S1.wd f 1), .int .u64 (S1.wd f 2), .int .u64 (S1.wd f 3), .slice p len cap, .int .i64 mn, .int .i64 mx, .string tx] 27))
  go_enter Tryd.func44, Tryd.ntmps44
  go_wp2_with (go_at_call 55; (with_reducible refine C.out.mono ?_); rintro e w1 ⟨rfl, hb⟩; have c6 := box_cells hb 6 _ rfl; have c7 := box_cells hb 7 _ rfl; have c8 := box_cells hb 8 _ rfl; replace hb := Lib.hid hb)
  all_goals
    go_ret
    refine ⟨ret_bool ?_, hB.out.trans (hb.out.mono (by simp))⟩
    simp_all
end Go.Proofs.YtbkmoaollooomaaDoor
