/- Texts merged: S7W8a, S7W8. -/

import Derived.Test.YtobbifhflnlplaaDoorS7B
namespace Go.Proofs.YtobbifhflnlplaaDoor.S7
open Lib (hid)
open Go.RowKit
open Go.Tree7
open S5 (nl nl_length nl_small at_nl nl_at)
theorem emptyStr : (⟨#[]⟩ : ByteArray).toList.isEmpty = true := by rw [ByteArray.toList_eq]; rfl
theorem uW4 : Tryd.prog.underlying 23 = some (.array 4 22) := by kernel_rfl
theorem eqW4 (a0 a1 a2 a3 b0 b1 b2 b3 : Int) (w : World) : (Op.equalIn 10000 23 (.agg #[.int .u64 a0, .int .u64 a1, .int .u64 a2, .int .u64 a3]) (.agg #[.int .u64 b0, .int .u64 b1, .int .u64 b2, .int .u64 b3])).run Tryd.prog w =
  .ok ((a0 == b0) && (a1 == b1) && (a2 == b2) && (a3 == b3)) w := by
 obtain ⟨i, hi⟩ := S1.i26
 rw [run_equalIn_array w 9999 _ _ uW4 hi, S1.c26]
 have hr : List.range 4 = [0, 1, 2, 3] := rfl
 rw [hr]
 simp only [Op.eqItems, Sem.run_bind]
 simp [go_sem]
 by_cases h0 : a0 = b0 <;> by_cases h1 : a1 = b1 <;> by_cases h2 : a2 = b2 <;> by_cases h3 : a3 = b3 <;> simp [*]
set_option maxRecDepth 10000 in
set_option maxHeartbeats 4000000 in
theorem rone4_in (f : Nat → Bool) (len : Nat) (mn mx lv : Int) (tx : ByteArray) (hlen : len ≤ 9223372036854775807) (_ : tx.size ≤ 9223372036854775807) (w : World) :
  Calls Tryd.prog 39 #[.agg #[.int .i64 4, .int .u64 (S1.wd f 0), .int .u64 (S1.wd f 1), .int .u64 (S1.wd f 2), .int .u64 (S1.wd f 3), .slice none 0 0, .int .i64 mn, .int .i64 mx, .string tx, .int .i64 lv, .int .i64 len]] w fun e w' => e = .returned (.bool (okB f 4 len mn mx tx)) ∧ Below w.heap.size w w' := by
 obtain ⟨E, hE⟩ : ∃ E : Bool, S1.eqB f S1.noS = E := ⟨_, rfl⟩
 have he : ∀ w, (Op.equalIn 10000 23 (.agg #[.int .u64 (S1.wd f 0), .int .u64 (S1.wd f 1), .int .u64 (S1.wd f 2), .int .u64 (S1.wd f 3)]) (.agg #[.int .u64 0, .int .u64 0, .int .u64 0, .int .u64 0])).run Tryd.prog w = .ok E w := fun w => by
  rw [eqW4, ← hE]
  simp [S1.eqB, S1.no_wd]
 obtain ⟨te, hte⟩ : ∃ te : Bool, tx.toList.isEmpty = te := ⟨_, rfl⟩
 have e : okB f 4 len mn mx tx = (decide (len = 1) && boundsB mn mx && plainB f 0 0 tx) := rfl
 rw [e]
 clear e
 unfold boundsB plainB
 rw [hE, hte]
 cases E with
 | false =>
  rw [show (decide (len = 1) && (decide (0 ≤ mn) && decide (mn ≤ 40) && (decide (mx = -1) || (decide (1 ≤ mx) && decide (mn ≤ mx) && decide (mx ≤ 40)))) && (false && decide ((0 : Int) = 0) && decide ((0 : Int) = 0) && te)) = false by simp]
  go_enter Tryd.func39, Tryd.ntmps39
  go_wp2
  go_ret
  exact ⟨ret_bool (by simp <;> omega), ((Below.refl w.heap.size w).alloc (Nat.le_refl _) _).alloc (by simp) _⟩
 | true =>
  cases te with
  | false =>
   rw [show (decide (len = 1) && (decide (0 ≤ mn) && decide (mn ≤ 40) && (decide (mx = -1) || (decide (1 ≤ mx) && decide (mn ≤ mx) && decide (mx ≤ 40)))) && (true && decide ((0 : Int) = 0) && decide ((0 : Int) = 0) && false)) = false by simp]
   go_enter Tryd.func39, Tryd.ntmps39
   go_wp2
   go_ret
   exact ⟨ret_bool (by simp <;> omega), ((Below.refl w.heap.size w).alloc (Nat.le_refl _) _).alloc (by simp) _⟩
  | true =>
   by_cases hl : len = 1
   ·subst hl
    by_cases q0 : mn < 0
    ·rw [show (decide (1 = 1) && (decide (0 ≤ mn) && decide (mn ≤ 40) && (decide (mx = -1) || (decide (1 ≤ mx) && decide (mn ≤ mx) && decide (mx ≤ 40)))) && (true && decide ((0 : Int) = 0) && decide ((0 : Int) = 0) && true)) = false by simp; omega]
     go_enter Tryd.func39, Tryd.ntmps39
     go_wp2
     go_ret
     exact ⟨ret_bool (by simp <;> omega), ((Below.refl w.heap.size w).alloc (Nat.le_refl _) _).alloc (by simp) _⟩
    by_cases q1 : 40 < mn
    ·rw [show (decide (1 = 1) && (decide (0 ≤ mn) && decide (mn ≤ 40) && (decide (mx = -1) || (decide (1 ≤ mx) && decide (mn ≤ mx) && decide (mx ≤ 40)))) && (true && decide ((0 : Int) = 0) && decide ((0 : Int) = 0) && true)) = false by simp; omega]
     go_enter Tryd.func39, Tryd.ntmps39
     go_wp2
     go_ret
     exact ⟨ret_bool (by simp <;> omega), ((Below.refl w.heap.size w).alloc (Nat.le_refl _) _).alloc (by simp) _⟩
    by_cases q2 : mx = -1
    ·have z1 : decide (0 ≤ mn) = true := by simp; omega
     have z2 : decide (mn ≤ 40) = true := by simp; omega
     subst q2
     rw [show (decide (1 = 1) && (decide (0 ≤ mn) && decide (mn ≤ 40) && (decide ((-1 : Int) = -1) || (decide (1 ≤ (-1 : Int)) && decide (mn ≤ (-1 : Int)) && decide ((-1 : Int) ≤ 40)))) && (true && decide ((0 : Int) = 0) && decide ((0 : Int) = 0) && true)) = true by simp; omega]
     go_enter Tryd.func39, Tryd.ntmps39
     go_wp2
     go_ret
     exact ⟨ret_bool (by simp <;> omega), ((Below.refl w.heap.size w).alloc (Nat.le_refl _) _).alloc (by simp) _⟩
    by_cases q3 : mx < mn
    ·rw [show (decide (1 = 1) && (decide (0 ≤ mn) && decide (mn ≤ 40) && (decide (mx = -1) || (decide (1 ≤ mx) && decide (mn ≤ mx) && decide (mx ≤ 40)))) && (true && decide ((0 : Int) = 0) && decide ((0 : Int) = 0) && true)) = false by simp; omega]
     go_enter Tryd.func39, Tryd.ntmps39
     go_wp2
     go_ret
     exact ⟨ret_bool (by simp <;> omega), ((Below.refl w.heap.size w).alloc (Nat.le_refl _) _).alloc (by simp) _⟩
    by_cases q4 : mx < 1
    ·rw [show (decide (1 = 1) && (decide (0 ≤ mn) && decide (mn ≤ 40) && (decide (mx = -1) || (decide (1 ≤ mx) && decide (mn ≤ mx) && decide (mx ≤ 40)))) && (true && decide ((0 : Int) = 0) && decide ((0 : Int) = 0) && true)) = false by simp; omega]
     go_enter Tryd.func39, Tryd.ntmps39
     go_wp2
     go_ret
     exact ⟨ret_bool (by simp <;> omega), ((Below.refl w.heap.size w).alloc (Nat.le_refl _) _).alloc (by simp) _⟩
    by_cases q5 : 40 < mx
    ·rw [show (decide (1 = 1) && (decide (0 ≤ mn) && decide (mn ≤ 40) && (decide (mx = -1) || (decide (1 ≤ mx) && decide (mn ≤ mx) && decide (mx ≤ 40)))) && (true && decide ((0 : Int) = 0) && decide ((0 : Int) = 0) && true)) = false by simp; omega]
     go_enter Tryd.func39, Tryd.ntmps39
     go_wp2
     go_ret
     exact ⟨ret_bool (by simp <;> omega), ((Below.refl w.heap.size w).alloc (Nat.le_refl _) _).alloc (by simp) _⟩
    rw [show (decide (1 = 1) && (decide (0 ≤ mn) && decide (mn ≤ 40) && (decide (mx = -1) || (decide (1 ≤ mx) && decide (mn ≤ mx) && decide (mx ≤ 40)))) && (true && decide ((0 : Int) = 0) && decide ((0 : Int) = 0) && true)) = true by simp; omega]
    go_enter Tryd.func39, Tryd.ntmps39
    go_wp2
    go_ret
    exact ⟨ret_bool (by simp <;> omega), ((Below.refl w.heap.size w).alloc (Nat.le_refl _) _).alloc (by simp) _⟩
   ·have hl1 : ((len : Int) == 1) = false := by simp; omega
    rw [show (decide (len = 1) && (decide (0 ≤ mn) && decide (mn ≤ 40) && (decide (mx = -1) || (decide (1 ≤ mx) && decide (mn ≤ mx) && decide (mx ≤ 40)))) && (true && decide ((0 : Int) = 0) && decide ((0 : Int) = 0) && true)) = false by simp; omega]
    go_enter Tryd.func39, Tryd.ntmps39
    go_wp2
    go_ret
    exact ⟨ret_bool (by simp <;> omega), ((Below.refl w.heap.size w).alloc (Nat.le_refl _) _).alloc (by simp) _⟩
end Go.Proofs.YtobbifhflnlplaaDoor.S7
namespace Go.Proofs.YtobbifhflnlplaaDoor.S7
open Lib (hid)
open Go.RowKit
open Go.Tree7
open S5 (nl nl_length nl_small at_nl nl_at)
set_option maxRecDepth 10000 in
set_option maxHeartbeats 4000000 in
theorem rone_in (f : Nat → Bool) (k : Int) (len : Nat) (mn mx lv : Int) (tx : ByteArray) (hlen : len ≤ 9223372036854775807) (htx : tx.size ≤ 9223372036854775807) (w : World) :
  Calls Tryd.prog 39 #[.agg #[.int .i64 k, .int .u64 (S1.wd f 0), .int .u64 (S1.wd f 1), .int .u64 (S1.wd f 2), .int .u64 (S1.wd f 3), .slice none 0 0, .int .i64 mn, .int .i64 mx, .string tx, .int .i64 lv, .int .i64 len]] w fun e w' => e = .returned (.bool (okB f k len mn mx tx)) ∧ Below w.heap.size w w' := by
 obtain ⟨E, hE⟩ : ∃ E : Bool, S1.eqB f S1.noS = E := ⟨_, rfl⟩
 have he : ∀ w, (Op.equalIn 10000 23 (.agg #[.int .u64 (S1.wd f 0), .int .u64 (S1.wd f 1), .int .u64 (S1.wd f 2), .int .u64 (S1.wd f 3)]) (.agg #[.int .u64 0, .int .u64 0, .int .u64 0, .int .u64 0])).run Tryd.prog w = .ok E w := fun w => by
  rw [eqW4, ← hE]
  simp [S1.eqB, S1.no_wd]
 obtain ⟨te, hte⟩ : ∃ te : Bool, tx.toList.isEmpty = te := ⟨_, rfl⟩
 have D := hid (fun w => risName_in htx (nameB_iff tx) w)
 obtain ⟨nm, hnm⟩ : ∃ nm : Bool, nameB tx = nm := ⟨_, rfl⟩
 rw [hnm] at D
 by_cases k1 : k = 1
 ·subst k1
  have e : okB f 1 len mn mx tx = (decide (len = 0) && plainB S1.noS mn mx tx) := rfl
  rw [e]
  unfold plainB
  clear e
  rw [empty_noS, hte]
  clear D
  by_cases hl : len = 0
  ·subst hl
   go_enter Tryd.func39, Tryd.ntmps39
   go_wp2
   all_goals
    go_ret
    exact ⟨ret_bool (by simp_all <;> omega), ((Below.refl w.heap.size w).alloc (Nat.le_refl _) _).alloc (by simp) _⟩
  ·have hl1 : ((len : Int) == 0) = false := by simp; omega
   go_enter Tryd.func39, Tryd.ntmps39
   go_wp2
   all_goals
    go_ret
    exact ⟨ret_bool (by simp_all <;> omega), ((Below.refl w.heap.size w).alloc (Nat.le_refl _) _).alloc (by simp) _⟩
 by_cases k2 : k = 2
 ·subst k2
  have e : okB f 2 len mn mx tx = (plainB f mn mx tx) := rfl
  rw [e]
  unfold plainB
  clear e k1
  rw [hE, hte]
  clear D
  go_enter Tryd.func39, Tryd.ntmps39
  go_wp2
  all_goals
   go_ret
   exact ⟨ret_bool (by simp_all <;> omega), ((Below.refl w.heap.size w).alloc (Nat.le_refl _) _).alloc (by simp) _⟩
 by_cases k3 : k = 3
 ·subst k3
  have e : okB f 3 len mn mx tx = (decide (2 ≤ len) && plainB f mn mx tx) := rfl
  rw [e]
  unfold plainB
  clear e k1 k2
  rw [hE, hte]
  clear D
  by_cases hl : 2 ≤ len
  ·have d1 : decide ((1 : Int) < (len : Int)) = true := by simp; omega
   go_enter Tryd.func39, Tryd.ntmps39
   go_wp2
   all_goals
    go_ret
    exact ⟨ret_bool (by simp_all <;> omega), ((Below.refl w.heap.size w).alloc (Nat.le_refl _) _).alloc (by simp) _⟩
  ·have d1 : decide ((1 : Int) < (len : Int)) = false := by simp; omega
   go_enter Tryd.func39, Tryd.ntmps39
   go_wp2
   all_goals
    go_ret
    exact ⟨ret_bool (by simp_all <;> omega), ((Below.refl w.heap.size w).alloc (Nat.le_refl _) _).alloc (by simp) _⟩
 by_cases k4 : k = 4
 ·subst k4
  exact rone4_in f len mn mx lv tx hlen htx w
 by_cases k5 : k = 5
 ·subst k5
  have e : okB f 5 len mn mx tx = (decide (len = 0) && nameB tx && plainB f mn mx ⟨#[]⟩) := rfl
  rw [e]
  unfold plainB
  clear e k1 k2 k3 k4
  rw [hE, hnm, emptyStr]
  by_cases hl : len = 0
  ·subst hl
   go_enter Tryd.func39, Tryd.ntmps39
   go_wp2_with (go_at_call 65; (with_reducible refine (D.out _).mono ?_); rintro e w1 ⟨rfl, rfl⟩)
   all_goals
    go_ret
    exact ⟨ret_bool (by simp_all <;> omega), ((Below.refl w.heap.size w).alloc (Nat.le_refl _) _).alloc (by simp) _⟩
  ·have hl1 : ((len : Int) == 0) = false := by simp; omega
   go_enter Tryd.func39, Tryd.ntmps39
   go_wp2_with (go_at_call 65; (with_reducible refine (D.out _).mono ?_); rintro e w1 ⟨rfl, rfl⟩)
   all_goals
    go_ret
    exact ⟨ret_bool (by simp_all <;> omega), ((Below.refl w.heap.size w).alloc (Nat.le_refl _) _).alloc (by simp) _⟩
 have e : okB f k len mn mx tx = false := by unfold okB; rw [if_neg k1, if_neg k2, if_neg k3, if_neg k4, if_neg k5]
 rw [e]
 clear e D
 go_enter Tryd.func39, Tryd.ntmps39
 go_wp2
 all_goals
  go_ret
  exact ⟨ret_bool (by simp_all <;> omega), ((Below.refl w.heap.size w).alloc (Nat.le_refl _) _).alloc (by simp) _⟩
end Go.Proofs.YtobbifhflnlplaaDoor.S7
