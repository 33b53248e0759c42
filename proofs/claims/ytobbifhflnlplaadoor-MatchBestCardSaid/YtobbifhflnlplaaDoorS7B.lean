/- Texts merged: S7W5, S7W6, S7W7. -/
import Derived.BigQuiet
import Derived.OpenShut
import Derived.Lib.Hide
import Derived.Test.YtobbifhflnlplaaDoorS7K
import Derived.Test.YtobbifhflnlplaaDoorS1A
namespace Go.Proofs.YtobbifhflnlplaaDoor.S7
open Lib (hid)
open Go.RowKit
open Go.Tree7
open S5 (nl nl_length nl_small at_nl nl_at)
def boundsB (mn mx : Int) : Bool := decide (0 ≤ mn) && decide (mn ≤ 40) && (decide (mx = -1) || (decide (1 ≤ mx) && decide (mn ≤ mx) && decide (mx ≤ 40)))
set_option maxRecDepth 10000 in
set_option maxHeartbeats 2000000 in
theorem bounds_in (mn mx : Int) (w : World) : Calls Tryd.prog 96 #[.int .i64 mn, .int .i64 mx] w fun e w' => e = .returned (.bool (boundsB mn mx)) ∧ w = w' := by
 unfold boundsB
 go_enter Tryd.func96, Tryd.ntmps96
 go_wp2
 all_goals
  go_ret
  exact ⟨ret_bool (by rw [Bool.eq_iff_iff]; simp; omega), rfl⟩
theorem box_cells {w w1 : World} {cs : Array Value} {t : TypeId} (hb : Below (w.alloc (.cells cs t)).heap.size (w.alloc (.cells cs t)) w1) : ∀ q v, cs[q]? = some v → w1.cell? ⟨w.heap.size, q, none⟩ = some v := fun q v h => by
 have hk : w1.heap[w.heap.size]? = some (.cells cs t (0, 0)) := (hb.block _ (by simp)).trans (World.alloc_heap_new w _)
 rw [cell_of_row _ _ _ _ _ (0, 0) hk]; exact h
def plainB (f : Nat → Bool) (mn mx : Int) (tx : ByteArray) : Bool := S1.eqB f S1.noS && decide (mn = 0) && decide (mx = 0) && tx.toList.isEmpty
def NCells (f : Nat → Bool) (k : Int) (p : Option Addr) (len cap : Nat) (mn mx : Int) (tx : ByteArray) : Array Value := #[.int .i64 k, .int .u64 (S1.wd f 0), .int .u64 (S1.wd f 1), .int .u64 (S1.wd f 2), .int .u64 (S1.wd f 3), .slice p len cap, .int .i64 mn, .int .i64 mx, .string tx]
set_option maxRecDepth 10000 in
set_option maxHeartbeats 2000000 in
theorem plain_in (f : Nat → Bool) (k : Int) (p : Option Addr) (len cap : Nat) (mn mx : Int) (tx : ByteArray) (w : World) : Calls Tryd.prog 95 #[.agg (NCells f k p len cap mn mx tx)] w fun e w' => e = .returned (.bool (plainB f mn mx tx)) ∧ Below w.heap.size w w' := by
 have C := S1.empty_in f (w.alloc (.cells (NCells f k p len cap mn mx tx) 27))
 unfold plainB
 generalize S1.eqB f S1.noS = r at *
 unfold NCells at *
 replace C := hid C
 have hB := hid ((Below.refl w.heap.size w).alloc (Nat.le_refl _) (.cells #[.int .i64 k, .int .u64 (S1.wd f 0), .int .u64 (S1.wd f 1), .int .u64 (S1.wd f 2), .int .u64 (S1.wd f 3), .slice p len cap, .int .i64 mn, .int .i64 mx, .string tx] 27))
 go_enter Tryd.func95, Tryd.ntmps95
 go_wp2_with (go_at_call 85; (with_reducible refine C.out.mono ?_); rintro e w1 ⟨rfl, hb⟩; have c6 := box_cells hb 6 _ rfl; have c7 := box_cells hb 7 _ rfl; have c8 := box_cells hb 8 _ rfl; replace hb := hid hb)
 all_goals
  go_ret
  refine ⟨ret_bool ?_, hB.out.trans (hb.out.mono (by simp))⟩
  simp_all
end Go.Proofs.YtobbifhflnlplaaDoor.S7
namespace Go.Proofs.YtobbifhflnlplaaDoor.S7
open Lib (hid)
open Go.RowKit
open Go.Tree7
open S5 (nl nl_length nl_small at_nl nl_at)
set_option maxRecDepth 10000 in
set_option maxHeartbeats 2000000 in
theorem isName_in {s : ByteArray} (hs : s.size ≤ 9223372036854775807) {r : Bool} (hr : r = true ↔ NameOk (nl s)) (w : World) :
  Calls Tryd.prog 89 #[.string s] w fun e w' => e = .returned (.bool r) ∧ w = w' := by
 have hn := nl_length s
 have no : ¬ NameOk (nl s) → r = false := fun h => by cases r; rfl; exact absurd (hr.1 rfl) h
 by_cases h0 : s.size < 1
 ·have hno := hid (no fun h => by have := h.1; omega)
  clear hr no hn
  go_enter Tryd.func89, Tryd.ntmps89
  go_wp2
  go_ret
  exact ⟨ret_bool hno.out.symm, rfl⟩
 by_cases h1 : 12 < s.size
 ·have hno := hid (no fun h => by have := h.2.1; omega)
  clear hr no hn
  go_enter Tryd.func89, Tryd.ntmps89
  go_wp2
  go_ret
  exact ⟨ret_bool hno.out.symm, rfl⟩
 have yes : (∀ j, j < s.size → ∀ x : Nat, (nl s)[j]? = some x → NameChar x ∧ (j = 0 → 97 ≤ x ∧ x ≤ 122)) → r = true := fun h => hr.2 ⟨by omega, by omega, fun c' h' => (h 0 (by omega) c' h').2 rfl, fun j x hx => (h j (by rw [← hn]; exact (List.getElem?_eq_some_iff.1 hx).1) x hx).1⟩
 have no2 : ∀ (k x : Nat), (nl s)[k]? = some x → ¬ (NameChar x ∧ (k = 0 → 97 ≤ x ∧ x ≤ 122)) → r = false := fun k x hx hc => no fun h => hc ⟨h.2.2.2 k x hx, fun e => by subst e; exact h.2.2.1 x hx⟩
 replace yes := hid yes
 replace no2 := hid no2
 have hat := hid (fun k (hk : k < s.size) => nl_at s k hk)
 clear hr no hn
 go_enter Tryd.func89, Tryd.ntmps89
 go_wp2
 go_loop [16] (fun i => ∃ k : Nat, k ≤ s.size ∧ i = .int .i64 k ∧ Hid (∀ j, j < k → ∀ x : Nat, (nl s)[j]? = some x → NameChar x ∧ (j = 0 → 97 ≤ x ∧ x ≤ 122))) (fun i => s.size - (intOf i).toNat)
 case atStart => exact ⟨0, Nat.zero_le _, rfl, hid fun j hj => by omega⟩
 case round =>
  obtain ⟨k, hk, rfl, hok⟩ := hrel
  by_cases hlt : k < s.size
  ·have hx0 := hat.out k hlt
   obtain ⟨x, hx⟩ : ∃ x, (s[k]).toNat = x := ⟨_, rfl⟩
   rw [hx] at hx0
   by_cases hch : NameChar x ∧ (k = 0 → 97 ≤ x ∧ x ≤ 122)
   ·have hok2 : Hid (∀ j, j < k + 1 → ∀ x : Nat, (nl s)[j]? = some x → NameChar x ∧ (j = 0 → 97 ≤ x ∧ x ≤ 122)) := hid fun j hj y hy => by
     by_cases e : j = k
     ·subst e; rw [hx0] at hy; cases hy; exact hch
     ·exact hok.out j (by omega) y hy
    clear hx0 hok
    obtain ⟨(⟨q1, q2⟩ | ⟨q1, q2⟩), q3⟩ := hch
    ·clear q3
     have d1 : decide ((x : Int) ≥ 97) = true := by simp; omega
     have d2 : decide ((x : Int) ≤ 122) = true := by simp; omega
     by_cases hdg : 48 ≤ x ∧ x ≤ 57
     ·omega
     have d3 : decide ((x : Int) ≥ 48) = true := by simp; omega
     have d4 : decide ((x : Int) ≤ 57) = false := by simp; omega
     go_wp2
     go_round
     case rel => exact ⟨k + 1, by omega, by go_num, hok2⟩
     case measure => simp [intOf]; omega
    ·have hk0 : k ≠ 0 := fun e => by have := q3 e; omega
     clear q3
     have d1 : decide ((x : Int) ≥ 97) = false := by simp; omega
     have d3 : decide ((x : Int) ≥ 48) = true := by simp; omega
     have d4 : decide ((x : Int) ≤ 57) = true := by simp; omega
     go_wp2
     go_round
     case rel => exact ⟨k + 1, by omega, by go_num, hok2⟩
     case measure => simp [intOf]; omega
   ·have hno := hid (no2.out k x hx0 hch)
    unfold NameChar at hch
    clear hx0 hok
    have hcase : (122 < x) ∨ (x < 97 ∧ 57 < x) ∨ x < 48 ∨ (48 ≤ x ∧ x ≤ 57 ∧ k = 0) := by
     by_cases q1 : 122 < x
     ·exact .inl q1
     ·by_cases q2 : x < 48
      ·exact .inr (.inr (.inl q2))
      ·by_cases q3 : x ≤ 57
       ·exact .inr (.inr (.inr ⟨by omega, q3, by by_cases e : k = 0; exact e; exact absurd ⟨.inr ⟨by omega, q3⟩, fun e' => absurd e' e⟩ hch⟩))
       ·exact .inr (.inl ⟨by by_cases e : x < 97; exact e; exact absurd ⟨.inl ⟨by omega, by omega⟩, fun _ => ⟨by omega, by omega⟩⟩ hch, by omega⟩)
    clear hch
    rcases hcase with q | ⟨q, q'⟩ | q | ⟨q, q', q''⟩
    ·have d1 : decide ((x : Int) ≥ 97) = true := by simp; omega
     have d2 : decide ((x : Int) ≤ 122) = false := by simp; omega
     have d3 : decide ((x : Int) ≥ 48) = true := by simp; omega
     have d4 : decide ((x : Int) ≤ 57) = false := by simp; omega
     go_wp2
     all_goals
      go_ret
      exact ⟨ret_bool hno.out.symm, rfl⟩
    ·have d1 : decide ((x : Int) ≥ 97) = false := by simp; omega
     have d3 : decide ((x : Int) ≥ 48) = true := by simp; omega
     have d4 : decide ((x : Int) ≤ 57) = false := by simp; omega
     go_wp2
     all_goals
      go_ret
      exact ⟨ret_bool hno.out.symm, rfl⟩
    ·have d1 : decide ((x : Int) ≥ 97) = false := by simp; omega
     have d3 : decide ((x : Int) ≥ 48) = false := by simp; omega
     go_wp2
     all_goals
      go_ret
      exact ⟨ret_bool hno.out.symm, rfl⟩
    ·subst q''
     have d1 : decide ((x : Int) ≥ 97) = false := by simp; omega
     have d3 : decide ((x : Int) ≥ 48) = true := by simp; omega
     have d4 : decide ((x : Int) ≤ 57) = true := by simp; omega
     go_wp2
     all_goals
      go_ret
      exact ⟨ret_bool hno.out.symm, rfl⟩
  ·have hyes := hid (yes.out fun j hj => hok.out j (by omega))
   clear hok
   go_wp2
   go_ret
   exact ⟨ret_bool hyes.out.symm, rfl⟩
end Go.Proofs.YtobbifhflnlplaaDoor.S7
namespace Go.Proofs.YtobbifhflnlplaaDoor.S7
open Lib (hid)
open Go.RowKit
open Go.Tree7
open S5 (nl nl_length nl_small at_nl nl_at)
open Classical in
noncomputable def nameB (s : ByteArray) : Bool := decide (NameOk (nl s))
theorem nameB_iff (s : ByteArray) : nameB s = true ↔ NameOk (nl s) := by unfold nameB; simp
noncomputable def okB (f : Nat → Bool) (k : Int) (len : Nat) (mn mx : Int) (tx : ByteArray) : Bool :=
 if k = 1 then decide (len = 0) && plainB S1.noS mn mx tx
 else if k = 2 then plainB f mn mx tx
 else if k = 3 then decide (2 ≤ len) && plainB f mn mx tx
 else if k = 4 then decide (len = 1) && boundsB mn mx && plainB f 0 0 tx
 else if k = 5 then decide (len = 0) && nameB tx && plainB f mn mx ⟨#[]⟩
 else false
theorem no_wd' (k : Nat) : ((S1.wd S1.noS k : Nat) : Int) = 0 := by rw [S1.no_wd]; rfl
theorem empty_noS : S1.eqB S1.noS S1.noS = true := S1.eqB_true fun _ _ => rfl
set_option maxRecDepth 10000 in
set_option maxHeartbeats 2000000 in
theorem sound_in (f : Nat → Bool) (k : Int) (p : Option Addr) (len cap : Nat) (mn mx : Int) (tx : ByteArray) (hlen : len ≤ 9223372036854775807) (htx : tx.size ≤ 9223372036854775807) (w : World) :
  Calls Tryd.prog 79 #[.agg (NCells f k p len cap mn mx tx)] w fun e w' => e = .returned (.bool (okB f k len mn mx tx)) ∧ Below w.heap.size w w' := by
 have tri : ∀ {b : Bool}, b = true ∨ b = false := fun {b} => by cases b <;> simp
 by_cases k1 : k = 1
 ·subst k1
  have C := fun w => plain_in S1.noS 1 p len cap mn mx tx w
  have e : okB f 1 len mn mx tx = (decide (len = 0) && plainB S1.noS mn mx tx) := rfl
  rw [e]
  simp only [NCells, no_wd'] at C
  generalize plainB S1.noS mn mx tx = r at *
  replace C := hid C
  unfold NCells
  clear e
  by_cases hl : len = 0
  ·subst hl
   go_enter Tryd.func79, Tryd.ntmps79
   go_wp2_with (go_at_call 95; (with_reducible refine (C.out _).mono ?_); rintro e w1 ⟨rfl, hb⟩; replace hb := hid hb)
   go_ret
   exact ⟨ret_bool (by simp), by first | exact ((Below.refl w.heap.size w).alloc (Nat.le_refl _) _).trans (hb.out.mono (by simp)) | exact (Below.refl w.heap.size w).alloc (Nat.le_refl _) _⟩
  ·have hl1 : decide (len = 0) = false := by simp [hl]
   go_enter Tryd.func79, Tryd.ntmps79
   go_wp2_with (go_at_call 95; (with_reducible refine (C.out _).mono ?_); rintro e w1 ⟨rfl, hb⟩; replace hb := hid hb)
   go_ret
   exact ⟨ret_bool (by simp [hl1]), by first | exact ((Below.refl w.heap.size w).alloc (Nat.le_refl _) _).trans (hb.out.mono (by simp)) | exact (Below.refl w.heap.size w).alloc (Nat.le_refl _) _⟩
 by_cases k2 : k = 2
 ·subst k2
  have C := fun w => plain_in f 2 p len cap mn mx tx w
  have e : okB f 2 len mn mx tx = plainB f mn mx tx := rfl
  rw [e]
  generalize plainB f mn mx tx = r at *
  replace C := hid C
  unfold NCells at *
  clear e k1
  go_enter Tryd.func79, Tryd.ntmps79
  go_wp2_with (go_at_call 95; (with_reducible refine (C.out _).mono ?_); rintro e w1 ⟨rfl, hb⟩; replace hb := hid hb)
  go_ret
  exact ⟨ret_bool (by rfl), by first | exact ((Below.refl w.heap.size w).alloc (Nat.le_refl _) _).trans (hb.out.mono (by simp)) | exact (Below.refl w.heap.size w).alloc (Nat.le_refl _) _⟩
 by_cases k3 : k = 3
 ·subst k3
  have C := fun w => plain_in f 3 p len cap mn mx tx w
  have e : okB f 3 len mn mx tx = (decide (2 ≤ len) && plainB f mn mx tx) := rfl
  rw [e]
  generalize plainB f mn mx tx = r at *
  replace C := hid C
  unfold NCells at *
  clear e k1 k2
  by_cases hl : 2 ≤ len
  ·have d1 : decide ((len : Int) ≥ 2) = true := by simp; omega
   have d2 : decide (2 ≤ len) = true := by simp [hl]
   rw [d2]
   clear d2
   go_enter Tryd.func79, Tryd.ntmps79
   go_wp2_with (go_at_call 95; (with_reducible refine (C.out _).mono ?_); rintro e w1 ⟨rfl, hb⟩; replace hb := hid hb)
   go_ret
   exact ⟨ret_bool (by simp), by first | exact ((Below.refl w.heap.size w).alloc (Nat.le_refl _) _).trans (hb.out.mono (by simp)) | exact (Below.refl w.heap.size w).alloc (Nat.le_refl _) _⟩
  ·have d1 : decide ((len : Int) ≥ 2) = false := by simp; omega
   have d2 : decide (2 ≤ len) = false := by simp; omega
   rw [d2]
   clear d2
   go_enter Tryd.func79, Tryd.ntmps79
   go_wp2_with (go_at_call 95; (with_reducible refine (C.out _).mono ?_); rintro e w1 ⟨rfl, hb⟩; replace hb := hid hb)
   go_ret
   exact ⟨ret_bool (by simp), by first | exact ((Below.refl w.heap.size w).alloc (Nat.le_refl _) _).trans (hb.out.mono (by simp)) | exact (Below.refl w.heap.size w).alloc (Nat.le_refl _) _⟩
 by_cases k4 : k = 4
 ·subst k4
  have C := fun w => plain_in f 4 p len cap 0 0 tx w
  have D := fun w => bounds_in mn mx w
  have e : okB f 4 len mn mx tx = (decide (len = 1) && boundsB mn mx && plainB f 0 0 tx) := rfl
  rw [e]
  generalize plainB f 0 0 tx = r at *
  generalize boundsB mn mx = q at *
  replace C := hid C
  replace D := hid D
  unfold NCells at *
  clear e k1 k2 k3
  have hcase : (len = 1 ∧ q = true) ∨ (len = 1 ∧ q = false) ∨ len ≠ 1 := by
   by_cases h : len = 1
   ·cases q <;> simp [h]
   ·exact .inr (.inr h)
  rcases hcase with ⟨hl, rfl⟩ | ⟨hl, rfl⟩ | hl
  ·subst hl
   go_enter Tryd.func79, Tryd.ntmps79
   go_wp2_with (first | (go_at_call 95; (with_reducible refine (C.out _).mono ?_); rintro e w1 ⟨rfl, hb⟩; replace hb := hid hb) | (go_at_call 96; (with_reducible refine (D.out _).mono ?_); rintro e w1 ⟨rfl, rfl⟩))
   go_ret
   exact ⟨ret_bool (by simp), by first | exact ((Below.refl w.heap.size w).alloc (Nat.le_refl _) _).trans (hb.out.mono (by simp)) | exact (Below.refl w.heap.size w).alloc (Nat.le_refl _) _⟩
  ·subst hl
   go_enter Tryd.func79, Tryd.ntmps79
   go_wp2_with (go_at_call 96; (with_reducible refine (D.out _).mono ?_); rintro e w1 ⟨rfl, rfl⟩)
   go_ret
   exact ⟨ret_bool (by simp), by first | exact ((Below.refl w.heap.size w).alloc (Nat.le_refl _) _).trans (hb.out.mono (by simp)) | exact (Below.refl w.heap.size w).alloc (Nat.le_refl _) _⟩
  ·have d2 : decide (len = 1) = false := by simp [hl]
   have d1 : ((len : Int) == 1) = false := by simp; omega
   rw [d2]
   clear d2
   go_enter Tryd.func79, Tryd.ntmps79
   go_wp2_with (go_at_call 96; (with_reducible refine (D.out _).mono ?_); rintro e w1 ⟨rfl, rfl⟩)
   go_ret
   exact ⟨ret_bool (by simp), by first | exact ((Below.refl w.heap.size w).alloc (Nat.le_refl _) _).trans (hb.out.mono (by simp)) | exact (Below.refl w.heap.size w).alloc (Nat.le_refl _) _⟩
 by_cases k5 : k = 5
 ·subst k5
  have C := fun w => plain_in f 5 p len cap mn mx ⟨#[]⟩ w
  have D := fun w => isName_in htx (nameB_iff tx) w
  have e : okB f 5 len mn mx tx = (decide (len = 0) && nameB tx && plainB f mn mx ⟨#[]⟩) := rfl
  rw [e]
  generalize plainB f mn mx ⟨#[]⟩ = r at *
  generalize nameB tx = q at *
  replace C := hid C
  replace D := hid D
  unfold NCells at *
  clear e k1 k2 k3 k4
  have hcase : (len = 0 ∧ q = true) ∨ (len = 0 ∧ q = false) ∨ len ≠ 0 := by
   by_cases h : len = 0
   ·cases q <;> simp [h]
   ·exact .inr (.inr h)
  rcases hcase with ⟨hl, rfl⟩ | ⟨hl, rfl⟩ | hl
  ·subst hl
   go_enter Tryd.func79, Tryd.ntmps79
   go_wp2_with (first | (go_at_call 95; (with_reducible refine (C.out _).mono ?_); rintro e w1 ⟨rfl, hb⟩; replace hb := hid hb) | (go_at_call 89; (with_reducible refine (D.out _).mono ?_); rintro e w1 ⟨rfl, rfl⟩))
   go_ret
   exact ⟨ret_bool (by simp), by first | exact ((Below.refl w.heap.size w).alloc (Nat.le_refl _) _).trans (hb.out.mono (by simp)) | exact (Below.refl w.heap.size w).alloc (Nat.le_refl _) _⟩
  ·subst hl
   go_enter Tryd.func79, Tryd.ntmps79
   go_wp2_with (go_at_call 89; (with_reducible refine (D.out _).mono ?_); rintro e w1 ⟨rfl, rfl⟩)
   go_ret
   exact ⟨ret_bool (by simp), by first | exact ((Below.refl w.heap.size w).alloc (Nat.le_refl _) _).trans (hb.out.mono (by simp)) | exact (Below.refl w.heap.size w).alloc (Nat.le_refl _) _⟩
  ·have d2 : decide (len = 0) = false := by simp [hl]
   have d1 : ((len : Int) == 0) = false := by simp; omega
   rw [d2]
   clear d2
   go_enter Tryd.func79, Tryd.ntmps79
   go_wp2_with (go_at_call 89; (with_reducible refine (D.out _).mono ?_); rintro e w1 ⟨rfl, rfl⟩)
   go_ret
   exact ⟨ret_bool (by simp), by first | exact ((Below.refl w.heap.size w).alloc (Nat.le_refl _) _).trans (hb.out.mono (by simp)) | exact (Below.refl w.heap.size w).alloc (Nat.le_refl _) _⟩
 have e : okB f k len mn mx tx = false := by unfold okB; rw [if_neg k1, if_neg k2, if_neg k3, if_neg k4, if_neg k5]
 rw [e]
 unfold NCells
 clear e
 go_enter Tryd.func79, Tryd.ntmps79
 go_wp2
 go_ret
 exact ⟨ret_bool rfl, (Below.refl w.heap.size w).alloc (Nat.le_refl _) _⟩
end Go.Proofs.YtobbifhflnlplaaDoor.S7
