/- sound. -/
import Derived.Test.YtbkmoaollooomaaDoorW6
namespace Go.Proofs.YtbkmoaollooomaaDoor
open Go.RowKit
open Go.Tree7
open S5 (nl nl_length nl_small at_nl nl_at)
open Classical in
/-- A name is right. -/
noncomputable def nameB (s : ByteArray) : Bool := decide (NameOk (nl s))
theorem nameB_iff (s : ByteArray) : nameB s = true ↔ NameOk (nl s) := by unfold nameB; simp
/-- A node by itself is right. -/
noncomputable def okB (f : Nat → Bool) (k : Int) (len : Nat) (mn mx : Int) (tx : ByteArray) : Bool :=
  if k = 1 then decide (len = 0) && plainB S1.noS mn mx tx
  else if k = 2 then plainB f mn mx tx
  else if k = 3 then decide (2 ≤ len) && plainB f mn mx tx
  else if k = 4 then decide (len = 1) && boundsB mn mx && plainB f 0 0 tx
  else if k = 5 then decide (len = 0) && nameB tx && plainB f mn mx ⟨#[]⟩
  else false
theorem no_wd' (k : Nat) : ((S1.wd S1.noS k : Nat) : Int) = 0 := by rw [S1.no_wd]; rfl
theorem empty_noS : S1.eqB S1.noS S1.noS = true := S1.eqB_true fun _ _ => rfl
set_option maxRecDepth 10000 in
set_option maxHeartbeats 2000000 in
theorem sound_in (f : Nat → Bool) (k : Int) (p : Option Addr) (len cap : Nat) (mn mx : Int) (tx : ByteArray) (hlen : len ≤ 9223372036854775807) (htx : tx.size ≤ 9223372036854775807) (w : World) :
    Calls Tryd.prog 32 #[.agg (NCells f k p len cap mn mx tx)] w fun e w' => e = .returned (.bool (okB f k len mn mx tx)) ∧ Below w.heap.size w w' := by
  have tri : ∀ {b : Bool}, b = true ∨ b = false := fun {b} => by cases b <;> simp
  by_cases k1 : k = 1
  · subst k1
    have C := fun w => plain_in S1.noS 1 p len cap mn mx tx w
    have e : okB f 1 len mn mx tx = (decide (len = 0) && plainB S1.noS mn mx tx) := rfl
    rw [e]
    simp only [NCells, no_wd'] at C
    generalize plainB S1.noS mn mx tx = r at *
    replace C := Lib.hid C
    unfold NCells
    clear e
    by_cases hl : len = 0
    · subst hl
      go_enter Tryd.func32, Tryd.ntmps32
      go_wp2_with (go_at_call 44; (with_reducible refine (C.out _).mono ?_); rintro e w1 ⟨rfl, hb⟩; replace hb := Lib.hid hb)
      go_ret
      exact ⟨ret_bool (by simp), by first | exact ((Below.refl w.heap.size w).alloc (Nat.le_refl _) _).trans (hb.out.mono (by simp)) | exact (Below.refl w.heap.size w).alloc (Nat.le_refl _) _⟩
    · have hl1 : decide (len = 0) = false := by simp [hl]
      go_enter Tryd.func32, Tryd.ntmps32
      go_wp2_with (go_at_call 44; (with_reducible refine (C.out _).mono ?_); rintro e w1 ⟨rfl, hb⟩; replace hb := Lib.hid hb)
      go_ret
      exact ⟨ret_bool (by simp [hl1]), by first | exact ((Below.refl w.heap.size w).alloc (Nat.le_refl _) _).trans (hb.out.mono (by simp)) | exact (Below.refl w.heap.size w).alloc (Nat.le_refl _) _⟩
  by_cases k2 : k = 2
  · subst k2
    have C := fun w => plain_in f 2 p len cap mn mx tx w
    have e : okB f 2 len mn mx tx = plainB f mn mx tx := rfl
    rw [e]
    generalize plainB f mn mx tx = r at *
    replace C := Lib.hid C
    unfold NCells at *
    clear e k1
    go_enter Tryd.func32, Tryd.ntmps32
    go_wp2_with (go_at_call 44; (with_reducible refine (C.out _).mono ?_); rintro e w1 ⟨rfl, hb⟩; replace hb := Lib.hid hb)
    go_ret
    exact ⟨ret_bool (by rfl), by first | exact ((Below.refl w.heap.size w).alloc (Nat.le_refl _) _).trans (hb.out.mono (by simp)) | exact (Below.refl w.heap.size w).alloc (Nat.le_refl _) _⟩
  by_cases k3 : k = 3
  · subst k3
    have C := fun w => plain_in f 3 p len cap mn mx tx w
    have e : okB f 3 len mn mx tx = (decide (2 ≤ len) && plainB f mn mx tx) := rfl
    rw [e]
    generalize plainB f mn mx tx = r at *
    replace C := Lib.hid C
    unfold NCells at *
    clear e k1 k2
    by_cases hl : 2 ≤ len
    · have d1 : decide ((len : Int) ≥ 2) = true := by simp; omega
      have d2 : decide (2 ≤ len) = true := by simp [hl]
      rw [d2]
      clear d2
      go_enter Tryd.func32, Tryd.ntmps32
      go_wp2_with (go_at_call 44; (with_reducible refine (C.out _).mono ?_); rintro e w1 ⟨rfl, hb⟩; replace hb := Lib.hid hb)
      go_ret
      exact ⟨ret_bool (by simp), by first | exact ((Below.refl w.heap.size w).alloc (Nat.le_refl _) _).trans (hb.out.mono (by simp)) | exact (Below.refl w.heap.size w).alloc (Nat.le_refl _) _⟩
    · have d1 : decide ((len : Int) ≥ 2) = false := by simp; omega
      have d2 : decide (2 ≤ len) = false := by simp; omega
      rw [d2]
      clear d2
      go_enter Tryd.func32, Tryd.ntmps32
      go_wp2_with (go_at_call 44; (with_reducible refine (C.out _).mono ?_); rintro e w1 ⟨rfl, hb⟩; replace hb := Lib.hid hb)
      go_ret
      exact ⟨ret_bool (by simp), by first | exact ((Below.refl w.heap.size w).alloc (Nat.le_refl _) _).trans (hb.out.mono (by simp)) | exact (Below.refl w.heap.size w).alloc (Nat.le_refl _) _⟩
  by_cases k4 : k = 4
  · subst k4
    have C := fun w => plain_in f 4 p len cap 0 0 tx w
    have D := fun w => bounds_in mn mx w
    have e : okB f 4 len mn mx tx = (decide (len = 1) && boundsB mn mx && plainB f 0 0 tx) := rfl
    rw [e]
    generalize plainB f 0 0 tx = r at *
    generalize boundsB mn mx = q at *
    replace C := Lib.hid C
    replace D := Lib.hid D
    unfold NCells at *
    clear e k1 k2 k3
    have hcase : (len = 1 ∧ q = true) ∨ (len = 1 ∧ q = false) ∨ len ≠ 1 := by
      by_cases h : len = 1
      · cases q <;> simp [h]
      · exact .inr (.inr h)
    rcases hcase with ⟨hl, rfl⟩ | ⟨hl, rfl⟩ | hl
    · subst hl
      go_enter Tryd.func32, Tryd.ntmps32
      go_wp2_with (first | (go_at_call 44; (with_reducible refine (C.out _).mono ?_); rintro e w1 ⟨rfl, hb⟩; replace hb := Lib.hid hb) | (go_at_call 45; (with_reducible refine (D.out _).mono ?_); rintro e w1 ⟨rfl, rfl⟩))
      go_ret
      exact ⟨ret_bool (by simp), by first | exact ((Below.refl w.heap.size w).alloc (Nat.le_refl _) _).trans (hb.out.mono (by simp)) | exact (Below.refl w.heap.size w).alloc (Nat.le_refl _) _⟩
    · subst hl
      go_enter Tryd.func32, Tryd.ntmps32
      go_wp2_with (go_at_call 45; (with_reducible refine (D.out _).mono ?_); rintro e w1 ⟨rfl, rfl⟩)
      go_ret
      exact ⟨ret_bool (by simp), by first | exact ((Below.refl w.heap.size w).alloc (Nat.le_refl _) _).trans (hb.out.mono (by simp)) | exact (Below.refl w.heap.size w).alloc (Nat.le_refl _) _⟩
    · have d2 : decide (len = 1) = false := by simp [hl]
      have d1 : ((len : Int) == 1) = false := by simp; omega
      rw [d2]
      clear d2
      go_enter Tryd.func32, Tryd.ntmps32
      go_wp2_with (go_at_call 45; (with_reducible refine (D.out _).mono ?_); rintro e w1 ⟨rfl, rfl⟩)
      go_ret
      exact ⟨ret_bool (by simp), by first | exact ((Below.refl w.heap.size w).alloc (Nat.le_refl _) _).trans (hb.out.mono (by simp)) | exact (Below.refl w.heap.size w).alloc (Nat.le_refl _) _⟩
  by_cases k5 : k = 5
  · subst k5
    have C := fun w => plain_in f 5 p len cap mn mx ⟨#[]⟩ w
    have D := fun w => isName_in htx (nameB_iff tx) w
    have e : okB f 5 len mn mx tx = (decide (len = 0) && nameB tx && plainB f mn mx ⟨#[]⟩) := rfl
    rw [e]
    generalize plainB f mn mx ⟨#[]⟩ = r at *
    generalize nameB tx = q at *
    replace C := Lib.hid C
    replace D := Lib.hid D
    unfold NCells at *
    clear e k1 k2 k3 k4
    have hcase : (len = 0 ∧ q = true) ∨ (len = 0 ∧ q = false) ∨ len ≠ 0 := by
      by_cases h : len = 0
      · cases q <;> simp [h]
      · exact .inr (.inr h)
    rcases hcase with ⟨hl, rfl⟩ | ⟨hl, rfl⟩ | hl
    · subst hl
      go_enter Tryd.func32, Tryd.ntmps32
      go_wp2_with (first | (go_at_call 44; (with_reducible refine (C.out _).mono ?_); rintro e w1 ⟨rfl, hb⟩; replace hb := Lib.hid hb) | (go_at_call 23; (with_reducible refine (D.out _).mono ?_); rintro e w1 ⟨rfl, rfl⟩))
      go_ret
      exact ⟨ret_bool (by simp), by first | exact ((Below.refl w.heap.size w).alloc (Nat.le_refl _) _).trans (hb.out.mono (by simp)) | exact (Below.refl w.heap.size w).alloc (Nat.le_refl _) _⟩
    · subst hl
      go_enter Tryd.func32, Tryd.ntmps32
      go_wp2_with (go_at_call 23; (with_reducible refine (D.out _).mono ?_); rintro e w1 ⟨rfl, rfl⟩)
      go_ret
      exact ⟨ret_bool (by simp), by first | exact ((Below.refl w.heap.size w).alloc (Nat.le_refl _) _).trans (hb.out.mono (by simp)) | exact (Below.refl w.heap.size w).alloc (Nat.le_refl _) _⟩
    · have d2 : decide (len = 0) = false := by simp [hl]
      have d1 : ((len : Int) == 0) = false := by simp; omega
      rw [d2]
      clear d2
      go_enter Tryd.func32, Tryd.ntmps32
      go_wp2_with (go_at_call 23; (with_reducible refine (D.out _).mono ?_); rintro e w1 ⟨rfl, rfl⟩)
      go_ret
      exact ⟨ret_bool (by simp), by first | exact ((Below.refl w.heap.size w).alloc (Nat.le_refl _) _).trans (hb.out.mono (by simp)) | exact (Below.refl w.heap.size w).alloc (Nat.le_refl _) _⟩
  have e : okB f k len mn mx tx = false := by unfold okB; rw [if_neg k1, if_neg k2, if_neg k3, if_neg k4, if_neg k5]
  rw [e]
  unfold NCells
  clear e
  go_enter Tryd.func32, Tryd.ntmps32
  go_wp2
  go_ret
  exact ⟨ret_bool rfl, (Below.refl w.heap.size w).alloc (Nat.le_refl _) _⟩
end Go.Proofs.YtbkmoaollooomaaDoor
