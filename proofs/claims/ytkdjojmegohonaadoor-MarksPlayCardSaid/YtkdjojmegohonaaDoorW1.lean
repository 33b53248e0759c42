/- Contracts of the small methods of the document's marks: Size, all, fits, Has. Each reads only. -/
import Derived.Test.YtkdjojmegohonaaDoorW0
import Derived.Test.YtkdjojmegohonaaDoorR
import Derived.Lib.Hide
namespace Go.Proofs.YtkdjojmegohonaaDoor
open Go.RowKit
theorem word_bit (f : Nat → Bool) (i : Nat) : (bits .and .u64 ((wd f (i / 64) : Int) / 2 ^ (i % 64)) 1 == 1) = f i := by
  have h1 := (bitsN (wd f (i / 64) / 2 ^ (i % 64)) 1 (Nat.lt_of_le_of_lt (Nat.div_le_self _ _) (wd_lt f _)) (by decide)).1
  have e : ((wd f (i / 64) : Int) / 2 ^ (i % 64)) = ((wd f (i / 64) / 2 ^ (i % 64) : Nat) : Int) := by simp
  rw [e]
  have h1' : bits .and .u64 ((wd f (i / 64) / 2 ^ (i % 64) : Nat) : Int) 1 = _ := h1
  rw [h1', Nat.and_one_is_mod]
  have hb := testBit_wd f (i / 64) (i % 64)
  rw [Nat.testBit_eq_decide_div_mod_eq] at hb
  have e3 : i % 64 < 64 := Nat.mod_lt _ (by decide)
  have e2 : 64 * (i / 64) + i % 64 = i := Nat.div_add_mod i 64
  rw [e2] at hb
  simp only [e3, decide_true, Bool.true_and] at hb
  rw [← hb, Bool.eq_iff_iff, beq_iff_eq, decide_eq_true_eq]
  omega
section
variable {w : World} {b g n : Nat} {f : Nat → Bool}
theorem size_in (h : Mk w b g n f) : Calls Tryd.prog 28 #[.pointer (some ⟨b, 0, none⟩)] w fun e w' => e = .returned (.int .i64 n) ∧ w = w' := by
  have h0 := h.c0
  clear h
  go_enter Tryd.func28, Tryd.ntmps28
  go_wp2
  go_ret
  exact ⟨rfl, rfl⟩
theorem all_in (h : Mk w b g n f) : Calls Tryd.prog 23 #[.pointer (some ⟨b, 0, none⟩)] w fun e w' => e = .returned (.slice (some ⟨g, 0, none⟩) (kw n) (kw n)) ∧ w = w' := by
  have h0 := h.c1
  clear h
  generalize kw n = K at *
  go_enter Tryd.func23, Tryd.ntmps23
  go_wp2
  go_ret
  exact ⟨rfl, rfl⟩
theorem fits_yes (h : Mk w b g n f) {i : Nat} (hi : i < n) : Calls Tryd.prog 21 #[.pointer (some ⟨b, 0, none⟩), .int .i64 i] w fun e w' => e = .returned (.bool true) ∧ w = w' := by
  have hs := h.le
  have q : (0 : Int) ≤ i := by omega
  have q2 : decide ((0 : Int) ≤ i) = true := by simp
  go_enter Tryd.func21, Tryd.ntmps21
  go_wp2_with (go_at_call 28; refine (size_in h).mono ?_; rintro e w' ⟨rfl, rfl⟩)
  go_ret
  exact ⟨ret_bool (by simp [hi]), rfl⟩
theorem fits_no (h : Mk w b g n f) {i : Int} (hi : i < 0 ∨ n ≤ i) : Calls Tryd.prog 21 #[.pointer (some ⟨b, 0, none⟩), .int .i64 i] w fun e w' => e = .returned (.bool false) ∧ w = w' := by
  by_cases h1 : i < 0
  · have q2 : decide ((0 : Int) ≤ i) = false := by simp [h1]
    go_enter Tryd.func21, Tryd.ntmps21
    go_wp2_with (go_at_call 28; refine (size_in h).mono ?_; rintro e w' ⟨rfl, rfl⟩)
    go_ret
    exact ⟨rfl, rfl⟩
  · have h2 : (n : Int) ≤ i := by omega
    have q2 : decide ((0 : Int) ≤ i) = true := by simpa using h1
    go_enter Tryd.func21, Tryd.ntmps21
    go_wp2_with (go_at_call 28; refine (size_in h).mono ?_; rintro e w' ⟨rfl, rfl⟩)
    go_ret
    exact ⟨ret_bool (by simpa using h2), rfl⟩
theorem has_no (h : Mk w b g n f) {i : Int} (hi : i < 0 ∨ n ≤ i) : Calls Tryd.prog 22 #[.pointer (some ⟨b, 0, none⟩), .int .i64 i] w fun e w' => e = .returned (.bool false) ∧ w = w' := by
  go_enter Tryd.func22, Tryd.ntmps22
  go_wp2_with (go_at_call 21; refine (fits_no h hi).mono ?_; rintro e w' ⟨rfl, rfl⟩)
  go_ret
  exact ⟨rfl, rfl⟩
theorem has_yes (h : Mk w b g n f) {i : Nat} (hi : i < n) : Calls Tryd.prog 22 #[.pointer (some ⟨b, 0, none⟩), .int .i64 i] w fun e w' => e = .returned (.bool (f i)) ∧ w = w' := by
  have hs := h.le
  have hc := h.cw (kw_lt hi)
  have h1 := h.c1
  have hk := kw_lt hi
  have hb := word_bit f i
  generalize kw n = K at *
  go_enter Tryd.func22, Tryd.ntmps22
  go_wp2_with (go_at_call 21; refine (fits_yes h hi).mono ?_; rintro e w' ⟨rfl, rfl⟩)
  go_ret
  exact ⟨rfl, rfl⟩
end
end Go.Proofs.YtkdjojmegohonaaDoor
