/- Contracts of Put and Out of the document's marks. -/
import Derived.Test.YtkdjojmegohonaaDoorW1
import Derived.Test.YtkdjojmegohonaaDoorM2
import Derived.ChangeAlike
namespace Go.Proofs.YtkdjojmegohonaaDoor
open Go.RowKit
section
variable {w : World} {b g n : Nat} {f : Nat → Bool}
theorem put_top {i : Nat} (hi : i < n) (ht : ∀ j, n ≤ j → f j = false) : ∀ j, n ≤ j → orS f (oneS i) j = false := fun j hj => by
  have : j ≠ i := by omega
  simp [orS, oneS, ht j hj, this]
theorem put_off {i : Nat} : ∀ j, j / 64 ≠ i / 64 → orS f (oneS i) j = f j := fun j hj => by
  have : j ≠ i := fun e => hj (by rw [e])
  simp [orS, oneS, this]
theorem out_top {i : Nat} (ht : ∀ j, n ≤ j → f j = false) : ∀ j, n ≤ j → andS f (notS (oneS i)) j = false := fun j hj => by simp [andS, ht j hj]
theorem out_off {i : Nat} : ∀ j, j / 64 ≠ i / 64 → andS f (notS (oneS i)) j = f j := fun j hj => by
  have : j ≠ i := fun e => hj (by rw [e])
  simp [andS, notS, oneS, this]

theorem put_out (h : Mk w b g n f) {i : Int} (hi : i < 0 ∨ n ≤ i) : Calls Tryd.prog 7 #[.pointer (some ⟨b, 0, none⟩), .int .i64 i] w fun e w' => e = .returned (.bool false) ∧ w = w' := by
  go_enter Tryd.func7, Tryd.ntmps7
  go_wp2_with (go_at_call 21; refine (fits_no h hi).mono ?_; rintro e w' ⟨rfl, rfl⟩)
  go_ret
  exact ⟨rfl, rfl⟩
theorem put_was (h : Mk w b g n f) {i : Nat} (hi : i < n) (hf : f i = true) : Calls Tryd.prog 7 #[.pointer (some ⟨b, 0, none⟩), .int .i64 i] w fun e w' => e = .returned (.bool false) ∧ w = w' := by
  have q := has_yes h hi
  rw [hf] at q
  go_enter Tryd.func7, Tryd.ntmps7
  go_wp2_with (first | (go_at_call 21; refine (fits_yes h hi).mono ?_; rintro e w' ⟨rfl, rfl⟩) | (go_at_call 22; refine q.mono ?_; rintro e w' ⟨rfl, rfl⟩))
  go_ret
  exact ⟨rfl, rfl⟩
theorem put_new (h : Mk w b g n f) {i : Nat} (hi : i < n) (hf : f i = false) : Calls Tryd.prog 7 #[.pointer (some ⟨b, 0, none⟩), .int .i64 i] w fun e w' => e = .returned (.bool true) ∧ Mk w' b g n (orS f (oneS i)) ∧ w.grownBy w' (some g) := by
  have q := has_yes h hi
  rw [hf] at q
  have hs := h.le
  have hc := h.cw (kw_lt hi)
  have h1 := h.c1
  have hk := kw_lt hi
  have hfz := h.fz (i / 64)
  have hne := h.ne
  have H := Lib.hid (put_word f i)
  generalize kw n = K at *
  go_enter Tryd.func7, Tryd.ntmps7
  go_wp2_with (first | (go_at_call 21; refine (fits_yes h hi).mono ?_; rintro e w' ⟨rfl, rfl⟩) | (go_at_call 22; refine q.mono ?_; rintro e w' ⟨rfl, rfl⟩))
  go_region
  go_wp2
  go_ret
  rw [H.out]
  exact ⟨rfl, (h.set put_off (put_top hi h.top)).drew, grown_trans (grown_set _ _ _ _) (grown_drew _)⟩

theorem out_out (h : Mk w b g n f) {i : Int} (hi : i < 0 ∨ n ≤ i) : Calls Tryd.prog 9 #[.pointer (some ⟨b, 0, none⟩), .int .i64 i] w fun e w' => e = .returned (.bool false) ∧ w = w' := by
  go_enter Tryd.func9, Tryd.ntmps9
  go_wp2_with (go_at_call 22; refine (has_no h hi).mono ?_; rintro e w' ⟨rfl, rfl⟩)
  go_ret
  exact ⟨rfl, rfl⟩
theorem out_was (h : Mk w b g n f) {i : Nat} (hi : i < n) (hf : f i = false) : Calls Tryd.prog 9 #[.pointer (some ⟨b, 0, none⟩), .int .i64 i] w fun e w' => e = .returned (.bool false) ∧ w = w' := by
  have q := has_yes h hi
  rw [hf] at q
  go_enter Tryd.func9, Tryd.ntmps9
  go_wp2_with (go_at_call 22; refine q.mono ?_; rintro e w' ⟨rfl, rfl⟩)
  go_ret
  exact ⟨rfl, rfl⟩
theorem out_old (h : Mk w b g n f) {i : Nat} (hi : i < n) (hf : f i = true) : Calls Tryd.prog 9 #[.pointer (some ⟨b, 0, none⟩), .int .i64 i] w fun e w' => e = .returned (.bool true) ∧ Mk w' b g n (andS f (notS (oneS i))) ∧ w.grownBy w' (some g) := by
  have q := has_yes h hi
  rw [hf] at q
  have hs := h.le
  have hc := h.cw (kw_lt hi)
  have h1 := h.c1
  have hk := kw_lt hi
  have hfz := h.fz (i / 64)
  have hne := h.ne
  have H := Lib.hid (out_word f i)
  generalize kw n = K at *
  go_enter Tryd.func9, Tryd.ntmps9
  go_wp2_with (go_at_call 22; refine q.mono ?_; rintro e w' ⟨rfl, rfl⟩)
  go_region
  go_wp2
  go_ret
  rw [H.out]
  exact ⟨rfl, (h.set out_off (out_top h.top)).drew, grown_trans (grown_set _ _ _ _) (grown_drew _)⟩

/-- What a set is behind a Put, an Out, of whatever number. -/
def putS (f : Nat → Bool) (n : Nat) (i : Int) : Nat → Bool := fun c => f c || (decide ((c : Int) = i) && decide (c < n))
def outS (f : Nat → Bool) (i : Int) : Nat → Bool := fun c => f c && !decide ((c : Int) = i)
/-- Was the number out, may it be in? -/
def fresh (f : Nat → Bool) (n : Nat) (i : Int) : Bool := decide (0 ≤ i ∧ i < n) && !f i.toNat
def wasIn (f : Nat → Bool) (n : Nat) (i : Int) : Bool := decide (0 ≤ i ∧ i < n) && f i.toNat
theorem put_in (h : Mk w b g n f) (i : Int) : Calls Tryd.prog 7 #[.pointer (some ⟨b, 0, none⟩), .int .i64 i] w fun e w' => e = .returned (.bool (fresh f n i)) ∧ Mk w' b g n (putS f n i) ∧ w.grownBy w' (some g) := by
  by_cases hi : i < 0 ∨ n ≤ i
  · refine (put_out h hi).mono ?_
    rintro e w' ⟨rfl, rfl⟩
    refine ⟨ret_bool (by unfold fresh; rw [decide_eq_false (by omega)]; rfl), h.congr fun c => ?_, grown_refl _⟩
    unfold putS
    by_cases e : (c : Int) = i
    · have : ¬ c < n := by omega
      simp [this]
    · simp [e]
  · obtain ⟨j, rfl⟩ := Int.eq_ofNat_of_zero_le (show 0 ≤ i by omega)
    have hj : j < n := by omega
    cases hf : f j
    · refine (put_new h hj hf).mono ?_
      rintro e w' ⟨rfl, h', hg⟩
      refine ⟨ret_bool (by simp [fresh, hj, hf]), h'.congr fun c => ?_, hg⟩
      unfold putS orS oneS
      by_cases e : c = j
      · subst e; simp [hj]
      · have : ¬ ((c : Int) = j) := by omega
        simp [e, this]
    · refine (put_was h hj hf).mono ?_
      rintro e w' ⟨rfl, rfl⟩
      refine ⟨ret_bool (by simp [fresh, hj, hf]), h.congr fun c => ?_, grown_refl _⟩
      unfold putS
      by_cases e : c = j
      · subst e; simp [hf]
      · have : ¬ ((c : Int) = j) := by omega
        simp [this]
theorem out_in (h : Mk w b g n f) (i : Int) : Calls Tryd.prog 9 #[.pointer (some ⟨b, 0, none⟩), .int .i64 i] w fun e w' => e = .returned (.bool (wasIn f n i)) ∧ Mk w' b g n (outS f i) ∧ w.grownBy w' (some g) := by
  by_cases hi : i < 0 ∨ n ≤ i
  · refine (out_out h hi).mono ?_
    rintro e w' ⟨rfl, rfl⟩
    refine ⟨ret_bool (by unfold wasIn; rw [decide_eq_false (by omega)]; rfl), h.congr fun c => ?_, grown_refl _⟩
    unfold outS
    by_cases e : (c : Int) = i
    · have := h.top c (by omega)
      simp [this]
    · simp [e]
  · obtain ⟨j, rfl⟩ := Int.eq_ofNat_of_zero_le (show 0 ≤ i by omega)
    have hj : j < n := by omega
    cases hf : f j
    · refine (out_was h hj hf).mono ?_
      rintro e w' ⟨rfl, rfl⟩
      refine ⟨ret_bool (by simp [wasIn, hf]), h.congr fun c => ?_, grown_refl _⟩
      unfold outS
      by_cases e : c = j
      · subst e; simp [hf]
      · have : ¬ ((c : Int) = j) := by omega
        simp [this]
    · refine (out_old h hj hf).mono ?_
      rintro e w' ⟨rfl, h', hg⟩
      refine ⟨ret_bool (by simp [wasIn, hj, hf]), h'.congr fun c => ?_, hg⟩
      unfold outS andS notS oneS
      by_cases e : c = j
      · subst e; simp
      · have : ¬ ((c : Int) = j) := by omega
        simp [e, this]
end
end Go.Proofs.YtkdjojmegohonaaDoor
