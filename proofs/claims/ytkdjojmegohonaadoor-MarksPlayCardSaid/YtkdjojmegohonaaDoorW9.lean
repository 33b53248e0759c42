/- Contracts of the reference's marks: Has, Put, Out. -/
import Derived.Test.YtkdjojmegohonaaDoorW8
namespace Go.Proofs.YtkdjojmegohonaaDoor
open Go.RowKit
section
variable {w : World} {b g n : Nat} {f : Nat → Bool}
theorem has_in (h : Mk w b g n f) (i : Int) : Calls Tryd.prog 22 #[.pointer (some ⟨b, 0, none⟩), .int .i64 i] w fun e w' => e = .returned (.bool (wasIn f n i)) ∧ w = w' := by
  by_cases hi : i < 0 ∨ n ≤ i
  · refine (has_no h hi).mono ?_
    rintro e w' ⟨rfl, rfl⟩
    exact ⟨ret_bool (by unfold wasIn; rw [decide_eq_false (by omega)]; rfl), rfl⟩
  · obtain ⟨j, rfl⟩ := Int.eq_ofNat_of_zero_le (show 0 ≤ i by omega)
    have hj : j < n := by omega
    refine (has_yes h hj).mono ?_
    rintro e w' ⟨rfl, rfl⟩
    exact ⟨ret_bool (by simp [wasIn, hj]), rfl⟩
theorem rhas_lo (h : Rf w b g n f) {i : Int} (hi : i < 0) : Calls Tryd.prog 14 #[.pointer (some ⟨b, 0, none⟩), .int .i64 i] w fun e w' => e = .returned (.bool false) ∧ w = w' := by
  have q : decide (i ≥ 0) = false := by simpa using hi
  have q2 : decide (0 ≤ i) = false := by simpa using hi
  clear h
  go_enter Tryd.func14, Tryd.ntmps14
  go_wp2
  go_ret
  exact ⟨rfl, rfl⟩
theorem rhas_hi (h : Rf w b g n f) {i : Int} (h0 : 0 ≤ i) (hi : n ≤ i) : Calls Tryd.prog 14 #[.pointer (some ⟨b, 0, none⟩), .int .i64 i] w fun e w' => e = .returned (.bool false) ∧ w = w' := by
  have q2 : decide (0 ≤ i) = true := by simpa using h0
  have q3 : decide (i < n) = false := by simpa using hi
  have hc := h.c0
  clear h
  go_enter Tryd.func14, Tryd.ntmps14
  go_wp2
  go_ret
  exact ⟨rfl, rfl⟩
theorem rhas_yes (h : Rf w b g n f) {i : Nat} (hi : i < n) : Calls Tryd.prog 14 #[.pointer (some ⟨b, 0, none⟩), .int .i64 i] w fun e w' => e = .returned (.bool (f i)) ∧ w = w' := by
  have q2 : decide ((0 : Int) ≤ i) = true := by simp
  have q3 : decide ((i : Int) < n) = true := by simpa using hi
  have q4 : decide (i < n) = true := by simpa using hi
  have hc := h.c0
  have hw := h.cw hi
  have hle := h.le
  clear h
  generalize f i = x at *
  go_enter Tryd.func14, Tryd.ntmps14
  go_wp2
  go_ret
  exact ⟨rfl, rfl⟩
theorem rhas_in (h : Rf w b g n f) (i : Int) : Calls Tryd.prog 14 #[.pointer (some ⟨b, 0, none⟩), .int .i64 i] w fun e w' => e = .returned (.bool (wasIn f n i)) ∧ w = w' := by
  by_cases hi : i < 0
  · refine (rhas_lo h hi).mono ?_
    rintro e w' ⟨rfl, rfl⟩
    exact ⟨ret_bool (by unfold wasIn; rw [decide_eq_false (by omega)]; rfl), rfl⟩
  by_cases hi2 : n ≤ i
  · refine (rhas_hi h (by omega) hi2).mono ?_
    rintro e w' ⟨rfl, rfl⟩
    exact ⟨ret_bool (by unfold wasIn; rw [decide_eq_false (by omega)]; rfl), rfl⟩
  · obtain ⟨j, rfl⟩ := Int.eq_ofNat_of_zero_le (show 0 ≤ i by omega)
    have hj : j < n := by omega
    refine (rhas_yes h hj).mono ?_
    rintro e w' ⟨rfl, rfl⟩
    exact ⟨ret_bool (by simp [wasIn, hj]), rfl⟩

theorem rput_lo (h : Rf w b g n f) {i : Int} (hi : i < 0) : Calls Tryd.prog 8 #[.pointer (some ⟨b, 0, none⟩), .int .i64 i] w fun e w' => e = .returned (.bool false) ∧ w = w' := by
  have q2 : decide (i < 0) = true := by simpa using hi
  clear h
  go_enter Tryd.func8, Tryd.ntmps8
  go_wp2
  go_ret
  exact ⟨rfl, rfl⟩
theorem rput_hi (h : Rf w b g n f) {i : Int} (h0 : 0 ≤ i) (hi : n ≤ i) : Calls Tryd.prog 8 #[.pointer (some ⟨b, 0, none⟩), .int .i64 i] w fun e w' => e = .returned (.bool false) ∧ w = w' := by
  have q2 : decide (i < 0) = false := by simpa using h0
  have q3 : decide ((n : Int) ≤ i) = true := by simpa using hi
  have hc := h.c0
  clear h
  go_enter Tryd.func8, Tryd.ntmps8
  go_wp2
  go_ret
  exact ⟨rfl, rfl⟩
theorem rput_was (h : Rf w b g n f) {i : Nat} (hi : i < n) (hf : f i = true) : Calls Tryd.prog 8 #[.pointer (some ⟨b, 0, none⟩), .int .i64 i] w fun e w' => e = .returned (.bool false) ∧ w = w' := by
  have q2 : decide ((i : Int) < 0) = false := by simp
  have q3 : decide ((n : Int) ≤ i) = false := by simpa using hi
  have q4 : decide (n ≤ i) = false := by simpa using hi
  have hc := h.c0
  have hw := h.cw hi
  have hle := h.le
  rw [hf] at hw
  clear h
  go_enter Tryd.func8, Tryd.ntmps8
  go_wp2
  go_ret
  exact ⟨rfl, rfl⟩
theorem rput_new (h : Rf w b g n f) {i : Nat} (hi : i < n) (hf : f i = false) : Calls Tryd.prog 8 #[.pointer (some ⟨b, 0, none⟩), .int .i64 i] w fun e w' => e = .returned (.bool true) ∧ Rf w' b g n (orS f (oneS i)) ∧ w.grownBy w' (some g) := by
  have q2 : decide ((i : Int) < 0) = false := by simp
  have q3 : decide ((n : Int) ≤ i) = false := by simpa using hi
  have q4 : decide (n ≤ i) = false := by simpa using hi
  have hc := h.c0
  have hw := h.cw hi
  have hle := h.le
  have hfz := h.fz i
  have S := h.set (f' := orS f (oneS i)) (j := i) (fun c e => by simp [orS, oneS, e]) (put_top hi h.top)
  have e : orS f (oneS i) i = true := by simp [orS, oneS]
  rw [e] at S
  rw [hf] at hw
  have hne := h.ne
  clear h e
  replace S := Lib.hid S
  go_enter Tryd.func8, Tryd.ntmps8
  go_wp2
  go_ret
  exact ⟨rfl, S.out, grown_set _ _ _ _⟩
theorem rout_was (h : Rf w b g n f) {i : Int} (hi : wasIn f n i = false) : Calls Tryd.prog 10 #[.pointer (some ⟨b, 0, none⟩), .int .i64 i] w fun e w' => e = .returned (.bool false) ∧ w = w' := by
  have q := rhas_in h i
  rw [hi] at q
  go_enter Tryd.func10, Tryd.ntmps10
  go_wp2_with (go_at_call 14; refine q.mono ?_; rintro e w' ⟨rfl, rfl⟩)
  go_ret
  exact ⟨rfl, rfl⟩
theorem rout_old (h : Rf w b g n f) {i : Nat} (hi : i < n) (hf : f i = true) : Calls Tryd.prog 10 #[.pointer (some ⟨b, 0, none⟩), .int .i64 i] w fun e w' => e = .returned (.bool true) ∧ Rf w' b g n (andS f (notS (oneS i))) ∧ w.grownBy w' (some g) := by
  have q := rhas_yes h hi
  rw [hf] at q
  have hc := h.c0
  have hw := h.cw hi
  have hle := h.le
  have hfz := h.fz i
  have S := h.set (f' := andS f (notS (oneS i))) (j := i) (fun c e => by simp [andS, notS, oneS, e]) (out_top h.top)
  have e : andS f (notS (oneS i)) i = false := by simp [andS, notS, oneS]
  rw [e] at S
  rw [hf] at hw
  clear h e
  replace S := Lib.hid S
  go_enter Tryd.func10, Tryd.ntmps10
  go_wp2_with (go_at_call 14; refine q.mono ?_; rintro e w' ⟨rfl, rfl⟩)
  go_ret
  exact ⟨rfl, S.out, grown_set _ _ _ _⟩
theorem putS_new {i : Nat} (hi : i < n) : ∀ c, orS f (oneS i) c = putS f n i c := fun c => by
  unfold putS orS oneS
  by_cases e : c = i
  · subst e; simp [hi]
  · have : ¬ ((c : Int) = i) := by omega
    simp [e, this]
theorem putS_was {i : Nat} (hf : f i = true) : ∀ c, f c = putS f n i c := fun c => by
  unfold putS
  by_cases e : c = i
  · subst e; simp [hf]
  · have : ¬ ((c : Int) = i) := by omega
    simp [this]
theorem putS_no {i : Int} (hi : i < 0 ∨ n ≤ i) : ∀ c, f c = putS f n i c := fun c => by
  unfold putS
  by_cases e : (c : Int) = i
  · have : ¬ c < n := by omega
    simp [this]
  · simp [e]
theorem rput_in (h : Rf w b g n f) (i : Int) : Calls Tryd.prog 8 #[.pointer (some ⟨b, 0, none⟩), .int .i64 i] w fun e w' => e = .returned (.bool (fresh f n i)) ∧ Rf w' b g n (putS f n i) ∧ w.grownBy w' (some g) := by
  by_cases h1 : i < 0
  · refine (rput_lo h h1).mono ?_
    rintro e w' ⟨rfl, rfl⟩
    exact ⟨ret_bool (by unfold fresh; rw [decide_eq_false (by omega)]; rfl), h.congr (putS_no (.inl h1)), grown_refl _⟩
  by_cases h2 : n ≤ i
  · refine (rput_hi h (by omega) h2).mono ?_
    rintro e w' ⟨rfl, rfl⟩
    exact ⟨ret_bool (by unfold fresh; rw [decide_eq_false (by omega)]; rfl), h.congr (putS_no (.inr h2)), grown_refl _⟩
  · obtain ⟨j, rfl⟩ := Int.eq_ofNat_of_zero_le (show 0 ≤ i by omega)
    have hj : j < n := by omega
    cases hf : f j
    · refine (rput_new h hj hf).mono ?_
      rintro e w' ⟨rfl, h', hg⟩
      exact ⟨ret_bool (by simp [fresh, hj, hf]), h'.congr (putS_new hj), hg⟩
    · refine (rput_was h hj hf).mono ?_
      rintro e w' ⟨rfl, rfl⟩
      exact ⟨ret_bool (by simp [fresh, hf]), h.congr (putS_was hf), grown_refl _⟩
theorem rout_in (h : Rf w b g n f) (i : Int) : Calls Tryd.prog 10 #[.pointer (some ⟨b, 0, none⟩), .int .i64 i] w fun e w' => e = .returned (.bool (wasIn f n i)) ∧ Rf w' b g n (outS f i) ∧ w.grownBy w' (some g) := by
  cases hi : wasIn f n i
  · refine (rout_was h hi).mono ?_
    rintro e w' ⟨rfl, rfl⟩
    refine ⟨rfl, h.congr fun c => ?_, grown_refl _⟩
    unfold outS
    by_cases e : (c : Int) = i
    · have hc : f c = false := by
        rw [← e] at hi
        simp [wasIn] at hi
        by_cases q : c < n
        · exact hi q
        · exact h.top c (by omega)
      simp [hc]
    · simp [e]
  · unfold wasIn at hi
    simp only [Bool.and_eq_true, decide_eq_true_eq] at hi
    obtain ⟨⟨h0, h1⟩, hf⟩ := hi
    obtain ⟨j, rfl⟩ := Int.eq_ofNat_of_zero_le h0
    refine (rout_old h (by omega) (by simpa using hf)).mono ?_
    rintro e w' ⟨rfl, h', hg⟩
    refine ⟨rfl, h'.congr fun c => ?_, hg⟩
    unfold outS andS notS oneS
    by_cases e : c = j
    · subst e; simp
    · have : ¬ ((c : Int) = j) := by omega
      simp [e, this]
end
end Go.Proofs.YtkdjojmegohonaaDoor
