/- The contract of After of the document's marks: the least member above a number, or -1. -/
import Derived.Test.YtkdjojmegohonaaDoorW3
namespace Go.Proofs.YtkdjojmegohonaaDoor
open Go.RowKit
/-- r is the least member from s on; -1: none. -/
def AfterIs (f : Nat → Bool) (n s : Nat) (r : Int) : Prop :=
  (∃ j : Nat, r = j ∧ s ≤ j ∧ j < n ∧ f j = true ∧ ∀ x, s ≤ x → x < j → f x = false) ∨ (r = -1 ∧ ∀ x, s ≤ x → f x = false)
theorem after_ex {f : Nat → Bool} {n : Nat} (ht : ∀ i, n ≤ i → f i = false) (s : Nat) : ∃ r, AfterIs f n s r := by
  by_cases h : ∃ x, s ≤ x ∧ f x = true
  · have hm : ∀ m : Nat, (∃ x, s ≤ x ∧ x < m ∧ f x = true) → ∃ j, s ≤ j ∧ f j = true ∧ ∀ x, s ≤ x → x < j → f x = false := by
      intro m
      induction m with
      | zero => rintro ⟨x, _, h, _⟩; omega
      | succ m ih =>
        rintro ⟨x, h1, h2, h3⟩
        by_cases h4 : ∃ x, s ≤ x ∧ x < m ∧ f x = true
        · exact ih h4
        · have hx : x = m := by
            refine Classical.byContradiction fun e => h4 ⟨x, h1, by omega, h3⟩
          subst hx
          exact ⟨x, h1, h3, fun y a b => by
            cases hy : f y
            · rfl
            · exact absurd ⟨y, a, b, hy⟩ h4⟩
    obtain ⟨x, h1, h2⟩ := h
    obtain ⟨j, a, b, c⟩ := hm (x + 1) ⟨x, h1, by omega, h2⟩
    refine ⟨j, .inl ⟨j, rfl, a, ?_, b, c⟩⟩
    refine Classical.byContradiction fun e => ?_
    rw [ht j (by omega)] at b
    cases b
  · refine ⟨-1, .inr ⟨rfl, fun x hx => ?_⟩⟩
    cases hf : f x
    · rfl
    · exact absurd ⟨x, hx, hf⟩ h
theorem AfterIs.none {f : Nat → Bool} {n s : Nat} {r : Int} (h : AfterIs f n s r) (hn : ∀ x, s ≤ x → x < n → f x = false) : r = -1 := by
  rcases h with ⟨j, _, h2, h3, h4, _⟩ | h
  · rw [hn j h2 h3] at h4; cases h4
  · exact h.1
theorem AfterIs.at {f : Nat → Bool} {n s : Nat} {r : Int} (h : AfterIs f n s r) {j : Nat} (h1 : s ≤ j) (h2 : f j = true) (h3 : ∀ x, s ≤ x → x < j → f x = false) : r = j := by
  rcases h with ⟨i, e, a, _, b, c⟩ | h
  · rw [e]
    rcases Nat.lt_trichotomy i j with q | q | q
    · rw [h3 i a q] at b; cases b
    · rw [q]
    · rw [c j h1 q] at h2; cases h2
  · rw [h.2 j h1] at h2; cases h2
section
variable {w : World} {b g n : Nat} {f : Nat → Bool}
theorem after_hi (h : Mk w b g n f) {i : Int} (h0 : (n : Int) - 1 ≤ i ∨ (n = 0 ∧ i < 0)) : Calls Tryd.prog 25 #[.pointer (some ⟨b, 0, none⟩), .int .i64 i] w fun e w' => e = .returned (.int .i64 (-1)) ∧ w = w' := by
  have hs := h.le
  have h1 : (n : Int) - 1 ≤ if i < -1 then -1 else i := by split <;> omega
  go_enter Tryd.func25, Tryd.ntmps25
  go_wp2_with (go_at_call 28; refine (size_in h).mono ?_; rintro e w' ⟨rfl, rfl⟩)
  all_goals
    go_ret
    exact ⟨rfl, rfl⟩
theorem after_at (h : Mk w b g n f) (hT : Tab w) {s : Nat} {r : Int} (hsn : s < n) (hr : AfterIs f n s r) : Calls Tryd.prog 25 #[.pointer (some ⟨b, 0, none⟩), .int .i64 ((s : Int) - 1)] w fun e w' => e = .returned (.int .i64 r) ∧ w = w' := by
  have hs := h.le
  have S := size_in h
  have hcw : ∀ k, k < kw n → w.cell? ⟨g, k, none⟩ = some (.int .u64 (wd f k : Nat)) := fun k hk => h.cw hk
  have hc0 := h.cw (kw_lt hsn)
  have h1 := h.c1
  have hk := kw_lt hsn
  have hkn := kw_le n
  have hK := kw_max h.le
  have hw := Lib.hid (from_word f s)
  clear h
  generalize kw n = K at *
  replace hcw := Lib.hid hcw
  replace hr := Lib.hid hr
  have q1 : ¬ ((s : Int) - 1 < -1) := by omega
  go_enter Tryd.func25, Tryd.ntmps25
  go_wp2_with (go_at_call 28; refine S.mono ?_; rintro e w' ⟨rfl, rfl⟩)
  go_loop [5, 6] (fun c t => ∃ k : Nat, k < K ∧ s ≤ 64 * k + 63 ∧ c = .int .i64 k ∧ t = .int .u64 (wd (fromS f s) k : Nat) ∧ Hid (∀ x, s ≤ x → x < 64 * k → f x = false)) (fun c _ => K - (intOf c).toNat)
  case atStart => exact ⟨s / 64, hk, by omega, by go_num, by rw [hw.out], Lib.hid fun x a b => by omega⟩
  case round =>
    obtain ⟨k, hkK, hsk, rfl, rfl, hno⟩ := hrel
    by_cases hz : wd (fromS f s) k = 0
    · have hno2 : ∀ x, s ≤ x → x < 64 * (k + 1) → f x = false := fun x a b => by
        rcases Nat.lt_or_ge x (64 * k) with q | q
        · exact hno.out x a q
        · have := wd_zero hz x q b
          simpa [fromS, a] using this
      have hzz : ((wd (fromS f s) k : Int) == 0) = true := by simp [hz]
      by_cases hend : k + 1 = K
      · have hrr : r = -1 := hr.out.none fun x a b => hno2 x a (by omega)
        have hkk : (k : Int) + 1 = K := by omega
        replace hno2 := Lib.hid hno2
        generalize wd (fromS f s) k = W at *
        clear hw hno
        go_wp2
        go_ret
        exact ⟨rfl, rfl⟩
      · have hlt : k + 1 < K := by omega
        have hc := hcw.out (k + 1) hlt
        have hkk : ((k : Int) + 1 == K) = false := by simp; omega
        have hne : wd f (k + 1) = wd (fromS f s) (k + 1) := wd_congr fun i hi => by
          have : s ≤ 64 * (k + 1) + i := by omega
          simp [fromS, this]
        rw [hne] at hc
        replace hno2 := Lib.hid hno2
        clear hne
        generalize wd (fromS f s) k = W at *
        clear hw hno hc0
        go_wp2
        go_round
        case rel => exact ⟨k + 1, hlt, by omega, by go_num, rfl, hno2⟩
        case measure => simp [intOf]; omega
    · obtain ⟨t, ht, hb1, hb0, hft, hlow⟩ := wd_bit hz
      have hzz : ((wd (fromS f s) k : Int) == 0) = false := by simp [hz]
      have hrr : r = ((64 * k + t : Nat) : Int) := by
        have : f (64 * k + t) = true ∧ s ≤ 64 * k + t := by simpa [fromS] using hft
        refine hr.out.at this.2 this.1 fun x a b => ?_
        rcases Nat.lt_or_ge x (64 * k) with q | q
        · exact hno.out x a q
        · have := hlow x q b
          simpa [fromS, a] using this
      have O := ctz_in (wd (fromS f s) k) t (wd_lt _ _) hb1 hb0 w hT
      replace hrr := Lib.hid hrr
      clear hw hno hlow hft hb1 hb0 hz hc0
      generalize wd (fromS f s) k = W at *
      go_wp2_with (go_at_call 30; refine O.mono ?_; rintro e w' ⟨rfl, rfl⟩)
      go_ret
      exact ⟨ret_int (by rw [hrr.out]; omega), rfl⟩
theorem after_neg (h : Mk w b g n f) (hT : Tab w) {i : Int} {s : Nat} (hs0 : s = 0) (hi : i < -1) {r : Int} (hsn : s < n) (hr : AfterIs f n s r) : Calls Tryd.prog 25 #[.pointer (some ⟨b, 0, none⟩), .int .i64 i] w fun e w' => e = .returned (.int .i64 r) ∧ w = w' := by
  have hs := h.le
  have S := size_in h
  have hcw : ∀ k, k < kw n → w.cell? ⟨g, k, none⟩ = some (.int .u64 (wd f k : Nat)) := fun k hk => h.cw hk
  have hc0 : w.cell? ⟨g, 0, none⟩ = some (.int .u64 (wd f 0 : Nat)) := h.cw (by have := kw_lt hsn; omega)
  have h1 := h.c1
  have hk := kw_lt hsn
  have hkn := kw_le n
  have hK := kw_max h.le
  have hw : True := trivial
  have e0 : wd f 0 = wd (fromS f s) 0 := wd_congr fun i _ => by simp [fromS, hs0]
  replace e0 := Lib.hid e0
  replace hs0 := Lib.hid hs0
  clear h
  generalize kw n = K at *
  replace hcw := Lib.hid hcw
  replace hr := Lib.hid hr
  go_enter Tryd.func25, Tryd.ntmps25
  go_wp2_with (go_at_call 28; refine S.mono ?_; rintro e w' ⟨rfl, rfl⟩)
  go_loop [5, 6] (fun c t => ∃ k : Nat, k < K ∧ s ≤ 64 * k + 63 ∧ c = .int .i64 k ∧ t = .int .u64 (wd (fromS f s) k : Nat) ∧ Hid (∀ x, s ≤ x → x < 64 * k → f x = false)) (fun c _ => K - (intOf c).toNat)
  case atStart => exact ⟨0, by omega, by have := hs0.out; omega, by go_num, by rw [← e0.out, wrap_nat (wd_lt f 0)], Lib.hid fun x a b => by omega⟩
  case round =>
    obtain ⟨k, hkK, hsk, rfl, rfl, hno⟩ := hrel
    by_cases hz : wd (fromS f s) k = 0
    · have hno2 : ∀ x, s ≤ x → x < 64 * (k + 1) → f x = false := fun x a b => by
        rcases Nat.lt_or_ge x (64 * k) with q | q
        · exact hno.out x a q
        · have := wd_zero hz x q b
          simpa [fromS, a] using this
      have hzz : ((wd (fromS f s) k : Int) == 0) = true := by simp [hz]
      by_cases hend : k + 1 = K
      · have hrr : r = -1 := hr.out.none fun x a b => hno2 x a (by omega)
        have hkk : (k : Int) + 1 = K := by omega
        replace hno2 := Lib.hid hno2
        generalize wd (fromS f s) k = W at *
        clear hw e0 hno
        go_wp2
        go_ret
        exact ⟨rfl, rfl⟩
      · have hlt : k + 1 < K := by omega
        have hc := hcw.out (k + 1) hlt
        have hkk : ((k : Int) + 1 == K) = false := by simp; omega
        have hne : wd f (k + 1) = wd (fromS f s) (k + 1) := wd_congr fun i hi => by
          have : s ≤ 64 * (k + 1) + i := by omega
          simp [fromS, this]
        rw [hne] at hc
        replace hno2 := Lib.hid hno2
        clear hne
        generalize wd (fromS f s) k = W at *
        clear hw e0 hno hc0
        go_wp2
        go_round
        case rel => exact ⟨k + 1, hlt, by omega, by go_num, rfl, hno2⟩
        case measure => simp [intOf]; omega
    · obtain ⟨t, ht, hb1, hb0, hft, hlow⟩ := wd_bit hz
      have hzz : ((wd (fromS f s) k : Int) == 0) = false := by simp [hz]
      have hrr : r = ((64 * k + t : Nat) : Int) := by
        have : f (64 * k + t) = true ∧ s ≤ 64 * k + t := by simpa [fromS] using hft
        refine hr.out.at this.2 this.1 fun x a b => ?_
        rcases Nat.lt_or_ge x (64 * k) with q | q
        · exact hno.out x a q
        · have := hlow x q b
          simpa [fromS, a] using this
      have O := ctz_in (wd (fromS f s) k) t (wd_lt _ _) hb1 hb0 w hT
      replace hrr := Lib.hid hrr
      clear hw e0 hno hlow hft hb1 hb0 hz hc0
      generalize wd (fromS f s) k = W at *
      go_wp2_with (go_at_call 30; refine O.mono ?_; rintro e w' ⟨rfl, rfl⟩)
      go_ret
      exact ⟨ret_int (by rw [hrr.out]; omega), rfl⟩
theorem after_m1 (h : Mk w b g n f) (hT : Tab w) {s : Nat} (hs0 : s = 0) {r : Int} (hsn : s < n) (hr : AfterIs f n s r) : Calls Tryd.prog 25 #[.pointer (some ⟨b, 0, none⟩), .int .i64 (-1)] w fun e w' => e = .returned (.int .i64 r) ∧ w = w' := by
  have hs := h.le
  have S := size_in h
  have hcw : ∀ k, k < kw n → w.cell? ⟨g, k, none⟩ = some (.int .u64 (wd f k : Nat)) := fun k hk => h.cw hk
  have hc0 : w.cell? ⟨g, 0, none⟩ = some (.int .u64 (wd f 0 : Nat)) := h.cw (by have := kw_lt hsn; omega)
  have h1 := h.c1
  have hk := kw_lt hsn
  have hkn := kw_le n
  have hK := kw_max h.le
  have hw : True := trivial
  have e0 : wd f 0 = wd (fromS f s) 0 := wd_congr fun i _ => by simp [fromS, hs0]
  replace e0 := Lib.hid e0
  replace hs0 := Lib.hid hs0
  clear h
  generalize kw n = K at *
  replace hcw := Lib.hid hcw
  replace hr := Lib.hid hr
  go_enter Tryd.func25, Tryd.ntmps25
  go_wp2_with (go_at_call 28; refine S.mono ?_; rintro e w' ⟨rfl, rfl⟩)
  go_loop [5, 6] (fun c t => ∃ k : Nat, k < K ∧ s ≤ 64 * k + 63 ∧ c = .int .i64 k ∧ t = .int .u64 (wd (fromS f s) k : Nat) ∧ Hid (∀ x, s ≤ x → x < 64 * k → f x = false)) (fun c _ => K - (intOf c).toNat)
  case atStart => exact ⟨0, by omega, by have := hs0.out; omega, by go_num, by rw [← e0.out, wrap_nat (wd_lt f 0)], Lib.hid fun x a b => by omega⟩
  case round =>
    obtain ⟨k, hkK, hsk, rfl, rfl, hno⟩ := hrel
    by_cases hz : wd (fromS f s) k = 0
    · have hno2 : ∀ x, s ≤ x → x < 64 * (k + 1) → f x = false := fun x a b => by
        rcases Nat.lt_or_ge x (64 * k) with q | q
        · exact hno.out x a q
        · have := wd_zero hz x q b
          simpa [fromS, a] using this
      have hzz : ((wd (fromS f s) k : Int) == 0) = true := by simp [hz]
      by_cases hend : k + 1 = K
      · have hrr : r = -1 := hr.out.none fun x a b => hno2 x a (by omega)
        have hkk : (k : Int) + 1 = K := by omega
        replace hno2 := Lib.hid hno2
        generalize wd (fromS f s) k = W at *
        clear hw e0 hno
        go_wp2
        go_ret
        exact ⟨rfl, rfl⟩
      · have hlt : k + 1 < K := by omega
        have hc := hcw.out (k + 1) hlt
        have hkk : ((k : Int) + 1 == K) = false := by simp; omega
        have hne : wd f (k + 1) = wd (fromS f s) (k + 1) := wd_congr fun i hi => by
          have : s ≤ 64 * (k + 1) + i := by omega
          simp [fromS, this]
        rw [hne] at hc
        replace hno2 := Lib.hid hno2
        clear hne
        generalize wd (fromS f s) k = W at *
        clear hw e0 hno hc0
        go_wp2
        go_round
        case rel => exact ⟨k + 1, hlt, by omega, by go_num, rfl, hno2⟩
        case measure => simp [intOf]; omega
    · obtain ⟨t, ht, hb1, hb0, hft, hlow⟩ := wd_bit hz
      have hzz : ((wd (fromS f s) k : Int) == 0) = false := by simp [hz]
      have hrr : r = ((64 * k + t : Nat) : Int) := by
        have : f (64 * k + t) = true ∧ s ≤ 64 * k + t := by simpa [fromS] using hft
        refine hr.out.at this.2 this.1 fun x a b => ?_
        rcases Nat.lt_or_ge x (64 * k) with q | q
        · exact hno.out x a q
        · have := hlow x q b
          simpa [fromS, a] using this
      have O := ctz_in (wd (fromS f s) k) t (wd_lt _ _) hb1 hb0 w hT
      replace hrr := Lib.hid hrr
      clear hw e0 hno hlow hft hb1 hb0 hz hc0
      generalize wd (fromS f s) k = W at *
      go_wp2_with (go_at_call 30; refine O.mono ?_; rintro e w' ⟨rfl, rfl⟩)
      go_ret
      exact ⟨ret_int (by rw [hrr.out]; omega), rfl⟩

/-- After, at any number. -/
def sOf (i : Int) : Nat := (max i (-1) + 1).toNat
theorem after_in (h : Mk w b g n f) (hT : Tab w) (i : Int) {r : Int} (hr : AfterIs f n (sOf i) r) : Calls Tryd.prog 25 #[.pointer (some ⟨b, 0, none⟩), .int .i64 i] w fun e w' => e = .returned (.int .i64 r) ∧ w = w' := by
  by_cases h1 : n ≤ sOf i
  · have e := hr.none fun x a b => by omega
    rw [e]
    unfold sOf at h1
    exact after_hi h (by omega)
  · by_cases h2 : i < -1
    · exact after_neg h hT (by unfold sOf; omega) h2 (by omega) hr
    · by_cases h3 : i = -1
      · rw [h3] at hr ⊢
        exact after_m1 h hT rfl (by rw [h3] at h1; omega) hr
      · have e : i = (sOf i : Int) - 1 := by unfold sOf; omega
        generalize sOf i = s at *
        rw [e]
        exact after_at h hT (by omega) hr

end
end Go.Proofs.YtkdjojmegohonaaDoor
