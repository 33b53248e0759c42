/- How a repetition is written; a number in a row. -/
import Derived.Test.YtbkmoaollooomaaDoorW12
namespace Go.Proofs.YtbkmoaollooomaaDoor
open Go.RowKit
open Go.Tree7
open S5 (nl nl_length nl_small at_nl nl_at nl_strN)
/-- How a repetition is written. -/
def timesL (mn mx : Int) : List Nat :=
  if mn = 0 ∧ mx = -1 then [42] else if mn = 1 ∧ mx = -1 then [43] else if mn = 0 ∧ mx = 1 then [63]
  else if mn = mx then [123] ++ figs mn.toNat ++ [125] else if mx = -1 then [123] ++ figs mn.toNat ++ [44, 125] else [123] ++ figs mn.toNat ++ [44] ++ figs mx.toNat ++ [125]
theorem figs_len (n : Nat) : (figs n).length ≤ 2 := by unfold figs; split <;> simp
theorem figs_small {n : Nat} (h : n ≤ 40) : ∀ x ∈ figs n, x ≤ 255 := by unfold figs; split <;> simp <;> omega
theorem timesL_len (mn mx : Int) : (timesL mn mx).length ≤ 10 := by
  have h1 := figs_len mn.toNat
  have h2 := figs_len mx.toNat
  unfold timesL
  split
  · simp
  · split
    · simp
    · split
      · simp
      · split
        · simp; omega
        · split
          · simp; omega
          · simp; omega
theorem lit42 : strN [42] = ⟨#[42]⟩ := by decide +kernel
theorem lit43 : strN [43] = ⟨#[43]⟩ := by decide +kernel
theorem lit63 : strN [63] = ⟨#[63]⟩ := by decide +kernel
theorem lit123 : strN [123] = ⟨#[123]⟩ := by decide +kernel
theorem lit125 : strN [125] = ⟨#[125]⟩ := by decide +kernel
theorem lit44 : strN [44] = ⟨#[44]⟩ := by decide +kernel
theorem lit44' : strN [44, 125] = ⟨#[44, 125]⟩ := by decide +kernel
theorem bounds_nat {mn mx : Int} (h : boundsB mn mx = true) : ∃ a : Nat, mn = a ∧ a ≤ 40 ∧ (mx = -1 ∨ ∃ b : Nat, mx = b ∧ a ≤ b ∧ 1 ≤ b ∧ b ≤ 40) := by
  unfold boundsB at h
  simp only [Bool.and_eq_true, Bool.or_eq_true, decide_eq_true_eq] at h
  obtain ⟨⟨h1, h2⟩, h3⟩ := h
  refine ⟨mn.toNat, by omega, by omega, ?_⟩
  rcases h3 with h3 | ⟨⟨h3, h4⟩, h5⟩
  · exact .inl h3
  · exact .inr ⟨mx.toNat, by omega, by omega, by omega, by omega⟩
theorem timesL_small {mn mx : Int} (h : boundsB mn mx = true) : ∀ x ∈ timesL mn mx, x ≤ 255 := by
  obtain ⟨a, rfl, ha, hx⟩ := bounds_nat h
  have h1 := figs_small ha
  rcases hx with rfl | ⟨b, rfl, hab, hb1, hb⟩
  · unfold timesL
    intro x hx
    rw [Int.toNat_natCast] at hx
    repeat' split at hx
    all_goals
      simp only [List.mem_append, List.mem_cons, List.not_mem_nil, or_false] at hx
      first
        | omega
        | (rcases hx with (rfl | hx) | hx
           · omega
           · exact h1 x hx
           · omega)
        | skip
  · have h2 := figs_small hb
    unfold timesL
    intro x hx
    rw [Int.toNat_natCast, Int.toNat_natCast] at hx
    repeat' split at hx
    all_goals
      simp only [List.mem_append, List.mem_cons, List.not_mem_nil, or_false] at hx
      first
        | omega
        | (rcases hx with (rfl | hx) | hx
           · omega
           · exact h1 x hx
           · omega)
        | (rcases hx with (((rfl | hx) | rfl) | hx) | rfl
           · omega
           · exact h1 x hx
           · omega
           · exact h2 x hx
           · omega)
set_option maxRecDepth 10000 in
set_option maxHeartbeats 2000000 in
theorem times_in {mn mx : Int} (h : boundsB mn mx = true) (w : World) : Calls Tryd.prog 48 #[.int .i64 mn, .int .i64 mx] w fun e w' => e = .returned (.string (strN (timesL mn mx))) ∧ w = w' := by
  obtain ⟨a, rfl, ha, hx⟩ := bounds_nat h
  have CA := fun w => itoa_in ha w
  have sA : (strN (figs a)).size ≤ 2 := by rw [strN_size]; exact figs_len a
  clear h
  rcases hx with rfl | ⟨b, rfl, hab, hb1, hb⟩
  · by_cases h0 : a = 0
    · have e : strN (timesL (a : Int) (-1)) = ⟨#[42]⟩ := by subst h0; exact lit42
      rw [e]
      clear e
      generalize strN (figs a) = A at *
      have q0 : ((a : Int) == 0) = true := by simp <;> omega
      clear h0
      replace CA := Lib.hid CA
      go_enter Tryd.func48, Tryd.ntmps48
      go_wp2_with (first | (go_at_call 64; (with_reducible refine (CA.out _).mono ?_); rintro e w1 ⟨rfl, rfl⟩))
      go_ret
      exact ⟨rfl, rfl⟩
    by_cases h1 : a = 1
    · have e : strN (timesL (a : Int) (-1)) = ⟨#[43]⟩ := by subst h1; exact lit43
      rw [e]
      clear e
      generalize strN (figs a) = A at *
      have q0 : ((a : Int) == 0) = false := by simp <;> omega
      have q1 : ((a : Int) == 1) = true := by simp <;> omega
      clear h0 h1
      replace CA := Lib.hid CA
      go_enter Tryd.func48, Tryd.ntmps48
      go_wp2_with (first | (go_at_call 64; (with_reducible refine (CA.out _).mono ?_); rintro e w1 ⟨rfl, rfl⟩))
      go_ret
      exact ⟨rfl, rfl⟩
    have e : strN (timesL (a : Int) (-1)) = ⟨#[123]⟩ ++ strN (figs a) ++ ⟨#[44, 125]⟩ := by
      unfold timesL
      rw [if_neg (by omega), if_neg (by omega), if_neg (by omega), if_neg (by omega), if_pos rfl, S6.strN_app, S6.strN_app, lit123, lit44', Int.toNat_natCast]
    rw [e]
    generalize strN (figs a) = A at *
    clear e
    replace CA := Lib.hid CA
    have q0 : ((a : Int) == 0) = false := by simp <;> omega
    have q1 : ((a : Int) == 1) = false := by simp <;> omega
    have q2 : ((a : Int) == -1) = false := by simp <;> omega
    go_enter Tryd.func48, Tryd.ntmps48
    go_wp2_with (first | (go_at_call 64; (with_reducible refine (CA.out _).mono ?_); rintro e w1 ⟨rfl, rfl⟩))
    go_ret
    exact ⟨rfl, rfl⟩
  · have CB := fun w => itoa_in hb w
    have sB : (strN (figs b)).size ≤ 2 := by rw [strN_size]; exact figs_len b
    have r2 : ((b : Int) == -1) = false := by simp <;> omega
    by_cases h0 : a = 0 ∧ b = 1
    · have e : strN (timesL (a : Int) (b : Int)) = ⟨#[63]⟩ := by obtain ⟨rfl, rfl⟩ := h0; exact lit63
      rw [e]
      clear e
      generalize strN (figs a) = A at *
      have q0 : ((a : Int) == 0) = true := by simp <;> omega
      have q1 : ((b : Int) == 1) = true := by simp <;> omega
      clear h0
      replace CA := Lib.hid CA
      clear CB
      go_enter Tryd.func48, Tryd.ntmps48
      go_wp2_with (first | (go_at_call 64; (with_reducible refine (CA.out _).mono ?_); rintro e w1 ⟨rfl, rfl⟩))
      go_ret
      exact ⟨rfl, rfl⟩
    by_cases h1 : a = b
    · subst h1
      have e : strN (timesL (a : Int) (a : Int)) = ⟨#[123]⟩ ++ strN (figs a) ++ ⟨#[125]⟩ := by
        unfold timesL
        rw [if_neg (by omega), if_neg (by omega), if_neg (by omega), if_pos rfl, S6.strN_app, S6.strN_app, lit123, lit125, Int.toNat_natCast]
      rw [e]
      generalize strN (figs a) = A at *
      clear e CB
      replace CA := Lib.hid CA
      by_cases q : a = 1
      · have q1 : ((a : Int) == 1) = true := by simp <;> omega
        have q0 : ((a : Int) == 0) = false := by simp <;> omega
        clear q h0
        go_enter Tryd.func48, Tryd.ntmps48
        go_wp2_with (first | (go_at_call 64; (with_reducible refine (CA.out _).mono ?_); rintro e w1 ⟨rfl, rfl⟩))
        go_ret
        exact ⟨rfl, rfl⟩
      · have q1 : ((a : Int) == 1) = false := by simp <;> omega
        have q0 : ((a : Int) == 0) = false := by simp <;> omega
        go_enter Tryd.func48, Tryd.ntmps48
        go_wp2_with (first | (go_at_call 64; (with_reducible refine (CA.out _).mono ?_); rintro e w1 ⟨rfl, rfl⟩))
        go_ret
        exact ⟨rfl, rfl⟩
    have e : strN (timesL (a : Int) (b : Int)) = ⟨#[123]⟩ ++ strN (figs a) ++ ⟨#[44]⟩ ++ strN (figs b) ++ ⟨#[125]⟩ := by
      unfold timesL
      rw [if_neg (by omega), if_neg (by omega), if_neg (by omega), if_neg (by omega), if_neg (by omega), S6.strN_app, S6.strN_app, S6.strN_app, S6.strN_app, lit123, lit44, lit125, Int.toNat_natCast, Int.toNat_natCast]
    rw [e]
    have q3 : ((a : Int) == (b : Int)) = false := by simp <;> omega
    generalize strN (figs a) = A at *
    generalize strN (figs b) = B at *
    clear e
    replace CA := Lib.hid CA
    replace CB := Lib.hid CB
    by_cases z : a = 0
    · have q0 : ((a : Int) == 0) = true := by simp <;> omega
      have r1 : ((b : Int) == 1) = false := by simp <;> omega
      clear z h0 h1
      go_enter Tryd.func48, Tryd.ntmps48
      go_wp2_with (first | (go_at_call 64; (with_reducible refine (CA.out _).mono ?_); rintro e w1 ⟨rfl, rfl⟩) | (go_at_call 64; (with_reducible refine (CB.out _).mono ?_); rintro e w2 ⟨rfl, rfl⟩))
      go_ret
      exact ⟨rfl, rfl⟩
    · have q0 : ((a : Int) == 0) = false := by simp <;> omega
      by_cases o : a = 1
      · have q1 : ((a : Int) == 1) = true := by simp <;> omega
        clear o z h0 h1
        go_enter Tryd.func48, Tryd.ntmps48
        go_wp2_with (first | (go_at_call 64; (with_reducible refine (CA.out _).mono ?_); rintro e w1 ⟨rfl, rfl⟩) | (go_at_call 64; (with_reducible refine (CB.out _).mono ?_); rintro e w2 ⟨rfl, rfl⟩))
        go_ret
        exact ⟨rfl, rfl⟩
      · have q1 : ((a : Int) == 1) = false := by simp <;> omega
        go_enter Tryd.func48, Tryd.ntmps48
        go_wp2_with (first | (go_at_call 64; (with_reducible refine (CA.out _).mono ?_); rintro e w1 ⟨rfl, rfl⟩) | (go_at_call 64; (with_reducible refine (CB.out _).mono ?_); rintro e w2 ⟨rfl, rfl⟩))
        go_ret
        exact ⟨rfl, rfl⟩
end Go.Proofs.YtbkmoaollooomaaDoor
