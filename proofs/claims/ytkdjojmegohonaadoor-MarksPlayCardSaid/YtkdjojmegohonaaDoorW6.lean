/- The contract of Same of the document's marks. -/
import Derived.Test.YtkdjojmegohonaaDoorW5
namespace Go.Proofs.YtkdjojmegohonaaDoor
open Go.RowKit
theorem step_no {h : Nat → Bool} {k : Nat} (hno : ∀ x, x < 64 * k → h x = false) (hz : wd h k = 0) : ∀ x, x < 64 * (k + 1) → h x = false := fun x a => by
  rcases Nat.lt_or_ge x (64 * k) with q | q
  · exact hno x q
  · exact wd_zero hz x q a
/-- r tells whether f and g are one set. -/
def Tells (f g : Nat → Bool) (r : Bool) : Prop := r = true ↔ ∀ i, f i = g i
theorem tells_ex (f g : Nat → Bool) : ∃ r, Tells f g r := by
  by_cases h : ∀ i, f i = g i
  · exact ⟨true, by simp [Tells, h]⟩
  · exact ⟨false, by simp only [Tells, Bool.false_eq_true, false_iff]; exact h⟩
theorem tells_symm {f g : Nat → Bool} {r : Bool} (h : Tells f g r) : Tells g f r := h.trans ⟨fun a i => (a i).symm, fun a i => (a i).symm⟩
theorem hr_no {l s : Nat → Bool} {k : Nat} {r : Bool} (hr : Tells l s r) (hz : ¬ wd (xorS l s) k = 0) : r = false := by
  obtain ⟨t, _, _, _, h, _⟩ := wd_bit hz
  cases r with
  | false => rfl
  | true => have := hr.1 rfl (64 * k + t); simp [xorS, this] at h
theorem hr_yes {l s : Nat → Bool} {n m K : Nat} {r : Bool} (hr : Tells l s r) (hl : ∀ i, n ≤ i → l i = false) (hs : ∀ i, m ≤ i → s i = false) (hno : ∀ x, x < 64 * K → xorS l s x = false) (hK : n ≤ 64 * K ∧ m ≤ 64 * K) : r = true := by
  refine hr.2 fun i => ?_
  rcases Nat.lt_or_ge i (64 * K) with q | q
  · have := hno i q
    simpa [xorS] using this
  · rw [hl i (by omega), hs i (by omega)]
set_option maxHeartbeats 1000000 in
theorem same_in {w : World} {bf gf nf bg gg ng : Nat} {f g : Nat → Bool} {r : Bool} (hf : Mk w bf gf nf f) (hg : Mk w bg gg ng g) (hr0 : Tells f g r) :
    Calls Tryd.prog 17 #[.pointer (some ⟨bf, 0, none⟩), .pointer (some ⟨bg, 0, none⟩)] w fun e w' => e = .returned (.bool r) ∧ w = w' := by
  have ftop := Lib.hid hf.top
  have gtop := Lib.hid hg.top
  have hfk := kw_le nf
  have hgk := kw_le ng
  have hfm := kw_max hf.le
  have hgm := kw_max hg.le
  have hfc : Hid (∀ k, k < kw nf → w.cell? ⟨gf, k, none⟩ = some (.int .u64 (wd f k : Nat))) := Lib.hid fun k hk => hf.cw hk
  have hgc : Hid (∀ k, k < kw ng → w.cell? ⟨gg, k, none⟩ = some (.int .u64 (wd g k : Nat))) := Lib.hid fun k hk => hg.cw hk
  have AF := all_in hf
  have AG := all_in hg
  clear hf hg
  generalize kw nf = KF at *
  generalize kw ng = KG at *
  by_cases hlt : KG < KF
  · replace hr := Lib.hid hr0
    clear hr0
    go_enter Tryd.func17, Tryd.ntmps17
    go_wp2_with (go_at_call 23; first | ((with_reducible refine AF.mono ?_); rintro e w' ⟨rfl, rfl⟩) | ((with_reducible refine AG.mono ?_); rintro e w' ⟨rfl, rfl⟩))
    go_loop [22] (fun c => ∃ k : Nat, k ≤ KF ∧ c = .int .i64 k ∧ Hid (∀ x, x < 64 * k → xorS f g x = false)) (fun c => KF - (intOf c).toNat)
    case atStart => exact ⟨0, Nat.zero_le _, rfl, Lib.hid fun x a => by omega⟩
    case round =>
      obtain ⟨k, hk, rfl, hno⟩ := hrel
      by_cases hlt : k < KF
      · have hcl := hfc.out k hlt
        have hw : Hid (k < KG → bits .xor .u64 (wd f k) (wd g k) = (wd (xorS f g) k : Int)) := Lib.hid fun _ => xor_wd f g k
        have hw2 : Hid (¬ k < KG → wd f k = wd (xorS f g) k) := Lib.hid fun hge => wd_congr fun i hi => by
          have : g (64 * k + i) = false := gtop.out _ (by omega)
          simp [xorS, this]
        by_cases hks : k < KG
        · have hcs := hgc.out k hks
          have hx := hw.out hks
          clear hw hw2
          by_cases hz : wd (xorS f g) k = 0
          · have hno2 := Lib.hid (step_no hno.out hz)
            have hzz : ((wd (xorS f g) k : Int) == 0) = true := by simp [hz]
            generalize wd (xorS f g) k = X at *
            generalize wd f k = Y at *
            generalize wd g k = Z at *
            clear hno
            go_wp2
            go_round
            case rel => exact ⟨k + 1, by omega, by go_num, hno2⟩
            case measure => simp [intOf]; omega
          · have hrf : r = false := hr_no hr.out hz
            have hzz : ((wd (xorS f g) k : Int) == 0) = false := by simp [hz]
            generalize wd (xorS f g) k = X at *
            generalize wd f k = Y at *
            generalize wd g k = Z at *
            clear hno hr
            go_wp2
            go_ret
            exact ⟨rfl, rfl⟩
        · have hx := hw2.out hks
          rw [hx] at hcl
          clear hw hw2 hx
          by_cases hz : wd (xorS f g) k = 0
          · have hno2 := Lib.hid (step_no hno.out hz)
            have hzz : ((wd (xorS f g) k : Int) == 0) = true := by simp [hz]
            generalize wd (xorS f g) k = X at *
            clear hno
            go_wp2
            go_round
            case rel => exact ⟨k + 1, by omega, by go_num, hno2⟩
            case measure => simp [intOf]; omega
          · have hrf : r = false := hr_no hr.out hz
            have hzz : ((wd (xorS f g) k : Int) == 0) = false := by simp [hz]
            generalize wd (xorS f g) k = X at *
            clear hno hr
            go_wp2
            go_ret
            exact ⟨rfl, rfl⟩
      · have hrt : r = true := hr_yes hr.out ftop.out gtop.out (by have := hno.out; exact fun x a => this x (by omega)) (by omega)
        clear hno hr
        go_wp2
        go_ret
        exact ⟨rfl, rfl⟩
  · replace hr := Lib.hid (tells_symm hr0)
    clear hr0
    go_enter Tryd.func17, Tryd.ntmps17
    go_wp2_with (go_at_call 23; first | ((with_reducible refine AF.mono ?_); rintro e w' ⟨rfl, rfl⟩) | ((with_reducible refine AG.mono ?_); rintro e w' ⟨rfl, rfl⟩))
    go_loop [22] (fun c => ∃ k : Nat, k ≤ KG ∧ c = .int .i64 k ∧ Hid (∀ x, x < 64 * k → xorS g f x = false)) (fun c => KG - (intOf c).toNat)
    case atStart => exact ⟨0, Nat.zero_le _, rfl, Lib.hid fun x a => by omega⟩
    case round =>
      obtain ⟨k, hk, rfl, hno⟩ := hrel
      by_cases hlt : k < KG
      · have hcl := hgc.out k hlt
        have hw : Hid (k < KF → bits .xor .u64 (wd g k) (wd f k) = (wd (xorS g f) k : Int)) := Lib.hid fun _ => xor_wd g f k
        have hw2 : Hid (¬ k < KF → wd g k = wd (xorS g f) k) := Lib.hid fun hge => wd_congr fun i hi => by
          have : f (64 * k + i) = false := ftop.out _ (by omega)
          simp [xorS, this]
        by_cases hks : k < KF
        · have hcs := hfc.out k hks
          have hx := hw.out hks
          clear hw hw2
          by_cases hz : wd (xorS g f) k = 0
          · have hno2 := Lib.hid (step_no hno.out hz)
            have hzz : ((wd (xorS g f) k : Int) == 0) = true := by simp [hz]
            generalize wd (xorS g f) k = X at *
            generalize wd g k = Y at *
            generalize wd f k = Z at *
            clear hno
            go_wp2
            go_round
            case rel => exact ⟨k + 1, by omega, by go_num, hno2⟩
            case measure => simp [intOf]; omega
          · have hrf : r = false := hr_no hr.out hz
            have hzz : ((wd (xorS g f) k : Int) == 0) = false := by simp [hz]
            generalize wd (xorS g f) k = X at *
            generalize wd g k = Y at *
            generalize wd f k = Z at *
            clear hno hr
            go_wp2
            go_ret
            exact ⟨rfl, rfl⟩
        · have hx := hw2.out hks
          rw [hx] at hcl
          clear hw hw2 hx
          by_cases hz : wd (xorS g f) k = 0
          · have hno2 := Lib.hid (step_no hno.out hz)
            have hzz : ((wd (xorS g f) k : Int) == 0) = true := by simp [hz]
            generalize wd (xorS g f) k = X at *
            clear hno
            go_wp2
            go_round
            case rel => exact ⟨k + 1, by omega, by go_num, hno2⟩
            case measure => simp [intOf]; omega
          · have hrf : r = false := hr_no hr.out hz
            have hzz : ((wd (xorS g f) k : Int) == 0) = false := by simp [hz]
            generalize wd (xorS g f) k = X at *
            clear hno hr
            go_wp2
            go_ret
            exact ⟨rfl, rfl⟩
      · have hrt : r = true := hr_yes hr.out gtop.out ftop.out (by have := hno.out; exact fun x a => this x (by omega)) (by omega)
        clear hno hr
        go_wp2
        go_ret
        exact ⟨rfl, rfl⟩
end Go.Proofs.YtkdjojmegohonaaDoor
