/- The contract of Meets of the document's marks. -/
import Derived.Test.YtkdjojmegohonaaDoorW11
namespace Go.Proofs.YtkdjojmegohonaaDoor
open Go.RowKit
/-- r tells whether f and g share a number. -/
def Shares (f g : Nat → Bool) (r : Bool) : Prop := r = true ↔ ∃ i, andS f g i = true
theorem shares_ex (f g : Nat → Bool) : ∃ r, Shares f g r := by
  by_cases h : ∃ i, andS f g i = true
  · exact ⟨true, by simp only [Shares, true_iff]; exact h⟩
  · exact ⟨false, by simp only [Shares, Bool.false_eq_true, false_iff]; exact h⟩
set_option maxHeartbeats 1000000 in
theorem meets_in {w : World} {bf gf nf bg gg ng : Nat} {f g : Nat → Bool} {r : Bool} (hf : Mk w bf gf nf f) (hg : Mk w bg gg ng g) (hr : Shares f g r) :
    Calls Tryd.prog 16 #[.pointer (some ⟨bf, 0, none⟩), .pointer (some ⟨bg, 0, none⟩)] w fun e w' => e = .returned (.bool r) ∧ Below w.heap.size w w' := by
  have ftop := Lib.hid hf.top
  have gtop := Lib.hid hg.top
  have hfk := kw_le nf
  have hgk := kw_le ng
  have hfm := kw_max hf.le
  have hgm := kw_max hg.le
  have hfc : Hid (∀ k, k < kw nf → w.cell? ⟨gf, k, none⟩ = some (.int .u64 (wd f k : Nat))) := Lib.hid fun k hk => hf.cw hk
  have hgc : Hid (∀ k, k < kw ng → w.cell? ⟨gg, k, none⟩ = some (.int .u64 (wd g k : Nat))) := Lib.hid fun k hk => hg.cw hk
  have AF := all_in hf
  have AG := all_in hg
  have lf := hf.lt.2
  have lg := hg.lt.2
  clear hf hg
  replace hr := Lib.hid hr
  generalize kw nf = KF at *
  generalize kw ng = KG at *
  by_cases hlt : KG < KF
  · go_enter Tryd.func16, Tryd.ntmps16
    go_wp2_with (go_at_call 23; first | ((with_reducible refine AF.mono ?_); rintro e w' ⟨rfl, rfl⟩) | ((with_reducible refine AG.mono ?_); rintro e w' ⟨rfl, rfl⟩))
    go_loopw [17] (fun c wr => ∃ k : Nat, k ≤ KG ∧ c = .int .i64 k ∧ Hid (∀ x, x < 64 * k → andS f g x = false) ∧ Below w.heap.size w wr) (fun c _ => KG - (intOf c).toNat)
    case atStart => exact ⟨0, Nat.zero_le _, rfl, Lib.hid fun x a => by omega, Below.refl _ _⟩
    case round =>
      obtain ⟨k, hk, rfl, hno, hB⟩ := hrel
      by_cases hlt : k < KG
      · have hcf := (hB.cell (p := ⟨gf, k, none⟩) lf).trans (hfc.out k (by omega))
        have hcg := (hB.cell (p := ⟨gg, k, none⟩) lg).trans (hgc.out k (by omega))
        have hx := and_wd f g k
        replace hB := Lib.hid hB
        have q1 : k < KF := by omega
        have q2 : k < KG := by omega
        have b0 : (0 : Int) ≤ k := by omega
        have b1 : (k : Int) < KF := by omega
        have b2 : (k : Int) < KG := by omega
        by_cases hz : wd (andS f g) k = 0
        · have hno2 := Lib.hid (step_no hno.out hz)
          have hzz : ((wd (andS f g) k : Int) != 0) = false := by simp [hz]
          generalize wd (andS f g) k = X at *
          generalize wd f k = Y at *
          generalize wd g k = Z at *
          clear hno
          go_wp2
          go_quiet (fail)
          go_wp2
          go_roundw
          case rel => exact ⟨k + 1, by omega, by go_num, hno2, below_drewN hB.out _⟩
          case measure => simp [intOf]; omega
        · have hrf : r = true := hr.out.2 (by obtain ⟨t, _, _, _, h, _⟩ := wd_bit hz; exact ⟨_, h⟩)
          have hzz : ((wd (andS f g) k : Int) != 0) = true := by simp [hz]
          generalize wd (andS f g) k = X at *
          generalize wd f k = Y at *
          generalize wd g k = Z at *
          clear hno hr
          go_wp2
          go_quiet (fail)
          go_wp2
          go_ret
          exact ⟨by rw [hrf]; rfl, below_drewN hB.out _⟩
      · have hrf : r = false := by
          cases r with
          | false => rfl
          | true =>
            obtain ⟨i, hi⟩ := hr.out.1 rfl
            rcases Nat.lt_or_ge i (64 * k) with q | q
            · rw [hno.out i q] at hi; cases hi
            · have : f i = false ∨ g i = false := by
                by_cases h : KF ≤ KG
                · exact .inl (ftop.out i (by omega))
                · exact .inr (gtop.out i (by omega))
              rcases this with h | h <;> simp [andS, h] at hi
        replace hB := Lib.hid hB
        clear hno hr
        go_wp2
        go_ret
        exact ⟨by rw [hrf]; rfl, hB.out⟩
  · go_enter Tryd.func16, Tryd.ntmps16
    go_wp2_with (go_at_call 23; first | ((with_reducible refine AF.mono ?_); rintro e w' ⟨rfl, rfl⟩) | ((with_reducible refine AG.mono ?_); rintro e w' ⟨rfl, rfl⟩))
    go_loopw [17] (fun c wr => ∃ k : Nat, k ≤ KF ∧ c = .int .i64 k ∧ Hid (∀ x, x < 64 * k → andS f g x = false) ∧ Below w.heap.size w wr) (fun c _ => KF - (intOf c).toNat)
    case atStart => exact ⟨0, Nat.zero_le _, rfl, Lib.hid fun x a => by omega, Below.refl _ _⟩
    case round =>
      obtain ⟨k, hk, rfl, hno, hB⟩ := hrel
      by_cases hlt : k < KF
      · have hcf := (hB.cell (p := ⟨gf, k, none⟩) lf).trans (hfc.out k (by omega))
        have hcg := (hB.cell (p := ⟨gg, k, none⟩) lg).trans (hgc.out k (by omega))
        have hx := and_wd f g k
        replace hB := Lib.hid hB
        have q1 : k < KF := by omega
        have q2 : k < KG := by omega
        have b0 : (0 : Int) ≤ k := by omega
        have b1 : (k : Int) < KF := by omega
        have b2 : (k : Int) < KG := by omega
        by_cases hz : wd (andS f g) k = 0
        · have hno2 := Lib.hid (step_no hno.out hz)
          have hzz : ((wd (andS f g) k : Int) != 0) = false := by simp [hz]
          generalize wd (andS f g) k = X at *
          generalize wd f k = Y at *
          generalize wd g k = Z at *
          clear hno
          go_wp2
          go_quiet (fail)
          go_wp2
          go_roundw
          case rel => exact ⟨k + 1, by omega, by go_num, hno2, below_drewN hB.out _⟩
          case measure => simp [intOf]; omega
        · have hrf : r = true := hr.out.2 (by obtain ⟨t, _, _, _, h, _⟩ := wd_bit hz; exact ⟨_, h⟩)
          have hzz : ((wd (andS f g) k : Int) != 0) = true := by simp [hz]
          generalize wd (andS f g) k = X at *
          generalize wd f k = Y at *
          generalize wd g k = Z at *
          clear hno hr
          go_wp2
          go_quiet (fail)
          go_wp2
          go_ret
          exact ⟨by rw [hrf]; rfl, below_drewN hB.out _⟩
      · have hrf : r = false := by
          cases r with
          | false => rfl
          | true =>
            obtain ⟨i, hi⟩ := hr.out.1 rfl
            rcases Nat.lt_or_ge i (64 * k) with q | q
            · rw [hno.out i q] at hi; cases hi
            · have : f i = false ∨ g i = false := by
                by_cases h : KF ≤ KG
                · exact .inl (ftop.out i (by omega))
                · exact .inr (gtop.out i (by omega))
              rcases this with h | h <;> simp [andS, h] at hi
        replace hB := Lib.hid hB
        clear hno hr
        go_wp2
        go_ret
        exact ⟨by rw [hrf]; rfl, hB.out⟩
end Go.Proofs.YtkdjojmegohonaaDoor
