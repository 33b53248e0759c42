/- The contract of Or of the document's marks. -/
import Derived.Test.YtkdjojmegohonaaDoorW12
namespace Go.Proofs.YtkdjojmegohonaaDoor
open Go.RowKit
def ltS (n : Nat) : Nat → Bool := fun c => decide (c < n)
/-- What g would add to f below n. -/
def newS (f g : Nat → Bool) (n : Nat) : Nat → Bool := fun c => !f c && (g c && decide (c < n))
/-- f with what g adds below n in the first k words. -/
def upTo (f g : Nat → Bool) (n k : Nat) : Nat → Bool := fun c => f c || (g c && decide (c < n) && decide (c < 64 * k))
def orTo (f g : Nat → Bool) (n : Nat) : Nat → Bool := fun c => f c || (g c && decide (c < n))
theorem pow64 {m : Nat} (h : 64 ≤ m) : ((2 : Int) ^ m) % 18446744073709551616 = 0 := by
  obtain ⟨d, rfl⟩ : ∃ d, m = 64 + d := ⟨m - 64, by omega⟩
  rw [Int.pow_add]
  have : (2 : Int) ^ 64 = 18446744073709551616 := by decide
  rw [this]
  exact Int.mul_emod_right _ _
theorem lt_word (n k : Nat) (h : 64 * k < n) : IntKind.u64.wrap (IntKind.u64.wrap (2 ^ (n - 64 * k)) - 1) = (wd (ltS n) k : Int) := by
  rcases Nat.lt_or_ge (n - 64 * k) 64 with q | q
  · have hp : (2 : Nat) ^ (n - 64 * k) < 18446744073709551616 := Nat.pow_lt_pow_right (a := 2) (by decide) q
    have e : (2 : Int) ^ (n - 64 * k) = ((2 ^ (n - 64 * k) : Nat) : Int) := by simp
    have hp1 := Nat.two_pow_pos (n - 64 * k)
    rw [e, wrap_nat hp]
    have e2 : ((2 ^ (n - 64 * k) : Nat) : Int) - 1 = ((2 ^ (n - 64 * k) - 1 : Nat) : Int) := by omega
    rw [e2, wrap_nat (by omega)]
    refine congrArg Nat.cast (eq_wd (by omega) fun i hi => ?_)
    rw [Nat.testBit_two_pow_sub_one]
    unfold ltS
    rw [Bool.eq_iff_iff]; simp; omega
  · rw [wrap_u64, wrap_u64, pow64 q]
    have : (0 - 1 : Int) % 18446744073709551616 = ((18446744073709551615 : Nat) : Int) := by decide
    rw [this]
    refine congrArg Nat.cast (eq_wd (by decide) fun i hi => ?_)
    have e : (18446744073709551615 : Nat) = 2 ^ 64 - 1 := by decide
    rw [e, Nat.testBit_two_pow_sub_one]
    unfold ltS
    rw [Bool.eq_iff_iff]; simp; omega
theorem lt_word' (n k : Nat) (h : 64 * k < n) : IntKind.u64.wrap (IntKind.u64.wrap (2 ^ min (n - 64 * k) 64) - 1) = (wd (ltS n) k : Int) := by
  rcases Nat.lt_or_ge (n - 64 * k) 64 with q | q
  · rw [Nat.min_eq_left (by omega)]; exact lt_word n k h
  · rw [← lt_word n k h, Nat.min_eq_right q, wrap_u64 (2 ^ (n - 64 * k)), wrap_u64 (2 ^ 64), pow64 q, pow64 (Nat.le_refl 64)]
theorem up_word (f g : Nat → Bool) (n k : Nat) : bits .or .u64 (wd (upTo f g n k) k) (wd (andS (andS g (ltS n)) (notS (upTo f g n k))) k) = (wd (upTo f g n (k + 1)) k : Int) := by
  rw [or_wd]
  refine congrArg Nat.cast (wd_congr fun i hi => ?_)
  have h1 : ¬ 64 * k + i < 64 * k := by omega
  have h2 : 64 * k + i < 64 * (k + 1) := by omega
  simp only [orS, andS, notS, upTo, ltS, h1, h2, decide_true, decide_false, Bool.and_false, Bool.or_false, Bool.and_true]
  cases f (64 * k + i) <;> simp
theorem new_word (f g : Nat → Bool) (n k : Nat) : wd (andS (andS g (ltS n)) (notS (upTo f g n k))) k = wd (newS f g n) k := wd_congr fun i hi => by
  have h1 : ¬ 64 * k + i < 64 * k := by omega
  simp only [andS, notS, upTo, ltS, newS, h1, decide_false, Bool.and_false, Bool.or_false]
  cases f (64 * k + i) <;> simp
theorem Mk.drewN {w : World} {b g n : Nat} {f : Nat → Bool} (h : Mk w b g n f) (m : Nat) : Mk (w.drewN m) b g n f := ⟨h.obj, h.row, h.ne, h.top, h.le⟩
theorem up_step {w : World} {b gf n : Nat} {f g : Nat → Bool} {k : Nat} (h : Mk w b gf n (upTo f g n k)) (nq j : Nat) (hj : j = k) : Mk ((w.drewN nq).setCell ⟨gf, k, none⟩ (.int .u64 (wd (upTo f g n (k + 1)) k : Nat))) b gf n (upTo f g n (k + 1)) := by
  refine (h.drewN nq).set (fun i hi => ?_) (fun i hi => ?_)
  · have : (i < 64 * (k + 1)) ↔ (i < 64 * k) := by omega
    simp [upTo, this]
  · have h1 := h.top i hi
    have h2 : ¬ i < n := by omega
    simp only [upTo, Bool.or_eq_false_iff] at h1
    simp [upTo, h1.1, h2]
theorem add_step {f g : Nat → Bool} {n k : Nat} {a : Bool} (h : a = true ↔ ∃ i, i < 64 * k ∧ newS f g n i = true) :
    (wd (newS f g n) k = 0 → (a = true ↔ ∃ i, i < 64 * (k + 1) ∧ newS f g n i = true)) ∧ (¬ wd (newS f g n) k = 0 → (true = true ↔ ∃ i, i < 64 * (k + 1) ∧ newS f g n i = true)) := by
  refine ⟨fun hz => h.trans ⟨fun ⟨i, h1, h2⟩ => ⟨i, by omega, h2⟩, fun ⟨i, h1, h2⟩ => ⟨i, ?_, h2⟩⟩, fun hz => ⟨fun _ => ?_, fun _ => rfl⟩⟩
  · rcases Nat.lt_or_ge i (64 * k) with q | q
    · exact q
    · rw [wd_zero hz i q h1] at h2; cases h2
  · obtain ⟨t, h1, _, _, h2, _⟩ := wd_bit hz
    exact ⟨_, by omega, h2⟩
theorem or_end {f g : Nat → Bool} {n m k : Nat} {r a : Bool} (hr : r = true ↔ ∃ i, newS f g n i = true) (ha : a = true ↔ ∃ i, i < 64 * k ∧ newS f g n i = true) (hg : ∀ i, m ≤ i → g i = false) (hk : n ≤ 64 * k ∨ m ≤ 64 * k) : r = a := by
  rw [Bool.eq_iff_iff, hr, ha]
  refine ⟨fun ⟨i, h⟩ => ⟨i, ?_, h⟩, fun ⟨i, _, h⟩ => ⟨i, h⟩⟩
  simp only [newS, Bool.and_eq_true, decide_eq_true_eq] at h
  rcases hk with q | q
  · omega
  · refine Nat.lt_of_not_le fun h2 => ?_
    rw [hg i (by omega)] at h
    exact absurd h.2.1 (by simp)
theorem upTo_end {f g : Nat → Bool} {n m k : Nat} (hg : ∀ i, m ≤ i → g i = false) (hk : n ≤ 64 * k ∨ m ≤ 64 * k) : ∀ i, upTo f g n k i = orTo f g n i := fun i => by
  unfold upTo orTo
  by_cases h : i < 64 * k
  · simp [h]
  · rcases hk with q | q
    · have : ¬ i < n := by omega
      simp [this]
    · simp [hg i (by omega)]
theorem grown_drewN (w : World) (n : Nat) {row : Option Nat} : w.grownBy (w.drewN n) row := ⟨rfl, rfl, rfl, Nat.le_refl _, fun _ _ _ => rfl⟩
set_option maxHeartbeats 2000000 in
theorem or_in {w : World} {bf gf nf bg gg ng : Nat} {f g : Nat → Bool} {r : Bool} (hf : Mk w bf gf nf f) (hg : Mk w bg gg ng g) (h1 : gf ≠ bg) (h2 : gf ≠ gg) (hr : r = true ↔ ∃ i, newS f g nf i = true) :
    Calls Tryd.prog 12 #[.pointer (some ⟨bf, 0, none⟩), .pointer (some ⟨bg, 0, none⟩)] w fun e w' => e = .returned (.bool r) ∧ Mk w' bf gf nf (orTo f g nf) ∧ w.grownBy w' (some gf) := by
  have hfk := kw_le nf
  have hgk := kw_le ng
  have hfm := kw_max hf.le
  have hgm := kw_max hg.le
  have hfl := hf.le
  have AF := all_in hf
  have AG := all_in hg
  replace hr := Lib.hid hr
  replace h1 := Lib.hid h1
  replace h2 := Lib.hid h2
  by_cases hlt : kw ng < kw nf
  · go_enter Tryd.func12, Tryd.ntmps12
    go_wp2_with (go_at_call 23; first | ((with_reducible refine AF.mono ?_); rintro e w' ⟨rfl, rfl⟩) | ((with_reducible refine AG.mono ?_); rintro e w' ⟨rfl, rfl⟩))
    go_loopw [7, 20] (fun ad c wr => ∃ (k : Nat) (a : Bool), k ≤ kw ng ∧ c = .int .i64 k ∧ ad = .bool a ∧ Hid (a = true ↔ ∃ i, i < 64 * k ∧ newS f g nf i = true) ∧ Mk wr bf gf nf (upTo f g nf k) ∧ Mk wr bg gg ng g ∧ w.grownBy wr (some gf)) (fun _ c _ => kw ng - (intOf c).toNat)
    case atStart => exact ⟨0, false, Nat.zero_le _, rfl, rfl, Lib.hid (by simp), hf.congr fun c => by simp [upTo], hg, grown_refl _⟩
    case round =>
      clear hf hg
      obtain ⟨k, a, hk, rfl, rfl, had, hf, hg, hgr⟩ := hrel
      by_cases hlt : k < kw ng
      · have q1 : k < kw nf := by omega
        have q2 : k < kw ng := by omega
        have hcf := hf.cw q1
        have hcg := hg.cw q2
        have hc0 := hf.c0
        have hfz := hf.fz k
        have hS := Lib.hid (fun (nq : Nat) => up_step hf nq k rfl)
        have hgs := Lib.hid (fun (nq : Nat) => hg.drewN nq)
        have hne := hf.ne
        have e1 := lt_word' nf k (kw_lt' q1)
        have e2 := and_wd g (ltS nf) k
        have e3 := andNot_wd (andS g (ltS nf)) (upTo f g nf k) k
        have e4 := up_word f g nf k
        have hzz := new_word f g nf k
        have hnk := kw_lt' q1
        clear hf hg
        replace hgr := Lib.hid hgr
        have b0 : (0 : Int) ≤ k := by omega
        have b1 : (k : Int) < kw nf := by omega
        have b2 : (k : Int) < kw ng := by omega
        have hsh : (0 : Int) ≤ (nf : Int) - 64 * k := by omega
        have hsh2 : 64 * (k : Int) ≤ (nf : Int) := by omega
        have hsh3 : 64 * k ≤ nf := by omega
        have hadd := Lib.hid (add_step (f := f) (g := g) (n := nf) had.out)
        clear had
        rw [hzz] at e3 e4
        replace hnk := Lib.hid hnk
        by_cases hz : wd (newS f g nf) k = 0
        · have hz1 : ((wd (newS f g nf) k : Int) != 0) = false := by simp [hz]
          replace hz := Lib.hid hz
          clear hzz
          generalize wd (newS f g nf) k = X at *
          generalize wd (andS g (ltS nf)) k = Y at *
          generalize wd (ltS nf) k = Z at *
          cases a
          all_goals
            go_wp2
            go_quiet (fail)
            go_wp2
            go_roundw
            case rel => exact ⟨k + 1, _, by omega, by go_num, rfl, Lib.hid (by simpa using hadd.out.1 hz.out), hS.out _, (hgs.out _).kept (grown_set _ _ _ _) (by simpa using h1.out) (by simpa using h2.out), grown_trans hgr.out (grown_trans (grown_drewN _ _) (grown_set _ _ _ _))⟩
            case measure => simp [intOf]; omega
        · have hz1 : ((wd (newS f g nf) k : Int) != 0) = true := by simp [hz]
          replace hz := Lib.hid hz
          clear hzz
          generalize wd (newS f g nf) k = X at *
          generalize wd (andS g (ltS nf)) k = Y at *
          generalize wd (ltS nf) k = Z at *
          cases a
          all_goals
            go_wp2
            go_quiet (fail)
            go_wp2
            go_roundw
            case rel => exact ⟨k + 1, _, by omega, by go_num, rfl, Lib.hid (by simpa using hadd.out.2 hz.out), hS.out _, (hgs.out _).kept (grown_set _ _ _ _) (by simpa using h1.out) (by simpa using h2.out), grown_trans hgr.out (grown_trans (grown_drewN _ _) (grown_set _ _ _ _))⟩
            case measure => simp [intOf]; omega
      · have hra : r = a := or_end hr.out had.out hg.top (by omega)
        have hfin : Mk _ bf gf nf (orTo f g nf) := hf.congr (upTo_end hg.top (by omega))
        replace hfin := Lib.hid hfin
        replace hgr := Lib.hid hgr
        clear had hf hg
        go_wp2
        go_ret
        exact ⟨by rw [hra]; rfl, hfin.out, hgr.out⟩
  · go_enter Tryd.func12, Tryd.ntmps12
    go_wp2_with (go_at_call 23; first | ((with_reducible refine AF.mono ?_); rintro e w' ⟨rfl, rfl⟩) | ((with_reducible refine AG.mono ?_); rintro e w' ⟨rfl, rfl⟩))
    go_loopw [7, 20] (fun ad c wr => ∃ (k : Nat) (a : Bool), k ≤ kw nf ∧ c = .int .i64 k ∧ ad = .bool a ∧ Hid (a = true ↔ ∃ i, i < 64 * k ∧ newS f g nf i = true) ∧ Mk wr bf gf nf (upTo f g nf k) ∧ Mk wr bg gg ng g ∧ w.grownBy wr (some gf)) (fun _ c _ => kw nf - (intOf c).toNat)
    case atStart => exact ⟨0, false, Nat.zero_le _, rfl, rfl, Lib.hid (by simp), hf.congr fun c => by simp [upTo], hg, grown_refl _⟩
    case round =>
      clear hf hg
      obtain ⟨k, a, hk, rfl, rfl, had, hf, hg, hgr⟩ := hrel
      by_cases hlt : k < kw nf
      · have q1 : k < kw nf := by omega
        have q2 : k < kw ng := by omega
        have hcf := hf.cw q1
        have hcg := hg.cw q2
        have hc0 := hf.c0
        have hfz := hf.fz k
        have hS := Lib.hid (fun (nq : Nat) => up_step hf nq k rfl)
        have hgs := Lib.hid (fun (nq : Nat) => hg.drewN nq)
        have hne := hf.ne
        have e1 := lt_word' nf k (kw_lt' q1)
        have e2 := and_wd g (ltS nf) k
        have e3 := andNot_wd (andS g (ltS nf)) (upTo f g nf k) k
        have e4 := up_word f g nf k
        have hzz := new_word f g nf k
        have hnk := kw_lt' q1
        clear hf hg
        replace hgr := Lib.hid hgr
        have b0 : (0 : Int) ≤ k := by omega
        have b1 : (k : Int) < kw nf := by omega
        have b2 : (k : Int) < kw ng := by omega
        have hsh : (0 : Int) ≤ (nf : Int) - 64 * k := by omega
        have hsh2 : 64 * (k : Int) ≤ (nf : Int) := by omega
        have hsh3 : 64 * k ≤ nf := by omega
        have hadd := Lib.hid (add_step (f := f) (g := g) (n := nf) had.out)
        clear had
        rw [hzz] at e3 e4
        replace hnk := Lib.hid hnk
        by_cases hz : wd (newS f g nf) k = 0
        · have hz1 : ((wd (newS f g nf) k : Int) != 0) = false := by simp [hz]
          replace hz := Lib.hid hz
          clear hzz
          generalize wd (newS f g nf) k = X at *
          generalize wd (andS g (ltS nf)) k = Y at *
          generalize wd (ltS nf) k = Z at *
          cases a
          all_goals
            go_wp2
            go_quiet (fail)
            go_wp2
            go_roundw
            case rel => exact ⟨k + 1, _, by omega, by go_num, rfl, Lib.hid (by simpa using hadd.out.1 hz.out), hS.out _, (hgs.out _).kept (grown_set _ _ _ _) (by simpa using h1.out) (by simpa using h2.out), grown_trans hgr.out (grown_trans (grown_drewN _ _) (grown_set _ _ _ _))⟩
            case measure => simp [intOf]; omega
        · have hz1 : ((wd (newS f g nf) k : Int) != 0) = true := by simp [hz]
          replace hz := Lib.hid hz
          clear hzz
          generalize wd (newS f g nf) k = X at *
          generalize wd (andS g (ltS nf)) k = Y at *
          generalize wd (ltS nf) k = Z at *
          cases a
          all_goals
            go_wp2
            go_quiet (fail)
            go_wp2
            go_roundw
            case rel => exact ⟨k + 1, _, by omega, by go_num, rfl, Lib.hid (by simpa using hadd.out.2 hz.out), hS.out _, (hgs.out _).kept (grown_set _ _ _ _) (by simpa using h1.out) (by simpa using h2.out), grown_trans hgr.out (grown_trans (grown_drewN _ _) (grown_set _ _ _ _))⟩
            case measure => simp [intOf]; omega
      · have hra : r = a := or_end hr.out had.out hg.top (by omega)
        have hfin : Mk _ bf gf nf (orTo f g nf) := hf.congr (upTo_end hg.top (by omega))
        replace hfin := Lib.hid hfin
        replace hgr := Lib.hid hgr
        clear had hf hg
        go_wp2
        go_ret
        exact ⟨by rw [hra]; rfl, hfin.out, hgr.out⟩
end Go.Proofs.YtkdjojmegohonaaDoor
