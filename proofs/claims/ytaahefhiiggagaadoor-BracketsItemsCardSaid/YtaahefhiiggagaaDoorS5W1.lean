/- Functions of a byte: strings.IndexByte, sign, value, figure, in, hex. -/
import Derived.Test.YtaahefhiiggagaaDoorS5M
import Derived.Laws.Externs
namespace Go.Proofs.YtaahefhiiggagaaDoor.S5
open Go.RowKit

/-- Where a byte first stands in a string. -/
def ix (s : ByteArray) (c : Nat) : Int := Lib.indexByte s.data.toList c.toUInt8
theorem idx_s (s : ByteArray) (c : Nat) (w : World) : Calls Tryd.prog 60 #[.string s, .int .u8 c] w fun e w' => e = .returned (.int .i64 (ix s c)) ∧ w = w' := by
  have h := @run_callFunc_extern Tryd.prog 62 _ Extern.BytealgIndexByte.indexByte Tryd.func62 (by kernel_rfl) (by kernel_rfl) (by kernel_rfl) (by kernel_rfl)
  have h2 := Lib.run_indexByteString (P := Tryd.prog) s c
  rw [show ((c : Int)).toNat.toUInt8 = c.toUInt8 from rfl] at h2
  have e : Lib.indexByte s.data.toList c.toUInt8 = ix s c := rfl
  rw [e] at h2
  clear e
  go_enter Tryd.func60, Tryd.ntmps60
  go_wp2
  go_ret
  exact ⟨rfl, rfl⟩
theorem idx (s : ByteArray) (c : Nat) (w : World) : Calls Tryd.prog 58 #[.string s, .int .u8 c] w fun e w' => e = .returned (.int .i64 (ix s c)) ∧ w = w' := by
  go_enter Tryd.func58, Tryd.ntmps58
  go_wp2_with (go_at_call 60; refine (idx_s s c _).mono ?_; rintro e w' ⟨rfl, rfl⟩)
  go_ret
  exact ⟨rfl, rfl⟩
theorem idx_at (s : ByteArray) (c : Nat) (w : World) (k : Int) (hk : ix s c = k) : Calls Tryd.prog 58 #[.string s, .int .u8 c] w fun e w' => e = .returned (.int .i64 k) ∧ w = w' := by
  rw [← hk]; exact idx s c w
theorem ix_no {s : ByteArray} {c : Nat} (hc : c ≤ 255) (h : c ∉ nl s) : ix s c = -1 := by
  unfold ix
  unfold nl at h
  generalize s.data.toList = l at h
  induction l with
  | nil => rfl
  | cons b l ih =>
    simp only [List.map_cons, List.mem_cons, not_or] at h
    have hb : (b == c.toUInt8) = false := by
      rw [beq_eq_false_iff_ne]
      rintro rfl
      apply h.1
      simp
      omega
    unfold Lib.indexByte
    rw [ih h.2, hb]
    rfl
theorem ix_yes {s : ByteArray} {c : Nat} (h : c ∈ nl s) : 0 ≤ ix s c := by
  unfold ix
  unfold nl at h
  generalize s.data.toList = l at h
  induction l with
  | nil => simp at h
  | cons b l ih =>
    unfold Lib.indexByte
    by_cases hb : (b == c.toUInt8) = true
    · rw [if_pos hb]; omega
    · rw [if_neg hb]
      have hc : c ∈ l.map UInt8.toNat := by
        rcases List.mem_cons.1 h with h1 | h1
        · exfalso
          apply hb
          subst h1
          simp
        · exact h1
      have := ih hc
      rw [if_neg (by rw [beq_iff_eq]; omega)]
      omega

/-! ### What a digit stands for -/
abbrev capsB : ByteArray := ⟨#[65, 66, 67, 68, 69, 70]⟩
abbrev digsB : ByteArray := ⟨#[48, 49, 50, 51, 52, 53, 54, 55, 56, 57, 97, 98, 99, 100, 101, 102]⟩
theorem caps_all : ∀ c : Fin 256, ix capsB c.val = if 65 ≤ c.val ∧ c.val ≤ 70 then (c.val : Int) - 65 else -1 := by decide +kernel
theorem digs_all : ∀ c : Fin 256, ix digsB c.val = if 48 ≤ c.val ∧ c.val ≤ 57 then (c.val : Int) - 48 else if 97 ≤ c.val ∧ c.val ≤ 102 then (c.val : Int) - 87 else -1 := by decide +kernel
theorem value_in {c : Nat} {d : Int} (h : Fig c d) (hc : c ≤ 255) (w : World) : Calls Tryd.prog 65 #[.int .u8 c] w fun e w' => e = .returned (.int .i64 d) ∧ w = w' := by
  have h1 := caps_all ⟨c, by omega⟩
  have h2 := digs_all ⟨c, by omega⟩
  simp only at h1 h2
  cases h with
  | num h3 h4 =>
    rw [if_neg (by omega)] at h1
    rw [if_pos (by omega)] at h2
    have c1 := Lib.hid (fun w => idx_at capsB c w _ h1)
    have c2 := Lib.hid (fun w => idx_at digsB c w _ h2)
    clear h1 h2
    go_enter Tryd.func65, Tryd.ntmps65
    go_wp2_with (first | (go_at_call 58; (with_reducible refine (c1.out _).mono ?_); rintro e w' ⟨rfl, rfl⟩) | (go_at_call 58; (with_reducible refine (c2.out _).mono ?_); rintro e w' ⟨rfl, rfl⟩))
    go_ret
    exact ⟨rfl, rfl⟩
  | low h3 h4 =>
    rw [if_neg (by omega)] at h1
    rw [if_neg (by omega), if_pos (by omega)] at h2
    have c1 := Lib.hid (fun w => idx_at capsB c w _ h1)
    have c2 := Lib.hid (fun w => idx_at digsB c w _ h2)
    clear h1 h2
    go_enter Tryd.func65, Tryd.ntmps65
    go_wp2_with (first | (go_at_call 58; (with_reducible refine (c1.out _).mono ?_); rintro e w' ⟨rfl, rfl⟩) | (go_at_call 58; (with_reducible refine (c2.out _).mono ?_); rintro e w' ⟨rfl, rfl⟩))
    go_ret
    exact ⟨rfl, rfl⟩
  | cap h3 h4 =>
    rw [if_pos (by omega)] at h1
    have c1 := Lib.hid (fun w => idx_at capsB c w _ h1)
    clear h1 h2
    go_enter Tryd.func65, Tryd.ntmps65
    go_wp2_with (first | (go_at_call 58; (with_reducible refine (c1.out _).mono ?_); rintro e w' ⟨rfl, rfl⟩))
    go_ret
    exact ⟨ret_int (by omega), rfl⟩
  | none h3 h4 h5 =>
    rw [if_neg (by omega)] at h1
    rw [if_neg (by omega), if_neg (by omega)] at h2
    have c1 := Lib.hid (fun w => idx_at capsB c w _ h1)
    have c2 := Lib.hid (fun w => idx_at digsB c w _ h2)
    clear h1 h2
    go_enter Tryd.func65, Tryd.ntmps65
    go_wp2_with (first | (go_at_call 58; (with_reducible refine (c1.out _).mono ?_); rintro e w' ⟨rfl, rfl⟩) | (go_at_call 58; (with_reducible refine (c2.out _).mono ?_); rintro e w' ⟨rfl, rfl⟩))
    go_ret
    exact ⟨rfl, rfl⟩
theorem figure_in {c : Nat} {d : Int} (h : Fig c d) (hc : c ≤ 255) (w : World) : Calls Tryd.prog 56 #[.int .u8 c] w fun e w' => e = .returned (.int .i64 d) ∧ w = w' := by
  cases h with
  | num h3 h4 =>
    go_enter Tryd.func56, Tryd.ntmps56
    go_wp2
    all_goals first | (exfalso; omega) | (go_ret; exact ⟨ret_int (by omega), rfl⟩)
  | low h3 h4 =>
    go_enter Tryd.func56, Tryd.ntmps56
    go_wp2
    all_goals first | (exfalso; omega) | (go_ret; exact ⟨ret_int (by omega), rfl⟩)
  | cap h3 h4 =>
    go_enter Tryd.func56, Tryd.ntmps56
    go_wp2
    all_goals first | (exfalso; omega) | (go_ret; exact ⟨ret_int (by omega), rfl⟩)
  | none h3 h4 h5 =>
    go_enter Tryd.func56, Tryd.ntmps56
    go_wp2
    all_goals first | (exfalso; omega) | (go_ret; exact ⟨ret_int (by omega), rfl⟩)
theorem sign_yes {c : Nat} (h : Sign c) (w : World) : Calls Tryd.prog 64 #[.int .u8 c] w fun e w' => e = .returned (.bool true) ∧ w = w' := by
  unfold Sign at h
  go_enter Tryd.func64, Tryd.ntmps64
  go_wp2
  all_goals (go_ret; exact ⟨ret_bool (by first | rfl | (simp; omega)), rfl⟩)
theorem sign_no {c : Nat} (h : ¬ Sign c) (w : World) : Calls Tryd.prog 64 #[.int .u8 c] w fun e w' => e = .returned (.bool false) ∧ w = w' := by
  unfold Sign at h
  go_enter Tryd.func64, Tryd.ntmps64
  go_wp2
  all_goals (go_ret; exact ⟨ret_bool (by first | rfl | (simp; omega)), rfl⟩)
end Go.Proofs.YtaahefhiiggagaaDoor.S5
