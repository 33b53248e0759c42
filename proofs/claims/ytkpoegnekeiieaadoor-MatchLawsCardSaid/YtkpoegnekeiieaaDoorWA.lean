/- Texts merged: W1, W2, W3, W4. -/

import Derived.Test.YtkpoegnekeiieaaDoorMA
import Derived.Test.YtkpoegnekeiieaaDoorS6C
namespace Go.Proofs.YtkpoegnekeiieaaDoor
open Go.RowKit
open Go.Tree7
open S7
open S5 (nl nl_length nl_small at_nl nl_at Gives idx idx_at ix ix_no ix_yes)
/-- The error values, by their numbers, lie in their variables. -/
structure Six (w : World) (V : Nat → Value) : Prop where
  rang : w.cell? ⟨4, 0, none⟩ = some (.iface 135 (V 1))
  short : w.cell? ⟨0, 0, none⟩ = some (.iface 135 (V 2))
  form : w.cell? ⟨3, 0, none⟩ = some (.iface 135 (V 4))
  name : w.cell? ⟨5, 0, none⟩ = some (.iface 135 (V 5))
  dept : w.cell? ⟨1, 0, none⟩ = some (.iface 135 (V 7))
  limi : w.cell? ⟨2, 0, none⟩ = some (.iface 135 (V 9))
theorem Six.bel {w w' : World} {V : Nat → Value} (h : Six w V) (hb : Bel w w') : Six w' V :=
  ⟨hb.cell (World.block_lt_of_cell? _ _ h.rang) h.rang, hb.cell (World.block_lt_of_cell? _ _ h.short) h.short, hb.cell (World.block_lt_of_cell? _ _ h.form) h.form, hb.cell (World.block_lt_of_cell? _ _ h.name) h.name, hb.cell (World.block_lt_of_cell? _ _ h.dept) h.dept, hb.cell (World.block_lt_of_cell? _ _ h.limi) h.limi⟩
theorem Six.thr {w : World} {V : Nat → Value} (h : Six w V) : S6.Thr w (V 1) (V 2) (V 4) := ⟨⟨h.short, h.form⟩, h.rang⟩
/-- An error's value by its number. -/
def errX (V : Nat → Value) (e : Nat) : Value := if e = 0 then .nilIface else .iface 135 (V e)
/-- Is a figure at a place? -/
def dgB (l : List Nat) (k : Nat) : Bool := match l[k]? with
  | some c => decide (48 ≤ c) && decide (c ≤ 57)
  | none => false
theorem dgB_iff {l : List Nat} {k : Nat} : dgB l k = true ↔ Dg l k := by
  unfold dgB Dg
  cases h : l[k]? with
  | none => simp
  | some c => simp
theorem dgB_no {l : List Nat} {k : Nat} (h : ¬ Dg l k) : dgB l k = false := by
  rw [← Bool.not_eq_true, dgB_iff]; exact h
theorem digit_in (s : ByteArray) (k : Nat) (_ : s.size ≤ 99990) (_ : k ≤ 100000) (w : World) : Calls Tryd.prog 69 #[.string s, .int .i64 k] w fun e w' => e = .returned (.bool (dgB (nl s) k)) ∧ w = w' := by
  cases h : (nl s)[k]? with
  | none =>
    have hd : dgB (nl s) k = false := by unfold dgB; rw [h]
    rw [hd]
    have g1 : s.size ≤ k := by have := List.getElem?_eq_none_iff.1 h; rwa [nl_length] at this
    have g2 : decide ((k : Int) < (s.size : Int)) = false := by simp; omega
    clear h hd
    go_enter Tryd.func69, Tryd.ntmps69
    go_wp2
    go_ret
    exact ⟨rfl, rfl⟩
  | some c =>
    obtain ⟨hlt, hat⟩ := at_nl h
    have hd : dgB (nl s) k = (decide (48 ≤ c) && decide (c ≤ 57)) := by unfold dgB; rw [h]
    rw [hd]
    clear h hd
    have hG : ∃ G, G = (decide (48 ≤ c) && decide (c ≤ 57)) := ⟨_, rfl⟩
    obtain ⟨G, hG⟩ := hG
    rw [← hG]
    replace hG := Lib.hid hG
    go_enter Tryd.func69, Tryd.ntmps69
    go_wp2
    all_goals (go_ret; refine ⟨ret_bool ?_, rfl⟩; rw [hG.out, Bool.eq_iff_iff]; simp; omega)
theorem dig_yes {s : ByteArray} {k : Nat} (h : Dg (nl s) k) (hm : s.size ≤ 99990) (hk : k ≤ 100000) (w : World) : Calls Tryd.prog 69 #[.string s, .int .i64 k] w fun e w' => e = .returned (.bool true) ∧ w = w' := by
  have := digit_in s k hm hk w
  rwa [dgB_iff.2 h] at this
theorem dig_no {s : ByteArray} {k : Nat} (h : ¬ Dg (nl s) k) (hm : s.size ≤ 99990) (hk : k ≤ 100000) (w : World) : Calls Tryd.prog 69 #[.string s, .int .i64 k] w fun e w' => e = .returned (.bool false) ∧ w = w' := by
  have := digit_in s k hm hk w
  rwa [dgB_no h] at this
theorem dig_yes' {s : ByteArray} {k : Nat} {i : Int} (hi : i = (k : Int)) (h : Dg (nl s) k) (hm : s.size ≤ 99990) (hk : k ≤ 100000) (w : World) : Calls Tryd.prog 69 #[.string s, .int .i64 i] w fun e w' => e = .returned (.bool true) ∧ w = w' := by
  subst hi; exact dig_yes h hm hk w
theorem dig_no' {s : ByteArray} {k : Nat} {i : Int} (hi : i = (k : Int)) (h : ¬ Dg (nl s) k) (hm : s.size ≤ 99990) (hk : k ≤ 100000) (w : World) : Calls Tryd.prog 69 #[.string s, .int .i64 i] w fun e w' => e = .returned (.bool false) ∧ w = w' := by
  subst hi; exact dig_no h hm hk w
theorem dg_at {l : List Nat} {k c : Nat} (h : l[k]? = some c) (h1 : 48 ≤ c) (h2 : c ≤ 57) : Dg l k := ⟨c, h, h1, h2⟩
theorem nm_dg {l : List Nat} {k a n : Nat} (h : Nm l k a n) : Dg l k := by
  cases h with
  | one c h1 h2 h3 h4 => exact ⟨c, h1, h2, h3⟩
  | two c d h1 h2 h3 => exact ⟨c, h1, h2, h3⟩
set_option maxRecDepth 10000 in
set_option maxHeartbeats 2000000 in
theorem number_one {s : ByteArray} {k c : Nat} (h1 : (nl s)[k]? = some c) (h2 : 48 ≤ c) (h3 : c ≤ 57) (h4 : ¬ Dg (nl s) (k + 1)) (hm : s.size ≤ 99990) (w : World) :
    Gives 88 #[.string s, .int .i64 k] (.tuple #[.int .i64 ((c - 48 : Nat) : Int), .int .i64 ((k + 1 : Nat) : Int), .nilIface]) w := by
  obtain ⟨hlt, hat⟩ := at_nl h1
  have hkb : k ≤ 99990 := by omega
  have cA := Lib.hid (fun w => dig_yes (dg_at h1 h2 h3) hm (by omega) w)
  have cB := Lib.hid (fun w => dig_no' (i := (k : Int) + 1) (by omega) h4 hm (by omega) w)
  have e1 : (k : Int) + 1 = ((k + 1 : Nat) : Int) := by omega
  have e2 : (c : Int) - 48 = ((c - 48 : Nat) : Int) := by omega
  have e3 : Hid (c - 48 ≤ 9) := Lib.hid (by omega)
  rw [← e1, ← e2]
  clear h1 h4 hm e1 e2
  unfold Gives
  go_enter Tryd.func88, Tryd.ntmps88
  go_wp2
  go_loopw [4, 5] (fun i j wr => wr = w ∧ ((i = .int .i64 0 ∧ j = .int .i64 k) ∨ (i = .int .i64 ((c : Int) - 48) ∧ j = .int .i64 ((k : Int) + 1)))) (fun _ j _ => k + 2 - (intOf j).toNat)
  case atStart => exact ⟨rfl, .inl ⟨rfl, rfl⟩⟩
  case round =>
    obtain ⟨rfl, ⟨rfl, rfl⟩ | ⟨rfl, rfl⟩⟩ := hrel
    · go_wp2_with (go_at_call 69; (with_reducible refine (cA.out _).mono ?_); rintro e w' ⟨rfl, rfl⟩)
      go_roundw
      case rel => exact ⟨by first | trivial | rfl, .inr ⟨by go_num, by go_num⟩⟩
      case measure => simp [intOf] <;> omega
    · go_wp2_with (go_at_call 69; (with_reducible refine (cB.out _).mono ?_); rintro e w' ⟨rfl, rfl⟩)
      refine bodyPost_ret (v := .tuple #[.int .i64 ((c : Int) - 48), .int .i64 ((k : Int) + 1), .nilIface]) (by simp [results, Tryd.results88, go_sem]) rfl ?_
      exact ⟨rfl, Below.refl _ _⟩
end Go.Proofs.YtkpoegnekeiieaaDoor
namespace Go.Proofs.YtkpoegnekeiieaaDoor
open Go.RowKit
open Go.Tree7
open S7
open S5 (nl nl_length nl_small at_nl nl_at Gives idx idx_at ix ix_no ix_yes)
set_option maxRecDepth 10000 in
set_option maxHeartbeats 4000000 in
theorem number_two {s : ByteArray} {k c d : Nat} (h1 : (nl s)[k]? = some c) (h2 : 48 ≤ c) (h3 : c ≤ 57) (h4 : (nl s)[k + 1]? = some d) (h5 : 48 ≤ d) (h6 : d ≤ 57) (h7 : ¬ Dg (nl s) (k + 2)) (h8 : 10 * (c - 48) + (d - 48) ≤ 40) (hm : s.size ≤ 99990) (w : World) :
    Gives 88 #[.string s, .int .i64 k] (.tuple #[.int .i64 ((10 * (c - 48) + (d - 48) : Nat) : Int), .int .i64 ((k + 2 : Nat) : Int), .nilIface]) w := by
  obtain ⟨hlt, hat⟩ := at_nl h1
  obtain ⟨hlt2, hat2⟩ := at_nl h4
  have hlt1 : k < s.size := by omega
  have hkb : k ≤ 99990 := by omega
  have cA := Lib.hid (fun w => dig_yes (dg_at h1 h2 h3) hm (by omega) w)
  have cB := Lib.hid (fun w => dig_yes' (i := (k : Int) + 1) (by omega) (dg_at h4 h5 h6) hm (by omega) w)
  have cC := Lib.hid (fun w => dig_no' (i := (k : Int) + 2) (by omega) h7 hm (by omega) w)
  have e1 : (k : Int) + 2 = ((k + 2 : Nat) : Int) := by omega
  have e2 : (((c : Int) - 48) * 10 + ((d : Int) - 48)) = ((10 * (c - 48) + (d - 48) : Nat) : Int) := by omega
  rw [← e1, ← e2]
  have h9 : (((c : Int) - 48) * 10 + ((d : Int) - 48)) ≤ 40 := by omega
  have h9b : Hid ((((c : Int) - 48) * 10 + ((d : Int) - 48)) ≤ 40) := Lib.hid h9
  clear h1 h4 h7 h8 hm e1 e2
  unfold Gives
  go_enter Tryd.func88, Tryd.ntmps88
  go_wp2
  go_loopw [4, 5] (fun i j wr => wr = w ∧ ((i = .int .i64 0 ∧ j = .int .i64 k) ∨ (i = .int .i64 ((c : Int) - 48) ∧ j = .int .i64 ((k : Int) + 1)) ∨ ((i = .int .i64 (((c : Int) - 48) * 10 + ((d : Int) - 48)) ∧ j = .int .i64 ((k : Int) + 2))))) (fun _ j _ => k + 3 - (intOf j).toNat)
  case atStart => exact ⟨rfl, .inl ⟨rfl, rfl⟩⟩
  case round =>
    obtain ⟨rfl, ⟨rfl, rfl⟩ | ⟨rfl, rfl⟩ | ⟨rfl, rfl⟩⟩ := hrel
    · go_wp2_with (go_at_call 69; (with_reducible refine (cA.out _).mono ?_); rintro e w' ⟨rfl, rfl⟩)
      go_roundw
      case rel => exact ⟨by first | trivial | rfl, .inr (.inl ⟨by go_num, by go_num⟩)⟩
      case measure => simp [intOf] <;> omega
    · have g1 : ((k : Int) + 1 - (k : Int) == 2) = false := by rw [beq_eq_false_iff_ne]; omega
      have g2 : decide (40 < (((c : Int) - 48) * 10 + ((d : Int) - 48))) = false := by have := h9b.out; simp only [decide_eq_false_iff_not]; omega
      go_wp2_with (go_at_call 69; (with_reducible refine (cB.out _).mono ?_); rintro e w' ⟨rfl, rfl⟩)
      go_roundw
      case rel => exact ⟨by first | trivial | rfl, .inr (.inr ⟨by go_num, by go_num⟩)⟩
      case measure => simp [intOf] <;> omega
    · go_wp2_with (go_at_call 69; (with_reducible refine (cC.out _).mono ?_); rintro e w' ⟨rfl, rfl⟩)
      refine bodyPost_ret (v := .tuple #[.int .i64 (((c : Int) - 48) * 10 + ((d : Int) - 48)), .int .i64 ((k : Int) + 2), .nilIface]) (by simp [results, Tryd.results88, go_sem]) rfl ?_
      exact ⟨rfl, Below.refl _ _⟩
set_option maxRecDepth 10000 in
set_option maxHeartbeats 4000000 in
theorem number_big {s : ByteArray} {k c d : Nat} (h1 : (nl s)[k]? = some c) (h2 : 48 ≤ c) (h3 : c ≤ 57) (h4 : (nl s)[k + 1]? = some d) (h5 : 48 ≤ d) (h6 : d ≤ 57) (h8 : 40 < 10 * (c - 48) + (d - 48)) (hm : s.size ≤ 99990) {E : Value} (w : World) (hE : w.cell? ⟨4, 0, none⟩ = some E) :
    Gives 88 #[.string s, .int .i64 k] (.tuple #[.int .i64 0, .int .i64 k, E]) w := by
  obtain ⟨hlt, hat⟩ := at_nl h1
  obtain ⟨hlt2, hat2⟩ := at_nl h4
  have hlt1 : k < s.size := by omega
  have hkb : k ≤ 99990 := by omega
  have cA := Lib.hid (fun w => dig_yes (dg_at h1 h2 h3) hm (by omega) w)
  have cB := Lib.hid (fun w => dig_yes' (i := (k : Int) + 1) (by omega) (dg_at h4 h5 h6) hm (by omega) w)
  have h9 : Hid (40 < (((c : Int) - 48) * 10 + ((d : Int) - 48))) := Lib.hid (by omega)
  clear h1 h4 h8 hm
  unfold Gives
  go_enter Tryd.func88, Tryd.ntmps88
  go_wp2
  go_loopw [4, 5] (fun i j wr => wr = w ∧ ((i = .int .i64 0 ∧ j = .int .i64 k) ∨ (i = .int .i64 ((c : Int) - 48) ∧ j = .int .i64 ((k : Int) + 1)) ∨ (False ∧ (i = .int .i64 (((c : Int) - 48) * 10 + ((d : Int) - 48)) ∧ j = .int .i64 ((k : Int) + 2))))) (fun _ j _ => k + 3 - (intOf j).toNat)
  case atStart => exact ⟨rfl, .inl ⟨rfl, rfl⟩⟩
  case round =>
    obtain ⟨rfl, ⟨rfl, rfl⟩ | ⟨rfl, rfl⟩ | ⟨hF, rfl, rfl⟩⟩ := hrel
    · go_wp2_with (go_at_call 69; (with_reducible refine (cA.out _).mono ?_); rintro e w' ⟨rfl, rfl⟩)
      go_roundw
      case rel => exact ⟨by first | trivial | rfl, .inr (.inl ⟨by go_num, by go_num⟩)⟩
      case measure => simp [intOf] <;> omega
    · have h10 := h9.out
      go_wp2_with (go_at_call 69; (with_reducible refine (cB.out _).mono ?_); rintro e w' ⟨rfl, rfl⟩)
      all_goals first
        | (exfalso; omega)
        | (go_quiet (fail)
           go_wp2
           refine bodyPost_ret (v := .tuple #[.int .i64 0, .int .i64 k, E]) (by simp [results, Tryd.results88, go_sem]) rfl ?_
           exact ⟨rfl, below_drewN (Below.refl _ _) _⟩)
    · exact hF.elim
set_option maxRecDepth 10000 in
set_option maxHeartbeats 4000000 in
theorem number_long {s : ByteArray} {k c d b : Nat} (h1 : (nl s)[k]? = some c) (h2 : 48 ≤ c) (h3 : c ≤ 57) (h4 : (nl s)[k + 1]? = some d) (h5 : 48 ≤ d) (h6 : d ≤ 57) (h7 : (nl s)[k + 2]? = some b) (h10 : 48 ≤ b) (h11 : b ≤ 57) (h8 : 10 * (c - 48) + (d - 48) ≤ 40) (hm : s.size ≤ 99990) {E : Value} (w : World) (hE : w.cell? ⟨4, 0, none⟩ = some E) :
    Gives 88 #[.string s, .int .i64 k] (.tuple #[.int .i64 0, .int .i64 k, E]) w := by
  obtain ⟨hlt, hat⟩ := at_nl h1
  obtain ⟨hlt2, hat2⟩ := at_nl h4
  have hlt1 : k < s.size := by omega
  have hkb : k ≤ 99990 := by omega
  have cA := Lib.hid (fun w => dig_yes (dg_at h1 h2 h3) hm (by omega) w)
  have cB := Lib.hid (fun w => dig_yes' (i := (k : Int) + 1) (by omega) (dg_at h4 h5 h6) hm (by omega) w)
  obtain ⟨hlt3, hat3⟩ := at_nl h7
  have cC := Lib.hid (fun w => dig_yes' (i := (k : Int) + 2) (by omega) (dg_at h7 h10 h11) hm (by omega) w)
  have h9 : (((c : Int) - 48) * 10 + ((d : Int) - 48)) ≤ 40 := by omega
  have h9b : Hid ((((c : Int) - 48) * 10 + ((d : Int) - 48)) ≤ 40) := Lib.hid h9
  have h9c : Hid (0 ≤ (((c : Int) - 48) * 10 + ((d : Int) - 48))) := Lib.hid (by omega)
  clear h1 h4 h7 h8 hm
  unfold Gives
  go_enter Tryd.func88, Tryd.ntmps88
  go_wp2
  go_loopw [4, 5] (fun i j wr => wr = w ∧ ((i = .int .i64 0 ∧ j = .int .i64 k) ∨ (i = .int .i64 ((c : Int) - 48) ∧ j = .int .i64 ((k : Int) + 1)) ∨ ((i = .int .i64 (((c : Int) - 48) * 10 + ((d : Int) - 48)) ∧ j = .int .i64 ((k : Int) + 2))))) (fun _ j _ => k + 3 - (intOf j).toNat)
  case atStart => exact ⟨rfl, .inl ⟨rfl, rfl⟩⟩
  case round =>
    obtain ⟨rfl, ⟨rfl, rfl⟩ | ⟨rfl, rfl⟩ | ⟨rfl, rfl⟩⟩ := hrel
    · go_wp2_with (go_at_call 69; (with_reducible refine (cA.out _).mono ?_); rintro e w' ⟨rfl, rfl⟩)
      go_roundw
      case rel => exact ⟨by first | trivial | rfl, .inr (.inl ⟨by go_num, by go_num⟩)⟩
      case measure => simp [intOf] <;> omega
    · have g1 : ((k : Int) + 1 - (k : Int) == 2) = false := by rw [beq_eq_false_iff_ne]; omega
      have g2 : decide (40 < (((c : Int) - 48) * 10 + ((d : Int) - 48))) = false := by have := h9b.out; simp only [decide_eq_false_iff_not]; omega
      go_wp2_with (go_at_call 69; (with_reducible refine (cB.out _).mono ?_); rintro e w' ⟨rfl, rfl⟩)
      go_roundw
      case rel => exact ⟨by first | trivial | rfl, .inr (.inr ⟨by go_num, by go_num⟩)⟩
      case measure => simp [intOf] <;> omega
    · have h0 := h9c.out
      go_wp2_with (go_at_call 69; (with_reducible refine (cC.out _).mono ?_); rintro e w' ⟨rfl, rfl⟩)
      all_goals first
        | (exfalso; omega)
        | (go_quiet (fail)
           go_wp2
           refine bodyPost_ret (v := .tuple #[.int .i64 0, .int .i64 k, E]) (by simp [results, Tryd.results88, go_sem]) rfl ?_
           exact ⟨rfl, below_drewN (Below.refl _ _) _⟩)
theorem number_in {s : ByteArray} {k a n : Nat} (h : Nm (nl s) k a n) (hm : s.size ≤ 99990) (w : World) :
    Gives 88 #[.string s, .int .i64 k] (.tuple #[.int .i64 a, .int .i64 n, .nilIface]) w := by
  cases h with
  | one c h1 h2 h3 h4 => exact number_one h1 h2 h3 h4 hm w
  | two c d h1 h2 h3 h4 h5 h6 h7 h8 => exact number_two h1 h2 h3 h4 h5 h6 h7 h8 hm w
theorem number_bad {s : ByteArray} {k : Nat} (h : NmBad (nl s) k) (hm : s.size ≤ 99990) {E : Value} (w : World) (hE : w.cell? ⟨4, 0, none⟩ = some E) :
    Gives 88 #[.string s, .int .i64 k] (.tuple #[.int .i64 0, .int .i64 k, E]) w := by
  cases h with
  | long h1 h2 h3 =>
    obtain ⟨c, a1, a2, a3⟩ := h1
    obtain ⟨d, b1, b2, b3⟩ := h2
    obtain ⟨b, c1, c2, c3⟩ := h3
    by_cases h8 : 10 * (c - 48) + (d - 48) ≤ 40
    · exact number_long a1 a2 a3 b1 b2 b3 c1 c2 c3 h8 hm w hE
    · exact number_big a1 a2 a3 b1 b2 b3 (by omega) hm w hE
  | big c d h1 h2 h3 h4 h5 h6 h7 h8 => exact number_big h1 h2 h3 h4 h5 h6 h8 hm w hE
end Go.Proofs.YtkpoegnekeiieaaDoor
namespace Go.Proofs.YtkpoegnekeiieaaDoor
open Go.RowKit
open Go.Tree7
open S7
open S5 (nl nl_length nl_small at_nl nl_at Gives idx idx_at ix ix_no ix_yes)
theorem number_in' {s : ByteArray} {k a n : Nat} {i : Int} (hi : i = (k : Int)) (h : Nm (nl s) k a n) (hm : s.size ≤ 99990) (w : World) :
    Gives 88 #[.string s, .int .i64 i] (.tuple #[.int .i64 a, .int .i64 n, .nilIface]) w := by
  subst hi; exact number_in h hm w
theorem number_bad' {s : ByteArray} {k : Nat} {i : Int} (hi : i = (k : Int)) (h : NmBad (nl s) k) (hm : s.size ≤ 99990) {E : Value} (w : World) (hE : w.cell? ⟨4, 0, none⟩ = some E) :
    Gives 88 #[.string s, .int .i64 i] (.tuple #[.int .i64 0, .int .i64 i, E]) w := by
  subst hi; exact number_bad h hm w hE
theorem nodg_at {l : List Nat} {k c : Nat} (h : l[k]? = some c) (hc : c < 48 ∨ 57 < c) : ¬ Dg l k := by
  rintro ⟨x, p1, p2, p3⟩
  rw [h] at p1
  cases p1
  omega
theorem nodg_end {l : List Nat} {k : Nat} (h : l.length ≤ k) : ¬ Dg l k := by
  rintro ⟨x, p1, -⟩
  have := (List.getElem?_eq_some_iff.1 p1).1
  omega
theorem tup_eq {a b n n' : Int} {v : Value} (h : n = n') : Ending.returned (.tuple #[.int .i64 a, .int .i64 b, .int .i64 n, v]) = Ending.returned (.tuple #[.int .i64 a, .int .i64 b, .int .i64 n', v]) := by rw [h]
theorem nmbad_dg {l : List Nat} {k : Nat} (h : NmBad l k) : Dg l k := by
  cases h with
  | long h1 h2 h3 => exact h1
  | big c d h1 h2 h3 => exact ⟨c, h1, h2, h3⟩
set_option maxRecDepth 10000 in
set_option maxHeartbeats 8000000 in
theorem bounds_in {s : ByteArray} {k n e : Nat} {a b : Int} (h : Bd (nl s) k a b n e) (hm : s.size ≤ 99990) {V : Nat → Value} (w : World) (hS : Six w V) :
    Gives 70 #[.string s, .int .i64 ((k + 1 : Nat) : Int)] (.tuple #[.int .i64 a, .int .i64 b, .int .i64 n, errX V e]) w := by
  replace hS := Lib.hid hS
  have hn0 := nl_length s
  cases h with
  | m a j h1 h2 h3 =>
    generalize hk1 : k + 1 = k1 at *
    clear hk1
    have c1 := Lib.hid (number_in h1 hm w)
    have hj0 := (nm_le h1).2.2
    obtain ⟨hltj, hatj⟩ := at_nl h2
    have hjb : j ≤ 99990 := by omega
    have g1 : ((a : Int) != -1) = true := by rw [bne_iff_ne]; omega
    have g2 : decide ((a : Int) < 1) = false := by simp only [decide_eq_false_iff_not]; omega
    clear h1 h2 h3
    unfold Gives at *
    clear hm
    go_enter Tryd.func70, Tryd.ntmps70
    go_wp2_with (first | (go_at_call 88; (with_reducible refine c1.out.mono ?_); rintro e w1 ⟨rfl, hb1⟩; have hq1 : Bel w w1 := hb1; have hS1 := Lib.hid (hS.out.bel hb1); have x1 := hS1.out.rang; have x2 := hS1.out.short; have x4 := hS1.out.form))
    refine bodyPost_ret (v := .tuple #[.int .i64 a, .int .i64 a, .int .i64 ((j : Int) + 1), .nilIface]) (by simp [results, Tryd.results70, go_sem]) rfl ?_
    exact ⟨tup_eq (by omega), hb1⟩
  | mopen a j h1 h2 h3 =>
    generalize hk1 : k + 1 = k1 at *
    clear hk1
    have c1 := Lib.hid (number_in h1 hm w)
    have hj0 := (nm_le h1).2.2
    have hn := nl_length s
    obtain ⟨hltj, hatj⟩ := at_nl h2
    obtain ⟨hltj2, hatj2⟩ := at_nl h3
    have hjb : j ≤ 99990 := by omega
    have cD := Lib.hid (fun w => dig_no' (k := j + 1) (i := (j : Int) + 1) (by omega) (nodg_at h3 (by decide)) hm (by omega) w)
    clear h1 h2 h3 hn
    unfold Gives at *
    clear hm
    go_enter Tryd.func70, Tryd.ntmps70
    go_wp2_with (first | (go_at_call 88; (with_reducible refine c1.out.mono ?_); rintro e w1 ⟨rfl, hb1⟩; have hq1 : Bel w w1 := hb1; have hS1 := Lib.hid (hS.out.bel hb1); have x1 := hS1.out.rang; have x2 := hS1.out.short; have x4 := hS1.out.form) | (go_at_call 69; (with_reducible refine (cD.out _).mono ?_); rintro e w' ⟨rfl, rfl⟩))
    refine bodyPost_ret (v := .tuple #[.int .i64 a, .int .i64 (-1), .int .i64 ((j : Int) + 1 + 1), .nilIface]) (by simp [results, Tryd.results70, go_sem]) rfl ?_
    exact ⟨tup_eq (by omega), hb1⟩
  | mn a j b i h1 h2 h3 h4 h5 h6 =>
    generalize hk1 : k + 1 = k1 at *
    clear hk1
    have c1 := Lib.hid (number_in h1 hm w)
    have hj0 := (nm_le h1).2.2
    have c2 := Lib.hid (fun w' (hb : Bel w w') => number_in' (i := (j : Int) + 1) (by omega) h3 hm w')
    have hi0 := (nm_le h3).2.2
    have hib : i ≤ 99990 := by omega
    obtain ⟨hltj, hatj⟩ := at_nl h2
    obtain ⟨hlti, hati⟩ := at_nl h4
    have hjb : j ≤ 99990 := by omega
    have cD := Lib.hid (fun w => dig_yes' (k := j + 1) (i := (j : Int) + 1) (by omega) (nm_dg h3) hm (by omega) w)
    have g1 : ((b : Int) != -1) = true := by rw [bne_iff_ne]; omega
    have g2 : decide (b < a) = false := by simp only [decide_eq_false_iff_not]; omega
    have g3 : decide ((b : Int) < 1) = false := by simp only [decide_eq_false_iff_not]; omega
    clear h1 h2 h3 h4 h5 h6
    unfold Gives at *
    clear hm
    go_enter Tryd.func70, Tryd.ntmps70
    go_wp2_with (first | (go_at_call 88; (with_reducible refine c1.out.mono ?_); rintro e w1 ⟨rfl, hb1⟩; have hq1 : Bel w w1 := hb1; have hS1 := Lib.hid (hS.out.bel hb1); have x1 := hS1.out.rang; have x2 := hS1.out.short; have x4 := hS1.out.form) | (go_at_call 69; (with_reducible refine (cD.out _).mono ?_); rintro e w' ⟨rfl, rfl⟩) | (go_at_call 88; (with_reducible refine (c2.out _ hq1).mono ?_); rintro e w2 ⟨rfl, hb2⟩; have hS2 := Lib.hid (hS1.out.bel hb2); have y1 := hS2.out.rang; have y2 := hS2.out.short; have y4 := hS2.out.form; clear x1 x2 x4))
    refine bodyPost_ret (v := .tuple #[.int .i64 a, .int .i64 b, .int .i64 ((i : Int) + 1), .nilIface]) (by simp [results, Tryd.results70, go_sem]) rfl ?_
    exact ⟨tup_eq (by omega), (Bel.step hb1 hb2)⟩
  | bad1 h1 =>
    generalize hk1 : k + 1 = k1 at *
    clear hk1
    have c1 := Lib.hid (number_bad h1 hm w hS.out.rang)
    clear h1
    unfold Gives at *
    clear hm
    go_enter Tryd.func70, Tryd.ntmps70
    go_wp2_with (first | (go_at_call 88; (with_reducible refine c1.out.mono ?_); rintro e w1 ⟨rfl, hb1⟩; have hq1 : Bel w w1 := hb1; have hS1 := Lib.hid (hS.out.bel hb1); have x1 := hS1.out.rang; have x2 := hS1.out.short; have x4 := hS1.out.form))
    refine bodyPost_ret (v := .tuple #[.int .i64 0, .int .i64 0, .int .i64 k1, .iface 135 (V 1)]) (by simp [results, Tryd.results70, go_sem]) rfl ?_
    exact ⟨rfl, hb1⟩
  | short1 a j h1 h2 =>
    generalize hk1 : k + 1 = k1 at *
    clear hk1
    have c1 := Lib.hid (number_in h1 hm w)
    have hj0 := (nm_le h1).2.2
    have hn := nl_length s
    rw [hn] at h2 hj0
    have hjb : j ≤ 99990 := by omega
    have g1 : ((j : Int) == (s.size : Int)) = true := by rw [beq_iff_eq]; omega
    have g2 : decide ((j : Int) < (s.size : Int)) = false := by simp only [decide_eq_false_iff_not]; omega
    clear h1
    unfold Gives at *
    clear hm
    go_enter Tryd.func70, Tryd.ntmps70
    go_wp2_with (first | (go_at_call 88; (with_reducible refine c1.out.mono ?_); rintro e w1 ⟨rfl, hb1⟩; have hq1 : Bel w w1 := hb1; have hS1 := Lib.hid (hS.out.bel hb1); have x1 := hS1.out.rang; have x2 := hS1.out.short; have x4 := hS1.out.form))
    go_quiet (fail)
    go_wp2
    refine bodyPost_ret (v := .tuple #[.int .i64 0, .int .i64 0, .int .i64 (s.size : Int), .iface 135 (V 2)]) (by simp [results, Tryd.results70, go_sem]) rfl ?_
    exact ⟨tup_eq (by omega), below_drewN hb1 _⟩
  | form1 a j c h1 h2 h3 h4 =>
    generalize hk1 : k + 1 = k1 at *
    clear hk1
    have c1 := Lib.hid (number_in h1 hm w)
    have hj0 := (nm_le h1).2.2
    obtain ⟨hltj, hatj⟩ := at_nl h2
    have hjb : n ≤ 99990 := by omega
    have g1 : ((c : Int) == 44) = false := by rw [beq_eq_false_iff_ne]; omega
    have g2 : ((c : Int) != 125) = true := by rw [bne_iff_ne]; omega
    clear h1 h2 h3 h4
    unfold Gives at *
    clear hm
    go_enter Tryd.func70, Tryd.ntmps70
    go_wp2_with (first | (go_at_call 88; (with_reducible refine c1.out.mono ?_); rintro e w1 ⟨rfl, hb1⟩; have hq1 : Bel w w1 := hb1; have hS1 := Lib.hid (hS.out.bel hb1); have x1 := hS1.out.rang; have x2 := hS1.out.short; have x4 := hS1.out.form))
    go_quiet (fail)
    go_wp2
    refine bodyPost_ret (v := .tuple #[.int .i64 0, .int .i64 0, .int .i64 n, .iface 135 (V 4)]) (by simp [results, Tryd.results70, go_sem]) rfl ?_
    exact ⟨rfl, below_drewN hb1 _⟩
  | low1 j h1 h2 =>
    generalize hk1 : k + 1 = k1 at *
    clear hk1
    have c1 := Lib.hid (number_in h1 hm w)
    have hj0 := (nm_le h1).2.2
    obtain ⟨hltj, hatj⟩ := at_nl h2
    have hjb : j ≤ 99990 := by omega
    clear h1 h2
    unfold Gives at *
    clear hm
    go_enter Tryd.func70, Tryd.ntmps70
    go_wp2_with (first | (go_at_call 88; (with_reducible refine c1.out.mono ?_); rintro e w1 ⟨rfl, hb1⟩; have hq1 : Bel w w1 := hb1; have hS1 := Lib.hid (hS.out.bel hb1); have x1 := hS1.out.rang; have x2 := hS1.out.short; have x4 := hS1.out.form))
    go_quiet (fail)
    go_wp2
    refine bodyPost_ret (v := .tuple #[.int .i64 0, .int .i64 0, .int .i64 k1, .iface 135 (V 1)]) (by simp [results, Tryd.results70, go_sem]) rfl ?_
    exact ⟨rfl, below_drewN hb1 _⟩
  | short2 a j h1 h2 h3 =>
    generalize hk1 : k + 1 = k1 at *
    clear hk1
    have c1 := Lib.hid (number_in h1 hm w)
    have hj0 := (nm_le h1).2.2
    have hn := nl_length s
    obtain ⟨hltj, hatj⟩ := at_nl h2
    rw [hn] at h3
    have hjb : j ≤ 99990 := by omega
    have cD := Lib.hid (fun w => dig_no' (k := j + 1) (i := (j : Int) + 1) (by omega) (nodg_end (by omega)) hm (by omega) w)
    have g1 : ((j : Int) + 1 == (s.size : Int)) = true := by rw [beq_iff_eq]; omega
    clear h1 h2
    unfold Gives at *
    clear hm
    go_enter Tryd.func70, Tryd.ntmps70
    go_wp2_with (first | (go_at_call 88; (with_reducible refine c1.out.mono ?_); rintro e w1 ⟨rfl, hb1⟩; have hq1 : Bel w w1 := hb1; have hS1 := Lib.hid (hS.out.bel hb1); have x1 := hS1.out.rang; have x2 := hS1.out.short; have x4 := hS1.out.form) | (go_at_call 69; (with_reducible refine (cD.out _).mono ?_); rintro e w' ⟨rfl, rfl⟩))
    go_quiet (fail)
    go_wp2
    refine bodyPost_ret (v := .tuple #[.int .i64 0, .int .i64 0, .int .i64 ((j : Int) + 1), .iface 135 (V 2)]) (by simp [results, Tryd.results70, go_sem]) rfl ?_
    exact ⟨tup_eq (by omega), below_drewN hb1 _⟩
  | form2 a j c h1 h2 h3 h4 h5 =>
    generalize hk1 : k + 1 = k1 at *
    clear hk1
    have c1 := Lib.hid (number_in h1 hm w)
    have hj0 := (nm_le h1).2.2
    obtain ⟨hltj, hatj⟩ := at_nl h2
    obtain ⟨hltj2, hatj2⟩ := at_nl h3
    have hjb : j ≤ 99990 := by omega
    have cD := Lib.hid (fun w => dig_no' (k := j + 1) (i := (j : Int) + 1) (by omega) h4 hm (by omega) w)
    have g2 : ((c : Int) != 125) = true := by rw [bne_iff_ne]; omega
    clear h1 h2 h3 h4 h5
    unfold Gives at *
    clear hm
    go_enter Tryd.func70, Tryd.ntmps70
    go_wp2_with (first | (go_at_call 88; (with_reducible refine c1.out.mono ?_); rintro e w1 ⟨rfl, hb1⟩; have hq1 : Bel w w1 := hb1; have hS1 := Lib.hid (hS.out.bel hb1); have x1 := hS1.out.rang; have x2 := hS1.out.short; have x4 := hS1.out.form) | (go_at_call 69; (with_reducible refine (cD.out _).mono ?_); rintro e w' ⟨rfl, rfl⟩))
    go_quiet (fail)
    go_wp2
    refine bodyPost_ret (v := .tuple #[.int .i64 0, .int .i64 0, .int .i64 ((j : Int) + 1), .iface 135 (V 4)]) (by simp [results, Tryd.results70, go_sem]) rfl ?_
    exact ⟨tup_eq (by omega), below_drewN hb1 _⟩
  | bad2 a j h1 h2 h3 =>
    generalize hk1 : k + 1 = k1 at *
    clear hk1
    have c1 := Lib.hid (number_in h1 hm w)
    have hj0 := (nm_le h1).2.2
    obtain ⟨hltj, hatj⟩ := at_nl h2
    have hjb : j ≤ 99990 := by omega
    have cD := Lib.hid (fun w => dig_yes' (k := j + 1) (i := (j : Int) + 1) (by omega) (nmbad_dg h3) hm (by omega) w)
    have c2 := Lib.hid (fun w' (hb : Bel w w') => number_bad' (i := (j : Int) + 1) (by omega) h3 hm w' (hS.out.bel hb).rang)
    clear h1 h2 h3
    unfold Gives at *
    clear hm
    go_enter Tryd.func70, Tryd.ntmps70
    go_wp2_with (first | (go_at_call 88; (with_reducible refine c1.out.mono ?_); rintro e w1 ⟨rfl, hb1⟩; have hq1 : Bel w w1 := hb1; have hS1 := Lib.hid (hS.out.bel hb1); have x1 := hS1.out.rang; have x2 := hS1.out.short; have x4 := hS1.out.form) | (go_at_call 69; (with_reducible refine (cD.out _).mono ?_); rintro e w' ⟨rfl, rfl⟩) | (go_at_call 88; (with_reducible refine (c2.out _ hq1).mono ?_); rintro e w2 ⟨rfl, hb2⟩; have hS2 := Lib.hid (hS1.out.bel hb2); have y1 := hS2.out.rang; have y2 := hS2.out.short; have y4 := hS2.out.form; clear x1 x2 x4))
    refine bodyPost_ret (v := .tuple #[.int .i64 0, .int .i64 0, .int .i64 ((j : Int) + 1), .iface 135 (V 1)]) (by simp [results, Tryd.results70, go_sem]) rfl ?_
    exact ⟨tup_eq (by omega), (Bel.step hb1 hb2)⟩
  | short3 a j b i h1 h2 h3 h4 =>
    generalize hk1 : k + 1 = k1 at *
    clear hk1
    have c1 := Lib.hid (number_in h1 hm w)
    have hj0 := (nm_le h1).2.2
    have c2 := Lib.hid (fun w' (hb : Bel w w') => number_in' (i := (j : Int) + 1) (by omega) h3 hm w')
    have hi0 := (nm_le h3).2.2
    have hib : i ≤ 99990 := by omega
    have hn := nl_length s
    obtain ⟨hltj, hatj⟩ := at_nl h2
    rw [hn] at h4 hi0
    have hjb : j ≤ 99990 := by omega
    have cD := Lib.hid (fun w => dig_yes' (k := j + 1) (i := (j : Int) + 1) (by omega) (nm_dg h3) hm (by omega) w)
    have g1 : ((i : Int) == (s.size : Int)) = true := by rw [beq_iff_eq]; omega
    have g2 : decide ((i : Int) < (s.size : Int)) = false := by simp only [decide_eq_false_iff_not]; omega
    clear h1 h2 h3
    unfold Gives at *
    clear hm
    go_enter Tryd.func70, Tryd.ntmps70
    go_wp2_with (first | (go_at_call 88; (with_reducible refine c1.out.mono ?_); rintro e w1 ⟨rfl, hb1⟩; have hq1 : Bel w w1 := hb1; have hS1 := Lib.hid (hS.out.bel hb1); have x1 := hS1.out.rang; have x2 := hS1.out.short; have x4 := hS1.out.form) | (go_at_call 69; (with_reducible refine (cD.out _).mono ?_); rintro e w' ⟨rfl, rfl⟩) | (go_at_call 88; (with_reducible refine (c2.out _ hq1).mono ?_); rintro e w2 ⟨rfl, hb2⟩; have hS2 := Lib.hid (hS1.out.bel hb2); have y1 := hS2.out.rang; have y2 := hS2.out.short; have y4 := hS2.out.form; clear x1 x2 x4))
    go_quiet (fail)
    go_wp2
    refine bodyPost_ret (v := .tuple #[.int .i64 0, .int .i64 0, .int .i64 (s.size : Int), .iface 135 (V 2)]) (by simp [results, Tryd.results70, go_sem]) rfl ?_
    exact ⟨tup_eq (by omega), below_drewN (Bel.step hb1 hb2) _⟩
  | form3 a j b i c h1 h2 h3 h4 h5 =>
    generalize hk1 : k + 1 = k1 at *
    clear hk1
    have c1 := Lib.hid (number_in h1 hm w)
    have hj0 := (nm_le h1).2.2
    have c2 := Lib.hid (fun w' (hb : Bel w w') => number_in' (i := (j : Int) + 1) (by omega) h3 hm w')
    have hi0 := (nm_le h3).2.2
    have hib : n ≤ 99990 := by omega
    obtain ⟨hltj, hatj⟩ := at_nl h2
    obtain ⟨hlti, hati⟩ := at_nl h4
    have hjb : j ≤ 99990 := by omega
    have cD := Lib.hid (fun w => dig_yes' (k := j + 1) (i := (j : Int) + 1) (by omega) (nm_dg h3) hm (by omega) w)
    have g2 : ((c : Int) != 125) = true := by rw [bne_iff_ne]; omega
    clear h1 h2 h3 h4 h5
    unfold Gives at *
    clear hm
    go_enter Tryd.func70, Tryd.ntmps70
    go_wp2_with (first | (go_at_call 88; (with_reducible refine c1.out.mono ?_); rintro e w1 ⟨rfl, hb1⟩; have hq1 : Bel w w1 := hb1; have hS1 := Lib.hid (hS.out.bel hb1); have x1 := hS1.out.rang; have x2 := hS1.out.short; have x4 := hS1.out.form) | (go_at_call 69; (with_reducible refine (cD.out _).mono ?_); rintro e w' ⟨rfl, rfl⟩) | (go_at_call 88; (with_reducible refine (c2.out _ hq1).mono ?_); rintro e w2 ⟨rfl, hb2⟩; have hS2 := Lib.hid (hS1.out.bel hb2); have y1 := hS2.out.rang; have y2 := hS2.out.short; have y4 := hS2.out.form; clear x1 x2 x4))
    go_quiet (fail)
    go_wp2
    refine bodyPost_ret (v := .tuple #[.int .i64 0, .int .i64 0, .int .i64 n, .iface 135 (V 4)]) (by simp [results, Tryd.results70, go_sem]) rfl ?_
    exact ⟨rfl, below_drewN (Bel.step hb1 hb2) _⟩
  | low2 a j b i h1 h2 h3 h4 h5 =>
    generalize hk1 : k + 1 = k1 at *
    clear hk1
    have c1 := Lib.hid (number_in h1 hm w)
    have hj0 := (nm_le h1).2.2
    have c2 := Lib.hid (fun w' (hb : Bel w w') => number_in' (i := (j : Int) + 1) (by omega) h3 hm w')
    have hi0 := (nm_le h3).2.2
    have hib : i ≤ 99990 := by omega
    obtain ⟨hltj, hatj⟩ := at_nl h2
    obtain ⟨hlti, hati⟩ := at_nl h4
    have hjb : j ≤ 99990 := by omega
    have cD := Lib.hid (fun w => dig_yes' (k := j + 1) (i := (j : Int) + 1) (by omega) (nm_dg h3) hm (by omega) w)
    have g1 : ((b : Int) != -1) = true := by rw [bne_iff_ne]; omega
    have g2 : (decide (b < a) = true) ∨ (decide (b < a) = false ∧ decide ((b : Int) < 1) = true) := by
      by_cases hba : b < a
      · exact .inl (by rw [decide_eq_true_eq]; omega)
      · exact .inr ⟨by simp only [decide_eq_false_iff_not]; omega, by rw [decide_eq_true_eq]; omega⟩
    clear h1 h2 h3 h4 h5
    unfold Gives at *
    clear hm
    rcases g2 with g2 | ⟨g2, g3⟩
    all_goals
      go_enter Tryd.func70, Tryd.ntmps70
      go_wp2_with (first | (go_at_call 88; (with_reducible refine c1.out.mono ?_); rintro e w1 ⟨rfl, hb1⟩; have hq1 : Bel w w1 := hb1; have hS1 := Lib.hid (hS.out.bel hb1); have x1 := hS1.out.rang; have x2 := hS1.out.short; have x4 := hS1.out.form) | (go_at_call 69; (with_reducible refine (cD.out _).mono ?_); rintro e w' ⟨rfl, rfl⟩) | (go_at_call 88; (with_reducible refine (c2.out _ hq1).mono ?_); rintro e w2 ⟨rfl, hb2⟩; have hS2 := Lib.hid (hS1.out.bel hb2); have y1 := hS2.out.rang; have y2 := hS2.out.short; have y4 := hS2.out.form; clear x1 x2 x4))
      go_quiet (fail)
      go_wp2
      refine bodyPost_ret (v := .tuple #[.int .i64 0, .int .i64 0, .int .i64 ((j : Int) + 1), .iface 135 (V 1)]) (by simp [results, Tryd.results70, go_sem]) rfl ?_
      exact ⟨tup_eq (by omega), below_drewN (Bel.step hb1 hb2) _⟩
end Go.Proofs.YtkpoegnekeiieaaDoor
namespace Go.Proofs.YtkpoegnekeiieaaDoor
open Go.RowKit
open Go.Tree7
open S7
open S5 (nl nl_length nl_small at_nl nl_at Gives idx idx_at ix ix_no ix_yes)
abbrev starsB : ByteArray := ⟨#[42, 43, 63]⟩
set_option maxRecDepth 10000 in
theorem suffixed_yes {s : ByteArray} {k : Nat} (h : IsMark (nl s) k) (hm : s.size ≤ 99990) (w : World) : Calls Tryd.prog 48 #[.string s, .int .i64 k] w fun e w' => e = .returned (.bool true) ∧ w = w' := by
  rcases h with h | h | h | ⟨h, hd⟩
  · obtain ⟨hlt, hat⟩ := at_nl h
    have hkb : k ≤ 99990 := by omega
    have c1 := Lib.hid (S5.idx_lit starsB 42 0 (by decide) (by decide +kernel))
    clear h hm
    go_enter Tryd.func48, Tryd.ntmps48
    go_wp2_with (go_at_call 68; (with_reducible refine (c1.out _).mono ?_); rintro e w' ⟨rfl, rfl⟩)
    go_ret
    exact ⟨rfl, rfl⟩
  · obtain ⟨hlt, hat⟩ := at_nl h
    have hkb : k ≤ 99990 := by omega
    have c1 := Lib.hid (S5.idx_lit starsB 43 1 (by decide) (by decide +kernel))
    clear h hm
    go_enter Tryd.func48, Tryd.ntmps48
    go_wp2_with (go_at_call 68; (with_reducible refine (c1.out _).mono ?_); rintro e w' ⟨rfl, rfl⟩)
    go_ret
    exact ⟨rfl, rfl⟩
  · obtain ⟨hlt, hat⟩ := at_nl h
    have hkb : k ≤ 99990 := by omega
    have c1 := Lib.hid (S5.idx_lit starsB 63 2 (by decide) (by decide +kernel))
    clear h hm
    go_enter Tryd.func48, Tryd.ntmps48
    go_wp2_with (go_at_call 68; (with_reducible refine (c1.out _).mono ?_); rintro e w' ⟨rfl, rfl⟩)
    go_ret
    exact ⟨rfl, rfl⟩
  · obtain ⟨hlt, hat⟩ := at_nl h
    have hkb : k ≤ 99990 := by omega
    have c1 := Lib.hid (S5.idx_lit starsB 123 (-1) (by decide) (by decide +kernel))
    have cD := Lib.hid (fun w => dig_yes' (k := k + 1) (i := (k : Int) + 1) (by omega) hd hm (by omega) w)
    clear h hm hd
    go_enter Tryd.func48, Tryd.ntmps48
    go_wp2_with (first | (go_at_call 68; (with_reducible refine (c1.out _).mono ?_); rintro e w' ⟨rfl, rfl⟩) | (go_at_call 69; (with_reducible refine (cD.out _).mono ?_); rintro e w' ⟨rfl, rfl⟩))
    go_ret
    exact ⟨rfl, rfl⟩
set_option maxRecDepth 10000 in
theorem suffixed_no {s : ByteArray} {k c : Nat} (hc : (nl s)[k]? = some c) (h : ¬ IsMark (nl s) k) (hm : s.size ≤ 99990) (w : World) : Calls Tryd.prog 48 #[.string s, .int .i64 k] w fun e w' => e = .returned (.bool false) ∧ w = w' := by
  obtain ⟨hlt, hat⟩ := at_nl hc
  have hkb : k ≤ 99990 := by omega
  have hcs : c ≤ 255 := nl_small s c (List.mem_of_getElem? hc)
  unfold IsMark at h
  rw [hc] at h
  have n1 : c ≠ 42 := fun e => h (.inl (by rw [e]))
  have n2 : c ≠ 43 := fun e => h (.inr (.inl (by rw [e])))
  have n3 : c ≠ 63 := fun e => h (.inr (.inr (.inl (by rw [e]))))
  have hn : c ∉ nl starsB := by
    have : nl starsB = [42, 43, 63] := by decide
    rw [this]
    simp
    omega
  have c1 := Lib.hid (fun w => idx_at starsB c w (-1) (ix_no hcs hn))
  clear hn
  by_cases h4 : c = 123
  · replace c1 : Hid (∀ w, Calls Tryd.prog 68 #[.string starsB, .int .u8 123] w fun e w' => e = .returned (.int .i64 (-1)) ∧ w = w') := Lib.hid (S5.idx_lit starsB 123 (-1) (by decide) (by decide +kernel))
    subst h4
    have cD := Lib.hid (fun w => dig_no' (k := k + 1) (i := (k : Int) + 1) (by omega) (fun hd => h (.inr (.inr (.inr ⟨rfl, hd⟩)))) hm (by omega) w)
    clear hc hm h n1 n2 n3 hcs
    go_enter Tryd.func48, Tryd.ntmps48
    go_wp2_with (first | (go_at_call 68; (with_reducible refine (c1.out _).mono ?_); rintro e w' ⟨rfl, rfl⟩) | (go_at_call 69; (with_reducible refine (cD.out _).mono ?_); rintro e w' ⟨rfl, rfl⟩))
    go_ret
    exact ⟨rfl, rfl⟩
  · have g1 : ((c : Int) == 123) = false := by rw [beq_eq_false_iff_ne]; omega
    clear hc hm h n1 n2 n3
    go_enter Tryd.func48, Tryd.ntmps48
    go_wp2_with (go_at_call 68; (with_reducible refine (c1.out _).mono ?_); rintro e w' ⟨rfl, rfl⟩)
    go_ret
    exact ⟨rfl, rfl⟩
set_option maxRecDepth 10000 in
set_option maxHeartbeats 1000000 in
theorem suffix_in {s : ByteArray} {k n e : Nat} {a b : Int} (h : Mk (nl s) k a b n e) (hm : s.size ≤ 99990) {V : Nat → Value} (w : World) (hS : Six w V) :
    Gives 49 #[.string s, .int .i64 k] (.tuple #[.int .i64 a, .int .i64 b, .int .i64 n, errX V e]) w := by
  unfold Gives
  cases h with
  | star h =>
    obtain ⟨hlt, hat⟩ := at_nl h
    have hkb : k ≤ 99990 := by omega
    clear h hm hS
    go_enter Tryd.func49, Tryd.ntmps49
    go_wp2
    refine bodyPost_ret (v := .tuple #[.int .i64 0, .int .i64 (-1), .int .i64 ((k : Int) + 1), .nilIface]) (by simp [results, Tryd.results49, go_sem]) rfl ?_
    exact ⟨tup_eq (by omega), Below.refl _ _⟩
  | plus h =>
    obtain ⟨hlt, hat⟩ := at_nl h
    have hkb : k ≤ 99990 := by omega
    clear h hm hS
    go_enter Tryd.func49, Tryd.ntmps49
    go_wp2
    refine bodyPost_ret (v := .tuple #[.int .i64 1, .int .i64 (-1), .int .i64 ((k : Int) + 1), .nilIface]) (by simp [results, Tryd.results49, go_sem]) rfl ?_
    exact ⟨tup_eq (by omega), Below.refl _ _⟩
  | opt h =>
    obtain ⟨hlt, hat⟩ := at_nl h
    have hkb : k ≤ 99990 := by omega
    clear h hm hS
    go_enter Tryd.func49, Tryd.ntmps49
    go_wp2
    refine bodyPost_ret (v := .tuple #[.int .i64 0, .int .i64 1, .int .i64 ((k : Int) + 1), .nilIface]) (by simp [results, Tryd.results49, go_sem]) rfl ?_
    exact ⟨tup_eq (by omega), Below.refl _ _⟩
  | bounds _ _ _ _ h hd hB =>
    obtain ⟨hlt, hat⟩ := at_nl h
    have hkb : k ≤ 99990 := by omega
    have cB := bounds_in hB hm w hS
    rw [show ((k + 1 : Nat) : Int) = (k : Int) + 1 by omega] at cB
    unfold Gives at cB
    replace cB := Lib.hid cB
    clear h hm hS hd hB
    generalize errX V e = E at *
    go_enter Tryd.func49, Tryd.ntmps49
    go_wp2_with (go_at_call 70; (with_reducible refine cB.out.mono ?_); rintro e w' ⟨rfl, hb⟩)
    refine bodyPost_ret (v := .tuple #[.int .i64 a, .int .i64 b, .int .i64 n, E]) (by simp [results, Tryd.results49, go_sem]) rfl ?_
    exact ⟨rfl, hb⟩
end Go.Proofs.YtkpoegnekeiieaaDoor
