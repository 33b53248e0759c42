/- Texts merged: W1, W2, W3, W4, W5, W6, W7, W8, W9. -/
import Derived.Lib.Strings
import Derived.Lib.BufferWrite
import Derived.Lib.UnsafeStr
import Derived.Laws.MakeOwn
import Derived.Test.YtobbifhflnlplaaDoorMA
import Derived.Test.YtobbifhflnlplaaDoorS6A
import Derived.Test.YtobbifhflnlplaaDoorS7C
import Derived.Test.YtobbifhflnlplaaDoorS7B
namespace Go.Proofs.YtobbifhflnlplaaDoor
open Lib (hid)
open Go.RowKit
open Go.Tree7
open S7
open S5 (nl nl_length nl_small at_nl nl_at Gives idx idx_at ix ix_no ix_yes)
structure Six (w : World) (V : Nat → Value) : Prop where
  rang : w.cell? ⟨4, 0, none⟩ = some (.iface 135 (V 1))
  short : w.cell? ⟨0, 0, none⟩ = some (.iface 135 (V 2))
  form : w.cell? ⟨3, 0, none⟩ = some (.iface 135 (V 4))
  name : w.cell? ⟨5, 0, none⟩ = some (.iface 135 (V 5))
  dept : w.cell? ⟨1, 0, none⟩ = some (.iface 135 (V 7))
  limi : w.cell? ⟨2, 0, none⟩ = some (.iface 135 (V 9))
theorem Six.bel {w w' : World} {V : Nat → Value} (h : Six w V) (hb : Bel w w') : Six w' V :=
  ⟨hb.cell (World.block_lt_of_cell? _ _ h.rang) h.rang, hb.cell (World.block_lt_of_cell? _ _ h.short) h.short, hb.cell (World.block_lt_of_cell? _ _ h.form) h.form, hb.cell (World.block_lt_of_cell? _ _ h.name) h.name, hb.cell (World.block_lt_of_cell? _ _ h.dept) h.dept, hb.cell (World.block_lt_of_cell? _ _ h.limi) h.limi⟩
theorem Six.thr {w : World} {V : Nat → Value} (h : Six w V) : S6.Thr w (V 1) (V 2) (V 4) := ⟨⟨h.short, h.form⟩, h.rang⟩
def errX (V : Nat → Value) (e : Nat) : Value := if e = 0 then .nilIface else .iface 135 (V e)
def dgB (l : List Nat) (k : Nat) : Bool := match l[k]? with
  | some c => decide (48 ≤ c) && decide (c ≤ 57)
  | none => false
theorem dgB_iff {l : List Nat} {k : Nat} : dgB l k = true ↔ Dg l k := by
  unfold dgB Dg
  cases h : l[k]? with
  | none => simp
  | some c => simp
theorem dgB_no {l : List Nat} {k : Nat} (h : ¬ Dg l k) : dgB l k = false := by
  rw [← Bool.not_eq_true, dgB_iff]; exact h
theorem digit_in (s : ByteArray) (k : Nat) (_ : s.size ≤ 99990) (_ : k ≤ 100000) (w : World) : Calls Tryd.prog 69 #[.string s, .int .i64 k] w fun e w' => e = .returned (.bool (dgB (nl s) k)) ∧ w = w' := by
  cases h : (nl s)[k]? with
  | none =>
    have hd : dgB (nl s) k = false := by unfold dgB; rw [h]
    rw [hd]
    have g1 : s.size ≤ k := by have := List.getElem?_eq_none_iff.1 h; rwa [nl_length] at this
    have g2 : decide ((k : Int) < (s.size : Int)) = false := by simp; omega
    clear h hd
    go_enter Tryd.func69, Tryd.ntmps69
    go_wp2
    go_ret
    exact ⟨rfl, rfl⟩
  | some c =>
    obtain ⟨hlt, hat⟩ := at_nl h
    have hd : dgB (nl s) k = (decide (48 ≤ c) && decide (c ≤ 57)) := by unfold dgB; rw [h]
    rw [hd]
    clear h hd
    have hG : ∃ G, G = (decide (48 ≤ c) && decide (c ≤ 57)) := ⟨_, rfl⟩
    obtain ⟨G, hG⟩ := hG
    rw [← hG]
    replace hG := hid hG
    go_enter Tryd.func69, Tryd.ntmps69
    go_wp2
    all_goals (go_ret; refine ⟨ret_bool ?_, rfl⟩; rw [hG.out, Bool.eq_iff_iff]; simp; omega)
theorem dig_yes {s : ByteArray} {k : Nat} (h : Dg (nl s) k) (hm : s.size ≤ 99990) (hk : k ≤ 100000) (w : World) : Calls Tryd.prog 69 #[.string s, .int .i64 k] w fun e w' => e = .returned (.bool true) ∧ w = w' := by
  have := digit_in s k hm hk w
  rwa [dgB_iff.2 h] at this
theorem dig_no {s : ByteArray} {k : Nat} (h : ¬ Dg (nl s) k) (hm : s.size ≤ 99990) (hk : k ≤ 100000) (w : World) : Calls Tryd.prog 69 #[.string s, .int .i64 k] w fun e w' => e = .returned (.bool false) ∧ w = w' := by
  have := digit_in s k hm hk w
  rwa [dgB_no h] at this
theorem dig_yes' {s : ByteArray} {k : Nat} {i : Int} (hi : i = (k : Int)) (h : Dg (nl s) k) (hm : s.size ≤ 99990) (hk : k ≤ 100000) (w : World) : Calls Tryd.prog 69 #[.string s, .int .i64 i] w fun e w' => e = .returned (.bool true) ∧ w = w' := by
  subst hi; exact dig_yes h hm hk w
theorem dig_no' {s : ByteArray} {k : Nat} {i : Int} (hi : i = (k : Int)) (h : ¬ Dg (nl s) k) (hm : s.size ≤ 99990) (hk : k ≤ 100000) (w : World) : Calls Tryd.prog 69 #[.string s, .int .i64 i] w fun e w' => e = .returned (.bool false) ∧ w = w' := by
  subst hi; exact dig_no h hm hk w
theorem dg_at {l : List Nat} {k c : Nat} (h : l[k]? = some c) (h1 : 48 ≤ c) (h2 : c ≤ 57) : Dg l k := ⟨c, h, h1, h2⟩
theorem nm_dg {l : List Nat} {k a n : Nat} (h : Nm l k a n) : Dg l k := by
  cases h with
  | one c h1 h2 h3 h4 => exact ⟨c, h1, h2, h3⟩
  | two c d h1 h2 h3 => exact ⟨c, h1, h2, h3⟩
set_option maxRecDepth 10000 in
set_option maxHeartbeats 2000000 in
theorem number_one {s : ByteArray} {k c : Nat} (h1 : (nl s)[k]? = some c) (h2 : 48 ≤ c) (h3 : c ≤ 57) (h4 : ¬ Dg (nl s) (k + 1)) (hm : s.size ≤ 99990) (w : World) :
    Gives 88 #[.string s, .int .i64 k] (.tuple #[.int .i64 ((c - 48 : Nat) : Int), .int .i64 ((k + 1 : Nat) : Int), .nilIface]) w := by
  obtain ⟨hlt, hat⟩ := at_nl h1
  have hkb : k ≤ 99990 := by omega
  have cA := hid (fun w => dig_yes (dg_at h1 h2 h3) hm (by omega) w)
  have cB := hid (fun w => dig_no' (i := (k : Int) + 1) (by omega) h4 hm (by omega) w)
  have e1 : (k : Int) + 1 = ((k + 1 : Nat) : Int) := by omega
  have e2 : (c : Int) - 48 = ((c - 48 : Nat) : Int) := by omega
  have e3 : Hid (c - 48 ≤ 9) := hid (by omega)
  rw [← e1, ← e2]
  clear h1 h4 hm e1 e2
  unfold Gives
  go_enter Tryd.func88, Tryd.ntmps88
  go_wp2
  go_loopw [4, 5] (fun i j wr => wr = w ∧ ((i = .int .i64 0 ∧ j = .int .i64 k) ∨ (i = .int .i64 ((c : Int) - 48) ∧ j = .int .i64 ((k : Int) + 1)))) (fun _ j _ => k + 2 - (intOf j).toNat)
  case atStart => exact ⟨rfl, .inl ⟨rfl, rfl⟩⟩
  case round =>
    obtain ⟨rfl, ⟨rfl, rfl⟩ | ⟨rfl, rfl⟩⟩ := hrel
    · go_wp2_with (go_at_call 69; (with_reducible refine (cA.out _).mono ?_); rintro e w' ⟨rfl, rfl⟩)
      go_roundw
      case rel => exact ⟨by first | trivial | rfl, .inr ⟨by go_num, by go_num⟩⟩
      case measure => simp [intOf] <;> omega
    · go_wp2_with (go_at_call 69; (with_reducible refine (cB.out _).mono ?_); rintro e w' ⟨rfl, rfl⟩)
      refine bodyPost_ret (v := .tuple #[.int .i64 ((c : Int) - 48), .int .i64 ((k : Int) + 1), .nilIface]) (by simp [results, Tryd.results88, go_sem]) rfl ?_
      exact ⟨rfl, Below.refl _ _⟩
end Go.Proofs.YtobbifhflnlplaaDoor
namespace Go.Proofs.YtobbifhflnlplaaDoor
open Lib (hid)
open Go.RowKit
open Go.Tree7
open S7
open S5 (nl nl_length nl_small at_nl nl_at Gives idx idx_at ix ix_no ix_yes)
set_option maxRecDepth 10000 in
set_option maxHeartbeats 4000000 in
theorem number_two {s : ByteArray} {k c d : Nat} (h1 : (nl s)[k]? = some c) (h2 : 48 ≤ c) (h3 : c ≤ 57) (h4 : (nl s)[k + 1]? = some d) (h5 : 48 ≤ d) (h6 : d ≤ 57) (h7 : ¬ Dg (nl s) (k + 2)) (h8 : 10 * (c - 48) + (d - 48) ≤ 40) (hm : s.size ≤ 99990) (w : World) :
    Gives 88 #[.string s, .int .i64 k] (.tuple #[.int .i64 ((10 * (c - 48) + (d - 48) : Nat) : Int), .int .i64 ((k + 2 : Nat) : Int), .nilIface]) w := by
  obtain ⟨hlt, hat⟩ := at_nl h1
  obtain ⟨hlt2, hat2⟩ := at_nl h4
  have hlt1 : k < s.size := by omega
  have hkb : k ≤ 99990 := by omega
  have cA := hid (fun w => dig_yes (dg_at h1 h2 h3) hm (by omega) w)
  have cB := hid (fun w => dig_yes' (i := (k : Int) + 1) (by omega) (dg_at h4 h5 h6) hm (by omega) w)
  have cC := hid (fun w => dig_no' (i := (k : Int) + 2) (by omega) h7 hm (by omega) w)
  have e1 : (k : Int) + 2 = ((k + 2 : Nat) : Int) := by omega
  have e2 : (((c : Int) - 48) * 10 + ((d : Int) - 48)) = ((10 * (c - 48) + (d - 48) : Nat) : Int) := by omega
  rw [← e1, ← e2]
  have h9 : (((c : Int) - 48) * 10 + ((d : Int) - 48)) ≤ 40 := by omega
  have h9b : Hid ((((c : Int) - 48) * 10 + ((d : Int) - 48)) ≤ 40) := hid h9
  clear h1 h4 h7 h8 hm e1 e2
  unfold Gives
  go_enter Tryd.func88, Tryd.ntmps88
  go_wp2
  go_loopw [4, 5] (fun i j wr => wr = w ∧ ((i = .int .i64 0 ∧ j = .int .i64 k) ∨ (i = .int .i64 ((c : Int) - 48) ∧ j = .int .i64 ((k : Int) + 1)) ∨ ((i = .int .i64 (((c : Int) - 48) * 10 + ((d : Int) - 48)) ∧ j = .int .i64 ((k : Int) + 2))))) (fun _ j _ => k + 3 - (intOf j).toNat)
  case atStart => exact ⟨rfl, .inl ⟨rfl, rfl⟩⟩
  case round =>
    obtain ⟨rfl, ⟨rfl, rfl⟩ | ⟨rfl, rfl⟩ | ⟨rfl, rfl⟩⟩ := hrel
    · go_wp2_with (go_at_call 69; (with_reducible refine (cA.out _).mono ?_); rintro e w' ⟨rfl, rfl⟩)
      go_roundw
      case rel => exact ⟨by first | trivial | rfl, .inr (.inl ⟨by go_num, by go_num⟩)⟩
      case measure => simp [intOf] <;> omega
    · have g1 : ((k : Int) + 1 - (k : Int) == 2) = false := by rw [beq_eq_false_iff_ne]; omega
      have g2 : decide (40 < (((c : Int) - 48) * 10 + ((d : Int) - 48))) = false := by have := h9b.out; simp only [decide_eq_false_iff_not]; omega
      go_wp2_with (go_at_call 69; (with_reducible refine (cB.out _).mono ?_); rintro e w' ⟨rfl, rfl⟩)
      go_roundw
      case rel => exact ⟨by first | trivial | rfl, .inr (.inr ⟨by go_num, by go_num⟩)⟩
      case measure => simp [intOf] <;> omega
    · go_wp2_with (go_at_call 69; (with_reducible refine (cC.out _).mono ?_); rintro e w' ⟨rfl, rfl⟩)
      refine bodyPost_ret (v := .tuple #[.int .i64 (((c : Int) - 48) * 10 + ((d : Int) - 48)), .int .i64 ((k : Int) + 2), .nilIface]) (by simp [results, Tryd.results88, go_sem]) rfl ?_
      exact ⟨rfl, Below.refl _ _⟩
set_option maxRecDepth 10000 in
set_option maxHeartbeats 4000000 in
theorem number_big {s : ByteArray} {k c d : Nat} (h1 : (nl s)[k]? = some c) (h2 : 48 ≤ c) (h3 : c ≤ 57) (h4 : (nl s)[k + 1]? = some d) (h5 : 48 ≤ d) (h6 : d ≤ 57) (h8 : 40 < 10 * (c - 48) + (d - 48)) (hm : s.size ≤ 99990) {E : Value} (w : World) (hE : w.cell? ⟨4, 0, none⟩ = some E) :
    Gives 88 #[.string s, .int .i64 k] (.tuple #[.int .i64 0, .int .i64 k, E]) w := by
  obtain ⟨hlt, hat⟩ := at_nl h1
  obtain ⟨hlt2, hat2⟩ := at_nl h4
  have hlt1 : k < s.size := by omega
  have hkb : k ≤ 99990 := by omega
  have cA := hid (fun w => dig_yes (dg_at h1 h2 h3) hm (by omega) w)
  have cB := hid (fun w => dig_yes' (i := (k : Int) + 1) (by omega) (dg_at h4 h5 h6) hm (by omega) w)
  have h9 : Hid (40 < (((c : Int) - 48) * 10 + ((d : Int) - 48))) := hid (by omega)
  clear h1 h4 h8 hm
  unfold Gives
  go_enter Tryd.func88, Tryd.ntmps88
  go_wp2
  go_loopw [4, 5] (fun i j wr => wr = w ∧ ((i = .int .i64 0 ∧ j = .int .i64 k) ∨ (i = .int .i64 ((c : Int) - 48) ∧ j = .int .i64 ((k : Int) + 1)) ∨ (False ∧ (i = .int .i64 (((c : Int) - 48) * 10 + ((d : Int) - 48)) ∧ j = .int .i64 ((k : Int) + 2))))) (fun _ j _ => k + 3 - (intOf j).toNat)
  case atStart => exact ⟨rfl, .inl ⟨rfl, rfl⟩⟩
  case round =>
    obtain ⟨rfl, ⟨rfl, rfl⟩ | ⟨rfl, rfl⟩ | ⟨hF, rfl, rfl⟩⟩ := hrel
    · go_wp2_with (go_at_call 69; (with_reducible refine (cA.out _).mono ?_); rintro e w' ⟨rfl, rfl⟩)
      go_roundw
      case rel => exact ⟨by first | trivial | rfl, .inr (.inl ⟨by go_num, by go_num⟩)⟩
      case measure => simp [intOf] <;> omega
    · have h10 := h9.out
      go_wp2_with (go_at_call 69; (with_reducible refine (cB.out _).mono ?_); rintro e w' ⟨rfl, rfl⟩)
      all_goals first
        | (exfalso; omega)
        | (go_quiet (fail)
           go_wp2
           refine bodyPost_ret (v := .tuple #[.int .i64 0, .int .i64 k, E]) (by simp [results, Tryd.results88, go_sem]) rfl ?_
           exact ⟨rfl, below_drewN (Below.refl _ _) _⟩)
    · exact hF.elim
set_option maxRecDepth 10000 in
set_option maxHeartbeats 4000000 in
theorem number_long {s : ByteArray} {k c d b : Nat} (h1 : (nl s)[k]? = some c) (h2 : 48 ≤ c) (h3 : c ≤ 57) (h4 : (nl s)[k + 1]? = some d) (h5 : 48 ≤ d) (h6 : d ≤ 57) (h7 : (nl s)[k + 2]? = some b) (h10 : 48 ≤ b) (h11 : b ≤ 57) (h8 : 10 * (c - 48) + (d - 48) ≤ 40) (hm : s.size ≤ 99990) {E : Value} (w : World) (hE : w.cell? ⟨4, 0, none⟩ = some E) :
    Gives 88 #[.string s, .int .i64 k] (.tuple #[.int .i64 0, .int .i64 k, E]) w := by
  obtain ⟨hlt, hat⟩ := at_nl h1
  obtain ⟨hlt2, hat2⟩ := at_nl h4
  have hlt1 : k < s.size := by omega
  have hkb : k ≤ 99990 := by omega
  have cA := hid (fun w => dig_yes (dg_at h1 h2 h3) hm (by omega) w)
  have cB := hid (fun w => dig_yes' (i := (k : Int) + 1) (by omega) (dg_at h4 h5 h6) hm (by omega) w)
  obtain ⟨hlt3, hat3⟩ := at_nl h7
  have cC := hid (fun w => dig_yes' (i := (k : Int) + 2) (by omega) (dg_at h7 h10 h11) hm (by omega) w)
  have h9 : (((c : Int) - 48) * 10 + ((d : Int) - 48)) ≤ 40 := by omega
  have h9b : Hid ((((c : Int) - 48) * 10 + ((d : Int) - 48)) ≤ 40) := hid h9
  have h9c : Hid (0 ≤ (((c : Int) - 48) * 10 + ((d : Int) - 48))) := hid (by omega)
  clear h1 h4 h7 h8 hm
  unfold Gives
  go_enter Tryd.func88, Tryd.ntmps88
  go_wp2
  go_loopw [4, 5] (fun i j wr => wr = w ∧ ((i = .int .i64 0 ∧ j = .int .i64 k) ∨ (i = .int .i64 ((c : Int) - 48) ∧ j = .int .i64 ((k : Int) + 1)) ∨ ((i = .int .i64 (((c : Int) - 48) * 10 + ((d : Int) - 48)) ∧ j = .int .i64 ((k : Int) + 2))))) (fun _ j _ => k + 3 - (intOf j).toNat)
  case atStart => exact ⟨rfl, .inl ⟨rfl, rfl⟩⟩
  case round =>
    obtain ⟨rfl, ⟨rfl, rfl⟩ | ⟨rfl, rfl⟩ | ⟨rfl, rfl⟩⟩ := hrel
    · go_wp2_with (go_at_call 69; (with_reducible refine (cA.out _).mono ?_); rintro e w' ⟨rfl, rfl⟩)
      go_roundw
      case rel => exact ⟨by first | trivial | rfl, .inr (.inl ⟨by go_num, by go_num⟩)⟩
      case measure => simp [intOf] <;> omega
    · have g1 : ((k : Int) + 1 - (k : Int) == 2) = false := by rw [beq_eq_false_iff_ne]; omega
      have g2 : decide (40 < (((c : Int) - 48) * 10 + ((d : Int) - 48))) = false := by have := h9b.out; simp only [decide_eq_false_iff_not]; omega
      go_wp2_with (go_at_call 69; (with_reducible refine (cB.out _).mono ?_); rintro e w' ⟨rfl, rfl⟩)
      go_roundw
      case rel => exact ⟨by first | trivial | rfl, .inr (.inr ⟨by go_num, by go_num⟩)⟩
      case measure => simp [intOf] <;> omega
    · have h0 := h9c.out
      go_wp2_with (go_at_call 69; (with_reducible refine (cC.out _).mono ?_); rintro e w' ⟨rfl, rfl⟩)
      all_goals first
        | (exfalso; omega)
        | (go_quiet (fail)
           go_wp2
           refine bodyPost_ret (v := .tuple #[.int .i64 0, .int .i64 k, E]) (by simp [results, Tryd.results88, go_sem]) rfl ?_
           exact ⟨rfl, below_drewN (Below.refl _ _) _⟩)
theorem number_in {s : ByteArray} {k a n : Nat} (h : Nm (nl s) k a n) (hm : s.size ≤ 99990) (w : World) :
    Gives 88 #[.string s, .int .i64 k] (.tuple #[.int .i64 a, .int .i64 n, .nilIface]) w := by
  cases h with
  | one c h1 h2 h3 h4 => exact number_one h1 h2 h3 h4 hm w
  | two c d h1 h2 h3 h4 h5 h6 h7 h8 => exact number_two h1 h2 h3 h4 h5 h6 h7 h8 hm w
theorem number_bad {s : ByteArray} {k : Nat} (h : NmBad (nl s) k) (hm : s.size ≤ 99990) {E : Value} (w : World) (hE : w.cell? ⟨4, 0, none⟩ = some E) :
    Gives 88 #[.string s, .int .i64 k] (.tuple #[.int .i64 0, .int .i64 k, E]) w := by
  cases h with
  | long h1 h2 h3 =>
    obtain ⟨c, a1, a2, a3⟩ := h1
    obtain ⟨d, b1, b2, b3⟩ := h2
    obtain ⟨b, c1, c2, c3⟩ := h3
    by_cases h8 : 10 * (c - 48) + (d - 48) ≤ 40
    · exact number_long a1 a2 a3 b1 b2 b3 c1 c2 c3 h8 hm w hE
    · exact number_big a1 a2 a3 b1 b2 b3 (by omega) hm w hE
  | big c d h1 h2 h3 h4 h5 h6 h7 h8 => exact number_big h1 h2 h3 h4 h5 h6 h8 hm w hE
end Go.Proofs.YtobbifhflnlplaaDoor
namespace Go.Proofs.YtobbifhflnlplaaDoor
open Lib (hid)
open Go.RowKit
open Go.Tree7
open S7
open S5 (nl nl_length nl_small at_nl nl_at Gives idx idx_at ix ix_no ix_yes)
theorem number_in' {s : ByteArray} {k a n : Nat} {i : Int} (hi : i = (k : Int)) (h : Nm (nl s) k a n) (hm : s.size ≤ 99990) (w : World) :
    Gives 88 #[.string s, .int .i64 i] (.tuple #[.int .i64 a, .int .i64 n, .nilIface]) w := by
  subst hi; exact number_in h hm w
theorem number_bad' {s : ByteArray} {k : Nat} {i : Int} (hi : i = (k : Int)) (h : NmBad (nl s) k) (hm : s.size ≤ 99990) {E : Value} (w : World) (hE : w.cell? ⟨4, 0, none⟩ = some E) :
    Gives 88 #[.string s, .int .i64 i] (.tuple #[.int .i64 0, .int .i64 i, E]) w := by
  subst hi; exact number_bad h hm w hE
theorem nodg_at {l : List Nat} {k c : Nat} (h : l[k]? = some c) (hc : c < 48 ∨ 57 < c) : ¬ Dg l k := by
  rintro ⟨x, p1, p2, p3⟩
  rw [h] at p1
  cases p1
  omega
theorem nodg_end {l : List Nat} {k : Nat} (h : l.length ≤ k) : ¬ Dg l k := by
  rintro ⟨x, p1, -⟩
  have := (List.getElem?_eq_some_iff.1 p1).1
  omega
theorem tup_eq {a b n n' : Int} {v : Value} (h : n = n') : Ending.returned (.tuple #[.int .i64 a, .int .i64 b, .int .i64 n, v]) = Ending.returned (.tuple #[.int .i64 a, .int .i64 b, .int .i64 n', v]) := by rw [h]
theorem nmbad_dg {l : List Nat} {k : Nat} (h : NmBad l k) : Dg l k := by
  cases h with
  | long h1 h2 h3 => exact h1
  | big c d h1 h2 h3 => exact ⟨c, h1, h2, h3⟩
set_option maxRecDepth 10000 in
set_option maxHeartbeats 8000000 in
theorem bounds_in {s : ByteArray} {k n e : Nat} {a b : Int} (h : Bd (nl s) k a b n e) (hm : s.size ≤ 99990) {V : Nat → Value} (w : World) (hS : Six w V) :
    Gives 70 #[.string s, .int .i64 ((k + 1 : Nat) : Int)] (.tuple #[.int .i64 a, .int .i64 b, .int .i64 n, errX V e]) w := by
  replace hS := hid hS
  have hn0 := nl_length s
  cases h with
  | m a j h1 h2 h3 =>
    generalize hk1 : k + 1 = k1 at *
    clear hk1
    have c1 := hid (number_in h1 hm w)
    have hj0 := (nm_le h1).2.2
    obtain ⟨hltj, hatj⟩ := at_nl h2
    have hjb : j ≤ 99990 := by omega
    have g1 : ((a : Int) != -1) = true := by rw [bne_iff_ne]; omega
    have g2 : decide ((a : Int) < 1) = false := by simp only [decide_eq_false_iff_not]; omega
    clear h1 h2 h3
    unfold Gives at *
    clear hm
    go_enter Tryd.func70, Tryd.ntmps70
    go_wp2_with (first | (go_at_call 88; (with_reducible refine c1.out.mono ?_); rintro e w1 ⟨rfl, hb1⟩; have hq1 : Bel w w1 := hb1; have hS1 := hid (hS.out.bel hb1); have x1 := hS1.out.rang; have x2 := hS1.out.short; have x4 := hS1.out.form))
    refine bodyPost_ret (v := .tuple #[.int .i64 a, .int .i64 a, .int .i64 ((j : Int) + 1), .nilIface]) (by simp [results, Tryd.results70, go_sem]) rfl ?_
    exact ⟨tup_eq (by omega), hb1⟩
  | mopen a j h1 h2 h3 =>
    generalize hk1 : k + 1 = k1 at *
    clear hk1
    have c1 := hid (number_in h1 hm w)
    have hj0 := (nm_le h1).2.2
    have hn := nl_length s
    obtain ⟨hltj, hatj⟩ := at_nl h2
    obtain ⟨hltj2, hatj2⟩ := at_nl h3
    have hjb : j ≤ 99990 := by omega
    have cD := hid (fun w => dig_no' (k := j + 1) (i := (j : Int) + 1) (by omega) (nodg_at h3 (by decide)) hm (by omega) w)
    clear h1 h2 h3 hn
    unfold Gives at *
    clear hm
    go_enter Tryd.func70, Tryd.ntmps70
    go_wp2_with (first | (go_at_call 88; (with_reducible refine c1.out.mono ?_); rintro e w1 ⟨rfl, hb1⟩; have hq1 : Bel w w1 := hb1; have hS1 := hid (hS.out.bel hb1); have x1 := hS1.out.rang; have x2 := hS1.out.short; have x4 := hS1.out.form) | (go_at_call 69; (with_reducible refine (cD.out _).mono ?_); rintro e w' ⟨rfl, rfl⟩))
    refine bodyPost_ret (v := .tuple #[.int .i64 a, .int .i64 (-1), .int .i64 ((j : Int) + 1 + 1), .nilIface]) (by simp [results, Tryd.results70, go_sem]) rfl ?_
    exact ⟨tup_eq (by omega), hb1⟩
  | mn a j b i h1 h2 h3 h4 h5 h6 =>
    generalize hk1 : k + 1 = k1 at *
    clear hk1
    have c1 := hid (number_in h1 hm w)
    have hj0 := (nm_le h1).2.2
    have c2 := hid (fun w' (hb : Bel w w') => number_in' (i := (j : Int) + 1) (by omega) h3 hm w')
    have hi0 := (nm_le h3).2.2
    have hib : i ≤ 99990 := by omega
    obtain ⟨hltj, hatj⟩ := at_nl h2
    obtain ⟨hlti, hati⟩ := at_nl h4
    have hjb : j ≤ 99990 := by omega
    have cD := hid (fun w => dig_yes' (k := j + 1) (i := (j : Int) + 1) (by omega) (nm_dg h3) hm (by omega) w)
    have g1 : ((b : Int) != -1) = true := by rw [bne_iff_ne]; omega
    have g2 : decide (b < a) = false := by simp only [decide_eq_false_iff_not]; omega
    have g3 : decide ((b : Int) < 1) = false := by simp only [decide_eq_false_iff_not]; omega
    clear h1 h2 h3 h4 h5 h6
    unfold Gives at *
    clear hm
    go_enter Tryd.func70, Tryd.ntmps70
    go_wp2_with (first | (go_at_call 88; (with_reducible refine c1.out.mono ?_); rintro e w1 ⟨rfl, hb1⟩; have hq1 : Bel w w1 := hb1; have hS1 := hid (hS.out.bel hb1); have x1 := hS1.out.rang; have x2 := hS1.out.short; have x4 := hS1.out.form) | (go_at_call 69; (with_reducible refine (cD.out _).mono ?_); rintro e w' ⟨rfl, rfl⟩) | (go_at_call 88; (with_reducible refine (c2.out _ hq1).mono ?_); rintro e w2 ⟨rfl, hb2⟩; have hS2 := hid (hS1.out.bel hb2); have y1 := hS2.out.rang; have y2 := hS2.out.short; have y4 := hS2.out.form; clear x1 x2 x4))
    refine bodyPost_ret (v := .tuple #[.int .i64 a, .int .i64 b, .int .i64 ((i : Int) + 1), .nilIface]) (by simp [results, Tryd.results70, go_sem]) rfl ?_
    exact ⟨tup_eq (by omega), (Bel.step hb1 hb2)⟩
  | bad1 h1 =>
    generalize hk1 : k + 1 = k1 at *
    clear hk1
    have c1 := hid (number_bad h1 hm w hS.out.rang)
    clear h1
    unfold Gives at *
    clear hm
    go_enter Tryd.func70, Tryd.ntmps70
    go_wp2_with (first | (go_at_call 88; (with_reducible refine c1.out.mono ?_); rintro e w1 ⟨rfl, hb1⟩; have hq1 : Bel w w1 := hb1; have hS1 := hid (hS.out.bel hb1); have x1 := hS1.out.rang; have x2 := hS1.out.short; have x4 := hS1.out.form))
    refine bodyPost_ret (v := .tuple #[.int .i64 0, .int .i64 0, .int .i64 k1, .iface 135 (V 1)]) (by simp [results, Tryd.results70, go_sem]) rfl ?_
    exact ⟨rfl, hb1⟩
  | short1 a j h1 h2 =>
    generalize hk1 : k + 1 = k1 at *
    clear hk1
    have c1 := hid (number_in h1 hm w)
    have hj0 := (nm_le h1).2.2
    have hn := nl_length s
    rw [hn] at h2 hj0
    have hjb : j ≤ 99990 := by omega
    have g1 : ((j : Int) == (s.size : Int)) = true := by rw [beq_iff_eq]; omega
    have g2 : decide ((j : Int) < (s.size : Int)) = false := by simp only [decide_eq_false_iff_not]; omega
    clear h1
    unfold Gives at *
    clear hm
    go_enter Tryd.func70, Tryd.ntmps70
    go_wp2_with (first | (go_at_call 88; (with_reducible refine c1.out.mono ?_); rintro e w1 ⟨rfl, hb1⟩; have hq1 : Bel w w1 := hb1; have hS1 := hid (hS.out.bel hb1); have x1 := hS1.out.rang; have x2 := hS1.out.short; have x4 := hS1.out.form))
    go_quiet (fail)
    go_wp2
    refine bodyPost_ret (v := .tuple #[.int .i64 0, .int .i64 0, .int .i64 (s.size : Int), .iface 135 (V 2)]) (by simp [results, Tryd.results70, go_sem]) rfl ?_
    exact ⟨tup_eq (by omega), below_drewN hb1 _⟩
  | form1 a j c h1 h2 h3 h4 =>
    generalize hk1 : k + 1 = k1 at *
    clear hk1
    have c1 := hid (number_in h1 hm w)
    have hj0 := (nm_le h1).2.2
    obtain ⟨hltj, hatj⟩ := at_nl h2
    have hjb : n ≤ 99990 := by omega
    have g1 : ((c : Int) == 44) = false := by rw [beq_eq_false_iff_ne]; omega
    have g2 : ((c : Int) != 125) = true := by rw [bne_iff_ne]; omega
    clear h1 h2 h3 h4
    unfold Gives at *
    clear hm
    go_enter Tryd.func70, Tryd.ntmps70
    go_wp2_with (first | (go_at_call 88; (with_reducible refine c1.out.mono ?_); rintro e w1 ⟨rfl, hb1⟩; have hq1 : Bel w w1 := hb1; have hS1 := hid (hS.out.bel hb1); have x1 := hS1.out.rang; have x2 := hS1.out.short; have x4 := hS1.out.form))
    go_quiet (fail)
    go_wp2
    refine bodyPost_ret (v := .tuple #[.int .i64 0, .int .i64 0, .int .i64 n, .iface 135 (V 4)]) (by simp [results, Tryd.results70, go_sem]) rfl ?_
    exact ⟨rfl, below_drewN hb1 _⟩
  | low1 j h1 h2 =>
    generalize hk1 : k + 1 = k1 at *
    clear hk1
    have c1 := hid (number_in h1 hm w)
    have hj0 := (nm_le h1).2.2
    obtain ⟨hltj, hatj⟩ := at_nl h2
    have hjb : j ≤ 99990 := by omega
    clear h1 h2
    unfold Gives at *
    clear hm
    go_enter Tryd.func70, Tryd.ntmps70
    go_wp2_with (first | (go_at_call 88; (with_reducible refine c1.out.mono ?_); rintro e w1 ⟨rfl, hb1⟩; have hq1 : Bel w w1 := hb1; have hS1 := hid (hS.out.bel hb1); have x1 := hS1.out.rang; have x2 := hS1.out.short; have x4 := hS1.out.form))
    go_quiet (fail)
    go_wp2
    refine bodyPost_ret (v := .tuple #[.int .i64 0, .int .i64 0, .int .i64 k1, .iface 135 (V 1)]) (by simp [results, Tryd.results70, go_sem]) rfl ?_
    exact ⟨rfl, below_drewN hb1 _⟩
  | short2 a j h1 h2 h3 =>
    generalize hk1 : k + 1 = k1 at *
    clear hk1
    have c1 := hid (number_in h1 hm w)
    have hj0 := (nm_le h1).2.2
    have hn := nl_length s
    obtain ⟨hltj, hatj⟩ := at_nl h2
    rw [hn] at h3
    have hjb : j ≤ 99990 := by omega
    have cD := hid (fun w => dig_no' (k := j + 1) (i := (j : Int) + 1) (by omega) (nodg_end (by omega)) hm (by omega) w)
    have g1 : ((j : Int) + 1 == (s.size : Int)) = true := by rw [beq_iff_eq]; omega
    clear h1 h2
    unfold Gives at *
    clear hm
    go_enter Tryd.func70, Tryd.ntmps70
    go_wp2_with (first | (go_at_call 88; (with_reducible refine c1.out.mono ?_); rintro e w1 ⟨rfl, hb1⟩; have hq1 : Bel w w1 := hb1; have hS1 := hid (hS.out.bel hb1); have x1 := hS1.out.rang; have x2 := hS1.out.short; have x4 := hS1.out.form) | (go_at_call 69; (with_reducible refine (cD.out _).mono ?_); rintro e w' ⟨rfl, rfl⟩))
    go_quiet (fail)
    go_wp2
    refine bodyPost_ret (v := .tuple #[.int .i64 0, .int .i64 0, .int .i64 ((j : Int) + 1), .iface 135 (V 2)]) (by simp [results, Tryd.results70, go_sem]) rfl ?_
    exact ⟨tup_eq (by omega), below_drewN hb1 _⟩
  | form2 a j c h1 h2 h3 h4 h5 =>
    generalize hk1 : k + 1 = k1 at *
    clear hk1
    have c1 := hid (number_in h1 hm w)
    have hj0 := (nm_le h1).2.2
    obtain ⟨hltj, hatj⟩ := at_nl h2
    obtain ⟨hltj2, hatj2⟩ := at_nl h3
    have hjb : j ≤ 99990 := by omega
    have cD := hid (fun w => dig_no' (k := j + 1) (i := (j : Int) + 1) (by omega) h4 hm (by omega) w)
    have g2 : ((c : Int) != 125) = true := by rw [bne_iff_ne]; omega
    clear h1 h2 h3 h4 h5
    unfold Gives at *
    clear hm
    go_enter Tryd.func70, Tryd.ntmps70
    go_wp2_with (first | (go_at_call 88; (with_reducible refine c1.out.mono ?_); rintro e w1 ⟨rfl, hb1⟩; have hq1 : Bel w w1 := hb1; have hS1 := hid (hS.out.bel hb1); have x1 := hS1.out.rang; have x2 := hS1.out.short; have x4 := hS1.out.form) | (go_at_call 69; (with_reducible refine (cD.out _).mono ?_); rintro e w' ⟨rfl, rfl⟩))
    go_quiet (fail)
    go_wp2
    refine bodyPost_ret (v := .tuple #[.int .i64 0, .int .i64 0, .int .i64 ((j : Int) + 1), .iface 135 (V 4)]) (by simp [results, Tryd.results70, go_sem]) rfl ?_
    exact ⟨tup_eq (by omega), below_drewN hb1 _⟩
  | bad2 a j h1 h2 h3 =>
    generalize hk1 : k + 1 = k1 at *
    clear hk1
    have c1 := hid (number_in h1 hm w)
    have hj0 := (nm_le h1).2.2
    obtain ⟨hltj, hatj⟩ := at_nl h2
    have hjb : j ≤ 99990 := by omega
    have cD := hid (fun w => dig_yes' (k := j + 1) (i := (j : Int) + 1) (by omega) (nmbad_dg h3) hm (by omega) w)
    have c2 := hid (fun w' (hb : Bel w w') => number_bad' (i := (j : Int) + 1) (by omega) h3 hm w' (hS.out.bel hb).rang)
    clear h1 h2 h3
    unfold Gives at *
    clear hm
    go_enter Tryd.func70, Tryd.ntmps70
    go_wp2_with (first | (go_at_call 88; (with_reducible refine c1.out.mono ?_); rintro e w1 ⟨rfl, hb1⟩; have hq1 : Bel w w1 := hb1; have hS1 := hid (hS.out.bel hb1); have x1 := hS1.out.rang; have x2 := hS1.out.short; have x4 := hS1.out.form) | (go_at_call 69; (with_reducible refine (cD.out _).mono ?_); rintro e w' ⟨rfl, rfl⟩) | (go_at_call 88; (with_reducible refine (c2.out _ hq1).mono ?_); rintro e w2 ⟨rfl, hb2⟩; have hS2 := hid (hS1.out.bel hb2); have y1 := hS2.out.rang; have y2 := hS2.out.short; have y4 := hS2.out.form; clear x1 x2 x4))
    refine bodyPost_ret (v := .tuple #[.int .i64 0, .int .i64 0, .int .i64 ((j : Int) + 1), .iface 135 (V 1)]) (by simp [results, Tryd.results70, go_sem]) rfl ?_
    exact ⟨tup_eq (by omega), (Bel.step hb1 hb2)⟩
  | short3 a j b i h1 h2 h3 h4 =>
    generalize hk1 : k + 1 = k1 at *
    clear hk1
    have c1 := hid (number_in h1 hm w)
    have hj0 := (nm_le h1).2.2
    have c2 := hid (fun w' (hb : Bel w w') => number_in' (i := (j : Int) + 1) (by omega) h3 hm w')
    have hi0 := (nm_le h3).2.2
    have hib : i ≤ 99990 := by omega
    have hn := nl_length s
    obtain ⟨hltj, hatj⟩ := at_nl h2
    rw [hn] at h4 hi0
    have hjb : j ≤ 99990 := by omega
    have cD := hid (fun w => dig_yes' (k := j + 1) (i := (j : Int) + 1) (by omega) (nm_dg h3) hm (by omega) w)
    have g1 : ((i : Int) == (s.size : Int)) = true := by rw [beq_iff_eq]; omega
    have g2 : decide ((i : Int) < (s.size : Int)) = false := by simp only [decide_eq_false_iff_not]; omega
    clear h1 h2 h3
    unfold Gives at *
    clear hm
    go_enter Tryd.func70, Tryd.ntmps70
    go_wp2_with (first | (go_at_call 88; (with_reducible refine c1.out.mono ?_); rintro e w1 ⟨rfl, hb1⟩; have hq1 : Bel w w1 := hb1; have hS1 := hid (hS.out.bel hb1); have x1 := hS1.out.rang; have x2 := hS1.out.short; have x4 := hS1.out.form) | (go_at_call 69; (with_reducible refine (cD.out _).mono ?_); rintro e w' ⟨rfl, rfl⟩) | (go_at_call 88; (with_reducible refine (c2.out _ hq1).mono ?_); rintro e w2 ⟨rfl, hb2⟩; have hS2 := hid (hS1.out.bel hb2); have y1 := hS2.out.rang; have y2 := hS2.out.short; have y4 := hS2.out.form; clear x1 x2 x4))
    go_quiet (fail)
    go_wp2
    refine bodyPost_ret (v := .tuple #[.int .i64 0, .int .i64 0, .int .i64 (s.size : Int), .iface 135 (V 2)]) (by simp [results, Tryd.results70, go_sem]) rfl ?_
    exact ⟨tup_eq (by omega), below_drewN (Bel.step hb1 hb2) _⟩
  | form3 a j b i c h1 h2 h3 h4 h5 =>
    generalize hk1 : k + 1 = k1 at *
    clear hk1
    have c1 := hid (number_in h1 hm w)
    have hj0 := (nm_le h1).2.2
    have c2 := hid (fun w' (hb : Bel w w') => number_in' (i := (j : Int) + 1) (by omega) h3 hm w')
    have hi0 := (nm_le h3).2.2
    have hib : n ≤ 99990 := by omega
    obtain ⟨hltj, hatj⟩ := at_nl h2
    obtain ⟨hlti, hati⟩ := at_nl h4
    have hjb : j ≤ 99990 := by omega
    have cD := hid (fun w => dig_yes' (k := j + 1) (i := (j : Int) + 1) (by omega) (nm_dg h3) hm (by omega) w)
    have g2 : ((c : Int) != 125) = true := by rw [bne_iff_ne]; omega
    clear h1 h2 h3 h4 h5
    unfold Gives at *
    clear hm
    go_enter Tryd.func70, Tryd.ntmps70
    go_wp2_with (first | (go_at_call 88; (with_reducible refine c1.out.mono ?_); rintro e w1 ⟨rfl, hb1⟩; have hq1 : Bel w w1 := hb1; have hS1 := hid (hS.out.bel hb1); have x1 := hS1.out.rang; have x2 := hS1.out.short; have x4 := hS1.out.form) | (go_at_call 69; (with_reducible refine (cD.out _).mono ?_); rintro e w' ⟨rfl, rfl⟩) | (go_at_call 88; (with_reducible refine (c2.out _ hq1).mono ?_); rintro e w2 ⟨rfl, hb2⟩; have hS2 := hid (hS1.out.bel hb2); have y1 := hS2.out.rang; have y2 := hS2.out.short; have y4 := hS2.out.form; clear x1 x2 x4))
    go_quiet (fail)
    go_wp2
    refine bodyPost_ret (v := .tuple #[.int .i64 0, .int .i64 0, .int .i64 n, .iface 135 (V 4)]) (by simp [results, Tryd.results70, go_sem]) rfl ?_
    exact ⟨rfl, below_drewN (Bel.step hb1 hb2) _⟩
  | low2 a j b i h1 h2 h3 h4 h5 =>
    generalize hk1 : k + 1 = k1 at *
    clear hk1
    have c1 := hid (number_in h1 hm w)
    have hj0 := (nm_le h1).2.2
    have c2 := hid (fun w' (hb : Bel w w') => number_in' (i := (j : Int) + 1) (by omega) h3 hm w')
    have hi0 := (nm_le h3).2.2
    have hib : i ≤ 99990 := by omega
    obtain ⟨hltj, hatj⟩ := at_nl h2
    obtain ⟨hlti, hati⟩ := at_nl h4
    have hjb : j ≤ 99990 := by omega
    have cD := hid (fun w => dig_yes' (k := j + 1) (i := (j : Int) + 1) (by omega) (nm_dg h3) hm (by omega) w)
    have g1 : ((b : Int) != -1) = true := by rw [bne_iff_ne]; omega
    have g2 : (decide (b < a) = true) ∨ (decide (b < a) = false ∧ decide ((b : Int) < 1) = true) := by
      by_cases hba : b < a
      · exact .inl (by rw [decide_eq_true_eq]; omega)
      · exact .inr ⟨by simp only [decide_eq_false_iff_not]; omega, by rw [decide_eq_true_eq]; omega⟩
    clear h1 h2 h3 h4 h5
    unfold Gives at *
    clear hm
    rcases g2 with g2 | ⟨g2, g3⟩
    all_goals
      go_enter Tryd.func70, Tryd.ntmps70
      go_wp2_with (first | (go_at_call 88; (with_reducible refine c1.out.mono ?_); rintro e w1 ⟨rfl, hb1⟩; have hq1 : Bel w w1 := hb1; have hS1 := hid (hS.out.bel hb1); have x1 := hS1.out.rang; have x2 := hS1.out.short; have x4 := hS1.out.form) | (go_at_call 69; (with_reducible refine (cD.out _).mono ?_); rintro e w' ⟨rfl, rfl⟩) | (go_at_call 88; (with_reducible refine (c2.out _ hq1).mono ?_); rintro e w2 ⟨rfl, hb2⟩; have hS2 := hid (hS1.out.bel hb2); have y1 := hS2.out.rang; have y2 := hS2.out.short; have y4 := hS2.out.form; clear x1 x2 x4))
      go_quiet (fail)
      go_wp2
      refine bodyPost_ret (v := .tuple #[.int .i64 0, .int .i64 0, .int .i64 ((j : Int) + 1), .iface 135 (V 1)]) (by simp [results, Tryd.results70, go_sem]) rfl ?_
      exact ⟨tup_eq (by omega), below_drewN (Bel.step hb1 hb2) _⟩
end Go.Proofs.YtobbifhflnlplaaDoor
namespace Go.Proofs.YtobbifhflnlplaaDoor
open Lib (hid)
open Go.RowKit
open Go.Tree7
open S7
open S5 (nl nl_length nl_small at_nl nl_at Gives idx idx_at ix ix_no ix_yes)
abbrev starsB : ByteArray := ⟨#[42, 43, 63]⟩
set_option maxRecDepth 10000 in
theorem suffixed_yes {s : ByteArray} {k : Nat} (h : IsMark (nl s) k) (hm : s.size ≤ 99990) (w : World) : Calls Tryd.prog 48 #[.string s, .int .i64 k] w fun e w' => e = .returned (.bool true) ∧ w = w' := by
  rcases h with h | h | h | ⟨h, hd⟩
  · obtain ⟨hlt, hat⟩ := at_nl h
    have hkb : k ≤ 99990 := by omega
    have c1 := hid (S5.idx_lit starsB 42 0 (by decide) (by decide +kernel))
    clear h hm
    go_enter Tryd.func48, Tryd.ntmps48
    go_wp2_with (go_at_call 68; (with_reducible refine (c1.out _).mono ?_); rintro e w' ⟨rfl, rfl⟩)
    go_ret
    exact ⟨rfl, rfl⟩
  · obtain ⟨hlt, hat⟩ := at_nl h
    have hkb : k ≤ 99990 := by omega
    have c1 := hid (S5.idx_lit starsB 43 1 (by decide) (by decide +kernel))
    clear h hm
    go_enter Tryd.func48, Tryd.ntmps48
    go_wp2_with (go_at_call 68; (with_reducible refine (c1.out _).mono ?_); rintro e w' ⟨rfl, rfl⟩)
    go_ret
    exact ⟨rfl, rfl⟩
  · obtain ⟨hlt, hat⟩ := at_nl h
    have hkb : k ≤ 99990 := by omega
    have c1 := hid (S5.idx_lit starsB 63 2 (by decide) (by decide +kernel))
    clear h hm
    go_enter Tryd.func48, Tryd.ntmps48
    go_wp2_with (go_at_call 68; (with_reducible refine (c1.out _).mono ?_); rintro e w' ⟨rfl, rfl⟩)
    go_ret
    exact ⟨rfl, rfl⟩
  · obtain ⟨hlt, hat⟩ := at_nl h
    have hkb : k ≤ 99990 := by omega
    have c1 := hid (S5.idx_lit starsB 123 (-1) (by decide) (by decide +kernel))
    have cD := hid (fun w => dig_yes' (k := k + 1) (i := (k : Int) + 1) (by omega) hd hm (by omega) w)
    clear h hm hd
    go_enter Tryd.func48, Tryd.ntmps48
    go_wp2_with (first | (go_at_call 68; (with_reducible refine (c1.out _).mono ?_); rintro e w' ⟨rfl, rfl⟩) | (go_at_call 69; (with_reducible refine (cD.out _).mono ?_); rintro e w' ⟨rfl, rfl⟩))
    go_ret
    exact ⟨rfl, rfl⟩
set_option maxRecDepth 10000 in
theorem suffixed_no {s : ByteArray} {k c : Nat} (hc : (nl s)[k]? = some c) (h : ¬ IsMark (nl s) k) (hm : s.size ≤ 99990) (w : World) : Calls Tryd.prog 48 #[.string s, .int .i64 k] w fun e w' => e = .returned (.bool false) ∧ w = w' := by
  obtain ⟨hlt, hat⟩ := at_nl hc
  have hkb : k ≤ 99990 := by omega
  have hcs : c ≤ 255 := nl_small s c (List.mem_of_getElem? hc)
  unfold IsMark at h
  rw [hc] at h
  have n1 : c ≠ 42 := fun e => h (.inl (by rw [e]))
  have n2 : c ≠ 43 := fun e => h (.inr (.inl (by rw [e])))
  have n3 : c ≠ 63 := fun e => h (.inr (.inr (.inl (by rw [e]))))
  have hn : c ∉ nl starsB := by
    have : nl starsB = [42, 43, 63] := by decide
    rw [this]
    simp
    omega
  have c1 := hid (fun w => idx_at starsB c w (-1) (ix_no hcs hn))
  clear hn
  by_cases h4 : c = 123
  · replace c1 : Hid (∀ w, Calls Tryd.prog 68 #[.string starsB, .int .u8 123] w fun e w' => e = .returned (.int .i64 (-1)) ∧ w = w') := hid (S5.idx_lit starsB 123 (-1) (by decide) (by decide +kernel))
    subst h4
    have cD := hid (fun w => dig_no' (k := k + 1) (i := (k : Int) + 1) (by omega) (fun hd => h (.inr (.inr (.inr ⟨rfl, hd⟩)))) hm (by omega) w)
    clear hc hm h n1 n2 n3 hcs
    go_enter Tryd.func48, Tryd.ntmps48
    go_wp2_with (first | (go_at_call 68; (with_reducible refine (c1.out _).mono ?_); rintro e w' ⟨rfl, rfl⟩) | (go_at_call 69; (with_reducible refine (cD.out _).mono ?_); rintro e w' ⟨rfl, rfl⟩))
    go_ret
    exact ⟨rfl, rfl⟩
  · have g1 : ((c : Int) == 123) = false := by rw [beq_eq_false_iff_ne]; omega
    clear hc hm h n1 n2 n3
    go_enter Tryd.func48, Tryd.ntmps48
    go_wp2_with (go_at_call 68; (with_reducible refine (c1.out _).mono ?_); rintro e w' ⟨rfl, rfl⟩)
    go_ret
    exact ⟨rfl, rfl⟩
set_option maxRecDepth 10000 in
set_option maxHeartbeats 1000000 in
theorem suffix_in {s : ByteArray} {k n e : Nat} {a b : Int} (h : Mk (nl s) k a b n e) (hm : s.size ≤ 99990) {V : Nat → Value} (w : World) (hS : Six w V) :
    Gives 49 #[.string s, .int .i64 k] (.tuple #[.int .i64 a, .int .i64 b, .int .i64 n, errX V e]) w := by
  unfold Gives
  cases h with
  | star h =>
    obtain ⟨hlt, hat⟩ := at_nl h
    have hkb : k ≤ 99990 := by omega
    clear h hm hS
    go_enter Tryd.func49, Tryd.ntmps49
    go_wp2
    refine bodyPost_ret (v := .tuple #[.int .i64 0, .int .i64 (-1), .int .i64 ((k : Int) + 1), .nilIface]) (by simp [results, Tryd.results49, go_sem]) rfl ?_
    exact ⟨tup_eq (by omega), Below.refl _ _⟩
  | plus h =>
    obtain ⟨hlt, hat⟩ := at_nl h
    have hkb : k ≤ 99990 := by omega
    clear h hm hS
    go_enter Tryd.func49, Tryd.ntmps49
    go_wp2
    refine bodyPost_ret (v := .tuple #[.int .i64 1, .int .i64 (-1), .int .i64 ((k : Int) + 1), .nilIface]) (by simp [results, Tryd.results49, go_sem]) rfl ?_
    exact ⟨tup_eq (by omega), Below.refl _ _⟩
  | opt h =>
    obtain ⟨hlt, hat⟩ := at_nl h
    have hkb : k ≤ 99990 := by omega
    clear h hm hS
    go_enter Tryd.func49, Tryd.ntmps49
    go_wp2
    refine bodyPost_ret (v := .tuple #[.int .i64 0, .int .i64 1, .int .i64 ((k : Int) + 1), .nilIface]) (by simp [results, Tryd.results49, go_sem]) rfl ?_
    exact ⟨tup_eq (by omega), Below.refl _ _⟩
  | bounds _ _ _ _ h hd hB =>
    obtain ⟨hlt, hat⟩ := at_nl h
    have hkb : k ≤ 99990 := by omega
    have cB := bounds_in hB hm w hS
    rw [show ((k + 1 : Nat) : Int) = (k : Int) + 1 by omega] at cB
    unfold Gives at cB
    replace cB := hid cB
    clear h hm hS hd hB
    generalize errX V e = E at *
    go_enter Tryd.func49, Tryd.ntmps49
    go_wp2_with (go_at_call 70; (with_reducible refine cB.out.mono ?_); rintro e w' ⟨rfl, hb⟩)
    refine bodyPost_ret (v := .tuple #[.int .i64 a, .int .i64 b, .int .i64 n, E]) (by simp [results, Tryd.results49, go_sem]) rfl ?_
    exact ⟨rfl, hb⟩
end Go.Proofs.YtobbifhflnlplaaDoor
namespace Go.Proofs.YtobbifhflnlplaaDoor
open Lib (hid)
open Go.RowKit
open Go.Tree7
open S7
open S5 (nl nl_length nl_small at_nl nl_at Gives idx idx_at ix ix_no ix_yes)
set_option maxHeartbeats 2000000 in
set_option maxRecDepth 10000 in
theorem slclone_in (t : ByteArray) (h0 : t.size ≠ 0) (hm : t.size ≤ 100000) (w : World) : Calls Tryd.prog 98 #[.string t] w fun e w' => e = .returned (.string t) ∧ Below w.heap.size w w' := by
  obtain ⟨i0, hi, hz0, hz1, hz2⟩ := info_parts (show (Tryd.prog.info? 5).map (fun i => (i.zero, i.size, i.bytes)) = some (some (.int .u8 0), 1, 1) by kernel_rfl)
  have hinfo : (Tryd.prog.info? 5).map (·.size) = some 1 := by kernel_rfl
  have hco : Tryd.prog.cellsOf 5 = 1 := by kernel_rfl
  obtain ⟨M, hM⟩ : ∃ M, M = madeCells (Value.int .u8 0).cells (((t.size : Nat) : Int).toNat * i0.size) := ⟨_, rfl⟩
  have hMs : M.size = t.size := by rw [hM, size_madeCells, hz1]; simp
  have hmk : ∀ W : World, (Instr.makeSlice 28 (.int .i64 (t.size : Int)) (.int .i64 (t.size : Int))).run Tryd.prog W = .ok (.slice (some ⟨W.heap.size, 0, none⟩) t.size t.size) (W.alloc (.cells M 5)) := fun W => by
    have h := run_make (P := Tryd.prog) W 28 5 i0 (.int .u8 0) Tryd.underlying28 hi hz0 .i64 .i64 (t.size : Int) (t.size : Int) (by omega) (by omega) (by rw [hz2]; omega) (by omega)
    rw [← hM] at h
    simpa using h
  clear hM
  obtain ⟨X, hX⟩ : ∃ X, X = w.alloc (.cells M 5) := ⟨_, rfl⟩
  have hXh : X.heap[w.heap.size]? = some (.cells M 5 (0, 0)) := by rw [hX]; exact World.alloc_heap_new _ _
  have hbX : Below w.heap.size w X := by rw [hX]; exact (Below.refl _ w).alloc (Nat.le_refl _) _
  have hcp := Lib.run_copy_row_string (P := Tryd.prog) X 28 9 3 5 w.heap.size 0 t.size t.size t M 5 Tryd.underlying28 hinfo hXh (Nat.le_refl _) (by omega)
  obtain ⟨Y, hY⟩ : ∃ Y, Y = (M.toList.take 0 ++ Lib.byteCells t.data.toList ++ M.toList.drop (0 + t.size)).toArray := ⟨_, rfl⟩
  rw [← hY] at hcp
  have hYl : Y.toList = Lib.byteCells t.data.toList := by
    rw [hY, List.toList_toArray, List.take_zero, List.nil_append, List.drop_of_length_le (by rw [Array.length_toList]; omega), List.append_nil]
  have hYs : Y.size = t.size := by rw [← Array.length_toList, hYl, Lib.byteCells_length, ← Lib.size_eq]
  have hgY : (X.setRow w.heap.size Y).heap[w.heap.size]? = some (.cells Y 5 (0, 0)) := setRow_heap _ _ M _ 5 (0, 0) hXh
  have hne : t.data.toList ≠ [] := fun e => h0 (by rw [Lib.size_eq, e]; rfl)
  have hUS := Lib.run_unsafeString_row (P := Tryd.prog) (X.setRow w.heap.size Y) 132 3 9 5 Tryd.underlying132 hco w.heap.size Y.size (by unfold World.shape?; rw [hgY]) t.data.toList hne (by rw [← Lib.size_eq]; omega) (by rw [← Lib.size_eq]; omega)
    (fun j x hx => Lib.cells_of_row hgY Y.size j _ (by rw [List.take_of_length_le (by rw [Array.length_toList]; exact Nat.le_refl _), hYl]; simp [Lib.byteCells, hx]))
  rw [← Lib.size_eq] at hUS
  have g0 : ((t.size : Int) == 0) = false := by rw [beq_eq_false_iff_ne]; omega
  have g1 : (0 : Int) < t.size := by omega
  have hfin : Below w.heap.size w (X.setRow w.heap.size Y) := hbX.trans ⟨rfl, rfl, rfl, by simp, fun k hk => setRow_other _ _ _ _ (by omega)⟩
  rw [hX] at hcp hUS
  clear hY hXh hbX hgY hYl hMs hne h0 hi hz0 hz1 hz2 hinfo hco
  go_enter Tryd.func98, Tryd.ntmps98
  go_wp2
  go_ret
  rw [← hX]
  exact ⟨rfl, Lib.below_freeze hfin (p := ⟨w.heap.size, 0, none⟩) (Nat.le_refl _) _⟩
theorem clone_in8 (t : ByteArray) (h0 : t.size ≠ 0) (hm : t.size ≤ 100000) (w : World) : Calls Tryd.prog 90 #[.string t] w fun e w' => e = .returned (.string t) ∧ Below w.heap.size w w' := by
  have C := hid (slclone_in t h0 hm w)
  clear h0 hm
  go_enter Tryd.func90, Tryd.ntmps90
  go_wp2_with (go_at_call 98; (with_reducible refine C.out.mono ?_); rintro e w' ⟨rfl, hb⟩)
  go_ret
  exact ⟨rfl, hb⟩
end Go.Proofs.YtobbifhflnlplaaDoor
namespace Go.Proofs.YtobbifhflnlplaaDoor
open Lib (hid)
open Go.RowKit
open Go.Tree7
open S7
open S5 (nl nl_length nl_small at_nl nl_at Gives idx idx_at ix ix_no ix_yes)
set_option maxHeartbeats 2000000 in
set_option maxRecDepth 10000 in
theorem xone_in (a0 a1 a2 a3 : Int) (w : World) : Calls Tryd.prog 72 #[.agg #[.int .u64 a0, .int .u64 a1, .int .u64 a2, .int .u64 a3]] w fun e w' => e = .returned (.agg #[.int .i64 1, .int .u64 a0, .int .u64 a1, .int .u64 a2, .int .u64 a3, .slice none 0 0, .int .i64 0, .int .i64 0, .string ⟨#[]⟩]) ∧ Below w.heap.size w w' := by
  go_enter Tryd.func72, Tryd.ntmps72
  go_wp2
  refine bodyPost_ret (v := .agg #[.int .i64 1, .int .u64 a0, .int .u64 a1, .int .u64 a2, .int .u64 a3, .slice none 0 0, .int .i64 0, .int .i64 0, .string ⟨#[]⟩]) (by simp [results, Tryd.results72, go_sem]) rfl ?_
  exact ⟨rfl, ((Below.refl w.heap.size w).alloc (Nat.le_refl _) _).alloc (by simp) _⟩
end Go.Proofs.YtobbifhflnlplaaDoor
namespace Go.Proofs.YtobbifhflnlplaaDoor
open Lib (hid)
open Go.RowKit
open Go.Tree7
open S7
open S5 (nl nl_length nl_small at_nl nl_at Gives idx idx_at ix ix_no ix_yes)
def noneV (n : Int) (E : Value) : Value := .tuple #[.agg #[.int .i64 0, .int .u64 0, .int .u64 0, .int .u64 0, .int .u64 0, .slice none 0 0, .int .i64 0, .int .i64 0, .string ⟨#[]⟩], .int .i64 n, E]
theorem nl_extract {s : ByteArray} {a b : Nat} (_ : a ≤ b) (_ : b ≤ s.size) : nl (s.extract a b) = ((nl s).drop a).take (b - a) := by
  unfold nl
  rw [ByteArray.data_extract, Array.toList_extract, List.extract_eq_take_drop, List.map_take, List.map_drop]
theorem ix_first {l : List UInt8} {c : UInt8} {m : Nat} (h1 : l[m]? = some c) (h2 : ∀ j, j < m → l[j]? ≠ some c) : Lib.indexByte l c = m := by
  induction l generalizing m with
  | nil => simp at h1
  | cons b l ih =>
    unfold Lib.indexByte
    cases m with
    | zero =>
      rw [List.getElem?_cons_zero] at h1
      cases h1
      simp
    | succ m =>
      have hb : (b == c) = false := by
        rw [beq_eq_false_iff_ne]
        rintro rfl
        exact h2 0 (by omega) (by simp)
      rw [hb]
      rw [List.getElem?_cons_succ] at h1
      have := ih h1 (fun j hj => by have := h2 (j + 1) (by omega); rwa [List.getElem?_cons_succ] at this)
      rw [this]
      simp
theorem ix_piece {s : ByteArray} {k m c : Nat} (hc : c ≤ 255) (h1 : (nl s)[k + m]? = some c) (h2 : ∀ j, j < m → (nl s)[k + j]? ≠ some c) : ix (s.extract k s.size) c = m := by
  unfold ix
  have hk : (s.extract k s.size).data.toList = s.data.toList.drop k := by
    rw [ByteArray.data_extract, Array.toList_extract, List.extract_eq_take_drop, List.take_of_length_le (by rw [List.length_drop]; exact Nat.le_refl _)]
  rw [hk]
  have hat : ∀ j : Nat, ((s.data.toList.drop k)[j]? = some c.toUInt8) ↔ (nl s)[k + j]? = some c := fun j => by
    rw [List.getElem?_drop]
    unfold nl
    rw [List.getElem?_map]
    cases h : s.data.toList[k + j]? with
    | none => simp
    | some b =>
      simp only [Option.some.injEq, Option.map_some]
      constructor
      · rintro rfl
        simp
        omega
      · rintro rfl
        simp
  exact ix_first ((hat m).2 h1) fun j hj e => h2 j hj ((hat j).1 e)
theorem named_short {s : ByteArray} {k : Nat} (hk : k ≤ s.size) (h : ∀ j, k ≤ j → (nl s)[j]? ≠ some 125) (hm : s.size ≤ 99990) {E : Value} (w : World) (hE : w.cell? ⟨0, 0, none⟩ = some E) :
    Gives 71 #[.string s, .int .i64 k] (noneV s.size E) w := by
  have hkb : k ≤ 99990 := by omega
  have hno : 125 ∉ nl (s.extract k s.size) := fun hx => by
    rw [nl_extract hk (Nat.le_refl _)] at hx
    obtain ⟨j, hj, e⟩ := List.getElem_of_mem (List.mem_of_mem_take hx)
    rw [List.getElem_drop] at e
    exact h (k + j) (by omega) (by rw [← e, List.getElem?_eq_getElem])
  have cI := hid (S5.idx_lit (s.extract k s.size) 125 (-1) (by decide) (ix_no (by decide) hno))
  have hlt := World.block_lt_of_cell? _ _ hE
  clear hno h hm
  unfold Gives noneV
  go_enter Tryd.func71, Tryd.ntmps71
  go_wp2_with (go_at_call 68; (with_reducible refine (cI.out _).mono ?_); rintro e w' ⟨rfl, rfl⟩)
  go_region
  go_wp2
  refine bodyPost_ret (v := .tuple #[.agg #[.int .i64 0, .int .u64 0, .int .u64 0, .int .u64 0, .int .u64 0, .slice none 0 0, .int .i64 0, .int .i64 0, .string ⟨#[]⟩], .int .i64 s.size, E]) (by simp [results, Tryd.results71, go_sem]) rfl ?_
  exact ⟨rfl, ((Below.refl w.heap.size w).alloc (Nat.le_refl _) _).drew⟩
theorem named_bad {s : ByteArray} {k m : Nat} (h1 : (nl s)[k + m]? = some 125) (h2 : ∀ j, j < m → (nl s)[k + j]? ≠ some 125) (h3 : ¬ NameOk (((nl s).drop k).take m)) (hm : s.size ≤ 99990) {E : Value} (w : World) (hE : w.cell? ⟨5, 0, none⟩ = some E) :
    Gives 71 #[.string s, .int .i64 k] (noneV k E) w := by
  obtain ⟨hlt, hat⟩ := at_nl h1
  have hkb : k + m ≤ 99990 := by omega
  have cI := hid (S5.idx_lit (s.extract k s.size) 125 m (by decide) (ix_piece (by decide) h1 h2))
  have hsz : (s.extract k (k + m)).size ≤ 9223372036854775807 := by rw [ByteArray.size_extract]; omega
  have cN := hid (fun w => isName_in (s := s.extract k (k + m)) hsz (r := false) ⟨fun h => (by cases h), fun h => (by rw [nl_extract (by omega) (by omega), Nat.add_sub_cancel_left] at h; exact absurd h h3)⟩ w)
  have hkm : ((k + m : Nat) : Int) = (k : Int) + m := by omega
  have hlt2 := World.block_lt_of_cell? _ _ hE
  clear h1 h2 h3 hm hsz hat
  unfold Gives noneV
  go_enter Tryd.func71, Tryd.ntmps71
  go_wp2_with (first | (go_at_call 68; (with_reducible refine (cI.out _).mono ?_); rintro e w' ⟨rfl, rfl⟩) | (go_at_call 89; (with_reducible refine (cN.out _).mono ?_); rintro e w' ⟨rfl, rfl⟩))
  go_region
  go_wp2
  refine bodyPost_ret (v := .tuple #[.agg #[.int .i64 0, .int .u64 0, .int .u64 0, .int .u64 0, .int .u64 0, .slice none 0 0, .int .i64 0, .int .i64 0, .string ⟨#[]⟩], .int .i64 k, E]) (by simp [results, Tryd.results71, go_sem]) rfl ?_
  exact ⟨rfl, ((Below.refl w.heap.size w).alloc (Nat.le_refl _) _).drew⟩
theorem piece_of {s tx : ByteArray} {k : Nat} (h : ∀ j x, (nl tx)[j]? = some x → (nl s)[k + j]? = some x) (hk : k + tx.size ≤ s.size) : s.extract k (k + tx.size) = tx := by
  apply S5.nl_inj
  rw [nl_extract (by omega) hk, Nat.add_sub_cancel_left]
  apply List.ext_getElem?
  intro j
  rw [List.getElem?_take]
  split
  · rw [List.getElem?_drop]
    cases e : (nl tx)[j]? with
    | none => rw [List.getElem?_eq_none_iff, nl_length] at e; omega
    | some x => exact h j x e
  · rw [List.getElem?_eq_none (by rw [nl_length]; omega)]
theorem named_ok {s tx : ByteArray} {k : Nat} (h1 : ∀ j x, (nl tx)[j]? = some x → (nl s)[k + j]? = some x) (h2 : (nl s)[k + tx.size]? = some 125) (h3 : NameOk (nl tx)) (hm : s.size ≤ 99990) (w : World) :
    Gives 71 #[.string s, .int .i64 k] (.tuple #[.agg (tN tx).cells.toArray, .int .i64 ((k : Int) + tx.size + 1), .nilIface]) w := by
  obtain ⟨hlt, hat⟩ := at_nl h2
  have hkb : k + tx.size ≤ 99990 := by omega
  have hno : ∀ j, j < tx.size → (nl s)[k + j]? ≠ some 125 := fun j hj e => by
    have hx := nl_at tx j hj
    rw [h1 j _ hx] at e
    have := h3.2.2.2 j _ hx
    unfold NameChar at this
    have := Option.some.inj e
    omega
  have cI := hid (S5.idx_lit (s.extract k s.size) 125 tx.size (by decide) (ix_piece (by decide) h2 hno))
  have hp : s.extract k (k + tx.size) = tx := piece_of h1 (by omega)
  have h0 : tx.size ≠ 0 := by have := h3.1; rw [nl_length] at this; omega
  have cN := hid (fun w => isName_in (s := tx) (by omega) (r := true) ⟨fun _ => h3, fun _ => rfl⟩ w)
  have cC := hid (fun w => clone_in8 tx h0 (by omega) w)
  have hkm : ((k + tx.size : Nat) : Int) = (k : Int) + tx.size := by omega
  clear h1 h2 h3 hm hat hno h0
  unfold Gives
  simp only [tN, T.cells, List.length_nil]
  go_enter Tryd.func71, Tryd.ntmps71
  go_wp2_with (first | (go_at_call 68; (with_reducible refine (cI.out _).mono ?_); rintro e w' ⟨rfl, rfl⟩) | (go_at_call 89; (with_reducible refine (cN.out _).mono ?_); rintro e w' ⟨rfl, rfl⟩) | (go_at_call 90; (with_reducible refine (cC.out _).mono ?_); rintro e w1 ⟨rfl, hb1⟩; have hx1 := hid (kept_row (World.alloc_heap_new w (.cells #[.int .i64 0, .int .u64 0, .int .u64 0, .int .u64 0, .int .u64 0, .slice none 0 0, .int .i64 0, .int .i64 0, .string ⟨#[]⟩] 27)) hb1); have hz1 : w.heap.size < w1.heap.size := Nat.lt_of_lt_of_le (by simp) hb1.size; have hb1' := hid (((Below.refl w.heap.size w).alloc (Nat.le_refl _) (.cells #[.int .i64 0, .int .u64 0, .int .u64 0, .int .u64 0, .int .u64 0, .slice none 0 0, .int .i64 0, .int .i64 0, .string ⟨#[]⟩] 27)).trans (hb1.mono (by simp))); have hk1 := cells_of hx1.out; obtain ⟨y0, f0⟩ := hk1 0 _ rfl; obtain ⟨y1, f1⟩ := hk1 1 _ rfl; obtain ⟨y2, f2⟩ := hk1 2 _ rfl; obtain ⟨y3, f3⟩ := hk1 3 _ rfl; obtain ⟨y4, f4⟩ := hk1 4 _ rfl; obtain ⟨y5, f5⟩ := hk1 5 _ rfl; obtain ⟨y6, f6⟩ := hk1 6 _ rfl; obtain ⟨y7, f7⟩ := hk1 7 _ rfl; obtain ⟨y8, f8⟩ := hk1 8 _ rfl; clear hk1 hb1))
  obtain ⟨q1, q2, q3, q4⟩ := set9 (b := w.heap.size) (d0 := .int .i64 5) (d1 := .int .u64 0) (d2 := .int .u64 0) (d3 := .int .u64 0) (d4 := .int .u64 0) (d5 := .slice none 0 0) (d6 := .int .i64 0) (d7 := .int .i64 0) (d8 := .string tx) hx1.out _ rfl
  generalize hW : World.setCell _ (⟨w.heap.size, 8, none⟩ : Addr) _ = W9 at *
  clear hW
  have hk9 := cells_of q1
  obtain ⟨z0, -⟩ := hk9 0 _ rfl
  obtain ⟨z1, -⟩ := hk9 1 _ rfl
  obtain ⟨z2, -⟩ := hk9 2 _ rfl
  obtain ⟨z3, -⟩ := hk9 3 _ rfl
  obtain ⟨z4, -⟩ := hk9 4 _ rfl
  obtain ⟨z5, -⟩ := hk9 5 _ rfl
  obtain ⟨z6, -⟩ := hk9 6 _ rfl
  obtain ⟨z7, -⟩ := hk9 7 _ rfl
  obtain ⟨z8, -⟩ := hk9 8 _ rfl
  clear hk9
  refine bodyPost_ret (v := .tuple #[.agg #[.int .i64 5, .int .u64 0, .int .u64 0, .int .u64 0, .int .u64 0, .slice none 0 0, .int .i64 0, .int .i64 0, .string tx], .int .i64 ((k : Int) + tx.size + 1), .nilIface]) (by simp [results, Tryd.results71, go_sem, z0, z1, z2, z3, z4, z5, z6, z7, z8]) rfl ?_
  exact ⟨rfl, hb1'.out.trans (q4 w.heap.size (Nat.le_refl _))⟩
end Go.Proofs.YtobbifhflnlplaaDoor
namespace Go.Proofs.YtobbifhflnlplaaDoor
open Lib (hid)
open Go.RowKit
open Go.Tree7
open S7
open S5 (nl nl_length nl_small at_nl nl_at Gives idx idx_at ix ix_no ix_yes)
abbrev barredB : ByteArray := ⟨#[42, 43, 63, 93, 125, 47]⟩
theorem nl_barred : nl barredB = [42, 43, 63, 93, 125, 47] := by decide
set_option maxRecDepth 10000 in
set_option maxHeartbeats 2000000 in
theorem atom_form {s : ByteArray} {k c : Nat} (h0 : (nl s)[k]? = some c) (hc : c ∈ [42, 43, 63, 93, 125, 47]) (hm : s.size ≤ 99990) {E : Value} (w : World) (hE : w.cell? ⟨3, 0, none⟩ = some E) :
    Gives 51 #[.string s, .int .i64 k] (noneV k E) w := by
  obtain ⟨hlt, hat⟩ := at_nl h0
  have hkb : k ≤ 99990 := by omega
  have hA : Hid (Bel w (w.alloc (.cells #[.int .i64 0, .int .u64 0, .int .u64 0, .int .u64 0, .int .u64 0, .slice none 0 0, .int .i64 0, .int .i64 0, .string ⟨#[]⟩] 27))) := hid ((Below.refl w.heap.size w).alloc (Nat.le_refl _) _)
  have hx0 := hid (World.alloc_heap_new w (.cells #[.int .i64 0, .int .u64 0, .int .u64 0, .int .u64 0, .int .u64 0, .slice none 0 0, .int .i64 0, .int .i64 0, .string ⟨#[]⟩] 27))
  have hi : 0 ≤ ix barredB c := ix_yes (by rw [nl_barred]; exact hc)
  have cI := hid (fun w => idx barredB c w)
  have hg := World.block_lt_of_cell? _ _ hE
  clear h0 hc hm
  unfold Gives noneV
  generalize ix barredB c = q at *
  go_enter Tryd.func51, Tryd.ntmps51
  go_wp2_with (go_at_call 68; (with_reducible refine (cI.out _).mono ?_); rintro e w' ⟨rfl, rfl⟩)
  go_region
  go_wp2
  refine bodyPost_ret (v := .tuple #[.agg #[.int .i64 0, .int .u64 0, .int .u64 0, .int .u64 0, .int .u64 0, .slice none 0 0, .int .i64 0, .int .i64 0, .string ⟨#[]⟩], .int .i64 k, E]) (by simp [results, Tryd.results51, go_sem]) rfl ?_
  exact ⟨rfl, ((Below.refl w.heap.size w).alloc (Nat.le_refl _) _).drew⟩
set_option maxRecDepth 10000 in
set_option maxHeartbeats 2000000 in
theorem atom_named {s : ByteArray} {k : Nat} {kd u0 u1 u2 u3 mn mx t : Int} {p : Option Addr} {ln cp : Nat} {tx : ByteArray} {E : Value} (h0 : (nl s)[k]? = some 123) (hm : s.size ≤ 99990) (w : World)
    (C : ∀ w', Bel w w' → Gives 71 #[.string s, .int .i64 ((k : Int) + 1)] (.tuple #[.agg #[.int .i64 kd, .int .u64 u0, .int .u64 u1, .int .u64 u2, .int .u64 u3, .slice p ln cp, .int .i64 mn, .int .i64 mx, .string tx], .int .i64 t, E]) w') :
    Gives 51 #[.string s, .int .i64 k] (.tuple #[.agg #[.int .i64 kd, .int .u64 u0, .int .u64 u1, .int .u64 u2, .int .u64 u3, .slice p ln cp, .int .i64 mn, .int .i64 mx, .string tx], .int .i64 t, E]) w := by
  obtain ⟨hlt, hat⟩ := at_nl h0
  have hkb : k ≤ 99990 := by omega
  have hA : Hid (Bel w (w.alloc (.cells #[.int .i64 0, .int .u64 0, .int .u64 0, .int .u64 0, .int .u64 0, .slice none 0 0, .int .i64 0, .int .i64 0, .string ⟨#[]⟩] 27))) := hid ((Below.refl w.heap.size w).alloc (Nat.le_refl _) _)
  have hx0 := hid (World.alloc_heap_new w (.cells #[.int .i64 0, .int .u64 0, .int .u64 0, .int .u64 0, .int .u64 0, .slice none 0 0, .int .i64 0, .int .i64 0, .string ⟨#[]⟩] 27))
  have cI := hid (S5.idx_lit barredB 123 (-1) (by decide) (by decide +kernel))
  unfold Gives at C ⊢
  replace C := hid C
  clear h0 hm
  go_enter Tryd.func51, Tryd.ntmps51
  go_wp2_with (first | (go_at_call 68; (with_reducible refine (cI.out _).mono ?_); rintro e w' ⟨rfl, rfl⟩) | (go_at_call 71; (with_reducible refine (C.out _ hA.out).mono ?_); rintro e w1 ⟨rfl, hb1⟩; have hx1 := hid (kept_row hx0.out hb1); have hz1 : w.heap.size < w1.heap.size := Nat.lt_of_lt_of_le (by simp) hb1.size; have hB1 := hid (hA.out.trans (hb1.mono hA.out.size)); have hk1 := cells_of hx1.out; obtain ⟨y0, f0⟩ := hk1 0 _ rfl; obtain ⟨y1, f1⟩ := hk1 1 _ rfl; obtain ⟨y2, f2⟩ := hk1 2 _ rfl; obtain ⟨y3, f3⟩ := hk1 3 _ rfl; obtain ⟨y4, f4⟩ := hk1 4 _ rfl; obtain ⟨y5, f5⟩ := hk1 5 _ rfl; obtain ⟨y6, f6⟩ := hk1 6 _ rfl; obtain ⟨y7, f7⟩ := hk1 7 _ rfl; obtain ⟨y8, f8⟩ := hk1 8 _ rfl; clear hk1 hb1))
  obtain ⟨q1, q2, q3, q4⟩ := set9 (b := w.heap.size) (d0 := .int .i64 kd) (d1 := .int .u64 u0) (d2 := .int .u64 u1) (d3 := .int .u64 u2) (d4 := .int .u64 u3) (d5 := .slice p ln cp) (d6 := .int .i64 mn) (d7 := .int .i64 mx) (d8 := .string tx) hx1.out _ rfl
  generalize hW : World.setCell _ (⟨w.heap.size, 8, none⟩ : Addr) _ = W9 at *
  clear hW
  have hk9 := cells_of q1
  obtain ⟨z0, -⟩ := hk9 0 _ rfl
  obtain ⟨z1, -⟩ := hk9 1 _ rfl
  obtain ⟨z2, -⟩ := hk9 2 _ rfl
  obtain ⟨z3, -⟩ := hk9 3 _ rfl
  obtain ⟨z4, -⟩ := hk9 4 _ rfl
  obtain ⟨z5, -⟩ := hk9 5 _ rfl
  obtain ⟨z6, -⟩ := hk9 6 _ rfl
  obtain ⟨z7, -⟩ := hk9 7 _ rfl
  obtain ⟨z8, -⟩ := hk9 8 _ rfl
  clear hk9
  refine bodyPost_ret (v := .tuple #[.agg #[.int .i64 kd, .int .u64 u0, .int .u64 u1, .int .u64 u2, .int .u64 u3, .slice p ln cp, .int .i64 mn, .int .i64 mx, .string tx], .int .i64 t, E]) (by simp [results, Tryd.results51, go_sem, z0, z1, z2, z3, z4, z5, z6, z7, z8]) rfl ?_
  exact ⟨rfl, hB1.out.trans (q4 w.heap.size (Nat.le_refl _))⟩
set_option maxRecDepth 10000 in
set_option maxHeartbeats 2000000 in
theorem atom_br {s : ByteArray} {k : Nat} {a0 a1 a2 a3 t : Int} {E : Value} (h0 : (nl s)[k]? = some 91) (hm : s.size ≤ 99990) (w : World)
    (C : ∀ w', Bel w w' → Gives 74 #[.string s, .int .i64 k] (.tuple #[.agg #[.int .u64 a0, .int .u64 a1, .int .u64 a2, .int .u64 a3], .int .i64 t, E]) w') :
    Gives 51 #[.string s, .int .i64 k] (.tuple #[.agg #[.int .i64 1, .int .u64 a0, .int .u64 a1, .int .u64 a2, .int .u64 a3, .slice none 0 0, .int .i64 0, .int .i64 0, .string ⟨#[]⟩], .int .i64 t, E]) w := by
  obtain ⟨hlt, hat⟩ := at_nl h0
  have hkb : k ≤ 99990 := by omega
  have hA : Hid (Bel w (w.alloc (.cells #[.int .i64 0, .int .u64 0, .int .u64 0, .int .u64 0, .int .u64 0, .slice none 0 0, .int .i64 0, .int .i64 0, .string ⟨#[]⟩] 27))) := hid ((Below.refl w.heap.size w).alloc (Nat.le_refl _) _)
  have hx0 := hid (World.alloc_heap_new w (.cells #[.int .i64 0, .int .u64 0, .int .u64 0, .int .u64 0, .int .u64 0, .slice none 0 0, .int .i64 0, .int .i64 0, .string ⟨#[]⟩] 27))
  have cI := hid (S5.idx_lit barredB 91 (-1) (by decide) (by decide +kernel))
  have D := hid (fun w => xone_in a0 a1 a2 a3 w)
  unfold Gives at C ⊢
  replace C := hid C
  clear h0 hm
  go_enter Tryd.func51, Tryd.ntmps51
  go_wp2_with (first | (go_at_call 68; (with_reducible refine (cI.out _).mono ?_); rintro e w' ⟨rfl, rfl⟩) | (go_at_call 74; (with_reducible refine (C.out _ hA.out).mono ?_); rintro e w1 ⟨rfl, hb1⟩; have hx1 := hid (kept_row hx0.out hb1); have hz1 : w.heap.size < w1.heap.size := Nat.lt_of_lt_of_le (by simp) hb1.size; have hB1 := hid (hA.out.trans (hb1.mono hA.out.size)); have hk1 := cells_of hx1.out; obtain ⟨y0, f0⟩ := hk1 0 _ rfl; obtain ⟨y1, f1⟩ := hk1 1 _ rfl; obtain ⟨y2, f2⟩ := hk1 2 _ rfl; obtain ⟨y3, f3⟩ := hk1 3 _ rfl; obtain ⟨y4, f4⟩ := hk1 4 _ rfl; obtain ⟨y5, f5⟩ := hk1 5 _ rfl; obtain ⟨y6, f6⟩ := hk1 6 _ rfl; obtain ⟨y7, f7⟩ := hk1 7 _ rfl; obtain ⟨y8, f8⟩ := hk1 8 _ rfl; clear hk1 hb1) | (go_at_call 72; (with_reducible refine (D.out _).mono ?_); rintro e w2 ⟨rfl, hb2⟩; have hx2 := hid (kept_row (kept_row hx1.out ((Below.refl w1.heap.size w1).alloc (Nat.le_refl _) _)) hb2); have hz2 : w.heap.size < w2.heap.size := Nat.lt_of_lt_of_le (by first | exact hz1 | (simp; omega)) hb2.size; have hB2 := hid (Bel.step (Below.alloc hB1.out (Nat.le_of_lt hz1) _) hb2); clear y0 f0 y1 f1 y2 f2 y3 f3 y4 f4 y5 f5 y6 f6 y7 f7 y8 f8; have hk1 := cells_of hx2.out; obtain ⟨y0, f0⟩ := hk1 0 _ rfl; obtain ⟨y1, f1⟩ := hk1 1 _ rfl; obtain ⟨y2, f2⟩ := hk1 2 _ rfl; obtain ⟨y3, f3⟩ := hk1 3 _ rfl; obtain ⟨y4, f4⟩ := hk1 4 _ rfl; obtain ⟨y5, f5⟩ := hk1 5 _ rfl; obtain ⟨y6, f6⟩ := hk1 6 _ rfl; obtain ⟨y7, f7⟩ := hk1 7 _ rfl; obtain ⟨y8, f8⟩ := hk1 8 _ rfl; clear hk1 hb2))
  obtain ⟨q1, q2, q3, q4⟩ := set9 (b := w.heap.size) (d0 := .int .i64 1) (d1 := .int .u64 a0) (d2 := .int .u64 a1) (d3 := .int .u64 a2) (d4 := .int .u64 a3) (d5 := .slice none 0 0) (d6 := .int .i64 0) (d7 := .int .i64 0) (d8 := .string ⟨#[]⟩) hx2.out _ rfl
  generalize hW : World.setCell _ (⟨w.heap.size, 8, none⟩ : Addr) _ = W9 at *
  clear hW
  have hk9 := cells_of q1
  obtain ⟨z0, -⟩ := hk9 0 _ rfl
  obtain ⟨z1, -⟩ := hk9 1 _ rfl
  obtain ⟨z2, -⟩ := hk9 2 _ rfl
  obtain ⟨z3, -⟩ := hk9 3 _ rfl
  obtain ⟨z4, -⟩ := hk9 4 _ rfl
  obtain ⟨z5, -⟩ := hk9 5 _ rfl
  obtain ⟨z6, -⟩ := hk9 6 _ rfl
  obtain ⟨z7, -⟩ := hk9 7 _ rfl
  obtain ⟨z8, -⟩ := hk9 8 _ rfl
  clear hk9
  refine bodyPost_ret (v := .tuple #[.agg #[.int .i64 1, .int .u64 a0, .int .u64 a1, .int .u64 a2, .int .u64 a3, .slice none 0 0, .int .i64 0, .int .i64 0, .string ⟨#[]⟩], .int .i64 t, E]) (by simp [results, Tryd.results51, go_sem, z0, z1, z2, z3, z4, z5, z6, z7, z8]) rfl ?_
  exact ⟨rfl, hB2.out.trans (q4 w.heap.size (Nat.le_refl _))⟩
set_option maxRecDepth 10000 in
set_option maxHeartbeats 2000000 in
theorem atom_dot {s : ByteArray} {k : Nat} (h0 : (nl s)[k]? = some 46) (hm : s.size ≤ 99990) (w : World) :
    Gives 51 #[.string s, .int .i64 k] (.tuple #[.agg (leafT dotS).cells.toArray, .int .i64 ((k : Int) + 1), .nilIface]) w := by
  obtain ⟨hlt, hat⟩ := at_nl h0
  have hkb : k ≤ 99990 := by omega
  have hA : Hid (Bel w (w.alloc (.cells #[.int .i64 0, .int .u64 0, .int .u64 0, .int .u64 0, .int .u64 0, .slice none 0 0, .int .i64 0, .int .i64 0, .string ⟨#[]⟩] 27))) := hid ((Below.refl w.heap.size w).alloc (Nat.le_refl _) _)
  have hx0 := hid (World.alloc_heap_new w (.cells #[.int .i64 0, .int .u64 0, .int .u64 0, .int .u64 0, .int .u64 0, .slice none 0 0, .int .i64 0, .int .i64 0, .string ⟨#[]⟩] 27))
  have cI := hid (S5.idx_lit barredB 46 (-1) (by decide) (by decide +kernel))
  have C : ∀ w', Bel w w' → Calls Tryd.prog 73 #[] w' fun e w'' => e = .returned (.agg #[.int .u64 (S1.wd (dotS) 0), .int .u64 (S1.wd (dotS) 1), .int .u64 (S1.wd (dotS) 2), .int .u64 (S1.wd (dotS) 3)]) ∧ Below w'.heap.size w' w'' := fun w' _ => dot_in w'
  show Gives 51 #[.string s, .int .i64 k] (.tuple #[.agg #[.int .i64 1, .int .u64 (S1.wd dotS 0 : Nat), .int .u64 (S1.wd dotS 1 : Nat), .int .u64 (S1.wd dotS 2 : Nat), .int .u64 (S1.wd dotS 3 : Nat), .slice none 0 0, .int .i64 0, .int .i64 0, .string ⟨#[]⟩], .int .i64 ((k : Int) + 1), .nilIface]) w
  generalize S1.wd dotS 0 = b0 at *
  generalize S1.wd dotS 1 = b1 at *
  generalize S1.wd dotS 2 = b2 at *
  generalize S1.wd dotS 3 = b3 at *
  have D := hid (fun w => xone_in b0 b1 b2 b3 w)
  replace C := hid C
  unfold Gives
  clear h0 hm
  go_enter Tryd.func51, Tryd.ntmps51
  go_wp2_with (first | (go_at_call 68; (with_reducible refine (cI.out _).mono ?_); rintro e w' ⟨rfl, rfl⟩) | (go_at_call 73; (with_reducible refine (C.out _ hA.out).mono ?_); rintro e w1 ⟨rfl, hb1⟩; have hx1 := hid (kept_row hx0.out hb1); have hz1 : w.heap.size < w1.heap.size := Nat.lt_of_lt_of_le (by simp) hb1.size; have hB1 := hid (hA.out.trans (hb1.mono hA.out.size)); have hk1 := cells_of hx1.out; obtain ⟨y0, f0⟩ := hk1 0 _ rfl; obtain ⟨y1, f1⟩ := hk1 1 _ rfl; obtain ⟨y2, f2⟩ := hk1 2 _ rfl; obtain ⟨y3, f3⟩ := hk1 3 _ rfl; obtain ⟨y4, f4⟩ := hk1 4 _ rfl; obtain ⟨y5, f5⟩ := hk1 5 _ rfl; obtain ⟨y6, f6⟩ := hk1 6 _ rfl; obtain ⟨y7, f7⟩ := hk1 7 _ rfl; obtain ⟨y8, f8⟩ := hk1 8 _ rfl; clear hk1 hb1) | (go_at_call 72; (with_reducible refine (D.out _).mono ?_); rintro e w2 ⟨rfl, hb2⟩; have hx2 := hid (kept_row (hx1.out) hb2); have hz2 : w.heap.size < w2.heap.size := Nat.lt_of_lt_of_le (by first | exact hz1 | (simp; omega)) hb2.size; have hB2 := hid (Bel.step hB1.out hb2); clear y0 f0 y1 f1 y2 f2 y3 f3 y4 f4 y5 f5 y6 f6 y7 f7 y8 f8; have hk1 := cells_of hx2.out; obtain ⟨y0, f0⟩ := hk1 0 _ rfl; obtain ⟨y1, f1⟩ := hk1 1 _ rfl; obtain ⟨y2, f2⟩ := hk1 2 _ rfl; obtain ⟨y3, f3⟩ := hk1 3 _ rfl; obtain ⟨y4, f4⟩ := hk1 4 _ rfl; obtain ⟨y5, f5⟩ := hk1 5 _ rfl; obtain ⟨y6, f6⟩ := hk1 6 _ rfl; obtain ⟨y7, f7⟩ := hk1 7 _ rfl; obtain ⟨y8, f8⟩ := hk1 8 _ rfl; clear hk1 hb2))
  obtain ⟨q1, q2, q3, q4⟩ := set9 (b := w.heap.size) (d0 := .int .i64 1) (d1 := .int .u64 b0) (d2 := .int .u64 b1) (d3 := .int .u64 b2) (d4 := .int .u64 b3) (d5 := .slice none 0 0) (d6 := .int .i64 0) (d7 := .int .i64 0) (d8 := .string ⟨#[]⟩) hx2.out _ rfl
  generalize hW : World.setCell _ (⟨w.heap.size, 8, none⟩ : Addr) _ = W9 at *
  clear hW
  have hk9 := cells_of q1
  obtain ⟨z0, -⟩ := hk9 0 _ rfl
  obtain ⟨z1, -⟩ := hk9 1 _ rfl
  obtain ⟨z2, -⟩ := hk9 2 _ rfl
  obtain ⟨z3, -⟩ := hk9 3 _ rfl
  obtain ⟨z4, -⟩ := hk9 4 _ rfl
  obtain ⟨z5, -⟩ := hk9 5 _ rfl
  obtain ⟨z6, -⟩ := hk9 6 _ rfl
  obtain ⟨z7, -⟩ := hk9 7 _ rfl
  obtain ⟨z8, -⟩ := hk9 8 _ rfl
  clear hk9
  refine bodyPost_ret (v := .tuple #[.agg #[.int .i64 1, .int .u64 b0, .int .u64 b1, .int .u64 b2, .int .u64 b3, .slice none 0 0, .int .i64 0, .int .i64 0, .string ⟨#[]⟩], .int .i64 ((k : Int) + 1), .nilIface]) (by simp [results, Tryd.results51, go_sem, z0, z1, z2, z3, z4, z5, z6, z7, z8]) rfl ?_
  exact ⟨rfl, hB2.out.trans (q4 w.heap.size (Nat.le_refl _))⟩
set_option maxRecDepth 10000 in
set_option maxHeartbeats 2000000 in
theorem atom_byte {s : ByteArray} {k c d : Nat} {t : Int} {E : Value} (h0 : (nl s)[k]? = some c) (hc : c ∉ [42, 43, 63, 93, 125, 47, 91, 46, 123, 40, 41, 124]) (hd : d ≤ 255) (hm : s.size ≤ 99990) (w : World)
    (C : ∀ w', Bel w w' → Gives 75 #[.string s, .int .i64 k] (.tuple #[.int .u8 d, .int .i64 t, E]) w') :
    Gives 51 #[.string s, .int .i64 k] (.tuple #[.agg (leafT (S1.oneS d)).cells.toArray, .int .i64 t, E]) w := by
  obtain ⟨hlt, hat⟩ := at_nl h0
  have hkb : k ≤ 99990 := by omega
  have hA : Hid (Bel w (w.alloc (.cells #[.int .i64 0, .int .u64 0, .int .u64 0, .int .u64 0, .int .u64 0, .slice none 0 0, .int .i64 0, .int .i64 0, .string ⟨#[]⟩] 27))) := hid ((Below.refl w.heap.size w).alloc (Nat.le_refl _) _)
  have hx0 := hid (World.alloc_heap_new w (.cells #[.int .i64 0, .int .u64 0, .int .u64 0, .int .u64 0, .int .u64 0, .slice none 0 0, .int .i64 0, .int .i64 0, .string ⟨#[]⟩] 27))
  have hcs : c ≤ 255 := nl_small s c (List.mem_of_getElem? h0)
  have hno : c ∉ nl barredB := by
    rw [nl_barred]
    intro h
    apply hc
    simp only [List.mem_cons, List.not_mem_nil, or_false] at h ⊢
    omega
  have cI := hid (fun w => idx_at barredB c w (-1) (ix_no hcs hno))
  simp only [List.mem_cons, List.not_mem_nil, or_false, not_or] at hc
  have g1 : ((c : Int) == 123) = false := by rw [beq_eq_false_iff_ne]; omega
  have g2 : ((c : Int) == 46) = false := by rw [beq_eq_false_iff_ne]; omega
  have g3 : ((c : Int) == 91) = false := by rw [beq_eq_false_iff_ne]; omega
  have O : ∀ w, Calls Tryd.prog 76 #[.int .u8 d] w fun e w' => e = .returned (.agg #[.int .u64 (S1.wd (S1.oneS d) 0), .int .u64 (S1.wd (S1.oneS d) 1), .int .u64 (S1.wd (S1.oneS d) 2), .int .u64 (S1.wd (S1.oneS d) 3)]) ∧ Below w.heap.size w w' := fun w => S1.one_in d hd w
  show Gives 51 #[.string s, .int .i64 k] (.tuple #[.agg #[.int .i64 1, .int .u64 (S1.wd (S1.oneS d) 0 : Nat), .int .u64 (S1.wd (S1.oneS d) 1 : Nat), .int .u64 (S1.wd (S1.oneS d) 2 : Nat), .int .u64 (S1.wd (S1.oneS d) 3 : Nat), .slice none 0 0, .int .i64 0, .int .i64 0, .string ⟨#[]⟩], .int .i64 t, E]) w
  generalize S1.wd (S1.oneS d) 0 = b0 at *
  generalize S1.wd (S1.oneS d) 1 = b1 at *
  generalize S1.wd (S1.oneS d) 2 = b2 at *
  generalize S1.wd (S1.oneS d) 3 = b3 at *
  have D := hid (fun w => xone_in b0 b1 b2 b3 w)
  unfold Gives at C ⊢
  replace C := hid C
  replace O := hid O
  clear h0 hm hc hno
  go_enter Tryd.func51, Tryd.ntmps51
  go_wp2_with (first | (go_at_call 68; (with_reducible refine (cI.out _).mono ?_); rintro e w' ⟨rfl, rfl⟩) | (go_at_call 75; (with_reducible refine (C.out _ hA.out).mono ?_); rintro e w1 ⟨rfl, hb1⟩; have hx1 := hid (kept_row hx0.out hb1); have hz1 : w.heap.size < w1.heap.size := Nat.lt_of_lt_of_le (by simp) hb1.size; have hB1 := hid (hA.out.trans (hb1.mono hA.out.size)); have hk1 := cells_of hx1.out; obtain ⟨y0, f0⟩ := hk1 0 _ rfl; obtain ⟨y1, f1⟩ := hk1 1 _ rfl; obtain ⟨y2, f2⟩ := hk1 2 _ rfl; obtain ⟨y3, f3⟩ := hk1 3 _ rfl; obtain ⟨y4, f4⟩ := hk1 4 _ rfl; obtain ⟨y5, f5⟩ := hk1 5 _ rfl; obtain ⟨y6, f6⟩ := hk1 6 _ rfl; obtain ⟨y7, f7⟩ := hk1 7 _ rfl; obtain ⟨y8, f8⟩ := hk1 8 _ rfl; clear hk1 hb1) | (go_at_call 76; (with_reducible refine (O.out _).mono ?_); rintro e w2 ⟨rfl, hb2⟩; have hx2 := hid (kept_row (hx1.out) hb2); have hz2 : w.heap.size < w2.heap.size := Nat.lt_of_lt_of_le (by first | exact hz1 | (simp; omega)) hb2.size; have hB2 := hid (Bel.step hB1.out hb2); clear y0 f0 y1 f1 y2 f2 y3 f3 y4 f4 y5 f5 y6 f6 y7 f7 y8 f8; have hk1 := cells_of hx2.out; obtain ⟨y0, f0⟩ := hk1 0 _ rfl; obtain ⟨y1, f1⟩ := hk1 1 _ rfl; obtain ⟨y2, f2⟩ := hk1 2 _ rfl; obtain ⟨y3, f3⟩ := hk1 3 _ rfl; obtain ⟨y4, f4⟩ := hk1 4 _ rfl; obtain ⟨y5, f5⟩ := hk1 5 _ rfl; obtain ⟨y6, f6⟩ := hk1 6 _ rfl; obtain ⟨y7, f7⟩ := hk1 7 _ rfl; obtain ⟨y8, f8⟩ := hk1 8 _ rfl; clear hk1 hb2) | (go_at_call 72; (with_reducible refine (D.out _).mono ?_); rintro e w3 ⟨rfl, hb3⟩; have hx3 := hid (kept_row hx2.out hb3); have hz3 : w.heap.size < w3.heap.size := Nat.lt_of_lt_of_le hz2 hb3.size; have hB3 := hid (Bel.step hB2.out hb3); clear y0 f0 y1 f1 y2 f2 y3 f3 y4 f4 y5 f5 y6 f6 y7 f7 y8 f8; have hk1 := cells_of hx3.out; obtain ⟨y0, f0⟩ := hk1 0 _ rfl; obtain ⟨y1, f1⟩ := hk1 1 _ rfl; obtain ⟨y2, f2⟩ := hk1 2 _ rfl; obtain ⟨y3, f3⟩ := hk1 3 _ rfl; obtain ⟨y4, f4⟩ := hk1 4 _ rfl; obtain ⟨y5, f5⟩ := hk1 5 _ rfl; obtain ⟨y6, f6⟩ := hk1 6 _ rfl; obtain ⟨y7, f7⟩ := hk1 7 _ rfl; obtain ⟨y8, f8⟩ := hk1 8 _ rfl; clear hk1 hb3))
  obtain ⟨q1, q2, q3, q4⟩ := set9 (b := w.heap.size) (d0 := .int .i64 1) (d1 := .int .u64 b0) (d2 := .int .u64 b1) (d3 := .int .u64 b2) (d4 := .int .u64 b3) (d5 := .slice none 0 0) (d6 := .int .i64 0) (d7 := .int .i64 0) (d8 := .string ⟨#[]⟩) hx3.out _ rfl
  generalize hW : World.setCell _ (⟨w.heap.size, 8, none⟩ : Addr) _ = W9 at *
  clear hW
  have hk9 := cells_of q1
  obtain ⟨z0, -⟩ := hk9 0 _ rfl
  obtain ⟨z1, -⟩ := hk9 1 _ rfl
  obtain ⟨z2, -⟩ := hk9 2 _ rfl
  obtain ⟨z3, -⟩ := hk9 3 _ rfl
  obtain ⟨z4, -⟩ := hk9 4 _ rfl
  obtain ⟨z5, -⟩ := hk9 5 _ rfl
  obtain ⟨z6, -⟩ := hk9 6 _ rfl
  obtain ⟨z7, -⟩ := hk9 7 _ rfl
  obtain ⟨z8, -⟩ := hk9 8 _ rfl
  clear hk9
  refine bodyPost_ret (v := .tuple #[.agg #[.int .i64 1, .int .u64 b0, .int .u64 b1, .int .u64 b2, .int .u64 b3, .slice none 0 0, .int .i64 0, .int .i64 0, .string ⟨#[]⟩], .int .i64 t, E]) (by simp [results, Tryd.results51, go_sem, z0, z1, z2, z3, z4, z5, z6, z7, z8]) rfl ?_
  exact ⟨rfl, hB3.out.trans (q4 w.heap.size (Nat.le_refl _))⟩
end Go.Proofs.YtobbifhflnlplaaDoor
namespace Go.Proofs.YtobbifhflnlplaaDoor
open Lib (hid)
open Go.RowKit
open Go.Tree7
open S7
open S5 (nl nl_length nl_small at_nl nl_at Gives idx idx_at ix ix_no ix_yes)
open S6 (Its Br One)
theorem rd_err {l : List Nat} {i : Int} {c : Nat} {t : Int} {e : Nat} (h : S5.Rd l i c t e) : e = 0 ∨ e = 2 ∨ e = 4 := by cases h <;> simp
theorem its_err8 {l : List Nat} {b : Bool} {k : Nat} {ps : List (Nat × Nat)} {t : Int} {e : Nat} (h : Its l b k ps t e) : e = 0 ∨ e = 1 ∨ e = 2 ∨ e = 4 := by
  induction h with
  | close => simp
  | bad1 _ _ _ _ _ h => rcases S6.one_err h with h | h | h <;> omega
  | one _ _ _ _ _ _ _ _ _ _ _ ih => exact ih
  | bad2 _ _ _ _ _ _ _ _ _ h => rcases S6.one_err h with h | h | h <;> omega
  | down => simp
  | span _ _ _ _ _ _ _ _ _ _ _ _ _ _ _ ih => exact ih
theorem br_err8 {l : List Nat} {i : Int} {f : Nat → Bool} {t : Int} {e : Nat} (h : Br l i f t e) : e = 0 ∨ e = 1 ∨ e = 2 ∨ e = 4 := by
  cases h with
  | outside => simp
  | other => simp
  | ok => simp
  | okNot => simp
  | bad _ _ _ _ _ _ h => exact its_err8 h
  | badNot _ _ _ _ _ _ h => exact its_err8 h
theorem errT_eq {V : Nat → Value} {e : Nat} (h : e = 1 ∨ e = 2 ∨ e = 4) : S6.errT (V 1) (V 2) (V 4) e = V e := by
  rcases h with rfl | rfl | rfl <;> rfl
theorem errV_eq {V : Nat → Value} {e : Nat} (h : e = 2 ∨ e = 4) : S5.errV (V 2) (V 4) e = .iface 135 (V e) := by
  rcases h with rfl | rfl <;> rfl
theorem atom_in {s : ByteArray} {k n : Nat} {t : T} (h : Atm (nl s) k t n) (hm : s.size ≤ 99990) {V : Nat → Value} (w : World) (hS : Six w V) :
    Gives 51 #[.string s, .int .i64 k] (.tuple #[.agg t.cells.toArray, .int .i64 n, .nilIface]) w := by
  cases h with
  | br f _ h1 h2 => exact atom_br h1 hm w fun w' hb => S6.bread_in hm h2 w' (hS.bel hb).thr
  | dot h1 =>
    have := atom_dot h1 hm w
    rw [show ((k + 1 : Nat) : Int) = (k : Int) + 1 by omega]
    exact this
  | name tx h1 h2 h3 h4 =>
    rw [show ((k + tx.size + 2 : Nat) : Int) = ((k + 1 : Nat) : Int) + tx.size + 1 by omega]
    refine atom_named h1 hm w fun w' hb => ?_
    have := named_ok (k := k + 1) h2 h3 h4 hm w'
    rw [show ((k + 1 : Nat) : Int) = (k : Int) + 1 by omega] at this ⊢
    exact this
  | byte c d _ h1 h2 h3 => exact atom_byte h1 h2 (S6.rd_small (nl_small s) h3) hm w fun w' hb => S5.read_in h3 hm w' (hS.bel hb).thr.two
theorem atom_bad {s : ByteArray} {k : Nat} {n : Int} {e : Nat} (h : AtmBad (nl s) k n e) (hm : s.size ≤ 99990) {V : Nat → Value} (w : World) (hS : Six w V) :
    ∃ t : T, Gives 51 #[.string s, .int .i64 k] (.tuple #[.agg t.cells.toArray, .int .i64 n, .iface 135 (V e)]) w := by
  have hz : ∃ t : T, t.cells.toArray = #[.int .i64 0, .int .u64 0, .int .u64 0, .int .u64 0, .int .u64 0, .slice none 0 0, .int .i64 0, .int .i64 0, .string ⟨#[]⟩] := ⟨.mk 0 0 0 0 0 none 0 0 0 ⟨#[]⟩ [], rfl⟩
  cases h with
  | form c h1 h2 =>
    obtain ⟨t, ht⟩ := hz
    refine ⟨t, ?_⟩
    rw [ht]
    exact atom_form h1 h2 hm w hS.form
  | br f _ _ h1 h2 h3 =>
    refine ⟨.mk 1 0 0 0 0 none 0 0 0 ⟨#[]⟩ [], ?_⟩
    refine atom_br h1 hm w fun w' hb => ?_
    have := S6.bread_in hm h2 w' (hS.bel hb).thr
    rw [S6.outV_err _ _ _ _ _ h3, errT_eq (by rcases br_err8 h2 with h | h | h | h <;> omega)] at this
    exact this
  | short h1 h2 =>
    obtain ⟨t, ht⟩ := hz
    refine ⟨t, ?_⟩
    rw [ht, nl_length]
    refine atom_named h1 hm w fun w' hb => ?_
    have hlt := (at_nl h1).1
    have := named_short (k := k + 1) (by omega) (fun j hj => h2 j (by omega)) hm w' (hS.bel hb).short
    rw [show ((k + 1 : Nat) : Int) = (k : Int) + 1 by omega] at this
    exact this
  | name m h1 h2 h3 h4 =>
    obtain ⟨t, ht⟩ := hz
    refine ⟨t, ?_⟩
    rw [ht]
    refine atom_named h1 hm w fun w' hb => ?_
    have := named_bad (k := k + 1) h3 (fun j hj => h2 (k + 1 + j) (by omega) (by omega)) h4 hm w' (hS.bel hb).name
    rw [show ((k + 1 : Nat) : Int) = (k : Int) + 1 by omega] at this ⊢
    exact this
  | byte c d _ _ h1 h2 h3 h4 =>
    have hd : d ≤ 255 := S6.rd_small (nl_small s) h3
    refine ⟨leafT (S1.oneS d), atom_byte h1 h2 hd hm w fun w' hb => ?_⟩
    have := S5.read_in h3 hm w' (hS.bel hb).thr.two
    rw [errV_eq (by rcases rd_err h3 with h | h | h <;> omega)] at this
    exact this
end Go.Proofs.YtobbifhflnlplaaDoor
