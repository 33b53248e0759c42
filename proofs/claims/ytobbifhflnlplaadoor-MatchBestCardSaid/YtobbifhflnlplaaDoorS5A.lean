/- Texts merged: S5M, S5W1, S5W2, S5W4, S5W5. -/
import Derived.Lib.Bytealg
import Derived.Laws.Externs
import Derived.StillTailTactics
import Derived.Test.YtobbifhflnlplaaDoorLB
namespace Go.Proofs.YtobbifhflnlplaaDoor.S5
open Lib (hid)
open Go.RowKit

/-! ### A string's bytes as numbers -/
def nl (s : ByteArray) : List Nat := s.data.toList.map UInt8.toNat
theorem nl_length (s : ByteArray) : (nl s).length = s.size := by simp [nl]
theorem nl_small (s : ByteArray) : ∀ x ∈ nl s, x ≤ 255 := by
 intro x hx
 obtain ⟨u, _, rfl⟩ := List.mem_map.1 hx
 have := u.toNat_lt
 omega
theorem nl_at (s : ByteArray) (k : Nat) (h : k < s.size) : (nl s)[k]? = some (s[k]).toNat := by
 have h' : k < s.data.toList.length := by rw [Array.length_toList]; exact h
 simp only [nl, List.getElem?_map, List.getElem?_eq_getElem h', Option.map_some]
 rfl
theorem at_nl {s : ByteArray} {k c : Nat} (h : (nl s)[k]? = some c) : ∃ hk : k < s.size, (s[k]).toNat = c := by
 have hk : k < s.size := by rw [← nl_length]; exact (List.getElem?_eq_some_iff.1 h).1
 exact ⟨hk, by rw [nl_at s k hk] at h; exact Option.some.inj h⟩
theorem nl_inj {a b : ByteArray} (h : nl a = nl b) : a = b := by
 apply ByteArray.ext
 apply Array.toList_inj.1
 apply List.ext_getElem?
 intro i
 have := congrArg (fun l => l[i]?) h
 simp only [nl, List.getElem?_map] at this
 cases h1 : a.data.toList[i]? <;> cases h2 : b.data.toList[i]? <;> rw [h1, h2] at this <;> simp at this
 rw [UInt8.toNat_inj.1 this]
/-! ### How a byte is written -/
def out : List Nat := [124, 42, 43, 63, 40, 41, 91, 93, 123, 125, 46, 92, 47]
def inn : List Nat := [91, 93, 94, 45, 92, 47]
def hx (d : Nat) : Nat := if d < 10 then 48 + d else 87 + d
inductive Sp (ex : List Nat) : Nat → List Nat → Prop
 | blank (c k : Nat) : [(10, 110), (9, 116), (13, 114), (32, 115)].contains (c, k) = true → Sp ex c [92, k]
 | esc (c : Nat) : c ∈ ex → 33 ≤ c → c ≤ 126 → Sp ex c [92, c]
 | self (c : Nat) : c ∉ ex → 33 ≤ c → c ≤ 126 → Sp ex c [c]
 | hex (c : Nat) : c ∉ ex → c ≠ 10 → c ≠ 9 → c ≠ 13 → c ≠ 32 → (c < 33 ∨ 126 < c) → c ≤ 255 → Sp ex c [92, 120, hx (c / 16), hx (c % 16)]
theorem ex_mid {ex : List Nat} (h : ex = out ∨ ex = inn) : ∀ c ∈ ex, 33 ≤ c ∧ c ≤ 126 ∧ (33 ≤ c ∧ c ≤ 47 ∨ 58 ≤ c ∧ c ≤ 64 ∨ 91 ≤ c ∧ c ≤ 96 ∨ 123 ≤ c ∧ c ≤ 126) := by
 rcases h with rfl | rfl <;> decide
theorem sp_some {ex : List Nat} (h : ex = out ∨ ex = inn) (c : Nat) (hc : c ≤ 255) : ∃ l, Sp ex c l := by
 by_cases h1 : c = 10
 ·exact ⟨_, .blank c 110 (by subst h1; rfl)⟩
 by_cases h2 : c = 9
 ·exact ⟨_, .blank c 116 (by subst h2; rfl)⟩
 by_cases h3 : c = 13
 ·exact ⟨_, .blank c 114 (by subst h3; rfl)⟩
 by_cases h4 : c = 32
 ·exact ⟨_, .blank c 115 (by subst h4; rfl)⟩
 by_cases h5 : c ∈ ex
 ·have := ex_mid h c h5
  exact ⟨_, .esc c h5 this.1 this.2.1⟩
 by_cases h6 : 33 ≤ c ∧ c ≤ 126
 ·exact ⟨_, .self c h5 h6.1 h6.2⟩
 ·exact ⟨_, .hex c h5 h1 h2 h3 h4 (by omega) hc⟩
/-! ### How it is read -/
def Sign (c : Nat) : Prop := 33 ≤ c ∧ c ≤ 47 ∨ 58 ≤ c ∧ c ≤ 64 ∨ 91 ≤ c ∧ c ≤ 96 ∨ 123 ≤ c ∧ c ≤ 126
inductive Fig : Nat → Int → Prop
 | num (c : Nat) : 48 ≤ c → c ≤ 57 → Fig c ((c : Int) - 48)
 | low (c : Nat) : 97 ≤ c → c ≤ 102 → Fig c ((c : Int) - 87)
 | cap (c : Nat) : 65 ≤ c → c ≤ 70 → Fig c ((c : Int) - 55)
 | none (c : Nat) : ¬ (48 ≤ c ∧ c ≤ 57) → ¬ (97 ≤ c ∧ c ≤ 102) → ¬ (65 ≤ c ∧ c ≤ 70) → Fig c (-1)
theorem fig_range {c : Nat} {d : Int} (h : Fig c d) : -1 ≤ d ∧ d ≤ 15 := by
 cases h <;> omega
inductive Rd (l : List Nat) : Int → Nat → Int → Nat → Prop
 | outside (i : Int) : (i < 0 ∨ (l.length : Int) ≤ i) → Rd l i 0 l.length 2
 | plain (k c : Nat) : l[k]? = some c → c ≠ 92 → Rd l k c (k + 1) 0
 | ends1 (k : Nat) : l[k]? = some 92 → k + 1 = l.length → Rd l k 0 (k + 1) 2
 | blank (k c d : Nat) : l[k]? = some 92 → l[k + 1]? = some c → [(10, 110), (9, 116), (13, 114), (32, 115)].contains (d, c) = true → Rd l k d (k + 2) 0
 | ends2 (k : Nat) : l[k]? = some 92 → l[k + 1]? = some 120 → k + 2 = l.length → Rd l k 0 (k + 2) 2
 | bad2 (k c : Nat) : l[k]? = some 92 → l[k + 1]? = some 120 → l[k + 2]? = some c → Fig c (-1) → Rd l k 0 (k + 2) 4
 | ends3 (k c d : Nat) : l[k]? = some 92 → l[k + 1]? = some 120 → l[k + 2]? = some c → Fig c d → k + 3 = l.length → Rd l k 0 (k + 3) 2
 | bad3 (k c d b : Nat) : l[k]? = some 92 → l[k + 1]? = some 120 → l[k + 2]? = some c → Fig c d → l[k + 3]? = some b → Fig b (-1) → Rd l k 0 (k + 3) 4
 | hex (k c d b e : Nat) : l[k]? = some 92 → l[k + 1]? = some 120 → l[k + 2]? = some c → Fig c d → l[k + 3]? = some b → Fig b e → Rd l k (16 * d + e) (k + 4) 0
 | sign (k c : Nat) : l[k]? = some 92 → l[k + 1]? = some c → Sign c → Rd l k c (k + 2) 0
 | bad1 (k c : Nat) : l[k]? = some 92 → l[k + 1]? = some c → ¬ Sign c → c ≠ 110 → c ≠ 116 → c ≠ 114 → c ≠ 115 → c ≠ 120 → Rd l k 0 (k + 1) 4
end Go.Proofs.YtobbifhflnlplaaDoor.S5
namespace Go.Proofs.YtobbifhflnlplaaDoor.S5
open Lib (hid)
open Go.RowKit

def ix (s : ByteArray) (c : Nat) : Int := Lib.indexByte s.data.toList c.toUInt8
theorem idx_s (s : ByteArray) (c : Nat) (w : World) : Calls Tryd.prog 87 #[.string s, .int .u8 c] w fun e w' => e = .returned (.int .i64 (ix s c)) ∧ w = w' := by
 have h := @run_callFunc_extern Tryd.prog 97 _ Extern.BytealgIndexByte.indexByte Tryd.func97 (by kernel_rfl) (by kernel_rfl) (by kernel_rfl) (by kernel_rfl)
 have h2 := Lib.run_indexByteString (P := Tryd.prog) s c
 rw [show ((c : Int)).toNat.toUInt8 = c.toUInt8 from rfl] at h2
 have e : Lib.indexByte s.data.toList c.toUInt8 = ix s c := rfl
 rw [e] at h2
 clear e
 go_enter Tryd.func87, Tryd.ntmps87
 go_wp2
 go_ret
 exact ⟨rfl, rfl⟩
theorem idx (s : ByteArray) (c : Nat) (w : World) : Calls Tryd.prog 68 #[.string s, .int .u8 c] w fun e w' => e = .returned (.int .i64 (ix s c)) ∧ w = w' := by
 go_enter Tryd.func68, Tryd.ntmps68
 go_wp2_with (go_at_call 87; refine (idx_s s c _).mono ?_; rintro e w' ⟨rfl, rfl⟩)
 go_ret
 exact ⟨rfl, rfl⟩
theorem idx_at (s : ByteArray) (c : Nat) (w : World) (k : Int) (hk : ix s c = k) : Calls Tryd.prog 68 #[.string s, .int .u8 c] w fun e w' => e = .returned (.int .i64 k) ∧ w = w' := by
 rw [← hk]; exact idx s c w
theorem ix_no {s : ByteArray} {c : Nat} (hc : c ≤ 255) (h : c ∉ nl s) : ix s c = -1 := by
 unfold ix
 unfold nl at h
 generalize s.data.toList = l at h
 induction l with
 | nil => rfl
 | cons b l ih =>
  simp only [List.map_cons, List.mem_cons, not_or] at h
  have hb : (b == c.toUInt8) = false := by
   rw [beq_eq_false_iff_ne]
   rintro rfl
   apply h.1
   simp
   omega
  unfold Lib.indexByte
  rw [ih h.2, hb]
  rfl
theorem ix_yes {s : ByteArray} {c : Nat} (h : c ∈ nl s) : 0 ≤ ix s c := by
 unfold ix
 unfold nl at h
 generalize s.data.toList = l at h
 induction l with
 | nil => simp at h
 | cons b l ih =>
  unfold Lib.indexByte
  by_cases hb : (b == c.toUInt8) = true
  ·rw [if_pos hb]; omega
  ·rw [if_neg hb]
   have hc : c ∈ l.map UInt8.toNat := by
    rcases List.mem_cons.1 h with h1 | h1
    ·exfalso
     apply hb
     subst h1
     simp
    ·exact h1
   have := ih hc
   rw [if_neg (by rw [beq_iff_eq]; omega)]
   omega

/-! ### What a digit stands for -/
abbrev capsB : ByteArray := ⟨#[65, 66, 67, 68, 69, 70]⟩
abbrev digsB : ByteArray := ⟨#[48, 49, 50, 51, 52, 53, 54, 55, 56, 57, 97, 98, 99, 100, 101, 102]⟩
theorem caps_all : ∀ c : Fin 256, ix capsB c.val = if 65 ≤ c.val ∧ c.val ≤ 70 then (c.val : Int) - 65 else -1 := by decide +kernel
theorem digs_all : ∀ c : Fin 256, ix digsB c.val = if 48 ≤ c.val ∧ c.val ≤ 57 then (c.val : Int) - 48 else if 97 ≤ c.val ∧ c.val ≤ 102 then (c.val : Int) - 87 else -1 := by decide +kernel
theorem value_in {c : Nat} {d : Int} (h : Fig c d) (hc : c ≤ 255) (w : World) : Calls Tryd.prog 105 #[.int .u8 c] w fun e w' => e = .returned (.int .i64 d) ∧ w = w' := by
 have h1 := caps_all ⟨c, by omega⟩
 have h2 := digs_all ⟨c, by omega⟩
 simp only at h1 h2
 cases h with
 | num h3 h4 =>
  rw [if_neg (by omega)] at h1
  rw [if_pos (by omega)] at h2
  have c1 := hid (fun w => idx_at capsB c w _ h1)
  have c2 := hid (fun w => idx_at digsB c w _ h2)
  clear h1 h2
  go_enter Tryd.func105, Tryd.ntmps105
  go_wp2_with (first | (go_at_call 68; (with_reducible refine (c1.out _).mono ?_); rintro e w' ⟨rfl, rfl⟩) | (go_at_call 68; (with_reducible refine (c2.out _).mono ?_); rintro e w' ⟨rfl, rfl⟩))
  go_ret
  exact ⟨rfl, rfl⟩
 | low h3 h4 =>
  rw [if_neg (by omega)] at h1
  rw [if_neg (by omega), if_pos (by omega)] at h2
  have c1 := hid (fun w => idx_at capsB c w _ h1)
  have c2 := hid (fun w => idx_at digsB c w _ h2)
  clear h1 h2
  go_enter Tryd.func105, Tryd.ntmps105
  go_wp2_with (first | (go_at_call 68; (with_reducible refine (c1.out _).mono ?_); rintro e w' ⟨rfl, rfl⟩) | (go_at_call 68; (with_reducible refine (c2.out _).mono ?_); rintro e w' ⟨rfl, rfl⟩))
  go_ret
  exact ⟨rfl, rfl⟩
 | cap h3 h4 =>
  rw [if_pos (by omega)] at h1
  have c1 := hid (fun w => idx_at capsB c w _ h1)
  clear h1 h2
  go_enter Tryd.func105, Tryd.ntmps105
  go_wp2_with (first | (go_at_call 68; (with_reducible refine (c1.out _).mono ?_); rintro e w' ⟨rfl, rfl⟩))
  go_ret
  exact ⟨ret_int (by omega), rfl⟩
 | none h3 h4 h5 =>
  rw [if_neg (by omega)] at h1
  rw [if_neg (by omega), if_neg (by omega)] at h2
  have c1 := hid (fun w => idx_at capsB c w _ h1)
  have c2 := hid (fun w => idx_at digsB c w _ h2)
  clear h1 h2
  go_enter Tryd.func105, Tryd.ntmps105
  go_wp2_with (first | (go_at_call 68; (with_reducible refine (c1.out _).mono ?_); rintro e w' ⟨rfl, rfl⟩) | (go_at_call 68; (with_reducible refine (c2.out _).mono ?_); rintro e w' ⟨rfl, rfl⟩))
  go_ret
  exact ⟨rfl, rfl⟩
theorem sign_yes {c : Nat} (h : Sign c) (w : World) : Calls Tryd.prog 102 #[.int .u8 c] w fun e w' => e = .returned (.bool true) ∧ w = w' := by
 unfold Sign at h
 go_enter Tryd.func102, Tryd.ntmps102
 go_wp2
 all_goals (go_ret; exact ⟨ret_bool (by first | rfl | (simp; omega)), rfl⟩)
theorem sign_no {c : Nat} (h : ¬ Sign c) (w : World) : Calls Tryd.prog 102 #[.int .u8 c] w fun e w' => e = .returned (.bool false) ∧ w = w' := by
 unfold Sign at h
 go_enter Tryd.func102, Tryd.ntmps102
 go_wp2
 all_goals (go_ret; exact ⟨ret_bool (by first | rfl | (simp; omega)), rfl⟩)
end Go.Proofs.YtobbifhflnlplaaDoor.S5
namespace Go.Proofs.YtobbifhflnlplaaDoor.S5
open Lib (hid)
open Go.RowKit
abbrev lettersB : ByteArray := ⟨#[110, 116, 114, 115]⟩
theorem idx_lit (s : ByteArray) (c : Int) (k : Int) (hc : 0 ≤ c) (hk : ix s c.toNat = k) (w : World) : Calls Tryd.prog 68 #[.string s, .int .u8 c] w fun e w' => e = .returned (.int .i64 k) ∧ w = w' := by
 obtain ⟨n, rfl⟩ : ∃ n : Nat, c = n := ⟨c.toNat, by omega⟩
 exact idx_at s n w k hk
end Go.Proofs.YtobbifhflnlplaaDoor.S5
namespace Go.Proofs.YtobbifhflnlplaaDoor.S5
open Lib (hid)
open Go.RowKit
def errV (E2 E4 : Value) (e : Nat) : Value := if e = 0 then .nilIface else if e = 2 then .iface 135 E2 else .iface 135 E4
structure Two (w : World) (E2 E4 : Value) : Prop where
 short : w.cell? ⟨0, 0, none⟩ = some (.iface 135 E2)
 form : w.cell? ⟨3, 0, none⟩ = some (.iface 135 E4)
theorem Two.bel {w w' : World} {E2 E4 : Value} (h : Two w E2 E4) (hb : Bel w w') : Two w' E2 E4 :=
 ⟨hb.cell (World.block_lt_of_cell? _ _ h.short) h.short, hb.cell (World.block_lt_of_cell? _ _ h.form) h.form⟩

theorem coded_0 {s : ByteArray} {k : Nat} (hk : k = s.size) (hm : s.size ≤ 100000) {E2 E4 : Value} (w : World) (hT : Two w E2 E4) :
  Calls Tryd.prog 101 #[.string s, .int .i64 k] w fun e w' => e = .returned (.tuple #[.int .u8 0, .int .i64 k, .iface 135 E2]) ∧ Below w.heap.size w w' := by
 have h1 := hT.short
 clear hT
 have g1 : ((k : Int) == (s.size : Int)) = true := by simp; omega
 have hkb : k ≤ 100000 := by omega
 clear hk
 go_enter Tryd.func101, Tryd.ntmps101
 go_wp2
 refine wp_loop_rounds 1 ?_
 rw [rounds_succ]
 go_wp2
 go_quiet (fail)
 go_wp2
 refine bodyPost_ret (v := .tuple #[.int .u8 0, .int .i64 k, .iface 135 E2]) (by simp [results, Tryd.results101, go_sem]) rfl ?_
 exact ⟨rfl, below_drewN (Below.refl _ _) _⟩
theorem coded_1 {s : ByteArray} {k c : Nat} (hk : (nl s)[k]? = some c) (hc : Fig c (-1)) (hm : s.size ≤ 100000) {E2 E4 : Value} (w : World) (hT : Two w E2 E4) :
  Calls Tryd.prog 101 #[.string s, .int .i64 k] w fun e w' => e = .returned (.tuple #[.int .u8 0, .int .i64 k, .iface 135 E4]) ∧ Below w.heap.size w w' := by
 have h1 := hT.form
 clear hT
 obtain ⟨hlt, hat⟩ := at_nl hk
 have hcs : c ≤ 255 := nl_small s c (List.mem_of_getElem? hk)
 have C := hid (fun w => value_in hc hcs w)
 clear hk hc
 have hne : ¬ k = s.size := by omega
 go_enter Tryd.func101, Tryd.ntmps101
 go_wp2
 refine wp_loop_rounds 1 ?_
 rw [rounds_succ]
 go_wp2_with (go_at_call 105; (with_reducible refine (C.out _).mono ?_); rintro e w' ⟨rfl, rfl⟩)
 go_quiet (fail)
 go_wp2
 refine bodyPost_ret (v := .tuple #[.int .u8 0, .int .i64 k, .iface 135 E4]) (by simp [results, Tryd.results101, go_sem]) rfl ?_
 exact ⟨rfl, below_drewN (Below.refl _ _) _⟩
theorem coded_2 {s : ByteArray} {k c d : Nat} (hk : (nl s)[k]? = some c) (hc : Fig c d) (he : k + 1 = s.size) (hm : s.size ≤ 100000) {E2 E4 : Value} (w : World) (hT : Two w E2 E4) :
  Calls Tryd.prog 101 #[.string s, .int .i64 k] w fun e w' => e = .returned (.tuple #[.int .u8 0, .int .i64 (k + 1), .iface 135 E2]) ∧ Below w.heap.size w w' := by
 have h1 := hT.short
 clear hT
 obtain ⟨hlt, hat⟩ := at_nl hk
 have hcs : c ≤ 255 := nl_small s c (List.mem_of_getElem? hk)
 have hd := fig_range hc
 have C := hid (fun w => value_in hc hcs w)
 clear hk hc
 have hne : ¬ k = s.size := by omega
 have g1 : ((k : Int) + 1 == (s.size : Int)) = true := by simp; omega
 have hkb : k ≤ 100000 := by omega
 clear he
 go_enter Tryd.func101, Tryd.ntmps101
 go_wp2
 refine wp_loop_rounds 2 ?_
 rw [rounds_succ]
 go_wp2_with (go_at_call 105; (with_reducible refine (C.out _).mono ?_); rintro e w' ⟨rfl, rfl⟩)
 rw [rounds_succ]
 go_wp2_with (go_at_call 105; (with_reducible refine (C.out _).mono ?_); rintro e w' ⟨rfl, rfl⟩)
 go_quiet (fail)
 go_wp2
 refine bodyPost_ret (v := .tuple #[.int .u8 0, .int .i64 (k + 1), .iface 135 E2]) (by simp [results, Tryd.results101, go_sem]) rfl ?_
 exact ⟨rfl, below_drewN (Below.refl _ _) _⟩
theorem coded_3 {s : ByteArray} {k c d b : Nat} (hk : (nl s)[k]? = some c) (hc : Fig c d) (hj : (nl s)[k + 1]? = some b) (hb : Fig b (-1)) (hm : s.size ≤ 100000) {E2 E4 : Value} (w : World) (hT : Two w E2 E4) :
  Calls Tryd.prog 101 #[.string s, .int .i64 k] w fun e w' => e = .returned (.tuple #[.int .u8 0, .int .i64 (k + 1), .iface 135 E4]) ∧ Below w.heap.size w w' := by
 have h1 := hT.form
 clear hT
 obtain ⟨hlt, hat⟩ := at_nl hk
 obtain ⟨hlt2, hat2⟩ := at_nl hj
 have hcs : c ≤ 255 := nl_small s c (List.mem_of_getElem? hk)
 have hbs : b ≤ 255 := nl_small s b (List.mem_of_getElem? hj)
 have hd := fig_range hc
 have C := hid (fun w => value_in hc hcs w)
 have C2 := hid (fun w => value_in hb hbs w)
 clear hk hc hj hb
 have hne : ¬ k = s.size := by omega
 have g1 : ((k : Int) + 1 == (s.size : Int)) = false := by simp; omega
 have hkb : k ≤ 100000 := by omega
 go_enter Tryd.func101, Tryd.ntmps101
 go_wp2
 refine wp_loop_rounds 2 ?_
 rw [rounds_succ]
 go_wp2_with (go_at_call 105; (with_reducible refine (C.out _).mono ?_); rintro e w' ⟨rfl, rfl⟩)
 rw [rounds_succ]
 go_wp2_with (go_at_call 105; (with_reducible refine (C2.out _).mono ?_); rintro e w' ⟨rfl, rfl⟩)
 go_quiet (fail)
 go_wp2
 refine bodyPost_ret (v := .tuple #[.int .u8 0, .int .i64 (k + 1), .iface 135 E4]) (by simp [results, Tryd.results101, go_sem]) rfl ?_
 exact ⟨rfl, below_drewN (Below.refl _ _) _⟩
theorem coded_4 {s : ByteArray} {k c d b e : Nat} (hk : (nl s)[k]? = some c) (hc : Fig c d) (hj : (nl s)[k + 1]? = some b) (hb : Fig b e) (hm : s.size ≤ 100000) (w : World) :
  Calls Tryd.prog 101 #[.string s, .int .i64 k] w fun e' w' => e' = .returned (.tuple #[.int .u8 (16 * d + e : Nat), .int .i64 (k + 2), .nilIface]) ∧ Below w.heap.size w w' := by
 obtain ⟨hlt, hat⟩ := at_nl hk
 obtain ⟨hlt2, hat2⟩ := at_nl hj
 have hcs : c ≤ 255 := nl_small s c (List.mem_of_getElem? hk)
 have hbs : b ≤ 255 := nl_small s b (List.mem_of_getElem? hj)
 have hd := fig_range hc
 have hd2 := fig_range hb
 have C := hid (fun w => value_in hc hcs w)
 have C2 := hid (fun w => value_in hb hbs w)
 clear hk hc hj hb
 have hne : ¬ k = s.size := by omega
 have g1 : ((k : Int) + 1 == (s.size : Int)) = false := by simp; omega
 have hkb : k ≤ 100000 := by omega
 go_enter Tryd.func101, Tryd.ntmps101
 go_wp2
 refine wp_loop_rounds 3 ?_
 rw [rounds_succ]
 go_wp2_with (go_at_call 105; (with_reducible refine (C.out _).mono ?_); rintro e w' ⟨rfl, rfl⟩)
 rw [rounds_succ]
 go_wp2_with (go_at_call 105; (with_reducible refine (C2.out _).mono ?_); rintro e w' ⟨rfl, rfl⟩)
 rw [rounds_succ]
 go_wp2
 refine bodyPost_ret (v := .tuple #[.int .u8 ((d : Int) * 16 + e), .int .i64 (k + 2), .nilIface]) (by simp [results, Tryd.results101, go_sem]) rfl ?_
 exact ⟨by rw [show ((16 * d + e : Nat) : Int) = (d : Int) * 16 + e by omega], Below.refl _ _⟩
end Go.Proofs.YtobbifhflnlplaaDoor.S5
namespace Go.Proofs.YtobbifhflnlplaaDoor.S5
open Lib (hid)
open Go.RowKit
theorem not_letter {c : Nat} (h1 : c ≠ 110) (h2 : c ≠ 116) (h3 : c ≠ 114) (h4 : c ≠ 115) : c ∉ nl lettersB := by
 have : nl lettersB = [110, 116, 114, 115] := by decide
 rw [this]
 simp
 omega
def Gives (f : FuncId) (args : Array Value) (v : Value) (w : World) : Prop := Calls Tryd.prog f args w fun e w' => e = .returned v ∧ Below w.heap.size w w'
theorem esc_0 {s : ByteArray} {k : Nat} (hk : k = s.size) (hm : s.size ≤ 100000) {E2 E4 : Value} (w : World) (hT : Two w E2 E4) :
  Gives 94 #[.string s, .int .i64 k] (.tuple #[.int .u8 0, .int .i64 k, .iface 135 E2]) w := by
 have h1 := hT.short
 clear hT
 have g1 : ((k : Int) == (s.size : Int)) = true := by simp; omega
 have hkb : k ≤ 100000 := by omega
 clear hk
 unfold Gives
 go_enter Tryd.func94, Tryd.ntmps94
 go_wp2
 go_quiet (fail)
 go_wp2
 refine bodyPost_ret (v := .tuple #[.int .u8 0, .int .i64 k, .iface 135 E2]) (by simp [results, Tryd.results94, go_sem]) rfl ?_
 exact ⟨rfl, below_drewN (Below.refl _ _) _⟩
theorem esc_blank {s : ByteArray} {k c d : Nat} (hk : (nl s)[k]? = some c) (hd : [(10, 110), (9, 116), (13, 114), (32, 115)].contains (d, c) = true) (hm : s.size ≤ 100000) (w : World) :
  Gives 94 #[.string s, .int .i64 k] (.tuple #[.int .u8 d, .int .i64 (k + 1), .nilIface]) w := by
 obtain ⟨hlt, hat⟩ := at_nl hk
 clear hk
 have g1 : ((k : Int) == (s.size : Int)) = false := by simp; omega
 have hkb : k ≤ 100000 := by omega
 simp at hd
 unfold Gives
 rcases hd with ⟨rfl, rfl⟩ | ⟨rfl, rfl⟩ | ⟨rfl, rfl⟩ | ⟨rfl, rfl⟩
 ·have c1 := hid (idx_lit lettersB 110 0 (by decide) (by decide +kernel))
  clear hm
  go_enter Tryd.func94, Tryd.ntmps94
  go_wp2_with (go_at_call 68; (with_reducible refine (c1.out _).mono ?_); rintro e w' ⟨rfl, rfl⟩)
  refine bodyPost_ret (v := .tuple #[.int .u8 10, .int .i64 (k + 1), .nilIface]) (by simp [results, Tryd.results94, go_sem]; try decide) rfl ?_
  exact ⟨rfl, Below.refl _ _⟩
 ·have c1 := hid (idx_lit lettersB 116 1 (by decide) (by decide +kernel))
  clear hm
  go_enter Tryd.func94, Tryd.ntmps94
  go_wp2_with (go_at_call 68; (with_reducible refine (c1.out _).mono ?_); rintro e w' ⟨rfl, rfl⟩)
  refine bodyPost_ret (v := .tuple #[.int .u8 9, .int .i64 (k + 1), .nilIface]) (by simp [results, Tryd.results94, go_sem]; try decide) rfl ?_
  exact ⟨rfl, Below.refl _ _⟩
 ·have c1 := hid (idx_lit lettersB 114 2 (by decide) (by decide +kernel))
  clear hm
  go_enter Tryd.func94, Tryd.ntmps94
  go_wp2_with (go_at_call 68; (with_reducible refine (c1.out _).mono ?_); rintro e w' ⟨rfl, rfl⟩)
  refine bodyPost_ret (v := .tuple #[.int .u8 13, .int .i64 (k + 1), .nilIface]) (by simp [results, Tryd.results94, go_sem]; try decide) rfl ?_
  exact ⟨rfl, Below.refl _ _⟩
 ·have c1 := hid (idx_lit lettersB 115 3 (by decide) (by decide +kernel))
  clear hm
  go_enter Tryd.func94, Tryd.ntmps94
  go_wp2_with (go_at_call 68; (with_reducible refine (c1.out _).mono ?_); rintro e w' ⟨rfl, rfl⟩)
  refine bodyPost_ret (v := .tuple #[.int .u8 32, .int .i64 (k + 1), .nilIface]) (by simp [results, Tryd.results94, go_sem]; try decide) rfl ?_
  exact ⟨rfl, Below.refl _ _⟩
theorem esc_x {s : ByteArray} {k : Nat} (hk : (nl s)[k]? = some 120) (hm : s.size ≤ 100000) {x y z : Value} (w : World) (hC : ∀ w', Bel w w' → Gives 101 #[.string s, .int .i64 (k + 1)] (.tuple #[x, y, z]) w') :
  Gives 94 #[.string s, .int .i64 k] (.tuple #[x, y, z]) w := by
 obtain ⟨hlt, hat⟩ := at_nl hk
 clear hk
 have g1 : ((k : Int) == (s.size : Int)) = false := by simp; omega
 have hkb : k ≤ 100000 := by omega
 have c1 := hid (idx_lit lettersB 120 (-1) (by decide) (by decide +kernel))
 unfold Gives at hC ⊢
 have C := hid (hC w (Bel.refl w))
 clear hC hm
 go_enter Tryd.func94, Tryd.ntmps94
 go_wp2_with (first | (go_at_call 68; (with_reducible refine (c1.out _).mono ?_); rintro e w' ⟨rfl, rfl⟩) | (go_at_call 101; (with_reducible refine C.out.mono ?_); rintro e w' ⟨rfl, hb⟩))
 refine bodyPost_ret (v := .tuple #[x, y, z]) (by simp [results, Tryd.results94, go_sem]) rfl ?_
 exact ⟨rfl, hb⟩
theorem esc_sign {s : ByteArray} {k c : Nat} (hk : (nl s)[k]? = some c) (hc : Sign c) (hm : s.size ≤ 100000) (w : World) :
  Gives 94 #[.string s, .int .i64 k] (.tuple #[.int .u8 c, .int .i64 (k + 1), .nilIface]) w := by
 obtain ⟨hlt, hat⟩ := at_nl hk
 have hcs : c ≤ 255 := nl_small s c (List.mem_of_getElem? hk)
 clear hk
 have g1 : ((k : Int) == (s.size : Int)) = false := by simp; omega
 have hkb : k ≤ 100000 := by omega
 have hx : ((c : Int) == 120) = false := by unfold Sign at hc; simp; omega
 have c1 := hid (fun w => idx_at lettersB c w (-1) (ix_no hcs (by unfold Sign at hc; apply not_letter <;> omega)))
 have C := hid (fun w => sign_yes hc w)
 clear hm hc
 unfold Gives
 go_enter Tryd.func94, Tryd.ntmps94
 go_wp2_with (first | (go_at_call 68; (with_reducible refine (c1.out _).mono ?_); rintro e w' ⟨rfl, rfl⟩) | (go_at_call 102; (with_reducible refine (C.out _).mono ?_); rintro e w' ⟨rfl, rfl⟩))
 refine bodyPost_ret (v := .tuple #[.int .u8 c, .int .i64 (k + 1), .nilIface]) (by simp [results, Tryd.results94, go_sem]) rfl ?_
 exact ⟨rfl, Below.refl _ _⟩
theorem esc_bad {s : ByteArray} {k c : Nat} (hk : (nl s)[k]? = some c) (hc : ¬ Sign c) (h1 : c ≠ 110) (h2 : c ≠ 116) (h3 : c ≠ 114) (h4 : c ≠ 115) (h5 : c ≠ 120) (hm : s.size ≤ 100000) {E2 E4 : Value} (w : World) (hT : Two w E2 E4) :
  Gives 94 #[.string s, .int .i64 k] (.tuple #[.int .u8 0, .int .i64 k, .iface 135 E4]) w := by
 obtain ⟨hlt, hat⟩ := at_nl hk
 have hcs : c ≤ 255 := nl_small s c (List.mem_of_getElem? hk)
 have hf := hT.form
 clear hk hT
 have g1 : ((k : Int) == (s.size : Int)) = false := by simp; omega
 have hkb : k ≤ 100000 := by omega
 have hx : ((c : Int) == 120) = false := by simp; omega
 have c1 := hid (fun w => idx_at lettersB c w (-1) (ix_no hcs (not_letter h1 h2 h3 h4)))
 have C := hid (fun w => sign_no hc w)
 clear hm hc h1 h2 h3 h4 h5
 unfold Gives
 go_enter Tryd.func94, Tryd.ntmps94
 go_wp2_with (first | (go_at_call 68; (with_reducible refine (c1.out _).mono ?_); rintro e w' ⟨rfl, rfl⟩) | (go_at_call 102; (with_reducible refine (C.out _).mono ?_); rintro e w' ⟨rfl, rfl⟩))
 go_quiet (fail)
 go_wp2
 refine bodyPost_ret (v := .tuple #[.int .u8 0, .int .i64 k, .iface 135 E4]) (by simp [results, Tryd.results94, go_sem]) rfl ?_
 exact ⟨rfl, below_drewN (Below.refl _ _) _⟩
/-! ### Read -/
theorem read_out {s : ByteArray} {i : Int} (hi : i < 0 ∨ (s.size : Int) ≤ i) (hm : s.size ≤ 100000) {E2 E4 : Value} (w : World) (hT : Two w E2 E4) :
  Gives 75 #[.string s, .int .i64 i] (.tuple #[.int .u8 0, .int .i64 s.size, .iface 135 E2]) w := by
 have h1 := hT.short
 clear hT
 unfold Gives
 rcases hi with hi | hi
 all_goals
  have g1 : decide ((s.size : Int) ≤ i) = true ∨ decide (i < 0) = true := by simp; omega
  go_enter Tryd.func75, Tryd.ntmps75
  go_wp2
  all_goals
   go_quiet (fail)
   go_wp2
   refine bodyPost_ret (v := .tuple #[.int .u8 0, .int .i64 s.size, .iface 135 E2]) (by simp [results, Tryd.results75, go_sem]) rfl ?_
   exact ⟨rfl, below_drewN (Below.refl _ _) _⟩
theorem read_plain {s : ByteArray} {k c : Nat} (hk : (nl s)[k]? = some c) (hc : c ≠ 92) (hm : s.size ≤ 100000) (w : World) :
  Gives 75 #[.string s, .int .i64 k] (.tuple #[.int .u8 c, .int .i64 (k + 1), .nilIface]) w := by
 obtain ⟨hlt, hat⟩ := at_nl hk
 clear hk
 have hkb : k ≤ 100000 := by omega
 have hx : ((c : Int) == 92) = false := by simp; omega
 have hx2 : ((c : Int) != 92) = true := by simp; omega
 clear hc hm
 unfold Gives
 go_enter Tryd.func75, Tryd.ntmps75
 go_wp2
 refine bodyPost_ret (v := .tuple #[.int .u8 c, .int .i64 (k + 1), .nilIface]) (by simp [results, Tryd.results75, go_sem]) rfl ?_
 exact ⟨rfl, Below.refl _ _⟩
theorem read_esc {s : ByteArray} {k : Nat} (hk : (nl s)[k]? = some 92) (hm : s.size ≤ 100000) {x y z : Value} (w : World) (hC : ∀ w', Bel w w' → Gives 94 #[.string s, .int .i64 (k + 1)] (.tuple #[x, y, z]) w') :
  Gives 75 #[.string s, .int .i64 k] (.tuple #[x, y, z]) w := by
 obtain ⟨hlt, hat⟩ := at_nl hk
 clear hk
 have hkb : k ≤ 100000 := by omega
 unfold Gives at hC ⊢
 have C := hid (hC w (Bel.refl w))
 clear hC hm
 go_enter Tryd.func75, Tryd.ntmps75
 go_wp2_with (go_at_call 94; (with_reducible refine C.out.mono ?_); rintro e w' ⟨rfl, hb⟩)
 refine bodyPost_ret (v := .tuple #[x, y, z]) (by simp [results, Tryd.results75, go_sem]) rfl ?_
 exact ⟨rfl, hb⟩
theorem read_in {s : ByteArray} {i : Int} {c : Nat} {t : Int} {e : Nat} (h : Rd (nl s) i c t e) (hm : s.size ≤ 99990) {E2 E4 : Value} (w : World) (hT : Two w E2 E4) :
  Gives 75 #[.string s, .int .i64 i] (.tuple #[.int .u8 c, .int .i64 t, errV E2 E4 e]) w := by
 have hn := nl_length s
 cases h with
 | outside i hi => rw [hn] at hi ⊢; exact read_out hi (by omega) w hT
 | plain k c h1 h2 => exact read_plain h1 h2 (by omega) w
 | ends1 k h1 h2 =>
  refine read_esc h1 (by omega) w fun w' hb => ?_
  have := esc_0 (s := s) (k := k + 1) (by omega) (by omega) w' (hT.bel hb)
  rw [show ((k + 1 : Nat) : Int) = (k : Int) + 1 by omega] at this
  exact this
 | blank k c d h1 h2 h3 =>
  refine read_esc h1 (by omega) w fun w' hb => ?_
  have := esc_blank h2 h3 (by omega) w'
  rw [show ((k + 1 : Nat) : Int) = (k : Int) + 1 by omega, show (k : Int) + 1 + 1 = (k : Int) + 2 by omega] at this
  exact this
 | ends2 k h1 h2 h3 =>
  refine read_esc h1 (by omega) w fun w' hb => esc_x h2 (by omega) w' fun w2 hb2 => ?_
  have := coded_0 (s := s) (k := k + 2) (by omega) (by omega) w2 ((hT.bel hb).bel hb2)
  rw [show ((k + 2 : Nat) : Int) = (k : Int) + 2 by omega] at this
  rw [show ((k + 1 : Nat) : Int) + 1 = (k : Int) + 2 by omega]
  exact this
 | bad2 k c h1 h2 h3 h4 =>
  refine read_esc h1 (by omega) w fun w' hb => esc_x h2 (by omega) w' fun w2 hb2 => ?_
  have := coded_1 h3 h4 (by omega) w2 ((hT.bel hb).bel hb2)
  rw [show ((k + 2 : Nat) : Int) = (k : Int) + 2 by omega] at this
  rw [show ((k + 1 : Nat) : Int) + 1 = (k : Int) + 2 by omega]
  exact this
 | ends3 k c d h1 h2 h3 h4 h5 =>
  refine read_esc h1 (by omega) w fun w' hb => esc_x h2 (by omega) w' fun w2 hb2 => ?_
  have := coded_2 h3 h4 (by omega) (by omega) w2 ((hT.bel hb).bel hb2)
  rw [show ((k + 2 : Nat) : Int) = (k : Int) + 2 by omega, show (k : Int) + 2 + 1 = (k : Int) + 3 by omega] at this
  rw [show ((k + 1 : Nat) : Int) + 1 = (k : Int) + 2 by omega]
  exact this
 | bad3 k c d b h1 h2 h3 h4 h5 h6 =>
  refine read_esc h1 (by omega) w fun w' hb => esc_x h2 (by omega) w' fun w2 hb2 => ?_
  have := coded_3 h3 h4 h5 h6 (by omega) w2 ((hT.bel hb).bel hb2)
  rw [show ((k + 2 : Nat) : Int) = (k : Int) + 2 by omega, show (k : Int) + 2 + 1 = (k : Int) + 3 by omega] at this
  rw [show ((k + 1 : Nat) : Int) + 1 = (k : Int) + 2 by omega]
  exact this
 | hex k c d b e h1 h2 h3 h4 h5 h6 =>
  refine read_esc h1 (by omega) w fun w' hb => esc_x h2 (by omega) w' fun w2 hb2 => ?_
  have := coded_4 h3 h4 h5 h6 (by omega) w2
  rw [show ((k + 2 : Nat) : Int) = (k : Int) + 2 by omega, show (k : Int) + 2 + 2 = (k : Int) + 4 by omega] at this
  rw [show ((k + 1 : Nat) : Int) + 1 = (k : Int) + 2 by omega]
  exact this
 | sign k c h1 h2 h3 =>
  refine read_esc h1 (by omega) w fun w' hb => ?_
  have := esc_sign h2 h3 (by omega) w'
  rw [show ((k + 1 : Nat) : Int) = (k : Int) + 1 by omega, show (k : Int) + 1 + 1 = (k : Int) + 2 by omega] at this
  exact this
 | bad1 k c h1 h2 h3 h4 h5 h6 h7 h8 =>
  refine read_esc h1 (by omega) w fun w' hb => ?_
  have := esc_bad h2 h3 h4 h5 h6 h7 h8 (by omega) w' (hT.bel hb)
  rw [show ((k + 1 : Nat) : Int) = (k : Int) + 1 by omega] at this
  exact this
end Go.Proofs.YtobbifhflnlplaaDoor.S5
