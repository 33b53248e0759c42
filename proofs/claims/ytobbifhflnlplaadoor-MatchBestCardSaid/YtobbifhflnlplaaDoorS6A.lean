/- Texts merged: S6M, S6W1, S6W2, S6W3, S6W4, S6W5. -/

import Derived.Test.YtobbifhflnlplaaDoorS5A
import Derived.Test.YtobbifhflnlplaaDoorS1C
import Derived.Test.YtobbifhflnlplaaDoorS1A
namespace Go.Proofs.YtobbifhflnlplaaDoor.S6
open Lib (hid)
open Go.RowKit
open S5 (Rd Sp)
open S1 (spU)

/-! ### Reading -/
def Bare (c : Nat) : Prop := c = 91 ∨ c = 93 ∨ c = 45 ∨ c = 47
instance (c : Nat) : Decidable (Bare c) := by unfold Bare; infer_instance
inductive One (l : List Nat) : Nat → Nat → Int → Nat → Prop
 | bare (k c : Nat) : l[k]? = some c → Bare c → One l k 0 k 4
 | rd (k c : Nat) (t : Int) (e : Nat) : (∀ x, l[k]? = some x → ¬ Bare x) → Rd l k c t e → One l k c t e
theorem rd_next {l : List Nat} {k c : Nat} {t : Int} (h : Rd l k c t 0) : ∃ n : Nat, t = n ∧ k < n ∧ n ≤ l.length := by
 have lt : ∀ {j u : Nat}, l[j]? = some u → j < l.length := fun h => (List.getElem?_eq_some_iff.1 h).1
 generalize hi : (k : Int) = i at h
 generalize he : (0 : Nat) = e at h
 cases h with
 | outside => cases he
 | plain j c h1 h2 => have := lt h1; exact ⟨j + 1, by omega, by omega, by omega⟩
 | ends1 => cases he
 | blank j c d h1 h2 h3 => have := lt h2; exact ⟨j + 2, by omega, by omega, by omega⟩
 | ends2 => cases he
 | bad2 => cases he
 | ends3 => cases he
 | bad3 => cases he
 | hex j c d b e h1 h2 h3 h4 h5 h6 => have := lt h5; exact ⟨j + 4, by omega, by omega, by omega⟩
 | sign j c h1 h2 h3 => have := lt h2; exact ⟨j + 2, by omega, by omega, by omega⟩
 | bad1 => cases he
theorem rd_small {l : List Nat} (hl : ∀ x ∈ l, x ≤ 255) {i : Int} {c : Nat} {t : Int} {e : Nat} (h : Rd l i c t e) : c ≤ 255 := by
 have m : ∀ {j u : Nat}, l[j]? = some u → u ≤ 255 := fun h => hl _ (List.mem_of_getElem? h)
 cases h with
 | plain j c h1 h2 => exact m h1
 | blank j c d h1 h2 h3 => simp at h3; omega
 | hex j c d b e h1 h2 h3 h4 h5 h6 => have := S5.fig_range h4; have := S5.fig_range h6; omega
 | sign j c h1 h2 h3 => exact m h2
 | _ => omega
theorem one_next {l : List Nat} {k c : Nat} {t : Int} (h : One l k c t 0) : ∃ n : Nat, t = n ∧ k < n ∧ n ≤ l.length := by
 generalize he : (0 : Nat) = e at h
 cases h with
 | bare => cases he
 | rd _ _ _ _ h2 => subst he; exact rd_next h2
theorem one_small {l : List Nat} (hl : ∀ x ∈ l, x ≤ 255) {k c : Nat} {t : Int} {e : Nat} (h : One l k c t e) : c ≤ 255 := by
 cases h with
 | bare => omega
 | rd _ _ _ _ h2 => exact rd_small hl h2
theorem one_err {l : List Nat} {k c : Nat} {t : Int} {e : Nat} (h : One l k c t e) : e = 0 ∨ e = 2 ∨ e = 4 := by
 cases h with
 | bare => simp
 | rd _ _ _ _ h2 => cases h2 <;> simp
inductive Its (l : List Nat) : Bool → Nat → List (Nat × Nat) → Int → Nat → Prop
 | close (k : Nat) : l[k]? = some 93 → Its l false k [] (k + 1) 0
 | bad1 (b : Bool) (k : Nat) (t : Int) (e : Nat) : (b = true ∨ l[k]? ≠ some 93) → One l k 0 t e → e ≠ 0 → Its l b k [] t e
 | one (b : Bool) (k c n : Nat) (ps : List (Nat × Nat)) (t : Int) (e : Nat) : (b = true ∨ l[k]? ≠ some 93) → One l k c n 0 → l[n]? ≠ some 45 → Its l false n ps t e → Its l b k ((c, c) :: ps) t e
 | bad2 (b : Bool) (k c n : Nat) (t : Int) (e : Nat) : (b = true ∨ l[k]? ≠ some 93) → One l k c n 0 → l[n]? = some 45 → One l (n + 1) 0 t e → e ≠ 0 → Its l b k [] t e
 | down (b : Bool) (k c n d : Nat) (m : Nat) : (b = true ∨ l[k]? ≠ some 93) → One l k c n 0 → l[n]? = some 45 → One l (n + 1) d m 0 → d < c → Its l b k [] (n + 1) 1
 | span (b : Bool) (k c n d m : Nat) (ps : List (Nat × Nat)) (t : Int) (e : Nat) : (b = true ∨ l[k]? ≠ some 93) → One l k c n 0 → l[n]? = some 45 → One l (n + 1) d m 0 → c ≤ d → Its l false m ps t e → Its l b k ((c, d) :: ps) t e
def res (neg : Bool) (ps : List (Nat × Nat)) : Nat → Bool := if neg then S1.notS (spU ps) else spU ps
inductive Br (l : List Nat) : Int → (Nat → Bool) → Int → Nat → Prop
 | outside (i : Int) : (i < 0 ∨ (l.length : Int) ≤ i) → Br l i S1.noS l.length 2
 | other (k c : Nat) : l[k]? = some c → c ≠ 91 → Br l k S1.noS k 4
 | ok (k : Nat) (ps : List (Nat × Nat)) (t : Int) : l[k]? = some 91 → l[k + 1]? ≠ some 94 → Its l true (k + 1) ps t 0 → Br l k (res false ps) t 0
 | okNot (k : Nat) (ps : List (Nat × Nat)) (t : Int) : l[k]? = some 91 → l[k + 1]? = some 94 → Its l true (k + 2) ps t 0 → Br l k (res true ps) t 0
 | bad (k : Nat) (ps : List (Nat × Nat)) (t : Int) (e : Nat) : l[k]? = some 91 → l[k + 1]? ≠ some 94 → Its l true (k + 1) ps t e → e ≠ 0 → Br l k S1.noS t e
 | badNot (k : Nat) (ps : List (Nat × Nat)) (t : Int) (e : Nat) : l[k]? = some 91 → l[k + 1]? = some 94 → Its l true (k + 2) ps t e → e ≠ 0 → Br l k S1.noS t e
/-! ### Writing -/
open S5 in
def pi (c : Nat) : List Nat :=
 if c = 10 then [92, 110] else if c = 9 then [92, 116] else if c = 13 then [92, 114] else if c = 32 then [92, 115]
 else if c ∈ inn then [92, c] else if 33 ≤ c ∧ c ≤ 126 then [c] else [92, 120, hx (c / 16), hx (c % 16)]
def itm (p : Nat × Nat) : List Nat := pi p.1 ++ (if p.1 + 1 < p.2 then [45] else []) ++ (if p.1 < p.2 then pi p.2 else [])
def itms (ps : List (Nat × Nat)) : List Nat := ps.flatMap itm
/-! ### A set's text -/
open S1 in
def neg (f : Nat → Bool) : Bool := (el f 256).length == 0 || (decide (128 < (el f 256).length) && decide ((el f 256).length < 256))
open S1 in
def rng (f : Nat → Bool) : List (Nat × Nat) := spAll (el (if neg f then notS f else f) 256)
def txtB (f : Nat → Bool) : List Nat := [91] ++ (if neg f then [94] else []) ++ itms (rng f) ++ [93]
end Go.Proofs.YtobbifhflnlplaaDoor.S6
namespace Go.Proofs.YtobbifhflnlplaaDoor.S6
open Lib (hid)
open Go.RowKit
open S5 (nl nl_length nl_small at_nl nl_at Rd Sp Gives Two errV ix ix_no ix_yes idx_at)

theorem is_in {s : ByteArray} {i d : Int} {k c : Nat} (hi : i = k) (hd : d = c) (_ : s.size ≤ 99990) {r : Bool} (hr : r = true ↔ (nl s)[k]? = some c) (w : World) :
  Calls Tryd.prog 92 #[.string s, .int .i64 i, .int .u8 d] w fun e w' => e = .returned (.bool r) ∧ w = w' := by
 subst hi hd
 by_cases hk : k < s.size
 ·have hat := nl_at s k hk
  obtain ⟨x, hx⟩ : ∃ x, (s[k]).toNat = x := ⟨_, rfl⟩
  rw [hx] at hat
  rw [hat] at hr
  have e : ((x : Int) == (c : Int)) = r := by
   rw [Bool.eq_iff_iff, hr]
   simp
   omega
  clear hr hat
  go_enter Tryd.func92, Tryd.ntmps92
  go_wp2
  go_ret
  exact ⟨ret_bool (by simp), rfl⟩
 ·have hn : (nl s)[k]? = none := List.getElem?_eq_none (by rw [nl_length]; omega)
  rw [hn] at hr
  have e : r = false := by cases r <;> simp_all
  subst e
  clear hr hn
  go_enter Tryd.func92, Tryd.ntmps92
  go_wp2
  go_ret
  exact ⟨rfl, rfl⟩
abbrev barB : ByteArray := ⟨#[91, 93, 45, 47]⟩
theorem nl_bar : nl barB = [91, 93, 45, 47] := by decide
theorem single_bare {s : ByteArray} {k c : Nat} (h0 : (nl s)[k]? = some c) (hb : Bare c) (_ : s.size ≤ 99990) {E2 E4 : Value} (w : World) (hT : Two w E2 E4) :
  Gives 103 #[.string s, .int .i64 k] (.tuple #[.int .u8 0, .int .i64 k, .iface 135 E4]) w := by
 obtain ⟨hlt, hat⟩ := at_nl h0
 have hf := hT.form
 have hi : 0 ≤ ix barB c := ix_yes (by rw [nl_bar]; unfold Bare at hb; simp; omega)
 have c1 := hid (fun w => idx_at barB c w _ rfl)
 generalize ix barB c = i at *
 clear hT h0 hb
 unfold Gives
 go_enter Tryd.func103, Tryd.ntmps103
 go_wp2_with (go_at_call 68; (with_reducible refine (c1.out _).mono ?_); rintro e w' ⟨rfl, rfl⟩)
 go_quiet (fail)
 go_wp2
 refine bodyPost_ret (v := .tuple #[.int .u8 0, .int .i64 k, .iface 135 E4]) (by simp [results, Tryd.results103, go_sem]) rfl ?_
 exact ⟨rfl, below_drewN (Below.refl _ _) _⟩
theorem single_rd {s : ByteArray} {k : Nat} {x y z : Value} (hn : ∀ x, (nl s)[k]? = some x → ¬ Bare x) (_ : s.size ≤ 99990) (w : World) (hC : Gives 75 #[.string s, .int .i64 k] (.tuple #[x, y, z]) w) :
  Gives 103 #[.string s, .int .i64 k] (.tuple #[x, y, z]) w := by
 unfold Gives at hC ⊢
 have C := hid hC
 clear hC
 by_cases hk : k < s.size
 ·have hat := nl_at s k hk
  obtain ⟨c, hx⟩ : ∃ c, (s[k]).toNat = c := ⟨_, rfl⟩
  rw [hx] at hat
  have hcs : c ≤ 255 := nl_small s c (List.mem_of_getElem? hat)
  have hb := hn c hat
  have c1 := hid (fun w => idx_at barB c w (-1) (ix_no hcs (by rw [nl_bar]; unfold Bare at hb; simp; omega)))
  clear hn hat hb
  go_enter Tryd.func103, Tryd.ntmps103
  go_wp2_with (first | (go_at_call 68; (with_reducible refine (c1.out _).mono ?_); rintro e w' ⟨rfl, rfl⟩) | (go_at_call 75; (with_reducible refine C.out.mono ?_); rintro e w' ⟨rfl, hb⟩))
  refine bodyPost_ret (v := .tuple #[x, y, z]) (by simp [results, Tryd.results103, go_sem]) rfl ?_
  exact ⟨rfl, hb⟩
 ·clear hn
  go_enter Tryd.func103, Tryd.ntmps103
  go_wp2_with (go_at_call 75; (with_reducible refine C.out.mono ?_); rintro e w' ⟨rfl, hb⟩)
  refine bodyPost_ret (v := .tuple #[x, y, z]) (by simp [results, Tryd.results103, go_sem]) rfl ?_
  exact ⟨rfl, hb⟩
theorem single_in {s : ByteArray} {k c : Nat} {t : Int} {e : Nat} (h : One (nl s) k c t e) (hm : s.size ≤ 99990) {E2 E4 : Value} (w : World) (hT : Two w E2 E4) :
  Gives 103 #[.string s, .int .i64 k] (.tuple #[.int .u8 c, .int .i64 t, errV E2 E4 e]) w := by
 cases h with
 | bare _ h1 h2 => exact single_bare h1 h2 hm w hT
 | rd _ _ _ h1 h2 => exact single_rd h1 hm w (S5.read_in h2 hm w hT)
end Go.Proofs.YtobbifhflnlplaaDoor.S6
namespace Go.Proofs.YtobbifhflnlplaaDoor.S6
open Lib (hid)
open Go.RowKit
open S5 (nl nl_length nl_small at_nl nl_at Rd Sp Gives Two errV)
open S1 (Blk4 wd noS oneS spanS)
theorem stored {w a : World} {b B : Nat} {t : TypeId} {v0 v1 v2 v3 : Value} (h : Blk4 w b t v0 v1 v2 v3) (hb : Below B a w) (hB : B ≤ b) (u0 u1 u2 u3 : Value) :
  ∃ W, (((w.setCell ⟨b, 0, none⟩ u0).setCell ⟨b, 1, none⟩ u1).setCell ⟨b, 2, none⟩ u2).setCell ⟨b, 3, none⟩ u3 = W ∧ Blk4 W b t u0 u1 u2 u3 ∧ Below B a W :=
 ⟨_, rfl, h.set u0 u1 u2 u3, S1.below_set4 hb hB u0 u1 u2 u3⟩
theorem len_le {s : ByteArray} {k c : Nat} (h : (nl s)[k]? = some c) : k < s.size := (at_nl h).1
set_option maxRecDepth 10000 in
set_option maxHeartbeats 1000000 in
theorem item_bad1 {s : ByteArray} {k : Nat} {t : Int} {V : Value} (w : World) (C : ∀ w', Below w.heap.size w w' → Gives 103 #[.string s, .int .i64 k] (.tuple #[.int .u8 0, .int .i64 t, .iface 135 V]) w') :
  Gives 99 #[.string s, .int .i64 k] (.tuple #[(.agg #[.int .u64 0, .int .u64 0, .int .u64 0, .int .u64 0]), .int .i64 t, .iface 135 V]) w := by
 unfold Gives at *
 have C := hid C
 go_enter Tryd.func99, Tryd.ntmps99
 go_wp2_with fail
 obtain ⟨W, hW, hb, hB⟩ := S1.boxes1 w 24 (.int .u64 0) (.int .u64 0) (.int .u64 0) (.int .u64 0)
 rw [hW]
 replace C := hid (C.out W hB)
 clear hW
 go_wp2_with (go_at_call 103; (with_reducible refine C.out.mono ?_); rintro e w1 ⟨rfl, h1⟩; replace hb := hb.bel h1; replace hB := hB.trans (h1.mono hB.size); clear h1; obtain ⟨⟨y0, y1, y2, y3⟩, z0, z1, z2, z3⟩ := hb.facts)
 obtain ⟨W3, hW3, hb3, hB3⟩ := stored hb hB (Nat.le_refl _) (.int .u64 0) (.int .u64 0) (.int .u64 0) (.int .u64 0)
 obtain ⟨⟨c0, c1, c2, c3⟩, -⟩ := hb3.facts
 rw [hW3]
 refine bodyPost_ret (v := .tuple #[(.agg #[.int .u64 0, .int .u64 0, .int .u64 0, .int .u64 0]), .int .i64 t, .iface 135 V]) (by simp [results, Tryd.results99, go_sem, c0, c1, c2, c3]) rfl ?_
 first | exact ⟨rfl, hB3⟩ | exact ⟨rfl, hB3.drew⟩
set_option maxRecDepth 10000 in
set_option maxHeartbeats 1000000 in
theorem item_one {s : ByteArray} {k n c : Nat} (hc : c ≤ 255) (hm : s.size ≤ 99990) (hn : (nl s)[n]? ≠ some 45) (w : World) (C : ∀ w', Below w.heap.size w w' → Gives 103 #[.string s, .int .i64 k] (.tuple #[.int .u8 c, .int .i64 n, .nilIface]) w') :
  Gives 99 #[.string s, .int .i64 k] (.tuple #[(.agg #[.int .u64 (S1.wd (oneS c) 0), .int .u64 (S1.wd (oneS c) 1), .int .u64 (S1.wd (oneS c) 2), .int .u64 (S1.wd (oneS c) 3)]), .int .i64 n, .nilIface]) w := by
 have I := hid (fun w => is_in (s := s) (i := (n : Int)) (d := 45) (k := n) (c := 45) (r := false) rfl rfl hm (by simp [hn]) w)
 have O := hid (fun w => S1.one_in c hc w)
 clear hn
 unfold Gives at *
 have C := hid C
 go_enter Tryd.func99, Tryd.ntmps99
 go_wp2_with fail
 obtain ⟨W, hW, hb, hB⟩ := S1.boxes1 w 24 (.int .u64 0) (.int .u64 0) (.int .u64 0) (.int .u64 0)
 rw [hW]
 replace C := hid (C.out W hB)
 clear hW
 go_wp2_with (first | (go_at_call 103; (with_reducible refine C.out.mono ?_); rintro e w1 ⟨rfl, h1⟩; replace hb := hb.bel h1; replace hB := hB.trans (h1.mono hB.size); clear h1; obtain ⟨⟨y0, y1, y2, y3⟩, z0, z1, z2, z3⟩ := hb.facts) | (go_at_call 92; (with_reducible refine (I.out _).mono ?_); rintro e w1 ⟨rfl, rfl⟩) | (go_at_call 76; (with_reducible refine (O.out _).mono ?_); rintro e w1 ⟨rfl, h1⟩; replace hb := hb.bel h1; replace hB := hB.trans (h1.mono hB.size); clear h1; obtain ⟨⟨y0, y1, y2, y3⟩, z0, z1, z2, z3⟩ := hb.facts))
 obtain ⟨W3, hW3, hb3, hB3⟩ := stored hb hB (Nat.le_refl _) (.int .u64 (S1.wd (oneS c) 0)) (.int .u64 (S1.wd (oneS c) 1)) (.int .u64 (S1.wd (oneS c) 2)) (.int .u64 (S1.wd (oneS c) 3))
 obtain ⟨⟨c0, c1, c2, c3⟩, -⟩ := hb3.facts
 rw [hW3]
 refine bodyPost_ret (v := .tuple #[(.agg #[.int .u64 (S1.wd (oneS c) 0), .int .u64 (S1.wd (oneS c) 1), .int .u64 (S1.wd (oneS c) 2), .int .u64 (S1.wd (oneS c) 3)]), .int .i64 n, .nilIface]) (by simp [results, Tryd.results99, go_sem, c0, c1, c2, c3]) rfl ?_
 first | exact ⟨rfl, hB3⟩ | exact ⟨rfl, hB3.drew⟩
set_option maxRecDepth 10000 in
set_option maxHeartbeats 1000000 in
theorem item_bad2 {s : ByteArray} {k n c : Nat} {t : Int} {V : Value} (hm : s.size ≤ 99990) (hn : (nl s)[n]? = some 45) (w : World) (C : ∀ w', Below w.heap.size w w' → Gives 103 #[.string s, .int .i64 k] (.tuple #[.int .u8 c, .int .i64 n, .nilIface]) w')
  (C2 : ∀ w', Below w.heap.size w w' → Gives 103 #[.string s, .int .i64 (n + 1)] (.tuple #[.int .u8 0, .int .i64 t, .iface 135 V]) w') :
  Gives 99 #[.string s, .int .i64 k] (.tuple #[(.agg #[.int .u64 0, .int .u64 0, .int .u64 0, .int .u64 0]), .int .i64 t, .iface 135 V]) w := by
 have I := hid (fun w => is_in (s := s) (i := (n : Int)) (d := 45) (k := n) (c := 45) (r := true) rfl rfl hm (by simp [hn]) w)
 have hlt := len_le hn
 clear hn
 unfold Gives at *
 have C2 := hid C2
 have C := hid C
 go_enter Tryd.func99, Tryd.ntmps99
 go_wp2_with fail
 obtain ⟨W, hW, hb, hB⟩ := S1.boxes1 w 24 (.int .u64 0) (.int .u64 0) (.int .u64 0) (.int .u64 0)
 rw [hW]
 replace C := hid (C.out W hB)
 clear hW
 go_wp2_with (first | (go_at_call 103; (with_reducible refine C.out.mono ?_); rintro e w1 ⟨rfl, h1⟩; replace hb := hb.bel h1; replace hB := hB.trans (h1.mono hB.size); clear h1; obtain ⟨⟨y0, y1, y2, y3⟩, z0, z1, z2, z3⟩ := hb.facts) | (go_at_call 92; (with_reducible refine (I.out _).mono ?_); rintro e w1 ⟨rfl, rfl⟩) | (go_at_call 103; (with_reducible refine (C2.out _ hB).mono ?_); rintro e w1 ⟨rfl, h1⟩; replace hb := hb.bel h1; replace hB := hB.trans (h1.mono hB.size); clear h1; obtain ⟨⟨y0, y1, y2, y3⟩, z0, z1, z2, z3⟩ := hb.facts))
 obtain ⟨W3, hW3, hb3, hB3⟩ := stored hb hB (Nat.le_refl _) (.int .u64 0) (.int .u64 0) (.int .u64 0) (.int .u64 0)
 obtain ⟨⟨c0, c1, c2, c3⟩, -⟩ := hb3.facts
 rw [hW3]
 refine bodyPost_ret (v := .tuple #[(.agg #[.int .u64 0, .int .u64 0, .int .u64 0, .int .u64 0]), .int .i64 t, .iface 135 V]) (by simp [results, Tryd.results99, go_sem, c0, c1, c2, c3]) rfl ?_
 first | exact ⟨rfl, hB3⟩ | exact ⟨rfl, hB3.drew⟩
set_option maxRecDepth 10000 in
set_option maxHeartbeats 1000000 in
theorem item_down {s : ByteArray} {k n c d m : Nat} {E1 : Value} (_ : c ≤ 255) (hd : d < c) (hm : s.size ≤ 99990) (hn : (nl s)[n]? = some 45) (w : World) (hE : w.cell? ⟨4, 0, none⟩ = some (.iface 135 E1)) (C : ∀ w', Below w.heap.size w w' → Gives 103 #[.string s, .int .i64 k] (.tuple #[.int .u8 c, .int .i64 n, .nilIface]) w')
  (C2 : ∀ w', Below w.heap.size w w' → Gives 103 #[.string s, .int .i64 (n + 1)] (.tuple #[.int .u8 d, .int .i64 m, .nilIface]) w') :
  Gives 99 #[.string s, .int .i64 k] (.tuple #[(.agg #[.int .u64 0, .int .u64 0, .int .u64 0, .int .u64 0]), .int .i64 (n + 1), .iface 135 E1]) w := by
 have I := hid (fun w => is_in (s := s) (i := (n : Int)) (d := 45) (k := n) (c := 45) (r := true) rfl rfl hm (by simp [hn]) w)
 have hlt := len_le hn
 have hg := World.block_lt_of_cell? _ _ hE
 have hcd : decide ((d : Int) < c) = true := by simp; omega
 clear hn
 unfold Gives at *
 have C2 := hid C2
 have C := hid C
 go_enter Tryd.func99, Tryd.ntmps99
 go_wp2_with fail
 obtain ⟨W, hW, hb, hB⟩ := S1.boxes1 w 24 (.int .u64 0) (.int .u64 0) (.int .u64 0) (.int .u64 0)
 rw [hW]
 replace C := hid (C.out W hB)
 clear hW
 go_wp2_with (first | (go_at_call 103; (with_reducible refine C.out.mono ?_); rintro e w1 ⟨rfl, h1⟩; replace hb := hb.bel h1; replace hB := hB.trans (h1.mono hB.size); clear h1; obtain ⟨⟨y0, y1, y2, y3⟩, z0, z1, z2, z3⟩ := hb.facts) | (go_at_call 92; (with_reducible refine (I.out _).mono ?_); rintro e w1 ⟨rfl, rfl⟩) | (go_at_call 103; (with_reducible refine (C2.out _ hB).mono ?_); rintro e w1 ⟨rfl, h1⟩; replace hb := hb.bel h1; replace hB := hB.trans (h1.mono hB.size); clear h1; obtain ⟨⟨y0, y1, y2, y3⟩, z0, z1, z2, z3⟩ := hb.facts))
 have hE2 := (hB.cell (p := ⟨4, 0, none⟩) hg).trans hE
 go_region
 go_wp2
 obtain ⟨W3, hW3, hb3, hB3⟩ := stored hb hB (Nat.le_refl _) (.int .u64 0) (.int .u64 0) (.int .u64 0) (.int .u64 0)
 obtain ⟨⟨c0, c1, c2, c3⟩, -⟩ := hb3.facts
 rw [hW3]
 refine bodyPost_ret (v := .tuple #[(.agg #[.int .u64 0, .int .u64 0, .int .u64 0, .int .u64 0]), .int .i64 (n + 1), .iface 135 E1]) (by simp [results, Tryd.results99, go_sem, c0, c1, c2, c3]) rfl ?_
 first | exact ⟨rfl, hB3⟩ | exact ⟨rfl, hB3.drew⟩
set_option maxRecDepth 10000 in
set_option maxHeartbeats 1000000 in
theorem item_span {s : ByteArray} {k n c d m : Nat} (hc : c ≤ 255) (hd8 : d ≤ 255) (hd : c ≤ d) (hm : s.size ≤ 99990) (hn : (nl s)[n]? = some 45) (w : World) (C : ∀ w', Below w.heap.size w w' → Gives 103 #[.string s, .int .i64 k] (.tuple #[.int .u8 c, .int .i64 n, .nilIface]) w')
  (C2 : ∀ w', Below w.heap.size w w' → Gives 103 #[.string s, .int .i64 (n + 1)] (.tuple #[.int .u8 d, .int .i64 m, .nilIface]) w') :
  Gives 99 #[.string s, .int .i64 k] (.tuple #[(.agg #[.int .u64 (S1.wd (spanS c d) 0), .int .u64 (S1.wd (spanS c d) 1), .int .u64 (S1.wd (spanS c d) 2), .int .u64 (S1.wd (spanS c d) 3)]), .int .i64 m, .nilIface]) w := by
 have I := hid (fun w => is_in (s := s) (i := (n : Int)) (d := 45) (k := n) (c := 45) (r := true) rfl rfl hm (by simp [hn]) w)
 have O := hid (fun w => S1.span_in c d hc hd8 w)
 have hlt := len_le hn
 have hcd : decide ((d : Int) < c) = false := by simp; omega
 clear hn
 unfold Gives at *
 have C2 := hid C2
 have C := hid C
 go_enter Tryd.func99, Tryd.ntmps99
 go_wp2_with fail
 obtain ⟨W, hW, hb, hB⟩ := S1.boxes1 w 24 (.int .u64 0) (.int .u64 0) (.int .u64 0) (.int .u64 0)
 rw [hW]
 replace C := hid (C.out W hB)
 clear hW
 go_wp2_with (first | (go_at_call 103; (with_reducible refine C.out.mono ?_); rintro e w1 ⟨rfl, h1⟩; replace hb := hb.bel h1; replace hB := hB.trans (h1.mono hB.size); clear h1; obtain ⟨⟨y0, y1, y2, y3⟩, z0, z1, z2, z3⟩ := hb.facts) | (go_at_call 92; (with_reducible refine (I.out _).mono ?_); rintro e w1 ⟨rfl, rfl⟩) | (go_at_call 103; (with_reducible refine (C2.out _ hB).mono ?_); rintro e w1 ⟨rfl, h1⟩; replace hb := hb.bel h1; replace hB := hB.trans (h1.mono hB.size); clear h1; obtain ⟨⟨y0, y1, y2, y3⟩, z0, z1, z2, z3⟩ := hb.facts) | (go_at_call 104; (with_reducible refine (O.out _).mono ?_); rintro e w1 ⟨rfl, h1⟩; replace hb := hb.bel h1; replace hB := hB.trans (h1.mono hB.size); clear h1; obtain ⟨⟨y0, y1, y2, y3⟩, z0, z1, z2, z3⟩ := hb.facts))
 obtain ⟨W3, hW3, hb3, hB3⟩ := stored hb hB (Nat.le_refl _) (.int .u64 (S1.wd (spanS c d) 0)) (.int .u64 (S1.wd (spanS c d) 1)) (.int .u64 (S1.wd (spanS c d) 2)) (.int .u64 (S1.wd (spanS c d) 3))
 obtain ⟨⟨c0, c1, c2, c3⟩, -⟩ := hb3.facts
 rw [hW3]
 refine bodyPost_ret (v := .tuple #[(.agg #[.int .u64 (S1.wd (spanS c d) 0), .int .u64 (S1.wd (spanS c d) 1), .int .u64 (S1.wd (spanS c d) 2), .int .u64 (S1.wd (spanS c d) 3)]), .int .i64 m, .nilIface]) (by simp [results, Tryd.results99, go_sem, c0, c1, c2, c3]) rfl ?_
 first | exact ⟨rfl, hB3⟩ | exact ⟨rfl, hB3.drew⟩
end Go.Proofs.YtobbifhflnlplaaDoor.S6
namespace Go.Proofs.YtobbifhflnlplaaDoor.S6
open Lib (hid)
open Go.RowKit
open S5 (nl nl_length nl_small at_nl nl_at Rd Sp Gives Two errV)
open S1 (Blk4 SetBox wd noS oneS spanS orS spU eqB)
def errT (E1 E2 E4 : Value) (e : Nat) : Value := if e = 1 then E1 else if e = 2 then E2 else E4
structure Thr (w : World) (E1 E2 E4 : Value) : Prop where
 two : Two w E2 E4
 rang : w.cell? ⟨4, 0, none⟩ = some (.iface 135 E1)
theorem Thr.bel {w w' : World} {E1 E2 E4 : Value} (h : Thr w E1 E2 E4) (hb : Bel w w') : Thr w' E1 E2 E4 :=
 ⟨h.two.bel hb, hb.cell (World.block_lt_of_cell? _ _ h.rang) h.rang⟩
theorem errV_ne {E1 E2 E4 : Value} {e : Nat} (he : e ≠ 0) (h1 : e ≠ 1) : errV E2 E4 e = .iface 135 (errT E1 E2 E4 e) := by
 unfold errV errT
 rw [if_neg he, if_neg h1]
 split <;> rfl
def ItOut (s : ByteArray) (w : World) (k : Nat) (v : Value) : Prop := ∀ w', Below w.heap.size w w' → Gives 99 #[.string s, .int .i64 k] v w'
theorem it_one {s : ByteArray} (hm : s.size ≤ 99990) {E1 E2 E4 : Value} {w : World} (hT : Thr w E1 E2 E4) {k c n : Nat} (h1 : One (nl s) k c n 0) (h2 : (nl s)[n]? ≠ some 45) :
  ItOut s w k (.tuple #[(.agg #[.int .u64 (S1.wd (spU [(c, c)]) 0), .int .u64 (S1.wd (spU [(c, c)]) 1), .int .u64 (S1.wd (spU [(c, c)]) 2), .int .u64 (S1.wd (spU [(c, c)]) 3)]), .int .i64 n, .nilIface]) := fun w' hb => by
 have e : spU [(c, c)] = oneS c := by
  funext x
  rw [Bool.eq_iff_iff]; simp [spU, oneS]; omega
 rw [e]
 exact item_one (one_small (nl_small s) h1) hm h2 w' fun w2 hb2 => single_in h1 hm w2 ((hT.bel hb).bel hb2).two
theorem it_span {s : ByteArray} (hm : s.size ≤ 99990) {E1 E2 E4 : Value} {w : World} (hT : Thr w E1 E2 E4) {k c n d m : Nat} (h1 : One (nl s) k c n 0) (h2 : (nl s)[n]? = some 45) (h3 : One (nl s) (n + 1) d m 0) (h4 : c ≤ d) :
  ItOut s w k (.tuple #[(.agg #[.int .u64 (S1.wd (spU [(c, d)]) 0), .int .u64 (S1.wd (spU [(c, d)]) 1), .int .u64 (S1.wd (spU [(c, d)]) 2), .int .u64 (S1.wd (spU [(c, d)]) 3)]), .int .i64 m, .nilIface]) := fun w' hb => by
 have e : spU [(c, d)] = spanS c d := by
  funext x
  simp [spU, spanS]
 rw [e]
 exact item_span (one_small (nl_small s) h1) (one_small (nl_small s) h3) h4 hm h2 w' (fun w2 hb2 => single_in h1 hm w2 ((hT.bel hb).bel hb2).two) (fun w2 hb2 => single_in h3 hm w2 ((hT.bel hb).bel hb2).two)
theorem it_bad1 {s : ByteArray} (hm : s.size ≤ 99990) {E1 E2 E4 : Value} {w : World} (hT : Thr w E1 E2 E4) {k : Nat} {t : Int} {e : Nat} (h1 : One (nl s) k 0 t e) (he : e ≠ 0) :
  ItOut s w k (.tuple #[(.agg #[.int .u64 0, .int .u64 0, .int .u64 0, .int .u64 0]), .int .i64 t, .iface 135 (errT E1 E2 E4 e)]) := fun w' hb =>
 item_bad1 w' fun w2 hb2 => by
  have := single_in h1 hm w2 ((hT.bel hb).bel hb2).two
  rwa [errV_ne (E1 := E1) he (by rcases one_err h1 with h | h | h <;> omega)] at this
theorem it_bad2 {s : ByteArray} (hm : s.size ≤ 99990) {E1 E2 E4 : Value} {w : World} (hT : Thr w E1 E2 E4) {k c n : Nat} {t : Int} {e : Nat} (h1 : One (nl s) k c n 0) (h2 : (nl s)[n]? = some 45) (h3 : One (nl s) (n + 1) 0 t e) (he : e ≠ 0) :
  ItOut s w k (.tuple #[(.agg #[.int .u64 0, .int .u64 0, .int .u64 0, .int .u64 0]), .int .i64 t, .iface 135 (errT E1 E2 E4 e)]) := fun w' hb =>
 item_bad2 hm h2 w' (fun w2 hb2 => single_in h1 hm w2 ((hT.bel hb).bel hb2).two) fun w2 hb2 => by
  have := single_in h3 hm w2 ((hT.bel hb).bel hb2).two
  rwa [errV_ne (E1 := E1) he (by rcases one_err h3 with h | h | h <;> omega)] at this
theorem it_down {s : ByteArray} (hm : s.size ≤ 99990) {E1 E2 E4 : Value} {w : World} (hT : Thr w E1 E2 E4) {k c n d m : Nat} (h1 : One (nl s) k c n 0) (h2 : (nl s)[n]? = some 45) (h3 : One (nl s) (n + 1) d m 0) (h4 : d < c) :
  ItOut s w k (.tuple #[(.agg #[.int .u64 0, .int .u64 0, .int .u64 0, .int .u64 0]), .int .i64 (n + 1), .iface 135 (errT E1 E2 E4 1)]) := fun w' hb =>
 item_down (one_small (nl_small s) h1) h4 hm h2 w' (hT.bel hb).rang (fun w2 hb2 => single_in h1 hm w2 ((hT.bel hb).bel hb2).two) (fun w2 hb2 => single_in h3 hm w2 ((hT.bel hb).bel hb2).two)
/-! ### What is read so far -/
theorem spU_app (a b : List (Nat × Nat)) : spU (a ++ b) = orS (spU a) (spU b) := by
 funext x
 simp [spU, orS, List.any_append]
theorem acc_empty {acc : List (Nat × Nat)} (h : ∀ p ∈ acc, p.1 ≤ p.2 ∧ p.2 ≤ 255) : eqB (spU acc) noS = acc.isEmpty := by
 cases acc with
 | nil => exact S1.eqB_true fun c _ => by simp [spU, noS]
 | cons p r =>
  have hp := h p (by simp)
  show _ = false
  cases he : eqB (spU (p :: r)) noS with
  | false => rfl
  | true =>
   have := S1.eqB_spec he p.1 (by omega)
   simp [spU, noS] at this
   omega
end Go.Proofs.YtobbifhflnlplaaDoor.S6
namespace Go.Proofs.YtobbifhflnlplaaDoor.S6
open Lib (hid)
open Go.RowKit
open S5 (nl nl_length nl_small at_nl nl_at Rd Sp Gives Two errV)
open S1 (Blk4 SetBox wd noS oneS spanS orS spU eqB)
def outV (E1 E2 E4 : Value) (f : Nat → Bool) (t : Int) (e : Nat) : Value :=
 if e = 0 then .tuple #[(.agg #[.int .u64 (S1.wd (f) 0), .int .u64 (S1.wd (f) 1), .int .u64 (S1.wd (f) 2), .int .u64 (S1.wd (f) 3)]), .int .i64 t, .nilIface] else .tuple #[(.agg #[.int .u64 0, .int .u64 0, .int .u64 0, .int .u64 0]), .int .i64 t, .iface 135 (errT E1 E2 E4 e)]
theorem outV_err (E1 E2 E4 : Value) (f : Nat → Bool) (t : Int) {e : Nat} (he : e ≠ 0) : outV E1 E2 E4 f t e = .tuple #[(.agg #[.int .u64 0, .int .u64 0, .int .u64 0, .int .u64 0]), .int .i64 t, .iface 135 (errT E1 E2 E4 e)] := if_neg he
theorem below_set4' {B : Nat} {a w : World} (h : Below B a w) {b : Nat} (hb : B ≤ b) (u0 u1 u2 u3 : Value) :
  Below B a ((((w.setCell ⟨b, 0, none⟩ u0).setCell ⟨b, 1, none⟩ u1).setCell ⟨b, 2, none⟩ u2).setCell ⟨b, 3, none⟩ u3) := S1.below_set4 h hb u0 u1 u2 u3
set_option maxRecDepth 10000 in
set_option maxHeartbeats 8000000 in
theorem items_in {s : ByteArray} (hm : s.size ≤ 99990) {E1 E2 E4 : Value} {k0 : Nat} {P : List (Nat × Nat)} {t : Int} {e : Nat} (h : Its (nl s) true k0 P t e) (hk0 : k0 ≤ s.size) (w : World) (hT : Thr w E1 E2 E4) :
  Gives 93 #[.string s, .int .i64 k0] (outV E1 E2 E4 (spU P) t e) w := by
 unfold Gives
 go_enter Tryd.func93, Tryd.ntmps93
 go_wp2_with fail
 obtain ⟨W, hW, b0, b1, hB⟩ := S1.boxes2 w 24 24 (.int .u64 0) (.int .u64 0) (.int .u64 0) (.int .u64 0) (.int .u64 0) (.int .u64 0) (.int .u64 0) (.int .u64 0)
 rw [hW]
 clear hW
 have b1 : SetBox W (w.heap.size + 1) 24 (spU []) := by
  have : SetBox W (w.heap.size + 1) 24 noS := by unfold SetBox; simp only [S1.no_wd]; exact b1
  exact this.congr fun c _ => by simp [noS, spU]
 replace hT := hid hT
 go_loopw [1] (fun i wr => ∃ (k : Nat) (acc ps : List (Nat × Nat)), i = .int .i64 k ∧ k ≤ s.size ∧ Its (nl s) acc.isEmpty k ps t e ∧ acc ++ ps = P ∧ (∀ p ∈ acc, p.1 ≤ p.2 ∧ p.2 ≤ 255) ∧ Blk4 wr w.heap.size 24 (.int .u64 0) (.int .u64 0) (.int .u64 0) (.int .u64 0) ∧ SetBox wr (w.heap.size + 1) 24 (spU acc) ∧ Below w.heap.size w wr) (fun i _ => s.size - (intOf i).toNat)
 case atStart => exact ⟨k0, [], P, rfl, hk0, h, rfl, by simp, b0, b1, hB⟩
 case round =>
  clear b0 b1 hB h hk0
  obtain ⟨k, acc, ps, rfl, hks, hI, hP, hok, b0, b1, hB⟩ := hrel
  have cE := fun w => S1.empty_in (spU acc) w
  rw [acc_empty hok] at cE
  generalize hB0 : acc.isEmpty = B at hI cE
  obtain ⟨⟨f0, f1, f2, f3⟩, z0, z1, z2, z3⟩ := b1.blk.facts
  obtain ⟨⟨g0, g1, g2, g3⟩, y0, y1, y2, y3⟩ := b0.facts
  cases hI with
  | close _ h1 =>
   obtain rfl : acc = P := by simpa using hP
   have I := hid (fun w => is_in (s := s) (i := (k : Int)) (d := 93) (k := k) (c := 93) (r := true) rfl rfl hm (by simp [h1]) w)
   replace cE := hid cE
   have hks2 := len_le h1
   clear h1
   go_wp2_with (first | (go_at_call 85; (with_reducible refine (cE.out _).mono ?_); rintro e w1 ⟨rfl, h1⟩; replace b0 := b0.bel h1; replace b1 := S1.Blk4.bel b1 h1; replace hB := hB.trans (h1.mono hB.size); clear h1; clear f0 f1 f2 f3 z0 z1 z2 z3 g0 g1 g2 g3 y0 y1 y2 y3; obtain ⟨⟨f0, f1, f2, f3⟩, z0, z1, z2, z3⟩ := S1.Blk4.facts b1; obtain ⟨⟨g0, g1, g2, g3⟩, y0, y1, y2, y3⟩ := b0.facts) | (go_at_call 92; (with_reducible refine (I.out _).mono ?_); rintro e w1 ⟨rfl, rfl⟩))
   obtain ⟨W3, hW3, hb3, hB3⟩ := stored b0 hB (Nat.le_refl _) (.int .u64 (S1.wd (spU acc) 0)) (.int .u64 (S1.wd (spU acc) 1)) (.int .u64 (S1.wd (spU acc) 2)) (.int .u64 (S1.wd (spU acc) 3))
   obtain ⟨⟨c0, c1, c2, c3⟩, -⟩ := hb3.facts
   rw [hW3]
   refine bodyPost_ret (v := .tuple #[(.agg #[.int .u64 (S1.wd (spU acc) 0), .int .u64 (S1.wd (spU acc) 1), .int .u64 (S1.wd (spU acc) 2), .int .u64 (S1.wd (spU acc) 3)]), .int .i64 (k + 1), .nilIface]) (by simp [results, Tryd.results93, go_sem, c0, c1, c2, c3]) rfl ?_
   exact ⟨rfl, hB3⟩
  | bad1 _ _ _ _ h1 h2 h3 =>
   replace cE := hid cE
   have cI := hid (it_bad1 hm hT.out h2 h3)
   have hOut := hid (outV_err E1 E2 E4 (spU P) t (e := e) h3)
   unfold ItOut Gives at cI
   clear h2 h3
   cases B with
   | true =>
    clear h1
    go_wp2_with (first | (go_at_call 85; (with_reducible refine (cE.out _).mono ?_); rintro e w1 ⟨rfl, h1⟩; replace b0 := b0.bel h1; replace b1 := S1.Blk4.bel b1 h1; replace hB := hB.trans (h1.mono hB.size); clear h1; clear f0 f1 f2 f3 z0 z1 z2 z3 g0 g1 g2 g3 y0 y1 y2 y3; obtain ⟨⟨f0, f1, f2, f3⟩, z0, z1, z2, z3⟩ := S1.Blk4.facts b1; obtain ⟨⟨g0, g1, g2, g3⟩, y0, y1, y2, y3⟩ := b0.facts) | (go_at_call 99; (with_reducible refine (cI.out _ hB).mono ?_); rintro e w1 ⟨rfl, h1⟩; replace b0 := b0.bel h1; replace b1 := S1.Blk4.bel b1 h1; replace hB := hB.trans (h1.mono hB.size); clear h1; replace b0 := b0.alloc (.cells #[.int .u64 0, .int .u64 0, .int .u64 0, .int .u64 0] 24); replace b1 := S1.Blk4.alloc b1 (.cells #[.int .u64 0, .int .u64 0, .int .u64 0, .int .u64 0] 24); replace hB := hB.alloc hB.size (.cells #[.int .u64 0, .int .u64 0, .int .u64 0, .int .u64 0] 24); clear f0 f1 f2 f3 z0 z1 z2 z3 g0 g1 g2 g3 y0 y1 y2 y3; obtain ⟨⟨f0, f1, f2, f3⟩, z0, z1, z2, z3⟩ := S1.Blk4.facts b1; obtain ⟨⟨g0, g1, g2, g3⟩, y0, y1, y2, y3⟩ := b0.facts))
    obtain ⟨W3, hW3, hb3, hB3⟩ := stored b0 hB (Nat.le_refl _) (.int .u64 0) (.int .u64 0) (.int .u64 0) (.int .u64 0)
    obtain ⟨⟨c0, c1, c2, c3⟩, -⟩ := hb3.facts
    rw [hW3]
    refine bodyPost_ret (v := .tuple #[(.agg #[.int .u64 0, .int .u64 0, .int .u64 0, .int .u64 0]), .int .i64 t, .iface 135 (errT E1 E2 E4 e)]) (by simp [results, Tryd.results93, go_sem, c0, c1, c2, c3]) rfl ?_
    exact ⟨by rw [hOut.out], hB3⟩
   | false =>
    have I := hid (fun w => is_in (s := s) (i := (k : Int)) (d := 93) (k := k) (c := 93) (r := false) rfl rfl hm (by simpa using h1) w)
    clear h1
    go_wp2_with (first | (go_at_call 85; (with_reducible refine (cE.out _).mono ?_); rintro e w1 ⟨rfl, h1⟩; replace b0 := b0.bel h1; replace b1 := S1.Blk4.bel b1 h1; replace hB := hB.trans (h1.mono hB.size); clear h1; clear f0 f1 f2 f3 z0 z1 z2 z3 g0 g1 g2 g3 y0 y1 y2 y3; obtain ⟨⟨f0, f1, f2, f3⟩, z0, z1, z2, z3⟩ := S1.Blk4.facts b1; obtain ⟨⟨g0, g1, g2, g3⟩, y0, y1, y2, y3⟩ := b0.facts) | (go_at_call 92; (with_reducible refine (I.out _).mono ?_); rintro e w1 ⟨rfl, rfl⟩) | (go_at_call 99; (with_reducible refine (cI.out _ hB).mono ?_); rintro e w1 ⟨rfl, h1⟩; replace b0 := b0.bel h1; replace b1 := S1.Blk4.bel b1 h1; replace hB := hB.trans (h1.mono hB.size); clear h1; replace b0 := b0.alloc (.cells #[.int .u64 0, .int .u64 0, .int .u64 0, .int .u64 0] 24); replace b1 := S1.Blk4.alloc b1 (.cells #[.int .u64 0, .int .u64 0, .int .u64 0, .int .u64 0] 24); replace hB := hB.alloc hB.size (.cells #[.int .u64 0, .int .u64 0, .int .u64 0, .int .u64 0] 24); clear f0 f1 f2 f3 z0 z1 z2 z3 g0 g1 g2 g3 y0 y1 y2 y3; obtain ⟨⟨f0, f1, f2, f3⟩, z0, z1, z2, z3⟩ := S1.Blk4.facts b1; obtain ⟨⟨g0, g1, g2, g3⟩, y0, y1, y2, y3⟩ := b0.facts))
    obtain ⟨W3, hW3, hb3, hB3⟩ := stored b0 hB (Nat.le_refl _) (.int .u64 0) (.int .u64 0) (.int .u64 0) (.int .u64 0)
    obtain ⟨⟨c0, c1, c2, c3⟩, -⟩ := hb3.facts
    rw [hW3]
    refine bodyPost_ret (v := .tuple #[(.agg #[.int .u64 0, .int .u64 0, .int .u64 0, .int .u64 0]), .int .i64 t, .iface 135 (errT E1 E2 E4 e)]) (by simp [results, Tryd.results93, go_sem, c0, c1, c2, c3]) rfl ?_
    exact ⟨by rw [hOut.out], hB3⟩
  | one _ _ c n ps _ _ h1 h2 h3 hps =>
   replace cE := hid cE
   have hn8 : n ≤ s.size := (by obtain ⟨n2, q1, q2, q3⟩ := one_next h2; have := nl_length s; omega)
   have hlt : k < n := (by obtain ⟨n2, q1, q2, q3⟩ := one_next h2; omega)
   have hok2 : ∀ p ∈ acc ++ [(c, c)], p.1 ≤ p.2 ∧ p.2 ≤ 255 := fun p hp => by
    rcases List.mem_append.1 hp with hp | hp
    ·exact hok p hp
    ·obtain rfl : p = (c, c) := by simpa using hp
     exact ⟨Nat.le_refl _, one_small (nl_small s) h2⟩
   have hne : (acc ++ [(c, c)]).isEmpty = false := by cases acc <;> rfl
   have cI := hid (it_one hm hT.out h2 h3)
   have cO := fun w => S1.or_in (spU acc) (spU [(c, c)]) w
   rw [← spU_app] at cO
   replace cO := hid cO
   unfold ItOut Gives at cI
   clear h2 h3
   cases B with
   | true =>
    clear h1
    go_wp2_with (first | (go_at_call 85; (with_reducible refine (cE.out _).mono ?_); rintro e w1 ⟨rfl, h1⟩; replace b0 := b0.bel h1; replace b1 := S1.Blk4.bel b1 h1; replace hB := hB.trans (h1.mono hB.size); clear h1; clear f0 f1 f2 f3 z0 z1 z2 z3 g0 g1 g2 g3 y0 y1 y2 y3; obtain ⟨⟨f0, f1, f2, f3⟩, z0, z1, z2, z3⟩ := S1.Blk4.facts b1; obtain ⟨⟨g0, g1, g2, g3⟩, y0, y1, y2, y3⟩ := b0.facts) | (go_at_call 99; (with_reducible refine (cI.out _ hB).mono ?_); rintro e w1 ⟨rfl, h1⟩; replace b0 := b0.bel h1; replace b1 := S1.Blk4.bel b1 h1; replace hB := hB.trans (h1.mono hB.size); clear h1; replace b0 := b0.alloc (.cells #[.int .u64 (S1.wd (spU [(c, c)]) 0), .int .u64 (S1.wd (spU [(c, c)]) 1), .int .u64 (S1.wd (spU [(c, c)]) 2), .int .u64 (S1.wd (spU [(c, c)]) 3)] 24); replace b1 := S1.Blk4.alloc b1 (.cells #[.int .u64 (S1.wd (spU [(c, c)]) 0), .int .u64 (S1.wd (spU [(c, c)]) 1), .int .u64 (S1.wd (spU [(c, c)]) 2), .int .u64 (S1.wd (spU [(c, c)]) 3)] 24); replace hB := hB.alloc hB.size (.cells #[.int .u64 (S1.wd (spU [(c, c)]) 0), .int .u64 (S1.wd (spU [(c, c)]) 1), .int .u64 (S1.wd (spU [(c, c)]) 2), .int .u64 (S1.wd (spU [(c, c)]) 3)] 24); clear f0 f1 f2 f3 z0 z1 z2 z3 g0 g1 g2 g3 y0 y1 y2 y3; obtain ⟨⟨f0, f1, f2, f3⟩, z0, z1, z2, z3⟩ := S1.Blk4.facts b1; obtain ⟨⟨g0, g1, g2, g3⟩, y0, y1, y2, y3⟩ := b0.facts) | (go_at_call 100; (with_reducible refine (cO.out _).mono ?_); rintro e w2 ⟨rfl, h1⟩; replace b0 := b0.bel h1; replace b1 := S1.Blk4.bel b1 h1; replace hB := hB.trans (h1.mono hB.size); clear h1; clear f0 f1 f2 f3 z0 z1 z2 z3 g0 g1 g2 g3 y0 y1 y2 y3; obtain ⟨⟨f0, f1, f2, f3⟩, z0, z1, z2, z3⟩ := S1.Blk4.facts b1; obtain ⟨⟨g0, g1, g2, g3⟩, y0, y1, y2, y3⟩ := b0.facts))
    have hfin := below_set4' hB (b := w.heap.size + 1) (by omega) (.int .u64 (S1.wd (spU (acc ++ [(c, c)])) 0)) (.int .u64 (S1.wd (spU (acc ++ [(c, c)])) 1)) (.int .u64 (S1.wd (spU (acc ++ [(c, c)])) 2)) (.int .u64 (S1.wd (spU (acc ++ [(c, c)])) 3))
    have hbx : SetBox _ (w.heap.size + 1) 24 (spU (acc ++ [(c, c)])) := S1.Blk4.set b1 (.int .u64 (S1.wd (spU (acc ++ [(c, c)])) 0)) (.int .u64 (S1.wd (spU (acc ++ [(c, c)])) 1)) (.int .u64 (S1.wd (spU (acc ++ [(c, c)])) 2)) (.int .u64 (S1.wd (spU (acc ++ [(c, c)])) 3))
    have hb0 := b0.other (b' := w.heap.size + 1) (by omega) (.int .u64 (S1.wd (spU (acc ++ [(c, c)])) 0)) (.int .u64 (S1.wd (spU (acc ++ [(c, c)])) 1)) (.int .u64 (S1.wd (spU (acc ++ [(c, c)])) 2)) (.int .u64 (S1.wd (spU (acc ++ [(c, c)])) 3))
    go_roundw
    case rel => exact ⟨n, acc ++ [(c, c)], ps, rfl, hn8, by rw [hne]; exact hps, by rw [← hP]; simp, hok2, hb0, hbx, hfin⟩
    case measure => simp [intOf]; omega
   | false =>
    have I := hid (fun w => is_in (s := s) (i := (k : Int)) (d := 93) (k := k) (c := 93) (r := false) rfl rfl hm (by simpa using h1) w)
    clear h1
    go_wp2_with (first | (go_at_call 85; (with_reducible refine (cE.out _).mono ?_); rintro e w1 ⟨rfl, h1⟩; replace b0 := b0.bel h1; replace b1 := S1.Blk4.bel b1 h1; replace hB := hB.trans (h1.mono hB.size); clear h1; clear f0 f1 f2 f3 z0 z1 z2 z3 g0 g1 g2 g3 y0 y1 y2 y3; obtain ⟨⟨f0, f1, f2, f3⟩, z0, z1, z2, z3⟩ := S1.Blk4.facts b1; obtain ⟨⟨g0, g1, g2, g3⟩, y0, y1, y2, y3⟩ := b0.facts) | (go_at_call 92; (with_reducible refine (I.out _).mono ?_); rintro e w1 ⟨rfl, rfl⟩) | (go_at_call 99; (with_reducible refine (cI.out _ hB).mono ?_); rintro e w1 ⟨rfl, h1⟩; replace b0 := b0.bel h1; replace b1 := S1.Blk4.bel b1 h1; replace hB := hB.trans (h1.mono hB.size); clear h1; replace b0 := b0.alloc (.cells #[.int .u64 (S1.wd (spU [(c, c)]) 0), .int .u64 (S1.wd (spU [(c, c)]) 1), .int .u64 (S1.wd (spU [(c, c)]) 2), .int .u64 (S1.wd (spU [(c, c)]) 3)] 24); replace b1 := S1.Blk4.alloc b1 (.cells #[.int .u64 (S1.wd (spU [(c, c)]) 0), .int .u64 (S1.wd (spU [(c, c)]) 1), .int .u64 (S1.wd (spU [(c, c)]) 2), .int .u64 (S1.wd (spU [(c, c)]) 3)] 24); replace hB := hB.alloc hB.size (.cells #[.int .u64 (S1.wd (spU [(c, c)]) 0), .int .u64 (S1.wd (spU [(c, c)]) 1), .int .u64 (S1.wd (spU [(c, c)]) 2), .int .u64 (S1.wd (spU [(c, c)]) 3)] 24); clear f0 f1 f2 f3 z0 z1 z2 z3 g0 g1 g2 g3 y0 y1 y2 y3; obtain ⟨⟨f0, f1, f2, f3⟩, z0, z1, z2, z3⟩ := S1.Blk4.facts b1; obtain ⟨⟨g0, g1, g2, g3⟩, y0, y1, y2, y3⟩ := b0.facts) | (go_at_call 100; (with_reducible refine (cO.out _).mono ?_); rintro e w2 ⟨rfl, h1⟩; replace b0 := b0.bel h1; replace b1 := S1.Blk4.bel b1 h1; replace hB := hB.trans (h1.mono hB.size); clear h1; clear f0 f1 f2 f3 z0 z1 z2 z3 g0 g1 g2 g3 y0 y1 y2 y3; obtain ⟨⟨f0, f1, f2, f3⟩, z0, z1, z2, z3⟩ := S1.Blk4.facts b1; obtain ⟨⟨g0, g1, g2, g3⟩, y0, y1, y2, y3⟩ := b0.facts))
    have hfin := below_set4' hB (b := w.heap.size + 1) (by omega) (.int .u64 (S1.wd (spU (acc ++ [(c, c)])) 0)) (.int .u64 (S1.wd (spU (acc ++ [(c, c)])) 1)) (.int .u64 (S1.wd (spU (acc ++ [(c, c)])) 2)) (.int .u64 (S1.wd (spU (acc ++ [(c, c)])) 3))
    have hbx : SetBox _ (w.heap.size + 1) 24 (spU (acc ++ [(c, c)])) := S1.Blk4.set b1 (.int .u64 (S1.wd (spU (acc ++ [(c, c)])) 0)) (.int .u64 (S1.wd (spU (acc ++ [(c, c)])) 1)) (.int .u64 (S1.wd (spU (acc ++ [(c, c)])) 2)) (.int .u64 (S1.wd (spU (acc ++ [(c, c)])) 3))
    have hb0 := b0.other (b' := w.heap.size + 1) (by omega) (.int .u64 (S1.wd (spU (acc ++ [(c, c)])) 0)) (.int .u64 (S1.wd (spU (acc ++ [(c, c)])) 1)) (.int .u64 (S1.wd (spU (acc ++ [(c, c)])) 2)) (.int .u64 (S1.wd (spU (acc ++ [(c, c)])) 3))
    go_roundw
    case rel => exact ⟨n, acc ++ [(c, c)], ps, rfl, hn8, by rw [hne]; exact hps, by rw [← hP]; simp, hok2, hb0, hbx, hfin⟩
    case measure => simp [intOf]; omega
  | bad2 _ _ c n _ _ h1 h2 h3 h4 h5 =>
   replace cE := hid cE
   have cI := hid (it_bad2 hm hT.out h2 h3 h4 h5)
   have hOut := hid (outV_err E1 E2 E4 (spU P) t (e := e) h5)
   unfold ItOut Gives at cI
   clear h2 h3 h4 h5
   cases B with
   | true =>
    clear h1
    go_wp2_with (first | (go_at_call 85; (with_reducible refine (cE.out _).mono ?_); rintro e w1 ⟨rfl, h1⟩; replace b0 := b0.bel h1; replace b1 := S1.Blk4.bel b1 h1; replace hB := hB.trans (h1.mono hB.size); clear h1; clear f0 f1 f2 f3 z0 z1 z2 z3 g0 g1 g2 g3 y0 y1 y2 y3; obtain ⟨⟨f0, f1, f2, f3⟩, z0, z1, z2, z3⟩ := S1.Blk4.facts b1; obtain ⟨⟨g0, g1, g2, g3⟩, y0, y1, y2, y3⟩ := b0.facts) | (go_at_call 99; (with_reducible refine (cI.out _ hB).mono ?_); rintro e w1 ⟨rfl, h1⟩; replace b0 := b0.bel h1; replace b1 := S1.Blk4.bel b1 h1; replace hB := hB.trans (h1.mono hB.size); clear h1; replace b0 := b0.alloc (.cells #[.int .u64 0, .int .u64 0, .int .u64 0, .int .u64 0] 24); replace b1 := S1.Blk4.alloc b1 (.cells #[.int .u64 0, .int .u64 0, .int .u64 0, .int .u64 0] 24); replace hB := hB.alloc hB.size (.cells #[.int .u64 0, .int .u64 0, .int .u64 0, .int .u64 0] 24); clear f0 f1 f2 f3 z0 z1 z2 z3 g0 g1 g2 g3 y0 y1 y2 y3; obtain ⟨⟨f0, f1, f2, f3⟩, z0, z1, z2, z3⟩ := S1.Blk4.facts b1; obtain ⟨⟨g0, g1, g2, g3⟩, y0, y1, y2, y3⟩ := b0.facts))
    obtain ⟨W3, hW3, hb3, hB3⟩ := stored b0 hB (Nat.le_refl _) (.int .u64 0) (.int .u64 0) (.int .u64 0) (.int .u64 0)
    obtain ⟨⟨c0, c1, c2, c3⟩, -⟩ := hb3.facts
    rw [hW3]
    refine bodyPost_ret (v := .tuple #[(.agg #[.int .u64 0, .int .u64 0, .int .u64 0, .int .u64 0]), .int .i64 t, .iface 135 (errT E1 E2 E4 e)]) (by simp [results, Tryd.results93, go_sem, c0, c1, c2, c3]) rfl ?_
    exact ⟨by rw [hOut.out], hB3⟩
   | false =>
    have I := hid (fun w => is_in (s := s) (i := (k : Int)) (d := 93) (k := k) (c := 93) (r := false) rfl rfl hm (by simpa using h1) w)
    clear h1
    go_wp2_with (first | (go_at_call 85; (with_reducible refine (cE.out _).mono ?_); rintro e w1 ⟨rfl, h1⟩; replace b0 := b0.bel h1; replace b1 := S1.Blk4.bel b1 h1; replace hB := hB.trans (h1.mono hB.size); clear h1; clear f0 f1 f2 f3 z0 z1 z2 z3 g0 g1 g2 g3 y0 y1 y2 y3; obtain ⟨⟨f0, f1, f2, f3⟩, z0, z1, z2, z3⟩ := S1.Blk4.facts b1; obtain ⟨⟨g0, g1, g2, g3⟩, y0, y1, y2, y3⟩ := b0.facts) | (go_at_call 92; (with_reducible refine (I.out _).mono ?_); rintro e w1 ⟨rfl, rfl⟩) | (go_at_call 99; (with_reducible refine (cI.out _ hB).mono ?_); rintro e w1 ⟨rfl, h1⟩; replace b0 := b0.bel h1; replace b1 := S1.Blk4.bel b1 h1; replace hB := hB.trans (h1.mono hB.size); clear h1; replace b0 := b0.alloc (.cells #[.int .u64 0, .int .u64 0, .int .u64 0, .int .u64 0] 24); replace b1 := S1.Blk4.alloc b1 (.cells #[.int .u64 0, .int .u64 0, .int .u64 0, .int .u64 0] 24); replace hB := hB.alloc hB.size (.cells #[.int .u64 0, .int .u64 0, .int .u64 0, .int .u64 0] 24); clear f0 f1 f2 f3 z0 z1 z2 z3 g0 g1 g2 g3 y0 y1 y2 y3; obtain ⟨⟨f0, f1, f2, f3⟩, z0, z1, z2, z3⟩ := S1.Blk4.facts b1; obtain ⟨⟨g0, g1, g2, g3⟩, y0, y1, y2, y3⟩ := b0.facts))
    obtain ⟨W3, hW3, hb3, hB3⟩ := stored b0 hB (Nat.le_refl _) (.int .u64 0) (.int .u64 0) (.int .u64 0) (.int .u64 0)
    obtain ⟨⟨c0, c1, c2, c3⟩, -⟩ := hb3.facts
    rw [hW3]
    refine bodyPost_ret (v := .tuple #[(.agg #[.int .u64 0, .int .u64 0, .int .u64 0, .int .u64 0]), .int .i64 t, .iface 135 (errT E1 E2 E4 e)]) (by simp [results, Tryd.results93, go_sem, c0, c1, c2, c3]) rfl ?_
    exact ⟨by rw [hOut.out], hB3⟩
  | down _ _ c n d m h1 h2 h3 h4 h5 =>
   replace cE := hid cE
   have cI := hid (it_down hm hT.out h2 h3 h4 h5)
   have hOut := hid (outV_err E1 E2 E4 (spU P) (n + 1) (e := 1) (by decide))
   unfold ItOut Gives at cI
   clear h2 h3 h4 h5
   cases B with
   | true =>
    clear h1
    go_wp2_with (first | (go_at_call 85; (with_reducible refine (cE.out _).mono ?_); rintro e w1 ⟨rfl, h1⟩; replace b0 := b0.bel h1; replace b1 := S1.Blk4.bel b1 h1; replace hB := hB.trans (h1.mono hB.size); clear h1; clear f0 f1 f2 f3 z0 z1 z2 z3 g0 g1 g2 g3 y0 y1 y2 y3; obtain ⟨⟨f0, f1, f2, f3⟩, z0, z1, z2, z3⟩ := S1.Blk4.facts b1; obtain ⟨⟨g0, g1, g2, g3⟩, y0, y1, y2, y3⟩ := b0.facts) | (go_at_call 99; (with_reducible refine (cI.out _ hB).mono ?_); rintro e w1 ⟨rfl, h1⟩; replace b0 := b0.bel h1; replace b1 := S1.Blk4.bel b1 h1; replace hB := hB.trans (h1.mono hB.size); clear h1; replace b0 := b0.alloc (.cells #[.int .u64 0, .int .u64 0, .int .u64 0, .int .u64 0] 24); replace b1 := S1.Blk4.alloc b1 (.cells #[.int .u64 0, .int .u64 0, .int .u64 0, .int .u64 0] 24); replace hB := hB.alloc hB.size (.cells #[.int .u64 0, .int .u64 0, .int .u64 0, .int .u64 0] 24); clear f0 f1 f2 f3 z0 z1 z2 z3 g0 g1 g2 g3 y0 y1 y2 y3; obtain ⟨⟨f0, f1, f2, f3⟩, z0, z1, z2, z3⟩ := S1.Blk4.facts b1; obtain ⟨⟨g0, g1, g2, g3⟩, y0, y1, y2, y3⟩ := b0.facts))
    obtain ⟨W3, hW3, hb3, hB3⟩ := stored b0 hB (Nat.le_refl _) (.int .u64 0) (.int .u64 0) (.int .u64 0) (.int .u64 0)
    obtain ⟨⟨c0, c1, c2, c3⟩, -⟩ := hb3.facts
    rw [hW3]
    refine bodyPost_ret (v := .tuple #[(.agg #[.int .u64 0, .int .u64 0, .int .u64 0, .int .u64 0]), .int .i64 (n + 1), .iface 135 (errT E1 E2 E4 1)]) (by simp [results, Tryd.results93, go_sem, c0, c1, c2, c3]) rfl ?_
    exact ⟨by rw [hOut.out], hB3⟩
   | false =>
    have I := hid (fun w => is_in (s := s) (i := (k : Int)) (d := 93) (k := k) (c := 93) (r := false) rfl rfl hm (by simpa using h1) w)
    clear h1
    go_wp2_with (first | (go_at_call 85; (with_reducible refine (cE.out _).mono ?_); rintro e w1 ⟨rfl, h1⟩; replace b0 := b0.bel h1; replace b1 := S1.Blk4.bel b1 h1; replace hB := hB.trans (h1.mono hB.size); clear h1; clear f0 f1 f2 f3 z0 z1 z2 z3 g0 g1 g2 g3 y0 y1 y2 y3; obtain ⟨⟨f0, f1, f2, f3⟩, z0, z1, z2, z3⟩ := S1.Blk4.facts b1; obtain ⟨⟨g0, g1, g2, g3⟩, y0, y1, y2, y3⟩ := b0.facts) | (go_at_call 92; (with_reducible refine (I.out _).mono ?_); rintro e w1 ⟨rfl, rfl⟩) | (go_at_call 99; (with_reducible refine (cI.out _ hB).mono ?_); rintro e w1 ⟨rfl, h1⟩; replace b0 := b0.bel h1; replace b1 := S1.Blk4.bel b1 h1; replace hB := hB.trans (h1.mono hB.size); clear h1; replace b0 := b0.alloc (.cells #[.int .u64 0, .int .u64 0, .int .u64 0, .int .u64 0] 24); replace b1 := S1.Blk4.alloc b1 (.cells #[.int .u64 0, .int .u64 0, .int .u64 0, .int .u64 0] 24); replace hB := hB.alloc hB.size (.cells #[.int .u64 0, .int .u64 0, .int .u64 0, .int .u64 0] 24); clear f0 f1 f2 f3 z0 z1 z2 z3 g0 g1 g2 g3 y0 y1 y2 y3; obtain ⟨⟨f0, f1, f2, f3⟩, z0, z1, z2, z3⟩ := S1.Blk4.facts b1; obtain ⟨⟨g0, g1, g2, g3⟩, y0, y1, y2, y3⟩ := b0.facts))
    obtain ⟨W3, hW3, hb3, hB3⟩ := stored b0 hB (Nat.le_refl _) (.int .u64 0) (.int .u64 0) (.int .u64 0) (.int .u64 0)
    obtain ⟨⟨c0, c1, c2, c3⟩, -⟩ := hb3.facts
    rw [hW3]
    refine bodyPost_ret (v := .tuple #[(.agg #[.int .u64 0, .int .u64 0, .int .u64 0, .int .u64 0]), .int .i64 (n + 1), .iface 135 (errT E1 E2 E4 1)]) (by simp [results, Tryd.results93, go_sem, c0, c1, c2, c3]) rfl ?_
    exact ⟨by rw [hOut.out], hB3⟩
  | span _ _ c n d m ps _ _ h1 h2 h3 h4 h5 hps =>
   replace cE := hid cE
   have hn8 : m ≤ s.size := (by obtain ⟨n2, q1, q2, q3⟩ := one_next h4; have := nl_length s; omega)
   have hlt : k < m := (by obtain ⟨n2, q1, q2, q3⟩ := one_next h4; obtain ⟨n3, q4, q5, q6⟩ := one_next h2; omega)
   have hok2 : ∀ p ∈ acc ++ [(c, d)], p.1 ≤ p.2 ∧ p.2 ≤ 255 := fun p hp => by
    rcases List.mem_append.1 hp with hp | hp
    ·exact hok p hp
    ·obtain rfl : p = (c, d) := by simpa using hp
     exact ⟨h5, one_small (nl_small s) h4⟩
   have hne : (acc ++ [(c, d)]).isEmpty = false := by cases acc <;> rfl
   have cI := hid (it_span hm hT.out h2 h3 h4 h5)
   have cO := fun w => S1.or_in (spU acc) (spU [(c, d)]) w
   rw [← spU_app] at cO
   replace cO := hid cO
   unfold ItOut Gives at cI
   clear h2 h3 h4 h5
   cases B with
   | true =>
    clear h1
    go_wp2_with (first | (go_at_call 85; (with_reducible refine (cE.out _).mono ?_); rintro e w1 ⟨rfl, h1⟩; replace b0 := b0.bel h1; replace b1 := S1.Blk4.bel b1 h1; replace hB := hB.trans (h1.mono hB.size); clear h1; clear f0 f1 f2 f3 z0 z1 z2 z3 g0 g1 g2 g3 y0 y1 y2 y3; obtain ⟨⟨f0, f1, f2, f3⟩, z0, z1, z2, z3⟩ := S1.Blk4.facts b1; obtain ⟨⟨g0, g1, g2, g3⟩, y0, y1, y2, y3⟩ := b0.facts) | (go_at_call 99; (with_reducible refine (cI.out _ hB).mono ?_); rintro e w1 ⟨rfl, h1⟩; replace b0 := b0.bel h1; replace b1 := S1.Blk4.bel b1 h1; replace hB := hB.trans (h1.mono hB.size); clear h1; replace b0 := b0.alloc (.cells #[.int .u64 (S1.wd (spU [(c, d)]) 0), .int .u64 (S1.wd (spU [(c, d)]) 1), .int .u64 (S1.wd (spU [(c, d)]) 2), .int .u64 (S1.wd (spU [(c, d)]) 3)] 24); replace b1 := S1.Blk4.alloc b1 (.cells #[.int .u64 (S1.wd (spU [(c, d)]) 0), .int .u64 (S1.wd (spU [(c, d)]) 1), .int .u64 (S1.wd (spU [(c, d)]) 2), .int .u64 (S1.wd (spU [(c, d)]) 3)] 24); replace hB := hB.alloc hB.size (.cells #[.int .u64 (S1.wd (spU [(c, d)]) 0), .int .u64 (S1.wd (spU [(c, d)]) 1), .int .u64 (S1.wd (spU [(c, d)]) 2), .int .u64 (S1.wd (spU [(c, d)]) 3)] 24); clear f0 f1 f2 f3 z0 z1 z2 z3 g0 g1 g2 g3 y0 y1 y2 y3; obtain ⟨⟨f0, f1, f2, f3⟩, z0, z1, z2, z3⟩ := S1.Blk4.facts b1; obtain ⟨⟨g0, g1, g2, g3⟩, y0, y1, y2, y3⟩ := b0.facts) | (go_at_call 100; (with_reducible refine (cO.out _).mono ?_); rintro e w2 ⟨rfl, h1⟩; replace b0 := b0.bel h1; replace b1 := S1.Blk4.bel b1 h1; replace hB := hB.trans (h1.mono hB.size); clear h1; clear f0 f1 f2 f3 z0 z1 z2 z3 g0 g1 g2 g3 y0 y1 y2 y3; obtain ⟨⟨f0, f1, f2, f3⟩, z0, z1, z2, z3⟩ := S1.Blk4.facts b1; obtain ⟨⟨g0, g1, g2, g3⟩, y0, y1, y2, y3⟩ := b0.facts))
    have hfin := below_set4' hB (b := w.heap.size + 1) (by omega) (.int .u64 (S1.wd (spU (acc ++ [(c, d)])) 0)) (.int .u64 (S1.wd (spU (acc ++ [(c, d)])) 1)) (.int .u64 (S1.wd (spU (acc ++ [(c, d)])) 2)) (.int .u64 (S1.wd (spU (acc ++ [(c, d)])) 3))
    have hbx : SetBox _ (w.heap.size + 1) 24 (spU (acc ++ [(c, d)])) := S1.Blk4.set b1 (.int .u64 (S1.wd (spU (acc ++ [(c, d)])) 0)) (.int .u64 (S1.wd (spU (acc ++ [(c, d)])) 1)) (.int .u64 (S1.wd (spU (acc ++ [(c, d)])) 2)) (.int .u64 (S1.wd (spU (acc ++ [(c, d)])) 3))
    have hb0 := b0.other (b' := w.heap.size + 1) (by omega) (.int .u64 (S1.wd (spU (acc ++ [(c, d)])) 0)) (.int .u64 (S1.wd (spU (acc ++ [(c, d)])) 1)) (.int .u64 (S1.wd (spU (acc ++ [(c, d)])) 2)) (.int .u64 (S1.wd (spU (acc ++ [(c, d)])) 3))
    go_roundw
    case rel => exact ⟨m, acc ++ [(c, d)], ps, rfl, hn8, by rw [hne]; exact hps, by rw [← hP]; simp, hok2, hb0, hbx, hfin⟩
    case measure => simp [intOf]; omega
   | false =>
    have I := hid (fun w => is_in (s := s) (i := (k : Int)) (d := 93) (k := k) (c := 93) (r := false) rfl rfl hm (by simpa using h1) w)
    clear h1
    go_wp2_with (first | (go_at_call 85; (with_reducible refine (cE.out _).mono ?_); rintro e w1 ⟨rfl, h1⟩; replace b0 := b0.bel h1; replace b1 := S1.Blk4.bel b1 h1; replace hB := hB.trans (h1.mono hB.size); clear h1; clear f0 f1 f2 f3 z0 z1 z2 z3 g0 g1 g2 g3 y0 y1 y2 y3; obtain ⟨⟨f0, f1, f2, f3⟩, z0, z1, z2, z3⟩ := S1.Blk4.facts b1; obtain ⟨⟨g0, g1, g2, g3⟩, y0, y1, y2, y3⟩ := b0.facts) | (go_at_call 92; (with_reducible refine (I.out _).mono ?_); rintro e w1 ⟨rfl, rfl⟩) | (go_at_call 99; (with_reducible refine (cI.out _ hB).mono ?_); rintro e w1 ⟨rfl, h1⟩; replace b0 := b0.bel h1; replace b1 := S1.Blk4.bel b1 h1; replace hB := hB.trans (h1.mono hB.size); clear h1; replace b0 := b0.alloc (.cells #[.int .u64 (S1.wd (spU [(c, d)]) 0), .int .u64 (S1.wd (spU [(c, d)]) 1), .int .u64 (S1.wd (spU [(c, d)]) 2), .int .u64 (S1.wd (spU [(c, d)]) 3)] 24); replace b1 := S1.Blk4.alloc b1 (.cells #[.int .u64 (S1.wd (spU [(c, d)]) 0), .int .u64 (S1.wd (spU [(c, d)]) 1), .int .u64 (S1.wd (spU [(c, d)]) 2), .int .u64 (S1.wd (spU [(c, d)]) 3)] 24); replace hB := hB.alloc hB.size (.cells #[.int .u64 (S1.wd (spU [(c, d)]) 0), .int .u64 (S1.wd (spU [(c, d)]) 1), .int .u64 (S1.wd (spU [(c, d)]) 2), .int .u64 (S1.wd (spU [(c, d)]) 3)] 24); clear f0 f1 f2 f3 z0 z1 z2 z3 g0 g1 g2 g3 y0 y1 y2 y3; obtain ⟨⟨f0, f1, f2, f3⟩, z0, z1, z2, z3⟩ := S1.Blk4.facts b1; obtain ⟨⟨g0, g1, g2, g3⟩, y0, y1, y2, y3⟩ := b0.facts) | (go_at_call 100; (with_reducible refine (cO.out _).mono ?_); rintro e w2 ⟨rfl, h1⟩; replace b0 := b0.bel h1; replace b1 := S1.Blk4.bel b1 h1; replace hB := hB.trans (h1.mono hB.size); clear h1; clear f0 f1 f2 f3 z0 z1 z2 z3 g0 g1 g2 g3 y0 y1 y2 y3; obtain ⟨⟨f0, f1, f2, f3⟩, z0, z1, z2, z3⟩ := S1.Blk4.facts b1; obtain ⟨⟨g0, g1, g2, g3⟩, y0, y1, y2, y3⟩ := b0.facts))
    have hfin := below_set4' hB (b := w.heap.size + 1) (by omega) (.int .u64 (S1.wd (spU (acc ++ [(c, d)])) 0)) (.int .u64 (S1.wd (spU (acc ++ [(c, d)])) 1)) (.int .u64 (S1.wd (spU (acc ++ [(c, d)])) 2)) (.int .u64 (S1.wd (spU (acc ++ [(c, d)])) 3))
    have hbx : SetBox _ (w.heap.size + 1) 24 (spU (acc ++ [(c, d)])) := S1.Blk4.set b1 (.int .u64 (S1.wd (spU (acc ++ [(c, d)])) 0)) (.int .u64 (S1.wd (spU (acc ++ [(c, d)])) 1)) (.int .u64 (S1.wd (spU (acc ++ [(c, d)])) 2)) (.int .u64 (S1.wd (spU (acc ++ [(c, d)])) 3))
    have hb0 := b0.other (b' := w.heap.size + 1) (by omega) (.int .u64 (S1.wd (spU (acc ++ [(c, d)])) 0)) (.int .u64 (S1.wd (spU (acc ++ [(c, d)])) 1)) (.int .u64 (S1.wd (spU (acc ++ [(c, d)])) 2)) (.int .u64 (S1.wd (spU (acc ++ [(c, d)])) 3))
    go_roundw
    case rel => exact ⟨m, acc ++ [(c, d)], ps, rfl, hn8, by rw [hne]; exact hps, by rw [← hP]; simp, hok2, hb0, hbx, hfin⟩
    case measure => simp [intOf]; omega
end Go.Proofs.YtobbifhflnlplaaDoor.S6
namespace Go.Proofs.YtobbifhflnlplaaDoor.S6
open Lib (hid)
open Go.RowKit
open S5 (nl nl_length nl_small at_nl nl_at Rd Sp Gives Two errV)
open S1 (Blk4 SetBox wd noS oneS spanS orS notS spU eqB)
set_option maxRecDepth 10000 in
set_option maxHeartbeats 1000000 in
theorem bread_out {s : ByteArray} {i : Int} (hi : i < 0 ∨ (s.size : Int) ≤ i) (hm : s.size ≤ 99990) {E2 : Value} (w : World) (hE : w.cell? ⟨0, 0, none⟩ = some (.iface 135 E2)) :
  Gives 74 #[.string s, .int .i64 i] (.tuple #[(.agg #[.int .u64 0, .int .u64 0, .int .u64 0, .int .u64 0]), .int .i64 s.size, .iface 135 E2]) w := by
 have hg := World.block_lt_of_cell? _ _ hE
 unfold Gives
 obtain ⟨W, hW, hb, hB⟩ := S1.boxes1 w 24 (.int .u64 0) (.int .u64 0) (.int .u64 0) (.int .u64 0)
 have hE2 := (hB.cell (p := ⟨0, 0, none⟩) hg).trans hE
 obtain ⟨⟨g0, g1, g2, g3⟩, y0, y1, y2, y3⟩ := hb.facts
 rcases hi with hi | hi
 all_goals
  have gd : decide ((s.size : Int) ≤ i) = true ∨ decide (i < 0) = true := by simp; omega
  go_enter Tryd.func74, Tryd.ntmps74
  go_wp2
  all_goals first | (exfalso; omega) | skip
  all_goals
   go_region
   go_wp2
   obtain ⟨W3, hW3, hb3, hB3⟩ := stored hb hB (Nat.le_refl _) (.int .u64 0) (.int .u64 0) (.int .u64 0) (.int .u64 0)
   obtain ⟨⟨c0, c1, c2, c3⟩, -⟩ := hb3.facts
   rw [hW3]
   refine bodyPost_ret (v := .tuple #[(.agg #[.int .u64 0, .int .u64 0, .int .u64 0, .int .u64 0]), .int .i64 s.size, .iface 135 E2]) (by simp [results, Tryd.results74, go_sem, c0, c1, c2, c3]) rfl ?_
   first | exact ⟨rfl, hB3⟩ | exact ⟨rfl, hB3.drew⟩
set_option maxRecDepth 10000 in
set_option maxHeartbeats 1000000 in
theorem bread_other {s : ByteArray} {k c : Nat} (h0 : (nl s)[k]? = some c) (hc : c ≠ 91) (_ : s.size ≤ 99990) {E4 : Value} (w : World) (hE : w.cell? ⟨3, 0, none⟩ = some (.iface 135 E4)) :
  Gives 74 #[.string s, .int .i64 k] (.tuple #[(.agg #[.int .u64 0, .int .u64 0, .int .u64 0, .int .u64 0]), .int .i64 k, .iface 135 E4]) w := by
 have hg := World.block_lt_of_cell? _ _ hE
 obtain ⟨hlt, hat⟩ := at_nl h0
 have hx : ((c : Int) == 91) = false := by simp; omega
 have hx2 : ((c : Int) != 91) = true := by simp; omega
 clear h0 hc
 unfold Gives
 obtain ⟨W, hW, hb, hB⟩ := S1.boxes1 w 24 (.int .u64 0) (.int .u64 0) (.int .u64 0) (.int .u64 0)
 have hE2 := (hB.cell (p := ⟨3, 0, none⟩) hg).trans hE
 obtain ⟨⟨g0, g1, g2, g3⟩, y0, y1, y2, y3⟩ := hb.facts
 go_enter Tryd.func74, Tryd.ntmps74
 go_wp2
 go_region
 go_wp2
 obtain ⟨W3, hW3, hb3, hB3⟩ := stored hb hB (Nat.le_refl _) (.int .u64 0) (.int .u64 0) (.int .u64 0) (.int .u64 0)
 obtain ⟨⟨c0, c1, c2, c3⟩, -⟩ := hb3.facts
 rw [hW3]
 refine bodyPost_ret (v := .tuple #[(.agg #[.int .u64 0, .int .u64 0, .int .u64 0, .int .u64 0]), .int .i64 k, .iface 135 E4]) (by simp [results, Tryd.results74, go_sem, c0, c1, c2, c3]) rfl ?_
 first | exact ⟨rfl, hB3⟩ | exact ⟨rfl, hB3.drew⟩
set_option maxRecDepth 10000 in
set_option maxHeartbeats 1000000 in
theorem bread_pos {s : ByteArray} {k : Nat} {q0 q1 q2 q3 t : Int} {V : Value} (h0 : (nl s)[k]? = some 91) (hn : (nl s)[k + 1]? ≠ some 94) (hm : s.size ≤ 99990) (w : World) (C : ∀ w', Below w.heap.size w w' → Gives 93 #[.string s, .int .i64 (k + 1)] (.tuple #[.agg #[.int .u64 q0, .int .u64 q1, .int .u64 q2, .int .u64 q3], .int .i64 t, V]) w') :
  Gives 74 #[.string s, .int .i64 k] (.tuple #[.agg #[.int .u64 q0, .int .u64 q1, .int .u64 q2, .int .u64 q3], .int .i64 t, V]) w := by
 obtain ⟨hlt, hat⟩ := at_nl h0
 have I := hid (fun w => is_in (s := s) (i := (k : Int) + 1) (d := 94) (k := k + 1) (c := 94) (r := false) rfl rfl hm (by simp [hn]) w)
 unfold Gives at C ⊢
 replace C := hid C
 clear h0 hn
 go_enter Tryd.func74, Tryd.ntmps74
 go_wp2_with fail
 obtain ⟨W, hW, hb, hB⟩ := S1.boxes1 w 24 (.int .u64 0) (.int .u64 0) (.int .u64 0) (.int .u64 0)
 rw [hW]
 clear hW
 obtain ⟨⟨g0, g1, g2, g3⟩, y0, y1, y2, y3⟩ := hb.facts
 go_wp2_with (first | (go_at_call 92; (with_reducible refine (I.out _).mono ?_); rintro e w1 ⟨rfl, rfl⟩) | (go_at_call 93; (with_reducible refine (C.out _ hB).mono ?_); rintro e w1 ⟨rfl, h1⟩; replace hb := hb.bel h1; replace hB := hB.trans (h1.mono hB.size); clear h1; clear g0 g1 g2 g3 y0 y1 y2 y3; obtain ⟨⟨g0, g1, g2, g3⟩, y0, y1, y2, y3⟩ := hb.facts))
 obtain ⟨W3, hW3, hb3, hB3⟩ := stored hb hB (Nat.le_refl _) (.int .u64 q0) (.int .u64 q1) (.int .u64 q2) (.int .u64 q3)
 obtain ⟨⟨c0, c1, c2, c3⟩, -⟩ := hb3.facts
 rw [hW3]
 refine bodyPost_ret (v := .tuple #[.agg #[.int .u64 q0, .int .u64 q1, .int .u64 q2, .int .u64 q3], .int .i64 t, V]) (by simp [results, Tryd.results74, go_sem, c0, c1, c2, c3]) rfl ?_
 first | exact ⟨rfl, hB3⟩ | exact ⟨rfl, hB3.drew⟩
set_option maxRecDepth 10000 in
set_option maxHeartbeats 1000000 in
theorem bread_bad {s : ByteArray} {k : Nat} {t : Int} {V : Value} (h0 : (nl s)[k]? = some 91) (hn : (nl s)[k + 1]? = some 94) (hm : s.size ≤ 99990) (w : World) (C : ∀ w', Below w.heap.size w w' → Gives 93 #[.string s, .int .i64 (k + 2)] (.tuple #[(.agg #[.int .u64 0, .int .u64 0, .int .u64 0, .int .u64 0]), .int .i64 t, .iface 135 V]) w') :
  Gives 74 #[.string s, .int .i64 k] (.tuple #[(.agg #[.int .u64 0, .int .u64 0, .int .u64 0, .int .u64 0]), .int .i64 t, .iface 135 V]) w := by
 obtain ⟨hlt, hat⟩ := at_nl h0
 have hlt2 := len_le hn
 have I := hid (fun w => is_in (s := s) (i := (k : Int) + 1) (d := 94) (k := k + 1) (c := 94) (r := true) rfl rfl hm (by simp [hn]) w)
 unfold Gives at C ⊢
 replace C := hid C
 clear h0 hn
 go_enter Tryd.func74, Tryd.ntmps74
 go_wp2_with fail
 obtain ⟨W, hW, hb, hB⟩ := S1.boxes1 w 24 (.int .u64 0) (.int .u64 0) (.int .u64 0) (.int .u64 0)
 rw [hW]
 clear hW
 obtain ⟨⟨g0, g1, g2, g3⟩, y0, y1, y2, y3⟩ := hb.facts
 go_wp2_with (first | (go_at_call 92; (with_reducible refine (I.out _).mono ?_); rintro e w1 ⟨rfl, rfl⟩) | (go_at_call 93; (with_reducible refine (C.out _ hB).mono ?_); rintro e w1 ⟨rfl, h1⟩; replace hb := hb.bel h1; replace hB := hB.trans (h1.mono hB.size); clear h1; replace hb := hb.alloc (.cells #[.int .u64 0, .int .u64 0, .int .u64 0, .int .u64 0] 24); replace hB := hB.alloc hB.size (.cells #[.int .u64 0, .int .u64 0, .int .u64 0, .int .u64 0] 24); clear g0 g1 g2 g3 y0 y1 y2 y3; obtain ⟨⟨g0, g1, g2, g3⟩, y0, y1, y2, y3⟩ := hb.facts))
 obtain ⟨W3, hW3, hb3, hB3⟩ := stored hb hB (Nat.le_refl _) (.int .u64 0) (.int .u64 0) (.int .u64 0) (.int .u64 0)
 obtain ⟨⟨c0, c1, c2, c3⟩, -⟩ := hb3.facts
 rw [hW3]
 refine bodyPost_ret (v := .tuple #[(.agg #[.int .u64 0, .int .u64 0, .int .u64 0, .int .u64 0]), .int .i64 t, .iface 135 V]) (by simp [results, Tryd.results74, go_sem, c0, c1, c2, c3]) rfl ?_
 first | exact ⟨rfl, hB3⟩ | exact ⟨rfl, hB3.drew⟩
set_option maxRecDepth 10000 in
set_option maxHeartbeats 1000000 in
theorem bread_not {s : ByteArray} {k : Nat} {t : Int} {f : Nat → Bool} (h0 : (nl s)[k]? = some 91) (hn : (nl s)[k + 1]? = some 94) (hm : s.size ≤ 99990) (w : World) (C : ∀ w', Below w.heap.size w w' → Gives 93 #[.string s, .int .i64 (k + 2)] (.tuple #[(.agg #[.int .u64 (S1.wd (f) 0), .int .u64 (S1.wd (f) 1), .int .u64 (S1.wd (f) 2), .int .u64 (S1.wd (f) 3)]), .int .i64 t, .nilIface]) w') :
  Gives 74 #[.string s, .int .i64 k] (.tuple #[(.agg #[.int .u64 (S1.wd (notS f) 0), .int .u64 (S1.wd (notS f) 1), .int .u64 (S1.wd (notS f) 2), .int .u64 (S1.wd (notS f) 3)]), .int .i64 t, .nilIface]) w := by
 obtain ⟨hlt, hat⟩ := at_nl h0
 have hlt2 := len_le hn
 have I := hid (fun w => is_in (s := s) (i := (k : Int) + 1) (d := 94) (k := k + 1) (c := 94) (r := true) rfl rfl hm (by simp [hn]) w)
 have O := hid (fun w => S1.not_in f w)
 unfold Gives at C ⊢
 replace C := hid C
 clear h0 hn
 go_enter Tryd.func74, Tryd.ntmps74
 go_wp2_with fail
 obtain ⟨W, hW, hb, hB⟩ := S1.boxes1 w 24 (.int .u64 0) (.int .u64 0) (.int .u64 0) (.int .u64 0)
 rw [hW]
 clear hW
 obtain ⟨⟨g0, g1, g2, g3⟩, y0, y1, y2, y3⟩ := hb.facts
 go_wp2_with (first | (go_at_call 92; (with_reducible refine (I.out _).mono ?_); rintro e w1 ⟨rfl, rfl⟩) | (go_at_call 93; (with_reducible refine (C.out _ hB).mono ?_); rintro e w1 ⟨rfl, h1⟩; replace hb := hb.bel h1; replace hB := hB.trans (h1.mono hB.size); clear h1; replace hb := hb.alloc (.cells #[.int .u64 (S1.wd (f) 0), .int .u64 (S1.wd (f) 1), .int .u64 (S1.wd (f) 2), .int .u64 (S1.wd (f) 3)] 24); replace hB := hB.alloc hB.size (.cells #[.int .u64 (S1.wd (f) 0), .int .u64 (S1.wd (f) 1), .int .u64 (S1.wd (f) 2), .int .u64 (S1.wd (f) 3)] 24); clear g0 g1 g2 g3 y0 y1 y2 y3; obtain ⟨⟨g0, g1, g2, g3⟩, y0, y1, y2, y3⟩ := hb.facts) | (go_at_call 91; (with_reducible refine (O.out _).mono ?_); rintro e w1 ⟨rfl, h1⟩; replace hb := hb.bel h1; replace hB := hB.trans (h1.mono hB.size); clear h1; clear g0 g1 g2 g3 y0 y1 y2 y3; obtain ⟨⟨g0, g1, g2, g3⟩, y0, y1, y2, y3⟩ := hb.facts))
 obtain ⟨W3, hW3, hb3, hB3⟩ := stored hb hB (Nat.le_refl _) (.int .u64 (S1.wd (notS f) 0)) (.int .u64 (S1.wd (notS f) 1)) (.int .u64 (S1.wd (notS f) 2)) (.int .u64 (S1.wd (notS f) 3))
 obtain ⟨⟨c0, c1, c2, c3⟩, -⟩ := hb3.facts
 rw [hW3]
 refine bodyPost_ret (v := .tuple #[(.agg #[.int .u64 (S1.wd (notS f) 0), .int .u64 (S1.wd (notS f) 1), .int .u64 (S1.wd (notS f) 2), .int .u64 (S1.wd (notS f) 3)]), .int .i64 t, .nilIface]) (by simp [results, Tryd.results74, go_sem, c0, c1, c2, c3]) rfl ?_
 first | exact ⟨rfl, hB3⟩ | exact ⟨rfl, hB3.drew⟩

theorem bread_in {s : ByteArray} (hm : s.size ≤ 99990) {E1 E2 E4 : Value} {i : Int} {f : Nat → Bool} {t : Int} {e : Nat} (h : Br (nl s) i f t e) (w : World) (hT : Thr w E1 E2 E4) :
  Gives 74 #[.string s, .int .i64 i] (outV E1 E2 E4 f t e) w := by
 have hn := nl_length s
 cases h with
 | outside _ h1 => rw [hn] at h1 ⊢; exact bread_out h1 hm w hT.two.short
 | other k c h1 h2 => exact bread_other h1 h2 hm w hT.two.form
 | ok k ps _ h1 h2 h3 => 
  refine bread_pos h1 h2 hm w fun w' hb => ?_
  have := items_in hm (E1 := E1) (E2 := E2) (E4 := E4) h3 (by have := len_le h1; omega) w' (hT.bel hb)
  exact this
 | okNot k ps _ h1 h2 h3 =>
  refine bread_not h1 h2 hm w fun w' hb => ?_
  have := items_in hm (E1 := E1) (E2 := E2) (E4 := E4) h3 (by have := len_le h2; omega) w' (hT.bel hb)
  exact this
 | bad k ps _ _ h1 h2 h3 h4 =>
  rw [outV_err _ _ _ _ _ h4]
  refine bread_pos h1 h2 hm w fun w' hb => ?_
  have := items_in hm (E1 := E1) (E2 := E2) (E4 := E4) h3 (by have := len_le h1; omega) w' (hT.bel hb)
  rw [outV_err _ _ _ _ _ h4] at this
  exact this
 | badNot k ps _ _ h1 h2 h3 h4 =>
  rw [outV_err _ _ _ _ _ h4]
  refine bread_bad h1 h2 hm w fun w' hb => ?_
  have := items_in hm (E1 := E1) (E2 := E2) (E4 := E4) h3 (by have := len_le h2; omega) w' (hT.bel hb)
  rw [outV_err _ _ _ _ _ h4] at this
  exact this
end Go.Proofs.YtobbifhflnlplaaDoor.S6
