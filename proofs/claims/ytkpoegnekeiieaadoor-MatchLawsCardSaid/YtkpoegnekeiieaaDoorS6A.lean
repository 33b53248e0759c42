/- Texts merged: S6M, S6W1, S6W2. -/

import Derived.Test.YtkpoegnekeiieaaDoorS5A
import Derived.Test.YtkpoegnekeiieaaDoorS1C
namespace Go.Proofs.YtkpoegnekeiieaaDoor.S6
open Go.RowKit
open S5 (Rd Sp)
open S1 (spU)

/-! ### Reading -/
/-- What stands in brackets only behind a backslash. -/
def Bare (c : Nat) : Prop := c = 91 ∨ c = 93 ∨ c = 45 ∨ c = 47
instance (c : Nat) : Decidable (Bare c) := by unfold Bare; infer_instance
/-- One byte of an item. -/
inductive One (l : List Nat) : Nat → Nat → Int → Nat → Prop
  | bare (k c : Nat) : l[k]? = some c → Bare c → One l k 0 k 4
  | rd (k c : Nat) (t : Int) (e : Nat) : (∀ x, l[k]? = some x → ¬ Bare x) → Rd l k c t e → One l k c t e
theorem rd_next {l : List Nat} {k c : Nat} {t : Int} (h : Rd l k c t 0) : ∃ n : Nat, t = n ∧ k < n ∧ n ≤ l.length := by
  have lt : ∀ {j u : Nat}, l[j]? = some u → j < l.length := fun h => (List.getElem?_eq_some_iff.1 h).1
  generalize hi : (k : Int) = i at h
  generalize he : (0 : Nat) = e at h
  cases h with
  | outside => cases he
  | plain j c h1 h2 => have := lt h1; exact ⟨j + 1, by omega, by omega, by omega⟩
  | ends1 => cases he
  | blank j c d h1 h2 h3 => have := lt h2; exact ⟨j + 2, by omega, by omega, by omega⟩
  | ends2 => cases he
  | bad2 => cases he
  | ends3 => cases he
  | bad3 => cases he
  | hex j c d b e h1 h2 h3 h4 h5 h6 => have := lt h5; exact ⟨j + 4, by omega, by omega, by omega⟩
  | sign j c h1 h2 h3 => have := lt h2; exact ⟨j + 2, by omega, by omega, by omega⟩
  | bad1 => cases he
theorem rd_small {l : List Nat} (hl : ∀ x ∈ l, x ≤ 255) {i : Int} {c : Nat} {t : Int} {e : Nat} (h : Rd l i c t e) : c ≤ 255 := by
  have m : ∀ {j u : Nat}, l[j]? = some u → u ≤ 255 := fun h => hl _ (List.mem_of_getElem? h)
  cases h with
  | plain j c h1 h2 => exact m h1
  | blank j c d h1 h2 h3 => simp at h3; omega
  | hex j c d b e h1 h2 h3 h4 h5 h6 => have := S5.fig_range h4; have := S5.fig_range h6; omega
  | sign j c h1 h2 h3 => exact m h2
  | _ => omega
theorem one_next {l : List Nat} {k c : Nat} {t : Int} (h : One l k c t 0) : ∃ n : Nat, t = n ∧ k < n ∧ n ≤ l.length := by
  generalize he : (0 : Nat) = e at h
  cases h with
  | bare => cases he
  | rd _ _ _ _ h2 => subst he; exact rd_next h2
theorem one_small {l : List Nat} (hl : ∀ x ∈ l, x ≤ 255) {k c : Nat} {t : Int} {e : Nat} (h : One l k c t e) : c ≤ 255 := by
  cases h with
  | bare => omega
  | rd _ _ _ _ h2 => exact rd_small hl h2
theorem one_err {l : List Nat} {k c : Nat} {t : Int} {e : Nat} (h : One l k c t e) : e = 0 ∨ e = 2 ∨ e = 4 := by
  cases h with
  | bare => simp
  | rd _ _ _ _ h2 => cases h2 <;> simp
/-- The items from a place on, the place behind (or of the fault), the error's number; b: none was read yet. -/
inductive Its (l : List Nat) : Bool → Nat → List (Nat × Nat) → Int → Nat → Prop
  | close (k : Nat) : l[k]? = some 93 → Its l false k [] (k + 1) 0
  | bad1 (b : Bool) (k : Nat) (t : Int) (e : Nat) : (b = true ∨ l[k]? ≠ some 93) → One l k 0 t e → e ≠ 0 → Its l b k [] t e
  | one (b : Bool) (k c n : Nat) (ps : List (Nat × Nat)) (t : Int) (e : Nat) : (b = true ∨ l[k]? ≠ some 93) → One l k c n 0 → l[n]? ≠ some 45 → Its l false n ps t e → Its l b k ((c, c) :: ps) t e
  | bad2 (b : Bool) (k c n : Nat) (t : Int) (e : Nat) : (b = true ∨ l[k]? ≠ some 93) → One l k c n 0 → l[n]? = some 45 → One l (n + 1) 0 t e → e ≠ 0 → Its l b k [] t e
  | down (b : Bool) (k c n d : Nat) (m : Nat) : (b = true ∨ l[k]? ≠ some 93) → One l k c n 0 → l[n]? = some 45 → One l (n + 1) d m 0 → d < c → Its l b k [] (n + 1) 1
  | span (b : Bool) (k c n d m : Nat) (ps : List (Nat × Nat)) (t : Int) (e : Nat) : (b = true ∨ l[k]? ≠ some 93) → One l k c n 0 → l[n]? = some 45 → One l (n + 1) d m 0 → c ≤ d → Its l false m ps t e → Its l b k ((c, d) :: ps) t e
/-- The set of items; turned. -/
def res (neg : Bool) (ps : List (Nat × Nat)) : Nat → Bool := if neg then S1.notS (spU ps) else spU ps
/-- At a place: the bracket expression's set, the place behind (or of the fault), the error's number. -/
inductive Br (l : List Nat) : Int → (Nat → Bool) → Int → Nat → Prop
  | outside (i : Int) : (i < 0 ∨ (l.length : Int) ≤ i) → Br l i S1.noS l.length 2
  | other (k c : Nat) : l[k]? = some c → c ≠ 91 → Br l k S1.noS k 4
  | ok (k : Nat) (ps : List (Nat × Nat)) (t : Int) : l[k]? = some 91 → l[k + 1]? ≠ some 94 → Its l true (k + 1) ps t 0 → Br l k (res false ps) t 0
  | okNot (k : Nat) (ps : List (Nat × Nat)) (t : Int) : l[k]? = some 91 → l[k + 1]? = some 94 → Its l true (k + 2) ps t 0 → Br l k (res true ps) t 0
  | bad (k : Nat) (ps : List (Nat × Nat)) (t : Int) (e : Nat) : l[k]? = some 91 → l[k + 1]? ≠ some 94 → Its l true (k + 1) ps t e → e ≠ 0 → Br l k S1.noS t e
  | badNot (k : Nat) (ps : List (Nat × Nat)) (t : Int) (e : Nat) : l[k]? = some 91 → l[k + 1]? = some 94 → Its l true (k + 2) ps t e → e ≠ 0 → Br l k S1.noS t e
/-! ### Writing -/
open S5 in
/-- How a byte is written in brackets. -/
def pi (c : Nat) : List Nat :=
  if c = 10 then [92, 110] else if c = 9 then [92, 116] else if c = 13 then [92, 114] else if c = 32 then [92, 115]
  else if c ∈ inn then [92, c] else if 33 ≤ c ∧ c ≤ 126 then [c] else [92, 120, hx (c / 16), hx (c % 16)]
/-- The items of a range. -/
def itm (p : Nat × Nat) : List Nat := pi p.1 ++ (if p.1 + 1 < p.2 then [45] else []) ++ (if p.1 < p.2 then pi p.2 else [])
def itms (ps : List (Nat × Nat)) : List Nat := ps.flatMap itm
/-! ### A set's text -/
open S1 in
/-- Is it written turned? -/
def neg (f : Nat → Bool) : Bool := (el f 256).length == 0 || (decide (128 < (el f 256).length) && decide ((el f 256).length < 256))
open S1 in
/-- The ranges that are written. -/
def rng (f : Nat → Bool) : List (Nat × Nat) := spAll (el (if neg f then notS f else f) 256)
def txtB (f : Nat → Bool) : List Nat := [91] ++ (if neg f then [94] else []) ++ itms (rng f) ++ [93]
end Go.Proofs.YtkpoegnekeiieaaDoor.S6
namespace Go.Proofs.YtkpoegnekeiieaaDoor.S6
open Go.RowKit
open S5 (nl nl_length nl_small at_nl nl_at Rd Sp Gives Two errV ix ix_no ix_yes idx_at)

theorem is_in {s : ByteArray} {i d : Int} {k c : Nat} (hi : i = k) (hd : d = c) (_ : s.size ≤ 99990) {r : Bool} (hr : r = true ↔ (nl s)[k]? = some c) (w : World) :
    Calls Tryd.prog 92 #[.string s, .int .i64 i, .int .u8 d] w fun e w' => e = .returned (.bool r) ∧ w = w' := by
  subst hi hd
  by_cases hk : k < s.size
  · have hat := nl_at s k hk
    obtain ⟨x, hx⟩ : ∃ x, (s[k]).toNat = x := ⟨_, rfl⟩
    rw [hx] at hat
    rw [hat] at hr
    have e : ((x : Int) == (c : Int)) = r := by
      rw [Bool.eq_iff_iff, hr]
      simp
      omega
    clear hr hat
    go_enter Tryd.func92, Tryd.ntmps92
    go_wp2
    go_ret
    exact ⟨ret_bool (by simp), rfl⟩
  · have hn : (nl s)[k]? = none := List.getElem?_eq_none (by rw [nl_length]; omega)
    rw [hn] at hr
    have e : r = false := by cases r <;> simp_all
    subst e
    clear hr hn
    go_enter Tryd.func92, Tryd.ntmps92
    go_wp2
    go_ret
    exact ⟨rfl, rfl⟩
abbrev barB : ByteArray := ⟨#[91, 93, 45, 47]⟩
theorem nl_bar : nl barB = [91, 93, 45, 47] := by decide
theorem single_bare {s : ByteArray} {k c : Nat} (h0 : (nl s)[k]? = some c) (hb : Bare c) (_ : s.size ≤ 99990) {E2 E4 : Value} (w : World) (hT : Two w E2 E4) :
    Gives 103 #[.string s, .int .i64 k] (.tuple #[.int .u8 0, .int .i64 k, .iface 135 E4]) w := by
  obtain ⟨hlt, hat⟩ := at_nl h0
  have hf := hT.form
  have hi : 0 ≤ ix barB c := ix_yes (by rw [nl_bar]; unfold Bare at hb; simp; omega)
  have c1 := Lib.hid (fun w => idx_at barB c w _ rfl)
  generalize ix barB c = i at *
  clear hT h0 hb
  unfold Gives
  go_enter Tryd.func103, Tryd.ntmps103
  go_wp2_with (go_at_call 68; (with_reducible refine (c1.out _).mono ?_); rintro e w' ⟨rfl, rfl⟩)
  go_quiet (fail)
  go_wp2
  refine bodyPost_ret (v := .tuple #[.int .u8 0, .int .i64 k, .iface 135 E4]) (by simp [results, Tryd.results103, go_sem]) rfl ?_
  exact ⟨rfl, below_drewN (Below.refl _ _) _⟩
theorem single_rd {s : ByteArray} {k : Nat} {x y z : Value} (hn : ∀ x, (nl s)[k]? = some x → ¬ Bare x) (_ : s.size ≤ 99990) (w : World) (hC : Gives 75 #[.string s, .int .i64 k] (.tuple #[x, y, z]) w) :
    Gives 103 #[.string s, .int .i64 k] (.tuple #[x, y, z]) w := by
  unfold Gives at hC ⊢
  have C := Lib.hid hC
  clear hC
  by_cases hk : k < s.size
  · have hat := nl_at s k hk
    obtain ⟨c, hx⟩ : ∃ c, (s[k]).toNat = c := ⟨_, rfl⟩
    rw [hx] at hat
    have hcs : c ≤ 255 := nl_small s c (List.mem_of_getElem? hat)
    have hb := hn c hat
    have c1 := Lib.hid (fun w => idx_at barB c w (-1) (ix_no hcs (by rw [nl_bar]; unfold Bare at hb; simp; omega)))
    clear hn hat hb
    go_enter Tryd.func103, Tryd.ntmps103
    go_wp2_with (first | (go_at_call 68; (with_reducible refine (c1.out _).mono ?_); rintro e w' ⟨rfl, rfl⟩) | (go_at_call 75; (with_reducible refine C.out.mono ?_); rintro e w' ⟨rfl, hb⟩))
    refine bodyPost_ret (v := .tuple #[x, y, z]) (by simp [results, Tryd.results103, go_sem]) rfl ?_
    exact ⟨rfl, hb⟩
  · clear hn
    go_enter Tryd.func103, Tryd.ntmps103
    go_wp2_with (go_at_call 75; (with_reducible refine C.out.mono ?_); rintro e w' ⟨rfl, hb⟩)
    refine bodyPost_ret (v := .tuple #[x, y, z]) (by simp [results, Tryd.results103, go_sem]) rfl ?_
    exact ⟨rfl, hb⟩
theorem single_in {s : ByteArray} {k c : Nat} {t : Int} {e : Nat} (h : One (nl s) k c t e) (hm : s.size ≤ 99990) {E2 E4 : Value} (w : World) (hT : Two w E2 E4) :
    Gives 103 #[.string s, .int .i64 k] (.tuple #[.int .u8 c, .int .i64 t, errV E2 E4 e]) w := by
  cases h with
  | bare _ h1 h2 => exact single_bare h1 h2 hm w hT
  | rd _ _ _ h1 h2 => exact single_rd h1 hm w (S5.read_in h2 hm w hT)
end Go.Proofs.YtkpoegnekeiieaaDoor.S6
namespace Go.Proofs.YtkpoegnekeiieaaDoor.S6
open Go.RowKit
open S5 (nl nl_length nl_small at_nl nl_at Rd Sp Gives Two errV)
open S1 (Blk4 wd noS oneS spanS)
theorem stored {w a : World} {b B : Nat} {t : TypeId} {v0 v1 v2 v3 : Value} (h : Blk4 w b t v0 v1 v2 v3) (hb : Below B a w) (hB : B ≤ b) (u0 u1 u2 u3 : Value) :
    ∃ W, (((w.setCell ⟨b, 0, none⟩ u0).setCell ⟨b, 1, none⟩ u1).setCell ⟨b, 2, none⟩ u2).setCell ⟨b, 3, none⟩ u3 = W ∧ Blk4 W b t u0 u1 u2 u3 ∧ Below B a W :=
  ⟨_, rfl, h.set u0 u1 u2 u3, S1.below_set4 hb hB u0 u1 u2 u3⟩
theorem len_le {s : ByteArray} {k c : Nat} (h : (nl s)[k]? = some c) : k < s.size := (at_nl h).1
set_option maxRecDepth 10000 in
set_option maxHeartbeats 1000000 in
theorem item_bad1 {s : ByteArray} {k : Nat} {t : Int} {V : Value} (w : World) (C : ∀ w', Below w.heap.size w w' → Gives 103 #[.string s, .int .i64 k] (.tuple #[.int .u8 0, .int .i64 t, .iface 135 V]) w') :
    Gives 99 #[.string s, .int .i64 k] (.tuple #[(.agg #[.int .u64 0, .int .u64 0, .int .u64 0, .int .u64 0]), .int .i64 t, .iface 135 V]) w := by
  unfold Gives at *
  have C := Lib.hid C
  go_enter Tryd.func99, Tryd.ntmps99
  go_wp2_with fail
  obtain ⟨W, hW, hb, hB⟩ := S1.boxes1 w 24 (.int .u64 0) (.int .u64 0) (.int .u64 0) (.int .u64 0)
  rw [hW]
  replace C := Lib.hid (C.out W hB)
  clear hW
  go_wp2_with (go_at_call 103; (with_reducible refine C.out.mono ?_); rintro e w1 ⟨rfl, h1⟩; replace hb := hb.bel h1; replace hB := hB.trans (h1.mono hB.size); clear h1; obtain ⟨⟨y0, y1, y2, y3⟩, z0, z1, z2, z3⟩ := hb.facts)
  obtain ⟨W3, hW3, hb3, hB3⟩ := stored hb hB (Nat.le_refl _) (.int .u64 0) (.int .u64 0) (.int .u64 0) (.int .u64 0)
  obtain ⟨⟨c0, c1, c2, c3⟩, -⟩ := hb3.facts
  rw [hW3]
  refine bodyPost_ret (v := .tuple #[(.agg #[.int .u64 0, .int .u64 0, .int .u64 0, .int .u64 0]), .int .i64 t, .iface 135 V]) (by simp [results, Tryd.results99, go_sem, c0, c1, c2, c3]) rfl ?_
  first | exact ⟨rfl, hB3⟩ | exact ⟨rfl, hB3.drew⟩
set_option maxRecDepth 10000 in
set_option maxHeartbeats 1000000 in
theorem item_one {s : ByteArray} {k n c : Nat} (hc : c ≤ 255) (hm : s.size ≤ 99990) (hn : (nl s)[n]? ≠ some 45) (w : World) (C : ∀ w', Below w.heap.size w w' → Gives 103 #[.string s, .int .i64 k] (.tuple #[.int .u8 c, .int .i64 n, .nilIface]) w') :
    Gives 99 #[.string s, .int .i64 k] (.tuple #[(.agg #[.int .u64 (S1.wd (oneS c) 0), .int .u64 (S1.wd (oneS c) 1), .int .u64 (S1.wd (oneS c) 2), .int .u64 (S1.wd (oneS c) 3)]), .int .i64 n, .nilIface]) w := by
  have I := Lib.hid (fun w => is_in (s := s) (i := (n : Int)) (d := 45) (k := n) (c := 45) (r := false) rfl rfl hm (by simp [hn]) w)
  have O := Lib.hid (fun w => S1.one_in c hc w)
  clear hn
  unfold Gives at *
  have C := Lib.hid C
  go_enter Tryd.func99, Tryd.ntmps99
  go_wp2_with fail
  obtain ⟨W, hW, hb, hB⟩ := S1.boxes1 w 24 (.int .u64 0) (.int .u64 0) (.int .u64 0) (.int .u64 0)
  rw [hW]
  replace C := Lib.hid (C.out W hB)
  clear hW
  go_wp2_with (first | (go_at_call 103; (with_reducible refine C.out.mono ?_); rintro e w1 ⟨rfl, h1⟩; replace hb := hb.bel h1; replace hB := hB.trans (h1.mono hB.size); clear h1; obtain ⟨⟨y0, y1, y2, y3⟩, z0, z1, z2, z3⟩ := hb.facts) | (go_at_call 92; (with_reducible refine (I.out _).mono ?_); rintro e w1 ⟨rfl, rfl⟩) | (go_at_call 76; (with_reducible refine (O.out _).mono ?_); rintro e w1 ⟨rfl, h1⟩; replace hb := hb.bel h1; replace hB := hB.trans (h1.mono hB.size); clear h1; obtain ⟨⟨y0, y1, y2, y3⟩, z0, z1, z2, z3⟩ := hb.facts))
  obtain ⟨W3, hW3, hb3, hB3⟩ := stored hb hB (Nat.le_refl _) (.int .u64 (S1.wd (oneS c) 0)) (.int .u64 (S1.wd (oneS c) 1)) (.int .u64 (S1.wd (oneS c) 2)) (.int .u64 (S1.wd (oneS c) 3))
  obtain ⟨⟨c0, c1, c2, c3⟩, -⟩ := hb3.facts
  rw [hW3]
  refine bodyPost_ret (v := .tuple #[(.agg #[.int .u64 (S1.wd (oneS c) 0), .int .u64 (S1.wd (oneS c) 1), .int .u64 (S1.wd (oneS c) 2), .int .u64 (S1.wd (oneS c) 3)]), .int .i64 n, .nilIface]) (by simp [results, Tryd.results99, go_sem, c0, c1, c2, c3]) rfl ?_
  first | exact ⟨rfl, hB3⟩ | exact ⟨rfl, hB3.drew⟩
set_option maxRecDepth 10000 in
set_option maxHeartbeats 1000000 in
theorem item_bad2 {s : ByteArray} {k n c : Nat} {t : Int} {V : Value} (hm : s.size ≤ 99990) (hn : (nl s)[n]? = some 45) (w : World) (C : ∀ w', Below w.heap.size w w' → Gives 103 #[.string s, .int .i64 k] (.tuple #[.int .u8 c, .int .i64 n, .nilIface]) w')
    (C2 : ∀ w', Below w.heap.size w w' → Gives 103 #[.string s, .int .i64 (n + 1)] (.tuple #[.int .u8 0, .int .i64 t, .iface 135 V]) w') :
    Gives 99 #[.string s, .int .i64 k] (.tuple #[(.agg #[.int .u64 0, .int .u64 0, .int .u64 0, .int .u64 0]), .int .i64 t, .iface 135 V]) w := by
  have I := Lib.hid (fun w => is_in (s := s) (i := (n : Int)) (d := 45) (k := n) (c := 45) (r := true) rfl rfl hm (by simp [hn]) w)
  have hlt := len_le hn
  clear hn
  unfold Gives at *
  have C2 := Lib.hid C2
  have C := Lib.hid C
  go_enter Tryd.func99, Tryd.ntmps99
  go_wp2_with fail
  obtain ⟨W, hW, hb, hB⟩ := S1.boxes1 w 24 (.int .u64 0) (.int .u64 0) (.int .u64 0) (.int .u64 0)
  rw [hW]
  replace C := Lib.hid (C.out W hB)
  clear hW
  go_wp2_with (first | (go_at_call 103; (with_reducible refine C.out.mono ?_); rintro e w1 ⟨rfl, h1⟩; replace hb := hb.bel h1; replace hB := hB.trans (h1.mono hB.size); clear h1; obtain ⟨⟨y0, y1, y2, y3⟩, z0, z1, z2, z3⟩ := hb.facts) | (go_at_call 92; (with_reducible refine (I.out _).mono ?_); rintro e w1 ⟨rfl, rfl⟩) | (go_at_call 103; (with_reducible refine (C2.out _ hB).mono ?_); rintro e w1 ⟨rfl, h1⟩; replace hb := hb.bel h1; replace hB := hB.trans (h1.mono hB.size); clear h1; obtain ⟨⟨y0, y1, y2, y3⟩, z0, z1, z2, z3⟩ := hb.facts))
  obtain ⟨W3, hW3, hb3, hB3⟩ := stored hb hB (Nat.le_refl _) (.int .u64 0) (.int .u64 0) (.int .u64 0) (.int .u64 0)
  obtain ⟨⟨c0, c1, c2, c3⟩, -⟩ := hb3.facts
  rw [hW3]
  refine bodyPost_ret (v := .tuple #[(.agg #[.int .u64 0, .int .u64 0, .int .u64 0, .int .u64 0]), .int .i64 t, .iface 135 V]) (by simp [results, Tryd.results99, go_sem, c0, c1, c2, c3]) rfl ?_
  first | exact ⟨rfl, hB3⟩ | exact ⟨rfl, hB3.drew⟩
set_option maxRecDepth 10000 in
set_option maxHeartbeats 1000000 in
theorem item_down {s : ByteArray} {k n c d m : Nat} {E1 : Value} (_ : c ≤ 255) (hd : d < c) (hm : s.size ≤ 99990) (hn : (nl s)[n]? = some 45) (w : World) (hE : w.cell? ⟨4, 0, none⟩ = some (.iface 135 E1)) (C : ∀ w', Below w.heap.size w w' → Gives 103 #[.string s, .int .i64 k] (.tuple #[.int .u8 c, .int .i64 n, .nilIface]) w')
    (C2 : ∀ w', Below w.heap.size w w' → Gives 103 #[.string s, .int .i64 (n + 1)] (.tuple #[.int .u8 d, .int .i64 m, .nilIface]) w') :
    Gives 99 #[.string s, .int .i64 k] (.tuple #[(.agg #[.int .u64 0, .int .u64 0, .int .u64 0, .int .u64 0]), .int .i64 (n + 1), .iface 135 E1]) w := by
  have I := Lib.hid (fun w => is_in (s := s) (i := (n : Int)) (d := 45) (k := n) (c := 45) (r := true) rfl rfl hm (by simp [hn]) w)
  have hlt := len_le hn
  have hg := World.block_lt_of_cell? _ _ hE
  have hcd : decide ((d : Int) < c) = true := by simp; omega
  clear hn
  unfold Gives at *
  have C2 := Lib.hid C2
  have C := Lib.hid C
  go_enter Tryd.func99, Tryd.ntmps99
  go_wp2_with fail
  obtain ⟨W, hW, hb, hB⟩ := S1.boxes1 w 24 (.int .u64 0) (.int .u64 0) (.int .u64 0) (.int .u64 0)
  rw [hW]
  replace C := Lib.hid (C.out W hB)
  clear hW
  go_wp2_with (first | (go_at_call 103; (with_reducible refine C.out.mono ?_); rintro e w1 ⟨rfl, h1⟩; replace hb := hb.bel h1; replace hB := hB.trans (h1.mono hB.size); clear h1; obtain ⟨⟨y0, y1, y2, y3⟩, z0, z1, z2, z3⟩ := hb.facts) | (go_at_call 92; (with_reducible refine (I.out _).mono ?_); rintro e w1 ⟨rfl, rfl⟩) | (go_at_call 103; (with_reducible refine (C2.out _ hB).mono ?_); rintro e w1 ⟨rfl, h1⟩; replace hb := hb.bel h1; replace hB := hB.trans (h1.mono hB.size); clear h1; obtain ⟨⟨y0, y1, y2, y3⟩, z0, z1, z2, z3⟩ := hb.facts))
  have hE2 := (hB.cell (p := ⟨4, 0, none⟩) hg).trans hE
  go_region
  go_wp2
  obtain ⟨W3, hW3, hb3, hB3⟩ := stored hb hB (Nat.le_refl _) (.int .u64 0) (.int .u64 0) (.int .u64 0) (.int .u64 0)
  obtain ⟨⟨c0, c1, c2, c3⟩, -⟩ := hb3.facts
  rw [hW3]
  refine bodyPost_ret (v := .tuple #[(.agg #[.int .u64 0, .int .u64 0, .int .u64 0, .int .u64 0]), .int .i64 (n + 1), .iface 135 E1]) (by simp [results, Tryd.results99, go_sem, c0, c1, c2, c3]) rfl ?_
  first | exact ⟨rfl, hB3⟩ | exact ⟨rfl, hB3.drew⟩
set_option maxRecDepth 10000 in
set_option maxHeartbeats 1000000 in
theorem item_span {s : ByteArray} {k n c d m : Nat} (hc : c ≤ 255) (hd8 : d ≤ 255) (hd : c ≤ d) (hm : s.size ≤ 99990) (hn : (nl s)[n]? = some 45) (w : World) (C : ∀ w', Below w.heap.size w w' → Gives 103 #[.string s, .int .i64 k] (.tuple #[.int .u8 c, .int .i64 n, .nilIface]) w')
    (C2 : ∀ w', Below w.heap.size w w' → Gives 103 #[.string s, .int .i64 (n + 1)] (.tuple #[.int .u8 d, .int .i64 m, .nilIface]) w') :
    Gives 99 #[.string s, .int .i64 k] (.tuple #[(.agg #[.int .u64 (S1.wd (spanS c d) 0), .int .u64 (S1.wd (spanS c d) 1), .int .u64 (S1.wd (spanS c d) 2), .int .u64 (S1.wd (spanS c d) 3)]), .int .i64 m, .nilIface]) w := by
  have I := Lib.hid (fun w => is_in (s := s) (i := (n : Int)) (d := 45) (k := n) (c := 45) (r := true) rfl rfl hm (by simp [hn]) w)
  have O := Lib.hid (fun w => S1.span_in c d hc hd8 w)
  have hlt := len_le hn
  have hcd : decide ((d : Int) < c) = false := by simp; omega
  clear hn
  unfold Gives at *
  have C2 := Lib.hid C2
  have C := Lib.hid C
  go_enter Tryd.func99, Tryd.ntmps99
  go_wp2_with fail
  obtain ⟨W, hW, hb, hB⟩ := S1.boxes1 w 24 (.int .u64 0) (.int .u64 0) (.int .u64 0) (.int .u64 0)
  rw [hW]
  replace C := Lib.hid (C.out W hB)
  clear hW
  go_wp2_with (first | (go_at_call 103; (with_reducible refine C.out.mono ?_); rintro e w1 ⟨rfl, h1⟩; replace hb := hb.bel h1; replace hB := hB.trans (h1.mono hB.size); clear h1; obtain ⟨⟨y0, y1, y2, y3⟩, z0, z1, z2, z3⟩ := hb.facts) | (go_at_call 92; (with_reducible refine (I.out _).mono ?_); rintro e w1 ⟨rfl, rfl⟩) | (go_at_call 103; (with_reducible refine (C2.out _ hB).mono ?_); rintro e w1 ⟨rfl, h1⟩; replace hb := hb.bel h1; replace hB := hB.trans (h1.mono hB.size); clear h1; obtain ⟨⟨y0, y1, y2, y3⟩, z0, z1, z2, z3⟩ := hb.facts) | (go_at_call 104; (with_reducible refine (O.out _).mono ?_); rintro e w1 ⟨rfl, h1⟩; replace hb := hb.bel h1; replace hB := hB.trans (h1.mono hB.size); clear h1; obtain ⟨⟨y0, y1, y2, y3⟩, z0, z1, z2, z3⟩ := hb.facts))
  obtain ⟨W3, hW3, hb3, hB3⟩ := stored hb hB (Nat.le_refl _) (.int .u64 (S1.wd (spanS c d) 0)) (.int .u64 (S1.wd (spanS c d) 1)) (.int .u64 (S1.wd (spanS c d) 2)) (.int .u64 (S1.wd (spanS c d) 3))
  obtain ⟨⟨c0, c1, c2, c3⟩, -⟩ := hb3.facts
  rw [hW3]
  refine bodyPost_ret (v := .tuple #[(.agg #[.int .u64 (S1.wd (spanS c d) 0), .int .u64 (S1.wd (spanS c d) 1), .int .u64 (S1.wd (spanS c d) 2), .int .u64 (S1.wd (spanS c d) 3)]), .int .i64 m, .nilIface]) (by simp [results, Tryd.results99, go_sem, c0, c1, c2, c3]) rfl ?_
  first | exact ⟨rfl, hB3⟩ | exact ⟨rfl, hB3.drew⟩
end Go.Proofs.YtkpoegnekeiieaaDoor.S6
