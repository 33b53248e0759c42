/- Texts of earlier layers, merged: S6W1r, S6W5x, S6W6, S6W7, S6W8, S6W9. -/
import Derived.Test.YtjlmeegaiagfpaaDoorS6A
import Derived.Test.YtjlmeegaiagfpaaDoorS5W6
import Derived.Test.YtjlmeegaiagfpaaDoorS6C
import Derived.Test.YtjlmeegaiagfpaaDoorS1D
namespace Go.Proofs.YtjlmeegaiagfpaaDoor.S6
open Go.RowKit
open S5 (nl nl_length nl_small at_nl nl_at Rd Sp Gives Two errV ix ix_no ix_yes idx_at)
/-! ### The reference -/
theorem bare_in {c : Nat} {r : Bool} (hr : r = true ↔ Bare c) (w : World) : Calls Tryd.prog 84 #[.int .u8 c] w fun e w' => e = .returned (.bool r) ∧ w = w' := by
  unfold Bare at hr
  have e : (((c : Int) == 91) || ((c : Int) == 93) || ((c : Int) == 45) || ((c : Int) == 47)) = r := by
    rw [Bool.eq_iff_iff, hr]
    simp
    omega
  clear hr
  go_enter Tryd.func84, Tryd.ntmps84
  go_wp2
  all_goals
    go_ret
    exact ⟨ret_bool (by first | exact e | (rw [← e]; simp [*]) | rfl), rfl⟩
theorem rone_bare {s : ByteArray} {k c : Nat} (h0 : (nl s)[k]? = some c) (hb : Bare c) (_ : s.size ≤ 99990) (w : World) :
    Gives 70 #[.string s, .int .i64 k] (.tuple #[.int .u8 0, .int .i64 k, .int .i64 4]) w := by
  obtain ⟨hlt, hat⟩ := at_nl h0
  have c1 := Lib.hid (fun w => bare_in (c := c) (r := true) (by simp [hb]) w)
  clear h0 hb
  unfold Gives
  go_enter Tryd.func70, Tryd.ntmps70
  go_wp2_with (go_at_call 84; (with_reducible refine (c1.out _).mono ?_); rintro e w' ⟨rfl, rfl⟩)
  refine bodyPost_ret (v := .tuple #[.int .u8 0, .int .i64 k, .int .i64 4]) (by simp [results, Tryd.results70, go_sem]) rfl ?_
  exact ⟨rfl, Below.refl _ _⟩
theorem rone_rd {s : ByteArray} {k : Nat} {x y z : Value} (hn : ∀ x, (nl s)[k]? = some x → ¬ Bare x) (_ : s.size ≤ 99990) (w : World) (hC : Gives 49 #[.string s, .int .i64 k] (.tuple #[x, y, z]) w) :
    Gives 70 #[.string s, .int .i64 k] (.tuple #[x, y, z]) w := by
  unfold Gives at hC ⊢
  have C := Lib.hid hC
  clear hC
  by_cases hk : k < s.size
  · have hat := nl_at s k hk
    obtain ⟨c, hx⟩ : ∃ c, (s[k]).toNat = c := ⟨_, rfl⟩
    rw [hx] at hat
    have hb := hn c hat
    have c1 := Lib.hid (fun w => bare_in (c := c) (r := false) (by simp [hb]) w)
    clear hn hat hb
    go_enter Tryd.func70, Tryd.ntmps70
    go_wp2_with (first | (go_at_call 84; (with_reducible refine (c1.out _).mono ?_); rintro e w' ⟨rfl, rfl⟩) | (go_at_call 49; (with_reducible refine C.out.mono ?_); rintro e w' ⟨rfl, hb⟩))
    refine bodyPost_ret (v := .tuple #[x, y, z]) (by simp [results, Tryd.results70, go_sem]) rfl ?_
    exact ⟨rfl, hb⟩
  · clear hn
    go_enter Tryd.func70, Tryd.ntmps70
    go_wp2_with (go_at_call 49; (with_reducible refine C.out.mono ?_); rintro e w' ⟨rfl, hb⟩)
    refine bodyPost_ret (v := .tuple #[x, y, z]) (by simp [results, Tryd.results70, go_sem]) rfl ?_
    exact ⟨rfl, hb⟩
theorem rone_in {s : ByteArray} {k c : Nat} {t : Int} {e : Nat} (h : One (nl s) k c t e) (hm : s.size ≤ 99990) (w : World) :
    Gives 70 #[.string s, .int .i64 k] (.tuple #[.int .u8 c, .int .i64 t, .int .i64 e]) w := by
  cases h with
  | bare _ h1 h2 => exact rone_bare h1 h2 hm w
  | rd _ _ _ h1 h2 => exact rone_rd h1 hm w (S5.rread_in h2 hm w)
end Go.Proofs.YtjlmeegaiagfpaaDoor.S6

namespace Go.Proofs.YtjlmeegaiagfpaaDoor.S6
open Go.RowKit
open S5 (nl nl_length nl_small at_nl nl_at Rd Sp Gives Two errV)
open S1 (Blk4 SetBox BoolRow wd noS oneS spanS orS notS spU eqB)
/-- What the reference gives back. -/
def roV (f : Nat → Bool) (t : Int) (e : Nat) : Value :=
  if e = 0 then .tuple #[(.agg #[.int .u64 (S1.wd (f) 0), .int .u64 (S1.wd (f) 1), .int .u64 (S1.wd (f) 2), .int .u64 (S1.wd (f) 3)]), .int .i64 t, .int .i64 0] else .tuple #[(.agg #[.int .u64 0, .int .u64 0, .int .u64 0, .int .u64 0]), .int .i64 t, .int .i64 e]
theorem roV_err (f : Nat → Bool) (t : Int) {e : Nat} (he : e ≠ 0) : roV f t e = .tuple #[(.agg #[.int .u64 0, .int .u64 0, .int .u64 0, .int .u64 0]), .int .i64 t, .int .i64 e] := if_neg he
/-- What is marked behind j - c rounds. -/
def upU (acc : List (Nat × Nat)) (c j : Nat) : Nat → Bool := fun x => spU acc x || (decide (c ≤ x) && decide (x < j))
theorem upU_step (acc : List (Nat × Nat)) {c j : Nat} (h : c ≤ j) (x : Nat) : (if x = j then true else upU acc c j x) = upU acc c (j + 1) x := by
  unfold upU
  by_cases e : x = j
  · subst e; simp [h]
  · have a : (x < j + 1) ↔ (x < j) := by omega
    simp [e, a]
theorem upU_end (acc : List (Nat × Nat)) (c d : Nat) (x : Nat) : upU acc c (d + 1) x = spU (acc ++ [(c, d)]) x := by
  unfold upU
  rw [S1.spU_snoc]
  have a : (x < d + 1) ↔ (x ≤ d) := by omega
  simp [a]
def flipS (f : Nat → Bool) (j : Nat) : Nat → Bool := fun x => if x < j then !f x else f x
theorem flip_step (f : Nat → Bool) (j x : Nat) : (if x = j then !f j else flipS f j x) = flipS f (j + 1) x := by
  unfold flipS
  by_cases e : x = j
  · subst e; simp
  · have a : (x < j + 1) ↔ (x < j) := by omega
    simp [e, a]
end Go.Proofs.YtjlmeegaiagfpaaDoor.S6

namespace Go.Proofs.YtjlmeegaiagfpaaDoor.S6
open Go.RowKit
open S5 (nl nl_length nl_small at_nl nl_at Rd Sp Gives Two errV)
open S1 (Blk4 SetBox BoolRow wd noS oneS spanS orS notS spU eqB)
set_option maxRecDepth 100000 in
set_option maxHeartbeats 16000000 in
theorem rread_not {s : ByteArray} (hm : s.size ≤ 99990) {k0 : Nat} {P : List (Nat × Nat)} {t : Int} {e : Nat} (h0 : (nl s)[k0]? = some 91) (hn : (nl s)[k0 + 1]? = some 94) (h : Its (nl s) true (k0 + 2) P t e) (w : World) :
    Gives 45 #[.string s, .int .i64 k0] (roV (notS (spU P)) t e) w := by
  obtain ⟨hl0, ha0⟩ := at_nl h0
  obtain ⟨hl1, ha1⟩ := at_nl hn
  clear h0 hn
  unfold Gives
  have hmk := S1.make256
  go_enter Tryd.func45, Tryd.ntmps45
  go_wp2
  obtain ⟨W, hW, b0, b1, hB⟩ := S1.boxes2 w 24 24 (.int .u64 0) (.int .u64 0) (.int .u64 0) (.int .u64 0) (.int .u64 0) (.int .u64 0) (.int .u64 0) (.int .u64 0)
  have hs : W.heap.size = w.heap.size + 1 + 1 := by rw [← hW]; simp
  rw [hW]
  clear hW hmk
  have hrow := BoolRow.new W noS
  rw [hs] at hrow
  have b0 := b0.alloc (.cells (S1.bl noS).toArray 4)
  have b1 := b1.alloc (.cells (S1.bl noS).toArray 4)
  have hB := hB.alloc hB.size (.cells (S1.bl noS).toArray 4)
  revert b0 b1 hB hrow
  generalize W.alloc (.cells (S1.bl noS).toArray 4) = W2
  intro hrow b0 b1 hB
  have hrow := hrow.congr (g := spU []) fun c _ => by simp [noS, spU]
  go_loopw [1, 10] (fun i v wr => ∃ (k m : Nat) (acc ps : List (Nat × Nat)), i = .int .i64 k ∧ v = .int .i64 m ∧ k ≤ s.size ∧ m ≤ k ∧ (m = 0 ↔ acc = []) ∧ Its (nl s) acc.isEmpty k ps t e ∧ acc ++ ps = P ∧ (∀ p ∈ acc, p.1 ≤ p.2 ∧ p.2 ≤ 255) ∧ Blk4 wr w.heap.size 24 (.int .u64 0) (.int .u64 0) (.int .u64 0) (.int .u64 0) ∧ Blk4 wr (w.heap.size + 1) 24 (.int .u64 0) (.int .u64 0) (.int .u64 0) (.int .u64 0) ∧ BoolRow wr (w.heap.size + 1 + 1) (spU acc) ∧ Below w.heap.size w wr) (fun i _ _ => s.size - (intOf i).toNat)
  case atStart => exact ⟨(k0 + 2), 0, [], P, by go_num, rfl, by omega, by omega, by simp, h, rfl, by simp, b0, b1, hrow, hB⟩
  case round =>
    clear b0 b1 hrow hB h
    obtain ⟨k, m, acc, ps, rfl, rfl, hks, hmk, hm0, hI, hP, hok, b0, b1, hrow, hB⟩ := hrel
    generalize hB0 : acc.isEmpty = B at hI
    replace hP := Lib.hid hP
    replace hm0 := Lib.hid hm0
    replace hB0 := Lib.hid hB0
    replace hok := Lib.hid hok
    obtain ⟨⟨f0, f1, f2, f3⟩, z0, z1, z2, z3⟩ := b1.facts
    obtain ⟨⟨g0, g1, g2, g3⟩, y0, y1, y2, y3⟩ := b0.facts
    cases hI with
    | close _ h1 =>
      obtain rfl : acc = P := by simpa using hP.out
      obtain ⟨hkl, hx⟩ := at_nl h1
      have hmp : 0 < m := by rcases Nat.eq_zero_or_pos m with h | h; exact absurd (hm0.out.1 h) (by simpa using hB0.out); exact h
      clear h1
      go_wp2
      go_loopw [126] (fun i wz => ∃ j : Nat, j ≤ 256 ∧ i = .int .i64 j ∧ Blk4 wz w.heap.size 24 (.int .u64 0) (.int .u64 0) (.int .u64 0) (.int .u64 0) ∧ Blk4 wz (w.heap.size + 1) 24 (.int .u64 0) (.int .u64 0) (.int .u64 0) (.int .u64 0) ∧ BoolRow wz (w.heap.size + 1 + 1) (flipS (spU acc) j) ∧ Below w.heap.size w wz) (fun i _ => 256 - (intOf i).toNat)
      case atStart => exact ⟨0, Nat.zero_le _, rfl, b0, b1, hrow.congr fun x _ => by simp [flipS], hB⟩
      case round =>
        clear b0 b1 hrow hB f0 f1 f2 f3 z0 z1 z2 z3 g0 g1 g2 g3 y0 y1 y2 y3
        obtain ⟨j, hj, rfl, b0, b1, hrow, hB⟩ := hrel
        by_cases hjl : j < 256
        · have hcell := hrow.cell (k := j) hjl
          rw [show flipS (spU acc) j j = spU acc j by simp [flipS]] at hcell
          have hfz := hrow.frozen j
          have h1 := Lib.hid (hB.setCell (p := ⟨(w.heap.size + 1 + 1), j, none⟩) (by simp; omega) (.bool (!spU acc j)))
          have h2 := Lib.hid ((hrow.set j (!spU acc j)).congr (g := flipS (spU acc) (j + 1)) fun x _ => flip_step (spU acc) j x)
          have h3 := Lib.hid (b0.setOther (a := ⟨(w.heap.size + 1 + 1), j, none⟩) (by simp <;> omega) (.bool (!spU acc j)))
          have h4 := Lib.hid (b1.setOther (a := ⟨(w.heap.size + 1 + 1), j, none⟩) (by simp <;> omega) (.bool (!spU acc j)))
          clear b0 b1 hrow hB
          go_wp2
          go_roundw
          case rel => exact ⟨j + 1, by omega, by go_num, h3.out, h4.out, h2.out, h1.out⟩
          case measure => simp [intOf]; omega
        · obtain rfl : j = 256 := by omega
          replace hrow := hrow.congr (g := notS (spU acc)) fun x hx => by simp [flipS, notS, hx]
          have hof := Lib.hid (fun w' hr => S1.refof_in (notS (spU acc)) (w.heap.size + 1 + 1) w' hr)
          obtain ⟨⟨f0, f1, f2, f3⟩, z0, z1, z2, z3⟩ := b1.facts
          obtain ⟨⟨g0, g1, g2, g3⟩, y0, y1, y2, y3⟩ := b0.facts
          go_wp2_with (go_at_call 71; (with_reducible refine (hof.out _ hrow).mono ?_); rintro e w1 ⟨rfl, h1⟩; replace b0 := b0.bel h1; replace b1 := b1.bel h1; replace hrow := hrow.bel h1; replace hB := hB.trans (h1.mono hB.size); clear h1; clear f0 f1 f2 f3 z0 z1 z2 z3 g0 g1 g2 g3 y0 y1 y2 y3; obtain ⟨⟨f0, f1, f2, f3⟩, z0, z1, z2, z3⟩ := b1.facts; obtain ⟨⟨g0, g1, g2, g3⟩, y0, y1, y2, y3⟩ := b0.facts)
          obtain ⟨W3, hW3, hb3, hB3⟩ := stored b0 hB (Nat.le_refl _) (.int .u64 (S1.wd (notS (spU acc)) 0)) (.int .u64 (S1.wd (notS (spU acc)) 1)) (.int .u64 (S1.wd (notS (spU acc)) 2)) (.int .u64 (S1.wd (notS (spU acc)) 3))
          obtain ⟨⟨c0, c1, c2, c3⟩, -⟩ := hb3.facts
          rw [hW3]
          refine bodyPost_ret (v := .tuple #[(.agg #[.int .u64 (S1.wd (notS (spU acc)) 0), .int .u64 (S1.wd (notS (spU acc)) 1), .int .u64 (S1.wd (notS (spU acc)) 2), .int .u64 (S1.wd (notS (spU acc)) 3)]), .int .i64 (k + 1), .int .i64 0]) (by simp [results, Tryd.results45, go_sem, c0, c1, c2, c3]) rfl ?_
          exact ⟨rfl, hB3⟩
    | bad1 _ _ _ _ h1 h2 h3 =>
      have C := Lib.hid (fun w' => rone_in h2 hm w')
      unfold Gives at C
      have hOut := Lib.hid (roV_err (notS (spU P)) t h3)
      have he1 : ((e : Int) != 0) = true := by simp; omega
      clear h2 h3
      cases B with
      | true =>
        obtain rfl : m = 0 := hm0.out.2 (by simpa using hB0.out)
        clear h1
        go_wp2_with (go_at_call 70; (with_reducible refine (C.out _).mono ?_); rintro e w1 ⟨rfl, h1⟩; replace b0 := b0.bel h1; replace b1 := b1.bel h1; replace hrow := hrow.bel h1; replace hB := hB.trans (h1.mono hB.size); clear h1; clear f0 f1 f2 f3 z0 z1 z2 z3 g0 g1 g2 g3 y0 y1 y2 y3; obtain ⟨⟨f0, f1, f2, f3⟩, z0, z1, z2, z3⟩ := b1.facts; obtain ⟨⟨g0, g1, g2, g3⟩, y0, y1, y2, y3⟩ := b0.facts)
        obtain ⟨W3, hW3, hb3, hB3⟩ := stored b0 hB (Nat.le_refl _) (.int .u64 0) (.int .u64 0) (.int .u64 0) (.int .u64 0)
        obtain ⟨⟨c0, c1, c2, c3⟩, -⟩ := hb3.facts
        rw [hW3]
        refine bodyPost_ret (v := .tuple #[(.agg #[.int .u64 0, .int .u64 0, .int .u64 0, .int .u64 0]), .int .i64 t, .int .i64 e]) (by simp [results, Tryd.results45, go_sem, c0, c1, c2, c3]) rfl ?_
        exact ⟨by rw [hOut.out] <;> rfl, hB3⟩
      | false =>
        have hmp : 0 < m := by rcases Nat.eq_zero_or_pos m with h | h; exact absurd (hm0.out.1 h) (by simpa using hB0.out); exact h
        have h1' : (nl s)[k]? ≠ some 93 := by simpa using h1
        clear h1
        by_cases hkl : k < s.size
        · have hat := nl_at s k hkl
          obtain ⟨x, hx⟩ : ∃ x, (s[k]).toNat = x := ⟨_, rfl⟩
          rw [hx] at hat
          have hx2 : ((x : Int) == 93) = false := by
            rw [hat] at h1'
            have : x ≠ 93 := fun q => h1' (by rw [q])
            simp; omega
          clear h1' hat
          go_wp2_with (go_at_call 70; (with_reducible refine (C.out _).mono ?_); rintro e w1 ⟨rfl, h1⟩; replace b0 := b0.bel h1; replace b1 := b1.bel h1; replace hrow := hrow.bel h1; replace hB := hB.trans (h1.mono hB.size); clear h1; clear f0 f1 f2 f3 z0 z1 z2 z3 g0 g1 g2 g3 y0 y1 y2 y3; obtain ⟨⟨f0, f1, f2, f3⟩, z0, z1, z2, z3⟩ := b1.facts; obtain ⟨⟨g0, g1, g2, g3⟩, y0, y1, y2, y3⟩ := b0.facts)
          obtain ⟨W3, hW3, hb3, hB3⟩ := stored b0 hB (Nat.le_refl _) (.int .u64 0) (.int .u64 0) (.int .u64 0) (.int .u64 0)
          obtain ⟨⟨c0, c1, c2, c3⟩, -⟩ := hb3.facts
          rw [hW3]
          refine bodyPost_ret (v := .tuple #[(.agg #[.int .u64 0, .int .u64 0, .int .u64 0, .int .u64 0]), .int .i64 t, .int .i64 e]) (by simp [results, Tryd.results45, go_sem, c0, c1, c2, c3]) rfl ?_
          exact ⟨by rw [hOut.out] <;> rfl, hB3⟩
        · clear h1'
          go_wp2_with (go_at_call 70; (with_reducible refine (C.out _).mono ?_); rintro e w1 ⟨rfl, h1⟩; replace b0 := b0.bel h1; replace b1 := b1.bel h1; replace hrow := hrow.bel h1; replace hB := hB.trans (h1.mono hB.size); clear h1; clear f0 f1 f2 f3 z0 z1 z2 z3 g0 g1 g2 g3 y0 y1 y2 y3; obtain ⟨⟨f0, f1, f2, f3⟩, z0, z1, z2, z3⟩ := b1.facts; obtain ⟨⟨g0, g1, g2, g3⟩, y0, y1, y2, y3⟩ := b0.facts)
          obtain ⟨W3, hW3, hb3, hB3⟩ := stored b0 hB (Nat.le_refl _) (.int .u64 0) (.int .u64 0) (.int .u64 0) (.int .u64 0)
          obtain ⟨⟨c0, c1, c2, c3⟩, -⟩ := hb3.facts
          rw [hW3]
          refine bodyPost_ret (v := .tuple #[(.agg #[.int .u64 0, .int .u64 0, .int .u64 0, .int .u64 0]), .int .i64 t, .int .i64 e]) (by simp [results, Tryd.results45, go_sem, c0, c1, c2, c3]) rfl ?_
          exact ⟨by rw [hOut.out] <;> rfl, hB3⟩
    | one _ _ c n ps _ _ h1 h2 h3 hps =>
      have hn8 : n ≤ s.size := (by obtain ⟨n2, q1, q2, q3⟩ := one_next h2; have := nl_length s; omega)
      have hlt : k < n := (by obtain ⟨n2, q1, q2, q3⟩ := one_next h2; omega)
      have hc8 : c ≤ 255 := one_small (nl_small s) h2
      have hcw := Lib.hid (show wrap64 (c : Int) = c by unfold wrap64; omega)
      have hok2 : ∀ p ∈ acc ++ [(c, c)], p.1 ≤ p.2 ∧ p.2 ≤ 255 := fun p hp => by
        rcases List.mem_append.1 hp with hp | hp
        · exact hok.out p hp
        · obtain rfl : p = (c, c) := by simpa using hp
          exact ⟨Nat.le_refl _, hc8⟩
      have hne : (acc ++ [(c, c)]).isEmpty = false := by cases acc <;> rfl
      replace hne := Lib.hid hne
      replace hok2 := Lib.hid hok2
      have hkl : k < s.size := by omega
      have C := Lib.hid (fun w' => rone_in h2 hm w')
      unfold Gives at C
      have hn45 : n < s.size → ∃ y, (∃ h : n < s.size, (s[n]).toNat = y) ∧ ((y : Int) == 45) = false := fun h => by
        refine ⟨_, ⟨h, rfl⟩, ?_⟩
        have := nl_at s n h
        rw [this] at h3
        have : (s[n]).toNat ≠ 45 := fun q => h3 (by rw [q])
        simp; omega
      clear h2 h3
      by_cases hnl : n < s.size
      · obtain ⟨y, ⟨_, hy⟩, hy2⟩ := hn45 hnl
        clear hn45
        cases B with
        | true =>
          obtain rfl : m = 0 := hm0.out.2 (by simpa using hB0.out)
          clear h1
          go_wp2_with (go_at_call 70; (with_reducible refine (C.out _).mono ?_); rintro e w1 ⟨rfl, h1⟩; replace b0 := b0.bel h1; replace b1 := b1.bel h1; replace hrow := hrow.bel h1; replace hB := hB.trans (h1.mono hB.size); clear h1; clear f0 f1 f2 f3 z0 z1 z2 z3 g0 g1 g2 g3 y0 y1 y2 y3; obtain ⟨⟨f0, f1, f2, f3⟩, z0, z1, z2, z3⟩ := b1.facts; obtain ⟨⟨g0, g1, g2, g3⟩, y0, y1, y2, y3⟩ := b0.facts)
          go_loopw [16] (fun i wz => ∃ j : Nat, c ≤ j ∧ j ≤ c + 1 ∧ i = .int .i64 j ∧ Blk4 wz w.heap.size 24 (.int .u64 0) (.int .u64 0) (.int .u64 0) (.int .u64 0) ∧ Blk4 wz (w.heap.size + 1) 24 (.int .u64 0) (.int .u64 0) (.int .u64 0) (.int .u64 0) ∧ BoolRow wz (w.heap.size + 1 + 1) (upU acc c j) ∧ Below w.heap.size w wz) (fun i _ => 256 - (intOf i).toNat)
          case atStart => exact ⟨c, Nat.le_refl _, by omega, by first | rfl | rw [hcw.out], b0, b1, hrow.congr fun x _ => by simp [upU]; omega, hB⟩
          case round =>
            clear b0 b1 hrow hB f0 f1 f2 f3 z0 z1 z2 z3 g0 g1 g2 g3 y0 y1 y2 y3
            obtain ⟨j, hj1, hj2, rfl, b0, b1, hrow, hB⟩ := hrel
            by_cases hj : j ≤ c
            · have hcell := hrow.cell (k := j) (by omega)
              have hfz := hrow.frozen j
              have h1 := Lib.hid (hB.setCell (p := ⟨(w.heap.size + 1 + 1), j, none⟩) (by simp; omega) (.bool true))
              have h2 := Lib.hid ((hrow.set j true).congr (g := upU acc c (j + 1)) fun x _ => upU_step acc hj1 x)
              have h3 := Lib.hid (b0.setOther (a := ⟨(w.heap.size + 1 + 1), j, none⟩) (by simp <;> omega) (.bool true))
              have h4 := Lib.hid (b1.setOther (a := ⟨(w.heap.size + 1 + 1), j, none⟩) (by simp <;> omega) (.bool true))
              clear b0 b1 hrow hB
              have hjd : decide ((j : Int) ≤ wrap64 (c : Int)) = true := by rw [hcw.out]; simp; omega
              go_wp2
              go_roundw
              case rel => exact ⟨j + 1, by omega, by omega, by go_num, h3.out, h4.out, h2.out, h1.out⟩
              case measure => simp [intOf]; omega
            · obtain rfl : j = c + 1 := by omega
              have h2 := Lib.hid (hrow.congr (g := spU (acc ++ [(c, c)])) fun x _ => upU_end acc c c x)
              have h1 := Lib.hid hB
              have h3 := Lib.hid b0
              have h4 := Lib.hid b1
              clear b0 b1 hrow hB
              have hjd : decide (((c : Int) + 1) ≤ wrap64 (c : Int)) = false := by rw [hcw.out]; simp; omega
              go_wp2
              go_roundw
              case rel => exact ⟨n, 0 + 1, acc ++ [(c, c)], ps, rfl, by go_num, hn8, by omega, by simp, by rw [hne.out]; exact hps, by rw [← hP.out]; simp, hok2.out, h3.out, h4.out, h2.out, h1.out⟩
              case measure => simp [intOf]; omega
        | false =>
          have hmp : 0 < m := by rcases Nat.eq_zero_or_pos m with h | h; exact absurd (hm0.out.1 h) (by simpa using hB0.out); exact h
          have h1' : (nl s)[k]? ≠ some 93 := by simpa using h1
          clear h1
          have hat := nl_at s k hkl
          obtain ⟨x, hx⟩ : ∃ x, (s[k]).toNat = x := ⟨_, rfl⟩
          rw [hx] at hat
          have hx2 : ((x : Int) == 93) = false := by
            rw [hat] at h1'
            have : x ≠ 93 := fun q => h1' (by rw [q])
            simp; omega
          clear h1' hat
          go_wp2_with (go_at_call 70; (with_reducible refine (C.out _).mono ?_); rintro e w1 ⟨rfl, h1⟩; replace b0 := b0.bel h1; replace b1 := b1.bel h1; replace hrow := hrow.bel h1; replace hB := hB.trans (h1.mono hB.size); clear h1; clear f0 f1 f2 f3 z0 z1 z2 z3 g0 g1 g2 g3 y0 y1 y2 y3; obtain ⟨⟨f0, f1, f2, f3⟩, z0, z1, z2, z3⟩ := b1.facts; obtain ⟨⟨g0, g1, g2, g3⟩, y0, y1, y2, y3⟩ := b0.facts)
          go_loopw [16] (fun i wz => ∃ j : Nat, c ≤ j ∧ j ≤ c + 1 ∧ i = .int .i64 j ∧ Blk4 wz w.heap.size 24 (.int .u64 0) (.int .u64 0) (.int .u64 0) (.int .u64 0) ∧ Blk4 wz (w.heap.size + 1) 24 (.int .u64 0) (.int .u64 0) (.int .u64 0) (.int .u64 0) ∧ BoolRow wz (w.heap.size + 1 + 1) (upU acc c j) ∧ Below w.heap.size w wz) (fun i _ => 256 - (intOf i).toNat)
          case atStart => exact ⟨c, Nat.le_refl _, by omega, by first | rfl | rw [hcw.out], b0, b1, hrow.congr fun x _ => by simp [upU]; omega, hB⟩
          case round =>
            clear b0 b1 hrow hB f0 f1 f2 f3 z0 z1 z2 z3 g0 g1 g2 g3 y0 y1 y2 y3
            obtain ⟨j, hj1, hj2, rfl, b0, b1, hrow, hB⟩ := hrel
            by_cases hj : j ≤ c
            · have hcell := hrow.cell (k := j) (by omega)
              have hfz := hrow.frozen j
              have h1 := Lib.hid (hB.setCell (p := ⟨(w.heap.size + 1 + 1), j, none⟩) (by simp; omega) (.bool true))
              have h2 := Lib.hid ((hrow.set j true).congr (g := upU acc c (j + 1)) fun x _ => upU_step acc hj1 x)
              have h3 := Lib.hid (b0.setOther (a := ⟨(w.heap.size + 1 + 1), j, none⟩) (by simp <;> omega) (.bool true))
              have h4 := Lib.hid (b1.setOther (a := ⟨(w.heap.size + 1 + 1), j, none⟩) (by simp <;> omega) (.bool true))
              clear b0 b1 hrow hB
              have hjd : decide ((j : Int) ≤ wrap64 (c : Int)) = true := by rw [hcw.out]; simp; omega
              go_wp2
              go_roundw
              case rel => exact ⟨j + 1, by omega, by omega, by go_num, h3.out, h4.out, h2.out, h1.out⟩
              case measure => simp [intOf]; omega
            · obtain rfl : j = c + 1 := by omega
              have h2 := Lib.hid (hrow.congr (g := spU (acc ++ [(c, c)])) fun x _ => upU_end acc c c x)
              have h1 := Lib.hid hB
              have h3 := Lib.hid b0
              have h4 := Lib.hid b1
              clear b0 b1 hrow hB
              have hjd : decide (((c : Int) + 1) ≤ wrap64 (c : Int)) = false := by rw [hcw.out]; simp; omega
              go_wp2
              go_roundw
              case rel => exact ⟨n, m + 1, acc ++ [(c, c)], ps, rfl, by go_num, hn8, by omega, by simp, by rw [hne.out]; exact hps, by rw [← hP.out]; simp, hok2.out, h3.out, h4.out, h2.out, h1.out⟩
              case measure => simp [intOf]; omega
      · clear hn45
        cases B with
        | true =>
          obtain rfl : m = 0 := hm0.out.2 (by simpa using hB0.out)
          clear h1
          go_wp2_with (go_at_call 70; (with_reducible refine (C.out _).mono ?_); rintro e w1 ⟨rfl, h1⟩; replace b0 := b0.bel h1; replace b1 := b1.bel h1; replace hrow := hrow.bel h1; replace hB := hB.trans (h1.mono hB.size); clear h1; clear f0 f1 f2 f3 z0 z1 z2 z3 g0 g1 g2 g3 y0 y1 y2 y3; obtain ⟨⟨f0, f1, f2, f3⟩, z0, z1, z2, z3⟩ := b1.facts; obtain ⟨⟨g0, g1, g2, g3⟩, y0, y1, y2, y3⟩ := b0.facts)
          go_loopw [16] (fun i wz => ∃ j : Nat, c ≤ j ∧ j ≤ c + 1 ∧ i = .int .i64 j ∧ Blk4 wz w.heap.size 24 (.int .u64 0) (.int .u64 0) (.int .u64 0) (.int .u64 0) ∧ Blk4 wz (w.heap.size + 1) 24 (.int .u64 0) (.int .u64 0) (.int .u64 0) (.int .u64 0) ∧ BoolRow wz (w.heap.size + 1 + 1) (upU acc c j) ∧ Below w.heap.size w wz) (fun i _ => 256 - (intOf i).toNat)
          case atStart => exact ⟨c, Nat.le_refl _, by omega, by first | rfl | rw [hcw.out], b0, b1, hrow.congr fun x _ => by simp [upU]; omega, hB⟩
          case round =>
            clear b0 b1 hrow hB f0 f1 f2 f3 z0 z1 z2 z3 g0 g1 g2 g3 y0 y1 y2 y3
            obtain ⟨j, hj1, hj2, rfl, b0, b1, hrow, hB⟩ := hrel
            by_cases hj : j ≤ c
            · have hcell := hrow.cell (k := j) (by omega)
              have hfz := hrow.frozen j
              have h1 := Lib.hid (hB.setCell (p := ⟨(w.heap.size + 1 + 1), j, none⟩) (by simp; omega) (.bool true))
              have h2 := Lib.hid ((hrow.set j true).congr (g := upU acc c (j + 1)) fun x _ => upU_step acc hj1 x)
              have h3 := Lib.hid (b0.setOther (a := ⟨(w.heap.size + 1 + 1), j, none⟩) (by simp <;> omega) (.bool true))
              have h4 := Lib.hid (b1.setOther (a := ⟨(w.heap.size + 1 + 1), j, none⟩) (by simp <;> omega) (.bool true))
              clear b0 b1 hrow hB
              have hjd : decide ((j : Int) ≤ wrap64 (c : Int)) = true := by rw [hcw.out]; simp; omega
              go_wp2
              go_roundw
              case rel => exact ⟨j + 1, by omega, by omega, by go_num, h3.out, h4.out, h2.out, h1.out⟩
              case measure => simp [intOf]; omega
            · obtain rfl : j = c + 1 := by omega
              have h2 := Lib.hid (hrow.congr (g := spU (acc ++ [(c, c)])) fun x _ => upU_end acc c c x)
              have h1 := Lib.hid hB
              have h3 := Lib.hid b0
              have h4 := Lib.hid b1
              clear b0 b1 hrow hB
              have hjd : decide (((c : Int) + 1) ≤ wrap64 (c : Int)) = false := by rw [hcw.out]; simp; omega
              go_wp2
              go_roundw
              case rel => exact ⟨n, 0 + 1, acc ++ [(c, c)], ps, rfl, by go_num, hn8, by omega, by simp, by rw [hne.out]; exact hps, by rw [← hP.out]; simp, hok2.out, h3.out, h4.out, h2.out, h1.out⟩
              case measure => simp [intOf]; omega
        | false =>
          have hmp : 0 < m := by rcases Nat.eq_zero_or_pos m with h | h; exact absurd (hm0.out.1 h) (by simpa using hB0.out); exact h
          have h1' : (nl s)[k]? ≠ some 93 := by simpa using h1
          clear h1
          have hat := nl_at s k hkl
          obtain ⟨x, hx⟩ : ∃ x, (s[k]).toNat = x := ⟨_, rfl⟩
          rw [hx] at hat
          have hx2 : ((x : Int) == 93) = false := by
            rw [hat] at h1'
            have : x ≠ 93 := fun q => h1' (by rw [q])
            simp; omega
          clear h1' hat
          go_wp2_with (go_at_call 70; (with_reducible refine (C.out _).mono ?_); rintro e w1 ⟨rfl, h1⟩; replace b0 := b0.bel h1; replace b1 := b1.bel h1; replace hrow := hrow.bel h1; replace hB := hB.trans (h1.mono hB.size); clear h1; clear f0 f1 f2 f3 z0 z1 z2 z3 g0 g1 g2 g3 y0 y1 y2 y3; obtain ⟨⟨f0, f1, f2, f3⟩, z0, z1, z2, z3⟩ := b1.facts; obtain ⟨⟨g0, g1, g2, g3⟩, y0, y1, y2, y3⟩ := b0.facts)
          go_loopw [16] (fun i wz => ∃ j : Nat, c ≤ j ∧ j ≤ c + 1 ∧ i = .int .i64 j ∧ Blk4 wz w.heap.size 24 (.int .u64 0) (.int .u64 0) (.int .u64 0) (.int .u64 0) ∧ Blk4 wz (w.heap.size + 1) 24 (.int .u64 0) (.int .u64 0) (.int .u64 0) (.int .u64 0) ∧ BoolRow wz (w.heap.size + 1 + 1) (upU acc c j) ∧ Below w.heap.size w wz) (fun i _ => 256 - (intOf i).toNat)
          case atStart => exact ⟨c, Nat.le_refl _, by omega, by first | rfl | rw [hcw.out], b0, b1, hrow.congr fun x _ => by simp [upU]; omega, hB⟩
          case round =>
            clear b0 b1 hrow hB f0 f1 f2 f3 z0 z1 z2 z3 g0 g1 g2 g3 y0 y1 y2 y3
            obtain ⟨j, hj1, hj2, rfl, b0, b1, hrow, hB⟩ := hrel
            by_cases hj : j ≤ c
            · have hcell := hrow.cell (k := j) (by omega)
              have hfz := hrow.frozen j
              have h1 := Lib.hid (hB.setCell (p := ⟨(w.heap.size + 1 + 1), j, none⟩) (by simp; omega) (.bool true))
              have h2 := Lib.hid ((hrow.set j true).congr (g := upU acc c (j + 1)) fun x _ => upU_step acc hj1 x)
              have h3 := Lib.hid (b0.setOther (a := ⟨(w.heap.size + 1 + 1), j, none⟩) (by simp <;> omega) (.bool true))
              have h4 := Lib.hid (b1.setOther (a := ⟨(w.heap.size + 1 + 1), j, none⟩) (by simp <;> omega) (.bool true))
              clear b0 b1 hrow hB
              have hjd : decide ((j : Int) ≤ wrap64 (c : Int)) = true := by rw [hcw.out]; simp; omega
              go_wp2
              go_roundw
              case rel => exact ⟨j + 1, by omega, by omega, by go_num, h3.out, h4.out, h2.out, h1.out⟩
              case measure => simp [intOf]; omega
            · obtain rfl : j = c + 1 := by omega
              have h2 := Lib.hid (hrow.congr (g := spU (acc ++ [(c, c)])) fun x _ => upU_end acc c c x)
              have h1 := Lib.hid hB
              have h3 := Lib.hid b0
              have h4 := Lib.hid b1
              clear b0 b1 hrow hB
              have hjd : decide (((c : Int) + 1) ≤ wrap64 (c : Int)) = false := by rw [hcw.out]; simp; omega
              go_wp2
              go_roundw
              case rel => exact ⟨n, m + 1, acc ++ [(c, c)], ps, rfl, by go_num, hn8, by omega, by simp, by rw [hne.out]; exact hps, by rw [← hP.out]; simp, hok2.out, h3.out, h4.out, h2.out, h1.out⟩
              case measure => simp [intOf]; omega
    | bad2 _ _ c n _ _ h1 h2 h3 h4 h5 =>
      have C := Lib.hid (fun w' => rone_in h2 hm w')
      unfold Gives at C
      have C2 := Lib.hid (fun w' => rone_in h4 hm w')
      unfold Gives at C2
      rw [show ((n + 1 : Nat) : Int) = (n : Int) + 1 by omega] at C2
      have hOut := Lib.hid (roV_err (notS (spU P)) t h5)
      have he1 : ((e : Int) != 0) = true := by simp; omega
      have hkl : k < s.size := by obtain ⟨n2, q1, q2, q3⟩ := one_next h2; have := len_le h3; omega
      obtain ⟨hnl, hy⟩ := at_nl h3
      clear h2 h3 h4 h5
      cases B with
      | true =>
        obtain rfl : m = 0 := hm0.out.2 (by simpa using hB0.out)
        clear h1
        go_wp2_with (first | (go_at_call 70; (with_reducible refine (C.out _).mono ?_); rintro e w1 ⟨rfl, h1⟩; replace b0 := b0.bel h1; replace b1 := b1.bel h1; replace hrow := hrow.bel h1; replace hB := hB.trans (h1.mono hB.size); clear h1; clear f0 f1 f2 f3 z0 z1 z2 z3 g0 g1 g2 g3 y0 y1 y2 y3; obtain ⟨⟨f0, f1, f2, f3⟩, z0, z1, z2, z3⟩ := b1.facts; obtain ⟨⟨g0, g1, g2, g3⟩, y0, y1, y2, y3⟩ := b0.facts) | (go_at_call 70; (with_reducible refine (C2.out _).mono ?_); rintro e w1 ⟨rfl, h1⟩; replace b0 := b0.bel h1; replace b1 := b1.bel h1; replace hrow := hrow.bel h1; replace hB := hB.trans (h1.mono hB.size); clear h1; clear f0 f1 f2 f3 z0 z1 z2 z3 g0 g1 g2 g3 y0 y1 y2 y3; obtain ⟨⟨f0, f1, f2, f3⟩, z0, z1, z2, z3⟩ := b1.facts; obtain ⟨⟨g0, g1, g2, g3⟩, y0, y1, y2, y3⟩ := b0.facts))
        obtain ⟨W3, hW3, hb3, hB3⟩ := stored b0 hB (Nat.le_refl _) (.int .u64 0) (.int .u64 0) (.int .u64 0) (.int .u64 0)
        obtain ⟨⟨c0, c1, c2, c3⟩, -⟩ := hb3.facts
        rw [hW3]
        refine bodyPost_ret (v := .tuple #[(.agg #[.int .u64 0, .int .u64 0, .int .u64 0, .int .u64 0]), .int .i64 t, .int .i64 e]) (by simp [results, Tryd.results45, go_sem, c0, c1, c2, c3]) rfl ?_
        exact ⟨by rw [hOut.out] <;> rfl, hB3⟩
      | false =>
        have hmp : 0 < m := by rcases Nat.eq_zero_or_pos m with h | h; exact absurd (hm0.out.1 h) (by simpa using hB0.out); exact h
        have h1' : (nl s)[k]? ≠ some 93 := by simpa using h1
        clear h1
        have hat := nl_at s k hkl
        obtain ⟨x, hx⟩ : ∃ x, (s[k]).toNat = x := ⟨_, rfl⟩
        rw [hx] at hat
        have hx2 : ((x : Int) == 93) = false := by
          rw [hat] at h1'
          have : x ≠ 93 := fun q => h1' (by rw [q])
          simp; omega
        clear h1' hat
        go_wp2_with (first | (go_at_call 70; (with_reducible refine (C.out _).mono ?_); rintro e w1 ⟨rfl, h1⟩; replace b0 := b0.bel h1; replace b1 := b1.bel h1; replace hrow := hrow.bel h1; replace hB := hB.trans (h1.mono hB.size); clear h1; clear f0 f1 f2 f3 z0 z1 z2 z3 g0 g1 g2 g3 y0 y1 y2 y3; obtain ⟨⟨f0, f1, f2, f3⟩, z0, z1, z2, z3⟩ := b1.facts; obtain ⟨⟨g0, g1, g2, g3⟩, y0, y1, y2, y3⟩ := b0.facts) | (go_at_call 70; (with_reducible refine (C2.out _).mono ?_); rintro e w1 ⟨rfl, h1⟩; replace b0 := b0.bel h1; replace b1 := b1.bel h1; replace hrow := hrow.bel h1; replace hB := hB.trans (h1.mono hB.size); clear h1; clear f0 f1 f2 f3 z0 z1 z2 z3 g0 g1 g2 g3 y0 y1 y2 y3; obtain ⟨⟨f0, f1, f2, f3⟩, z0, z1, z2, z3⟩ := b1.facts; obtain ⟨⟨g0, g1, g2, g3⟩, y0, y1, y2, y3⟩ := b0.facts))
        obtain ⟨W3, hW3, hb3, hB3⟩ := stored b0 hB (Nat.le_refl _) (.int .u64 0) (.int .u64 0) (.int .u64 0) (.int .u64 0)
        obtain ⟨⟨c0, c1, c2, c3⟩, -⟩ := hb3.facts
        rw [hW3]
        refine bodyPost_ret (v := .tuple #[(.agg #[.int .u64 0, .int .u64 0, .int .u64 0, .int .u64 0]), .int .i64 t, .int .i64 e]) (by simp [results, Tryd.results45, go_sem, c0, c1, c2, c3]) rfl ?_
        exact ⟨by rw [hOut.out] <;> rfl, hB3⟩
    | down _ _ c n d q h1 h2 h3 h4 h5 =>
      have C := Lib.hid (fun w' => rone_in h2 hm w')
      unfold Gives at C
      have C2 := Lib.hid (fun w' => rone_in h4 hm w')
      unfold Gives at C2
      rw [show ((n + 1 : Nat) : Int) = (n : Int) + 1 by omega] at C2
      have hOut := Lib.hid (roV_err (notS (spU P)) ((n : Int) + 1) (e := 1) (by decide))
      have hcd : decide (d < c) = true := by simp; omega
      have hkl : k < s.size := by obtain ⟨n2, q1, q2, q3⟩ := one_next h2; have := len_le h3; omega
      obtain ⟨hnl, hy⟩ := at_nl h3
      clear h2 h3 h4 h5
      cases B with
      | true =>
        obtain rfl : m = 0 := hm0.out.2 (by simpa using hB0.out)
        clear h1
        go_wp2_with (first | (go_at_call 70; (with_reducible refine (C.out _).mono ?_); rintro e w1 ⟨rfl, h1⟩; replace b0 := b0.bel h1; replace b1 := b1.bel h1; replace hrow := hrow.bel h1; replace hB := hB.trans (h1.mono hB.size); clear h1; clear f0 f1 f2 f3 z0 z1 z2 z3 g0 g1 g2 g3 y0 y1 y2 y3; obtain ⟨⟨f0, f1, f2, f3⟩, z0, z1, z2, z3⟩ := b1.facts; obtain ⟨⟨g0, g1, g2, g3⟩, y0, y1, y2, y3⟩ := b0.facts) | (go_at_call 70; (with_reducible refine (C2.out _).mono ?_); rintro e w1 ⟨rfl, h1⟩; replace b0 := b0.bel h1; replace b1 := b1.bel h1; replace hrow := hrow.bel h1; replace hB := hB.trans (h1.mono hB.size); clear h1; clear f0 f1 f2 f3 z0 z1 z2 z3 g0 g1 g2 g3 y0 y1 y2 y3; obtain ⟨⟨f0, f1, f2, f3⟩, z0, z1, z2, z3⟩ := b1.facts; obtain ⟨⟨g0, g1, g2, g3⟩, y0, y1, y2, y3⟩ := b0.facts))
        obtain ⟨W3, hW3, hb3, hB3⟩ := stored b0 hB (Nat.le_refl _) (.int .u64 0) (.int .u64 0) (.int .u64 0) (.int .u64 0)
        obtain ⟨⟨c0, c1, c2, c3⟩, -⟩ := hb3.facts
        rw [hW3]
        refine bodyPost_ret (v := .tuple #[(.agg #[.int .u64 0, .int .u64 0, .int .u64 0, .int .u64 0]), .int .i64 (n + 1), .int .i64 1]) (by simp [results, Tryd.results45, go_sem, c0, c1, c2, c3]) rfl ?_
        exact ⟨by rw [hOut.out] <;> rfl, hB3⟩
      | false =>
        have hmp : 0 < m := by rcases Nat.eq_zero_or_pos m with h | h; exact absurd (hm0.out.1 h) (by simpa using hB0.out); exact h
        have h1' : (nl s)[k]? ≠ some 93 := by simpa using h1
        clear h1
        have hat := nl_at s k hkl
        obtain ⟨x, hx⟩ : ∃ x, (s[k]).toNat = x := ⟨_, rfl⟩
        rw [hx] at hat
        have hx2 : ((x : Int) == 93) = false := by
          rw [hat] at h1'
          have : x ≠ 93 := fun q => h1' (by rw [q])
          simp; omega
        clear h1' hat
        go_wp2_with (first | (go_at_call 70; (with_reducible refine (C.out _).mono ?_); rintro e w1 ⟨rfl, h1⟩; replace b0 := b0.bel h1; replace b1 := b1.bel h1; replace hrow := hrow.bel h1; replace hB := hB.trans (h1.mono hB.size); clear h1; clear f0 f1 f2 f3 z0 z1 z2 z3 g0 g1 g2 g3 y0 y1 y2 y3; obtain ⟨⟨f0, f1, f2, f3⟩, z0, z1, z2, z3⟩ := b1.facts; obtain ⟨⟨g0, g1, g2, g3⟩, y0, y1, y2, y3⟩ := b0.facts) | (go_at_call 70; (with_reducible refine (C2.out _).mono ?_); rintro e w1 ⟨rfl, h1⟩; replace b0 := b0.bel h1; replace b1 := b1.bel h1; replace hrow := hrow.bel h1; replace hB := hB.trans (h1.mono hB.size); clear h1; clear f0 f1 f2 f3 z0 z1 z2 z3 g0 g1 g2 g3 y0 y1 y2 y3; obtain ⟨⟨f0, f1, f2, f3⟩, z0, z1, z2, z3⟩ := b1.facts; obtain ⟨⟨g0, g1, g2, g3⟩, y0, y1, y2, y3⟩ := b0.facts))
        obtain ⟨W3, hW3, hb3, hB3⟩ := stored b0 hB (Nat.le_refl _) (.int .u64 0) (.int .u64 0) (.int .u64 0) (.int .u64 0)
        obtain ⟨⟨c0, c1, c2, c3⟩, -⟩ := hb3.facts
        rw [hW3]
        refine bodyPost_ret (v := .tuple #[(.agg #[.int .u64 0, .int .u64 0, .int .u64 0, .int .u64 0]), .int .i64 (n + 1), .int .i64 1]) (by simp [results, Tryd.results45, go_sem, c0, c1, c2, c3]) rfl ?_
        exact ⟨by rw [hOut.out] <;> rfl, hB3⟩
    | span _ _ c n d q ps _ _ h1 h2 h3 h4 h5 hps =>
      have hn8 : q ≤ s.size := (by obtain ⟨n2, q1, q2, q3⟩ := one_next h4; have := nl_length s; omega)
      have hlt : k < q := (by obtain ⟨n2, q1, q2, q3⟩ := one_next h4; obtain ⟨n3, q4, q5, q6⟩ := one_next h2; omega)
      have hc8 : c ≤ 255 := one_small (nl_small s) h2
      have hcw := Lib.hid (show wrap64 (c : Int) = c by unfold wrap64; omega)
      have hok2 : ∀ p ∈ acc ++ [(c, d)], p.1 ≤ p.2 ∧ p.2 ≤ 255 := fun p hp => by
        rcases List.mem_append.1 hp with hp | hp
        · exact hok.out p hp
        · obtain rfl : p = (c, d) := by simpa using hp
          exact ⟨h5, one_small (nl_small s) h4⟩
      have hne : (acc ++ [(c, d)]).isEmpty = false := by cases acc <;> rfl
      replace hne := Lib.hid hne
      replace hok2 := Lib.hid hok2
      have hkl : k < s.size := by omega
      have C := Lib.hid (fun w' => rone_in h2 hm w')
      unfold Gives at C
      have C2 := Lib.hid (fun w' => rone_in h4 hm w')
      unfold Gives at C2
      rw [show ((n + 1 : Nat) : Int) = (n : Int) + 1 by omega] at C2
      have hd8 : d ≤ 255 := one_small (nl_small s) h4
      have hdw := Lib.hid (show wrap64 (d : Int) = d by unfold wrap64; omega)
      have hcd : decide (d < c) = false := by simp; omega
      obtain ⟨hnl, hy⟩ := at_nl h3
      clear h2 h3 h4
      cases B with
      | true =>
        obtain rfl : m = 0 := hm0.out.2 (by simpa using hB0.out)
        clear h1
        go_wp2_with (first | (go_at_call 70; (with_reducible refine (C.out _).mono ?_); rintro e w1 ⟨rfl, h1⟩; replace b0 := b0.bel h1; replace b1 := b1.bel h1; replace hrow := hrow.bel h1; replace hB := hB.trans (h1.mono hB.size); clear h1; clear f0 f1 f2 f3 z0 z1 z2 z3 g0 g1 g2 g3 y0 y1 y2 y3; obtain ⟨⟨f0, f1, f2, f3⟩, z0, z1, z2, z3⟩ := b1.facts; obtain ⟨⟨g0, g1, g2, g3⟩, y0, y1, y2, y3⟩ := b0.facts) | (go_at_call 70; (with_reducible refine (C2.out _).mono ?_); rintro e w1 ⟨rfl, h1⟩; replace b0 := b0.bel h1; replace b1 := b1.bel h1; replace hrow := hrow.bel h1; replace hB := hB.trans (h1.mono hB.size); clear h1; clear f0 f1 f2 f3 z0 z1 z2 z3 g0 g1 g2 g3 y0 y1 y2 y3; obtain ⟨⟨f0, f1, f2, f3⟩, z0, z1, z2, z3⟩ := b1.facts; obtain ⟨⟨g0, g1, g2, g3⟩, y0, y1, y2, y3⟩ := b0.facts))
        go_loopw [16] (fun i wz => ∃ j : Nat, c ≤ j ∧ j ≤ d + 1 ∧ i = .int .i64 j ∧ Blk4 wz w.heap.size 24 (.int .u64 0) (.int .u64 0) (.int .u64 0) (.int .u64 0) ∧ Blk4 wz (w.heap.size + 1) 24 (.int .u64 0) (.int .u64 0) (.int .u64 0) (.int .u64 0) ∧ BoolRow wz (w.heap.size + 1 + 1) (upU acc c j) ∧ Below w.heap.size w wz) (fun i _ => 256 - (intOf i).toNat)
        case atStart => exact ⟨c, Nat.le_refl _, by omega, by first | rfl | rw [hcw.out], b0, b1, hrow.congr fun x _ => by simp [upU]; omega, hB⟩
        case round =>
          clear b0 b1 hrow hB f0 f1 f2 f3 z0 z1 z2 z3 g0 g1 g2 g3 y0 y1 y2 y3
          obtain ⟨j, hj1, hj2, rfl, b0, b1, hrow, hB⟩ := hrel
          by_cases hj : j ≤ d
          · have hcell := hrow.cell (k := j) (by omega)
            have hfz := hrow.frozen j
            have h1 := Lib.hid (hB.setCell (p := ⟨(w.heap.size + 1 + 1), j, none⟩) (by simp; omega) (.bool true))
            have h2 := Lib.hid ((hrow.set j true).congr (g := upU acc c (j + 1)) fun x _ => upU_step acc hj1 x)
            have h3 := Lib.hid (b0.setOther (a := ⟨(w.heap.size + 1 + 1), j, none⟩) (by simp <;> omega) (.bool true))
            have h4 := Lib.hid (b1.setOther (a := ⟨(w.heap.size + 1 + 1), j, none⟩) (by simp <;> omega) (.bool true))
            clear b0 b1 hrow hB
            have hjd : decide ((j : Int) ≤ wrap64 (d : Int)) = true := by rw [hdw.out]; simp; omega
            go_wp2
            go_roundw
            case rel => exact ⟨j + 1, by omega, by omega, by go_num, h3.out, h4.out, h2.out, h1.out⟩
            case measure => simp [intOf]; omega
          · obtain rfl : j = d + 1 := by omega
            have h2 := Lib.hid (hrow.congr (g := spU (acc ++ [(c, d)])) fun x _ => upU_end acc c d x)
            have h1 := Lib.hid hB
            have h3 := Lib.hid b0
            have h4 := Lib.hid b1
            clear b0 b1 hrow hB
            have hjd : decide (((d : Int) + 1) ≤ wrap64 (d : Int)) = false := by rw [hdw.out]; simp; omega
            go_wp2
            go_roundw
            case rel => exact ⟨q, 0 + 1, acc ++ [(c, d)], ps, rfl, by go_num, hn8, by omega, by simp, by rw [hne.out]; exact hps, by rw [← hP.out]; simp, hok2.out, h3.out, h4.out, h2.out, h1.out⟩
            case measure => simp [intOf]; omega
      | false =>
        have hmp : 0 < m := by rcases Nat.eq_zero_or_pos m with h | h; exact absurd (hm0.out.1 h) (by simpa using hB0.out); exact h
        have h1' : (nl s)[k]? ≠ some 93 := by simpa using h1
        clear h1
        have hat := nl_at s k hkl
        obtain ⟨x, hx⟩ : ∃ x, (s[k]).toNat = x := ⟨_, rfl⟩
        rw [hx] at hat
        have hx2 : ((x : Int) == 93) = false := by
          rw [hat] at h1'
          have : x ≠ 93 := fun q => h1' (by rw [q])
          simp; omega
        clear h1' hat
        go_wp2_with (first | (go_at_call 70; (with_reducible refine (C.out _).mono ?_); rintro e w1 ⟨rfl, h1⟩; replace b0 := b0.bel h1; replace b1 := b1.bel h1; replace hrow := hrow.bel h1; replace hB := hB.trans (h1.mono hB.size); clear h1; clear f0 f1 f2 f3 z0 z1 z2 z3 g0 g1 g2 g3 y0 y1 y2 y3; obtain ⟨⟨f0, f1, f2, f3⟩, z0, z1, z2, z3⟩ := b1.facts; obtain ⟨⟨g0, g1, g2, g3⟩, y0, y1, y2, y3⟩ := b0.facts) | (go_at_call 70; (with_reducible refine (C2.out _).mono ?_); rintro e w1 ⟨rfl, h1⟩; replace b0 := b0.bel h1; replace b1 := b1.bel h1; replace hrow := hrow.bel h1; replace hB := hB.trans (h1.mono hB.size); clear h1; clear f0 f1 f2 f3 z0 z1 z2 z3 g0 g1 g2 g3 y0 y1 y2 y3; obtain ⟨⟨f0, f1, f2, f3⟩, z0, z1, z2, z3⟩ := b1.facts; obtain ⟨⟨g0, g1, g2, g3⟩, y0, y1, y2, y3⟩ := b0.facts))
        go_loopw [16] (fun i wz => ∃ j : Nat, c ≤ j ∧ j ≤ d + 1 ∧ i = .int .i64 j ∧ Blk4 wz w.heap.size 24 (.int .u64 0) (.int .u64 0) (.int .u64 0) (.int .u64 0) ∧ Blk4 wz (w.heap.size + 1) 24 (.int .u64 0) (.int .u64 0) (.int .u64 0) (.int .u64 0) ∧ BoolRow wz (w.heap.size + 1 + 1) (upU acc c j) ∧ Below w.heap.size w wz) (fun i _ => 256 - (intOf i).toNat)
        case atStart => exact ⟨c, Nat.le_refl _, by omega, by first | rfl | rw [hcw.out], b0, b1, hrow.congr fun x _ => by simp [upU]; omega, hB⟩
        case round =>
          clear b0 b1 hrow hB f0 f1 f2 f3 z0 z1 z2 z3 g0 g1 g2 g3 y0 y1 y2 y3
          obtain ⟨j, hj1, hj2, rfl, b0, b1, hrow, hB⟩ := hrel
          by_cases hj : j ≤ d
          · have hcell := hrow.cell (k := j) (by omega)
            have hfz := hrow.frozen j
            have h1 := Lib.hid (hB.setCell (p := ⟨(w.heap.size + 1 + 1), j, none⟩) (by simp; omega) (.bool true))
            have h2 := Lib.hid ((hrow.set j true).congr (g := upU acc c (j + 1)) fun x _ => upU_step acc hj1 x)
            have h3 := Lib.hid (b0.setOther (a := ⟨(w.heap.size + 1 + 1), j, none⟩) (by simp <;> omega) (.bool true))
            have h4 := Lib.hid (b1.setOther (a := ⟨(w.heap.size + 1 + 1), j, none⟩) (by simp <;> omega) (.bool true))
            clear b0 b1 hrow hB
            have hjd : decide ((j : Int) ≤ wrap64 (d : Int)) = true := by rw [hdw.out]; simp; omega
            go_wp2
            go_roundw
            case rel => exact ⟨j + 1, by omega, by omega, by go_num, h3.out, h4.out, h2.out, h1.out⟩
            case measure => simp [intOf]; omega
          · obtain rfl : j = d + 1 := by omega
            have h2 := Lib.hid (hrow.congr (g := spU (acc ++ [(c, d)])) fun x _ => upU_end acc c d x)
            have h1 := Lib.hid hB
            have h3 := Lib.hid b0
            have h4 := Lib.hid b1
            clear b0 b1 hrow hB
            have hjd : decide (((d : Int) + 1) ≤ wrap64 (d : Int)) = false := by rw [hdw.out]; simp; omega
            go_wp2
            go_roundw
            case rel => exact ⟨q, m + 1, acc ++ [(c, d)], ps, rfl, by go_num, hn8, by omega, by simp, by rw [hne.out]; exact hps, by rw [← hP.out]; simp, hok2.out, h3.out, h4.out, h2.out, h1.out⟩
            case measure => simp [intOf]; omega
end Go.Proofs.YtjlmeegaiagfpaaDoor.S6

namespace Go.Proofs.YtjlmeegaiagfpaaDoor.S6
open Go.RowKit
open S5 (nl nl_length nl_small at_nl nl_at Rd Sp Gives Two errV)
open S1 (Blk4 SetBox BoolRow wd noS oneS spanS orS notS spU eqB)
set_option maxRecDepth 100000 in
set_option maxHeartbeats 16000000 in
theorem rread_pos1 {s : ByteArray} (hm : s.size ≤ 99990) {k0 : Nat} {P : List (Nat × Nat)} {t : Int} {e : Nat} (h0 : (nl s)[k0]? = some 91) (hn : (nl s)[k0 + 1]? ≠ some 94) (h : Its (nl s) true (k0 + 1) P t e) (hz2 : k0 + 1 < s.size) (w : World) :
    Gives 45 #[.string s, .int .i64 k0] (roV (spU P) t e) w := by
  obtain ⟨hl0, ha0⟩ := at_nl h0
  have hz1 : k0 + 1 < s.size → ∃ y, (∃ h : k0 + 1 < s.size, (s[k0 + 1]).toNat = y) ∧ ((y : Int) == 94) = false := fun h => by
    refine ⟨_, ⟨h, rfl⟩, ?_⟩
    have := nl_at s (k0 + 1) h
    rw [this] at hn
    have : (s[k0 + 1]).toNat ≠ 94 := fun q => hn (by rw [q])
    simp; omega
  clear h0 hn
  obtain ⟨y9, ⟨_, hy9⟩, hy8⟩ := hz1 hz2
  clear hz1
  unfold Gives
  have hmk := S1.make256
  go_enter Tryd.func45, Tryd.ntmps45
  go_wp2
  obtain ⟨W, hW, b0, b1, hB⟩ := S1.boxes2 w 24 24 (.int .u64 0) (.int .u64 0) (.int .u64 0) (.int .u64 0) (.int .u64 0) (.int .u64 0) (.int .u64 0) (.int .u64 0)
  have hs : W.heap.size = w.heap.size + 1 + 1 := by rw [← hW]; simp
  rw [hW]
  clear hW hmk
  have hrow := BoolRow.new W noS
  rw [hs] at hrow
  have b0 := b0.alloc (.cells (S1.bl noS).toArray 4)
  have b1 := b1.alloc (.cells (S1.bl noS).toArray 4)
  have hB := hB.alloc hB.size (.cells (S1.bl noS).toArray 4)
  revert b0 b1 hB hrow
  generalize W.alloc (.cells (S1.bl noS).toArray 4) = W2
  intro hrow b0 b1 hB
  have hrow := hrow.congr (g := spU []) fun c _ => by simp [noS, spU]
  go_loopw [1, 10] (fun i v wr => ∃ (k m : Nat) (acc ps : List (Nat × Nat)), i = .int .i64 k ∧ v = .int .i64 m ∧ k ≤ s.size ∧ m ≤ k ∧ (m = 0 ↔ acc = []) ∧ Its (nl s) acc.isEmpty k ps t e ∧ acc ++ ps = P ∧ (∀ p ∈ acc, p.1 ≤ p.2 ∧ p.2 ≤ 255) ∧ Blk4 wr w.heap.size 24 (.int .u64 0) (.int .u64 0) (.int .u64 0) (.int .u64 0) ∧ Blk4 wr (w.heap.size + 1) 24 (.int .u64 0) (.int .u64 0) (.int .u64 0) (.int .u64 0) ∧ BoolRow wr (w.heap.size + 1 + 1) (spU acc) ∧ Below w.heap.size w wr) (fun i _ _ => s.size - (intOf i).toNat)
  case atStart => exact ⟨(k0 + 1), 0, [], P, by go_num, rfl, by omega, by omega, by simp, h, rfl, by simp, b0, b1, hrow, hB⟩
  case round =>
    clear b0 b1 hrow hB h
    obtain ⟨k, m, acc, ps, rfl, rfl, hks, hmk, hm0, hI, hP, hok, b0, b1, hrow, hB⟩ := hrel
    generalize hB0 : acc.isEmpty = B at hI
    replace hP := Lib.hid hP
    replace hm0 := Lib.hid hm0
    replace hB0 := Lib.hid hB0
    replace hok := Lib.hid hok
    obtain ⟨⟨f0, f1, f2, f3⟩, z0, z1, z2, z3⟩ := b1.facts
    obtain ⟨⟨g0, g1, g2, g3⟩, y0, y1, y2, y3⟩ := b0.facts
    cases hI with
    | close _ h1 =>
      obtain rfl : acc = P := by simpa using hP.out
      obtain ⟨hkl, hx⟩ := at_nl h1
      have hmp : 0 < m := by rcases Nat.eq_zero_or_pos m with h | h; exact absurd (hm0.out.1 h) (by simpa using hB0.out); exact h
      clear h1
      have hof := Lib.hid (fun w' hr => S1.refof_in (spU acc) (w.heap.size + 1 + 1) w' hr)
      go_wp2_with (go_at_call 71; (with_reducible refine (hof.out _ hrow).mono ?_); rintro e w1 ⟨rfl, h1⟩; replace b0 := b0.bel h1; replace b1 := b1.bel h1; replace hrow := hrow.bel h1; replace hB := hB.trans (h1.mono hB.size); clear h1; clear f0 f1 f2 f3 z0 z1 z2 z3 g0 g1 g2 g3 y0 y1 y2 y3; obtain ⟨⟨f0, f1, f2, f3⟩, z0, z1, z2, z3⟩ := b1.facts; obtain ⟨⟨g0, g1, g2, g3⟩, y0, y1, y2, y3⟩ := b0.facts)
      obtain ⟨W3, hW3, hb3, hB3⟩ := stored b0 hB (Nat.le_refl _) (.int .u64 (S1.wd (spU acc) 0)) (.int .u64 (S1.wd (spU acc) 1)) (.int .u64 (S1.wd (spU acc) 2)) (.int .u64 (S1.wd (spU acc) 3))
      obtain ⟨⟨c0, c1, c2, c3⟩, -⟩ := hb3.facts
      rw [hW3]
      refine bodyPost_ret (v := .tuple #[(.agg #[.int .u64 (S1.wd (spU acc) 0), .int .u64 (S1.wd (spU acc) 1), .int .u64 (S1.wd (spU acc) 2), .int .u64 (S1.wd (spU acc) 3)]), .int .i64 (k + 1), .int .i64 0]) (by simp [results, Tryd.results45, go_sem, c0, c1, c2, c3]) rfl ?_
      exact ⟨rfl, hB3⟩
    | bad1 _ _ _ _ h1 h2 h3 =>
      have C := Lib.hid (fun w' => rone_in h2 hm w')
      unfold Gives at C
      have hOut := Lib.hid (roV_err (spU P) t h3)
      have he1 : ((e : Int) != 0) = true := by simp; omega
      clear h2 h3
      cases B with
      | true =>
        obtain rfl : m = 0 := hm0.out.2 (by simpa using hB0.out)
        clear h1
        go_wp2_with (go_at_call 70; (with_reducible refine (C.out _).mono ?_); rintro e w1 ⟨rfl, h1⟩; replace b0 := b0.bel h1; replace b1 := b1.bel h1; replace hrow := hrow.bel h1; replace hB := hB.trans (h1.mono hB.size); clear h1; clear f0 f1 f2 f3 z0 z1 z2 z3 g0 g1 g2 g3 y0 y1 y2 y3; obtain ⟨⟨f0, f1, f2, f3⟩, z0, z1, z2, z3⟩ := b1.facts; obtain ⟨⟨g0, g1, g2, g3⟩, y0, y1, y2, y3⟩ := b0.facts)
        obtain ⟨W3, hW3, hb3, hB3⟩ := stored b0 hB (Nat.le_refl _) (.int .u64 0) (.int .u64 0) (.int .u64 0) (.int .u64 0)
        obtain ⟨⟨c0, c1, c2, c3⟩, -⟩ := hb3.facts
        rw [hW3]
        refine bodyPost_ret (v := .tuple #[(.agg #[.int .u64 0, .int .u64 0, .int .u64 0, .int .u64 0]), .int .i64 t, .int .i64 e]) (by simp [results, Tryd.results45, go_sem, c0, c1, c2, c3]) rfl ?_
        exact ⟨by rw [hOut.out] <;> rfl, hB3⟩
      | false =>
        have hmp : 0 < m := by rcases Nat.eq_zero_or_pos m with h | h; exact absurd (hm0.out.1 h) (by simpa using hB0.out); exact h
        have h1' : (nl s)[k]? ≠ some 93 := by simpa using h1
        clear h1
        by_cases hkl : k < s.size
        · have hat := nl_at s k hkl
          obtain ⟨x, hx⟩ : ∃ x, (s[k]).toNat = x := ⟨_, rfl⟩
          rw [hx] at hat
          have hx2 : ((x : Int) == 93) = false := by
            rw [hat] at h1'
            have : x ≠ 93 := fun q => h1' (by rw [q])
            simp; omega
          clear h1' hat
          go_wp2_with (go_at_call 70; (with_reducible refine (C.out _).mono ?_); rintro e w1 ⟨rfl, h1⟩; replace b0 := b0.bel h1; replace b1 := b1.bel h1; replace hrow := hrow.bel h1; replace hB := hB.trans (h1.mono hB.size); clear h1; clear f0 f1 f2 f3 z0 z1 z2 z3 g0 g1 g2 g3 y0 y1 y2 y3; obtain ⟨⟨f0, f1, f2, f3⟩, z0, z1, z2, z3⟩ := b1.facts; obtain ⟨⟨g0, g1, g2, g3⟩, y0, y1, y2, y3⟩ := b0.facts)
          obtain ⟨W3, hW3, hb3, hB3⟩ := stored b0 hB (Nat.le_refl _) (.int .u64 0) (.int .u64 0) (.int .u64 0) (.int .u64 0)
          obtain ⟨⟨c0, c1, c2, c3⟩, -⟩ := hb3.facts
          rw [hW3]
          refine bodyPost_ret (v := .tuple #[(.agg #[.int .u64 0, .int .u64 0, .int .u64 0, .int .u64 0]), .int .i64 t, .int .i64 e]) (by simp [results, Tryd.results45, go_sem, c0, c1, c2, c3]) rfl ?_
          exact ⟨by rw [hOut.out] <;> rfl, hB3⟩
        · clear h1'
          go_wp2_with (go_at_call 70; (with_reducible refine (C.out _).mono ?_); rintro e w1 ⟨rfl, h1⟩; replace b0 := b0.bel h1; replace b1 := b1.bel h1; replace hrow := hrow.bel h1; replace hB := hB.trans (h1.mono hB.size); clear h1; clear f0 f1 f2 f3 z0 z1 z2 z3 g0 g1 g2 g3 y0 y1 y2 y3; obtain ⟨⟨f0, f1, f2, f3⟩, z0, z1, z2, z3⟩ := b1.facts; obtain ⟨⟨g0, g1, g2, g3⟩, y0, y1, y2, y3⟩ := b0.facts)
          obtain ⟨W3, hW3, hb3, hB3⟩ := stored b0 hB (Nat.le_refl _) (.int .u64 0) (.int .u64 0) (.int .u64 0) (.int .u64 0)
          obtain ⟨⟨c0, c1, c2, c3⟩, -⟩ := hb3.facts
          rw [hW3]
          refine bodyPost_ret (v := .tuple #[(.agg #[.int .u64 0, .int .u64 0, .int .u64 0, .int .u64 0]), .int .i64 t, .int .i64 e]) (by simp [results, Tryd.results45, go_sem, c0, c1, c2, c3]) rfl ?_
          exact ⟨by rw [hOut.out] <;> rfl, hB3⟩
    | one _ _ c n ps _ _ h1 h2 h3 hps =>
      have hn8 : n ≤ s.size := (by obtain ⟨n2, q1, q2, q3⟩ := one_next h2; have := nl_length s; omega)
      have hlt : k < n := (by obtain ⟨n2, q1, q2, q3⟩ := one_next h2; omega)
      have hc8 : c ≤ 255 := one_small (nl_small s) h2
      have hcw := Lib.hid (show wrap64 (c : Int) = c by unfold wrap64; omega)
      have hok2 : ∀ p ∈ acc ++ [(c, c)], p.1 ≤ p.2 ∧ p.2 ≤ 255 := fun p hp => by
        rcases List.mem_append.1 hp with hp | hp
        · exact hok.out p hp
        · obtain rfl : p = (c, c) := by simpa using hp
          exact ⟨Nat.le_refl _, hc8⟩
      have hne : (acc ++ [(c, c)]).isEmpty = false := by cases acc <;> rfl
      replace hne := Lib.hid hne
      replace hok2 := Lib.hid hok2
      have hkl : k < s.size := by omega
      have C := Lib.hid (fun w' => rone_in h2 hm w')
      unfold Gives at C
      have hn45 : n < s.size → ∃ y, (∃ h : n < s.size, (s[n]).toNat = y) ∧ ((y : Int) == 45) = false := fun h => by
        refine ⟨_, ⟨h, rfl⟩, ?_⟩
        have := nl_at s n h
        rw [this] at h3
        have : (s[n]).toNat ≠ 45 := fun q => h3 (by rw [q])
        simp; omega
      clear h2 h3
      by_cases hnl : n < s.size
      · obtain ⟨y, ⟨_, hy⟩, hy2⟩ := hn45 hnl
        clear hn45
        cases B with
        | true =>
          obtain rfl : m = 0 := hm0.out.2 (by simpa using hB0.out)
          clear h1
          go_wp2_with (go_at_call 70; (with_reducible refine (C.out _).mono ?_); rintro e w1 ⟨rfl, h1⟩; replace b0 := b0.bel h1; replace b1 := b1.bel h1; replace hrow := hrow.bel h1; replace hB := hB.trans (h1.mono hB.size); clear h1; clear f0 f1 f2 f3 z0 z1 z2 z3 g0 g1 g2 g3 y0 y1 y2 y3; obtain ⟨⟨f0, f1, f2, f3⟩, z0, z1, z2, z3⟩ := b1.facts; obtain ⟨⟨g0, g1, g2, g3⟩, y0, y1, y2, y3⟩ := b0.facts)
          go_loopw [16] (fun i wz => ∃ j : Nat, c ≤ j ∧ j ≤ c + 1 ∧ i = .int .i64 j ∧ Blk4 wz w.heap.size 24 (.int .u64 0) (.int .u64 0) (.int .u64 0) (.int .u64 0) ∧ Blk4 wz (w.heap.size + 1) 24 (.int .u64 0) (.int .u64 0) (.int .u64 0) (.int .u64 0) ∧ BoolRow wz (w.heap.size + 1 + 1) (upU acc c j) ∧ Below w.heap.size w wz) (fun i _ => 256 - (intOf i).toNat)
          case atStart => exact ⟨c, Nat.le_refl _, by omega, by first | rfl | rw [hcw.out], b0, b1, hrow.congr fun x _ => by simp [upU]; omega, hB⟩
          case round =>
            clear b0 b1 hrow hB f0 f1 f2 f3 z0 z1 z2 z3 g0 g1 g2 g3 y0 y1 y2 y3
            obtain ⟨j, hj1, hj2, rfl, b0, b1, hrow, hB⟩ := hrel
            by_cases hj : j ≤ c
            · have hcell := hrow.cell (k := j) (by omega)
              have hfz := hrow.frozen j
              have h1 := Lib.hid (hB.setCell (p := ⟨(w.heap.size + 1 + 1), j, none⟩) (by simp; omega) (.bool true))
              have h2 := Lib.hid ((hrow.set j true).congr (g := upU acc c (j + 1)) fun x _ => upU_step acc hj1 x)
              have h3 := Lib.hid (b0.setOther (a := ⟨(w.heap.size + 1 + 1), j, none⟩) (by simp <;> omega) (.bool true))
              have h4 := Lib.hid (b1.setOther (a := ⟨(w.heap.size + 1 + 1), j, none⟩) (by simp <;> omega) (.bool true))
              clear b0 b1 hrow hB
              have hjd : decide ((j : Int) ≤ wrap64 (c : Int)) = true := by rw [hcw.out]; simp; omega
              go_wp2
              go_roundw
              case rel => exact ⟨j + 1, by omega, by omega, by go_num, h3.out, h4.out, h2.out, h1.out⟩
              case measure => simp [intOf]; omega
            · obtain rfl : j = c + 1 := by omega
              have h2 := Lib.hid (hrow.congr (g := spU (acc ++ [(c, c)])) fun x _ => upU_end acc c c x)
              have h1 := Lib.hid hB
              have h3 := Lib.hid b0
              have h4 := Lib.hid b1
              clear b0 b1 hrow hB
              have hjd : decide (((c : Int) + 1) ≤ wrap64 (c : Int)) = false := by rw [hcw.out]; simp; omega
              go_wp2
              go_roundw
              case rel => exact ⟨n, 0 + 1, acc ++ [(c, c)], ps, rfl, by go_num, hn8, by omega, by simp, by rw [hne.out]; exact hps, by rw [← hP.out]; simp, hok2.out, h3.out, h4.out, h2.out, h1.out⟩
              case measure => simp [intOf]; omega
        | false =>
          have hmp : 0 < m := by rcases Nat.eq_zero_or_pos m with h | h; exact absurd (hm0.out.1 h) (by simpa using hB0.out); exact h
          have h1' : (nl s)[k]? ≠ some 93 := by simpa using h1
          clear h1
          have hat := nl_at s k hkl
          obtain ⟨x, hx⟩ : ∃ x, (s[k]).toNat = x := ⟨_, rfl⟩
          rw [hx] at hat
          have hx2 : ((x : Int) == 93) = false := by
            rw [hat] at h1'
            have : x ≠ 93 := fun q => h1' (by rw [q])
            simp; omega
          clear h1' hat
          go_wp2_with (go_at_call 70; (with_reducible refine (C.out _).mono ?_); rintro e w1 ⟨rfl, h1⟩; replace b0 := b0.bel h1; replace b1 := b1.bel h1; replace hrow := hrow.bel h1; replace hB := hB.trans (h1.mono hB.size); clear h1; clear f0 f1 f2 f3 z0 z1 z2 z3 g0 g1 g2 g3 y0 y1 y2 y3; obtain ⟨⟨f0, f1, f2, f3⟩, z0, z1, z2, z3⟩ := b1.facts; obtain ⟨⟨g0, g1, g2, g3⟩, y0, y1, y2, y3⟩ := b0.facts)
          go_loopw [16] (fun i wz => ∃ j : Nat, c ≤ j ∧ j ≤ c + 1 ∧ i = .int .i64 j ∧ Blk4 wz w.heap.size 24 (.int .u64 0) (.int .u64 0) (.int .u64 0) (.int .u64 0) ∧ Blk4 wz (w.heap.size + 1) 24 (.int .u64 0) (.int .u64 0) (.int .u64 0) (.int .u64 0) ∧ BoolRow wz (w.heap.size + 1 + 1) (upU acc c j) ∧ Below w.heap.size w wz) (fun i _ => 256 - (intOf i).toNat)
          case atStart => exact ⟨c, Nat.le_refl _, by omega, by first | rfl | rw [hcw.out], b0, b1, hrow.congr fun x _ => by simp [upU]; omega, hB⟩
          case round =>
            clear b0 b1 hrow hB f0 f1 f2 f3 z0 z1 z2 z3 g0 g1 g2 g3 y0 y1 y2 y3
            obtain ⟨j, hj1, hj2, rfl, b0, b1, hrow, hB⟩ := hrel
            by_cases hj : j ≤ c
            · have hcell := hrow.cell (k := j) (by omega)
              have hfz := hrow.frozen j
              have h1 := Lib.hid (hB.setCell (p := ⟨(w.heap.size + 1 + 1), j, none⟩) (by simp; omega) (.bool true))
              have h2 := Lib.hid ((hrow.set j true).congr (g := upU acc c (j + 1)) fun x _ => upU_step acc hj1 x)
              have h3 := Lib.hid (b0.setOther (a := ⟨(w.heap.size + 1 + 1), j, none⟩) (by simp <;> omega) (.bool true))
              have h4 := Lib.hid (b1.setOther (a := ⟨(w.heap.size + 1 + 1), j, none⟩) (by simp <;> omega) (.bool true))
              clear b0 b1 hrow hB
              have hjd : decide ((j : Int) ≤ wrap64 (c : Int)) = true := by rw [hcw.out]; simp; omega
              go_wp2
              go_roundw
              case rel => exact ⟨j + 1, by omega, by omega, by go_num, h3.out, h4.out, h2.out, h1.out⟩
              case measure => simp [intOf]; omega
            · obtain rfl : j = c + 1 := by omega
              have h2 := Lib.hid (hrow.congr (g := spU (acc ++ [(c, c)])) fun x _ => upU_end acc c c x)
              have h1 := Lib.hid hB
              have h3 := Lib.hid b0
              have h4 := Lib.hid b1
              clear b0 b1 hrow hB
              have hjd : decide (((c : Int) + 1) ≤ wrap64 (c : Int)) = false := by rw [hcw.out]; simp; omega
              go_wp2
              go_roundw
              case rel => exact ⟨n, m + 1, acc ++ [(c, c)], ps, rfl, by go_num, hn8, by omega, by simp, by rw [hne.out]; exact hps, by rw [← hP.out]; simp, hok2.out, h3.out, h4.out, h2.out, h1.out⟩
              case measure => simp [intOf]; omega
      · clear hn45
        cases B with
        | true =>
          obtain rfl : m = 0 := hm0.out.2 (by simpa using hB0.out)
          clear h1
          go_wp2_with (go_at_call 70; (with_reducible refine (C.out _).mono ?_); rintro e w1 ⟨rfl, h1⟩; replace b0 := b0.bel h1; replace b1 := b1.bel h1; replace hrow := hrow.bel h1; replace hB := hB.trans (h1.mono hB.size); clear h1; clear f0 f1 f2 f3 z0 z1 z2 z3 g0 g1 g2 g3 y0 y1 y2 y3; obtain ⟨⟨f0, f1, f2, f3⟩, z0, z1, z2, z3⟩ := b1.facts; obtain ⟨⟨g0, g1, g2, g3⟩, y0, y1, y2, y3⟩ := b0.facts)
          go_loopw [16] (fun i wz => ∃ j : Nat, c ≤ j ∧ j ≤ c + 1 ∧ i = .int .i64 j ∧ Blk4 wz w.heap.size 24 (.int .u64 0) (.int .u64 0) (.int .u64 0) (.int .u64 0) ∧ Blk4 wz (w.heap.size + 1) 24 (.int .u64 0) (.int .u64 0) (.int .u64 0) (.int .u64 0) ∧ BoolRow wz (w.heap.size + 1 + 1) (upU acc c j) ∧ Below w.heap.size w wz) (fun i _ => 256 - (intOf i).toNat)
          case atStart => exact ⟨c, Nat.le_refl _, by omega, by first | rfl | rw [hcw.out], b0, b1, hrow.congr fun x _ => by simp [upU]; omega, hB⟩
          case round =>
            clear b0 b1 hrow hB f0 f1 f2 f3 z0 z1 z2 z3 g0 g1 g2 g3 y0 y1 y2 y3
            obtain ⟨j, hj1, hj2, rfl, b0, b1, hrow, hB⟩ := hrel
            by_cases hj : j ≤ c
            · have hcell := hrow.cell (k := j) (by omega)
              have hfz := hrow.frozen j
              have h1 := Lib.hid (hB.setCell (p := ⟨(w.heap.size + 1 + 1), j, none⟩) (by simp; omega) (.bool true))
              have h2 := Lib.hid ((hrow.set j true).congr (g := upU acc c (j + 1)) fun x _ => upU_step acc hj1 x)
              have h3 := Lib.hid (b0.setOther (a := ⟨(w.heap.size + 1 + 1), j, none⟩) (by simp <;> omega) (.bool true))
              have h4 := Lib.hid (b1.setOther (a := ⟨(w.heap.size + 1 + 1), j, none⟩) (by simp <;> omega) (.bool true))
              clear b0 b1 hrow hB
              have hjd : decide ((j : Int) ≤ wrap64 (c : Int)) = true := by rw [hcw.out]; simp; omega
              go_wp2
              go_roundw
              case rel => exact ⟨j + 1, by omega, by omega, by go_num, h3.out, h4.out, h2.out, h1.out⟩
              case measure => simp [intOf]; omega
            · obtain rfl : j = c + 1 := by omega
              have h2 := Lib.hid (hrow.congr (g := spU (acc ++ [(c, c)])) fun x _ => upU_end acc c c x)
              have h1 := Lib.hid hB
              have h3 := Lib.hid b0
              have h4 := Lib.hid b1
              clear b0 b1 hrow hB
              have hjd : decide (((c : Int) + 1) ≤ wrap64 (c : Int)) = false := by rw [hcw.out]; simp; omega
              go_wp2
              go_roundw
              case rel => exact ⟨n, 0 + 1, acc ++ [(c, c)], ps, rfl, by go_num, hn8, by omega, by simp, by rw [hne.out]; exact hps, by rw [← hP.out]; simp, hok2.out, h3.out, h4.out, h2.out, h1.out⟩
              case measure => simp [intOf]; omega
        | false =>
          have hmp : 0 < m := by rcases Nat.eq_zero_or_pos m with h | h; exact absurd (hm0.out.1 h) (by simpa using hB0.out); exact h
          have h1' : (nl s)[k]? ≠ some 93 := by simpa using h1
          clear h1
          have hat := nl_at s k hkl
          obtain ⟨x, hx⟩ : ∃ x, (s[k]).toNat = x := ⟨_, rfl⟩
          rw [hx] at hat
          have hx2 : ((x : Int) == 93) = false := by
            rw [hat] at h1'
            have : x ≠ 93 := fun q => h1' (by rw [q])
            simp; omega
          clear h1' hat
          go_wp2_with (go_at_call 70; (with_reducible refine (C.out _).mono ?_); rintro e w1 ⟨rfl, h1⟩; replace b0 := b0.bel h1; replace b1 := b1.bel h1; replace hrow := hrow.bel h1; replace hB := hB.trans (h1.mono hB.size); clear h1; clear f0 f1 f2 f3 z0 z1 z2 z3 g0 g1 g2 g3 y0 y1 y2 y3; obtain ⟨⟨f0, f1, f2, f3⟩, z0, z1, z2, z3⟩ := b1.facts; obtain ⟨⟨g0, g1, g2, g3⟩, y0, y1, y2, y3⟩ := b0.facts)
          go_loopw [16] (fun i wz => ∃ j : Nat, c ≤ j ∧ j ≤ c + 1 ∧ i = .int .i64 j ∧ Blk4 wz w.heap.size 24 (.int .u64 0) (.int .u64 0) (.int .u64 0) (.int .u64 0) ∧ Blk4 wz (w.heap.size + 1) 24 (.int .u64 0) (.int .u64 0) (.int .u64 0) (.int .u64 0) ∧ BoolRow wz (w.heap.size + 1 + 1) (upU acc c j) ∧ Below w.heap.size w wz) (fun i _ => 256 - (intOf i).toNat)
          case atStart => exact ⟨c, Nat.le_refl _, by omega, by first | rfl | rw [hcw.out], b0, b1, hrow.congr fun x _ => by simp [upU]; omega, hB⟩
          case round =>
            clear b0 b1 hrow hB f0 f1 f2 f3 z0 z1 z2 z3 g0 g1 g2 g3 y0 y1 y2 y3
            obtain ⟨j, hj1, hj2, rfl, b0, b1, hrow, hB⟩ := hrel
            by_cases hj : j ≤ c
            · have hcell := hrow.cell (k := j) (by omega)
              have hfz := hrow.frozen j
              have h1 := Lib.hid (hB.setCell (p := ⟨(w.heap.size + 1 + 1), j, none⟩) (by simp; omega) (.bool true))
              have h2 := Lib.hid ((hrow.set j true).congr (g := upU acc c (j + 1)) fun x _ => upU_step acc hj1 x)
              have h3 := Lib.hid (b0.setOther (a := ⟨(w.heap.size + 1 + 1), j, none⟩) (by simp <;> omega) (.bool true))
              have h4 := Lib.hid (b1.setOther (a := ⟨(w.heap.size + 1 + 1), j, none⟩) (by simp <;> omega) (.bool true))
              clear b0 b1 hrow hB
              have hjd : decide ((j : Int) ≤ wrap64 (c : Int)) = true := by rw [hcw.out]; simp; omega
              go_wp2
              go_roundw
              case rel => exact ⟨j + 1, by omega, by omega, by go_num, h3.out, h4.out, h2.out, h1.out⟩
              case measure => simp [intOf]; omega
            · obtain rfl : j = c + 1 := by omega
              have h2 := Lib.hid (hrow.congr (g := spU (acc ++ [(c, c)])) fun x _ => upU_end acc c c x)
              have h1 := Lib.hid hB
              have h3 := Lib.hid b0
              have h4 := Lib.hid b1
              clear b0 b1 hrow hB
              have hjd : decide (((c : Int) + 1) ≤ wrap64 (c : Int)) = false := by rw [hcw.out]; simp; omega
              go_wp2
              go_roundw
              case rel => exact ⟨n, m + 1, acc ++ [(c, c)], ps, rfl, by go_num, hn8, by omega, by simp, by rw [hne.out]; exact hps, by rw [← hP.out]; simp, hok2.out, h3.out, h4.out, h2.out, h1.out⟩
              case measure => simp [intOf]; omega
    | bad2 _ _ c n _ _ h1 h2 h3 h4 h5 =>
      have C := Lib.hid (fun w' => rone_in h2 hm w')
      unfold Gives at C
      have C2 := Lib.hid (fun w' => rone_in h4 hm w')
      unfold Gives at C2
      rw [show ((n + 1 : Nat) : Int) = (n : Int) + 1 by omega] at C2
      have hOut := Lib.hid (roV_err (spU P) t h5)
      have he1 : ((e : Int) != 0) = true := by simp; omega
      have hkl : k < s.size := by obtain ⟨n2, q1, q2, q3⟩ := one_next h2; have := len_le h3; omega
      obtain ⟨hnl, hy⟩ := at_nl h3
      clear h2 h3 h4 h5
      cases B with
      | true =>
        obtain rfl : m = 0 := hm0.out.2 (by simpa using hB0.out)
        clear h1
        go_wp2_with (first | (go_at_call 70; (with_reducible refine (C.out _).mono ?_); rintro e w1 ⟨rfl, h1⟩; replace b0 := b0.bel h1; replace b1 := b1.bel h1; replace hrow := hrow.bel h1; replace hB := hB.trans (h1.mono hB.size); clear h1; clear f0 f1 f2 f3 z0 z1 z2 z3 g0 g1 g2 g3 y0 y1 y2 y3; obtain ⟨⟨f0, f1, f2, f3⟩, z0, z1, z2, z3⟩ := b1.facts; obtain ⟨⟨g0, g1, g2, g3⟩, y0, y1, y2, y3⟩ := b0.facts) | (go_at_call 70; (with_reducible refine (C2.out _).mono ?_); rintro e w1 ⟨rfl, h1⟩; replace b0 := b0.bel h1; replace b1 := b1.bel h1; replace hrow := hrow.bel h1; replace hB := hB.trans (h1.mono hB.size); clear h1; clear f0 f1 f2 f3 z0 z1 z2 z3 g0 g1 g2 g3 y0 y1 y2 y3; obtain ⟨⟨f0, f1, f2, f3⟩, z0, z1, z2, z3⟩ := b1.facts; obtain ⟨⟨g0, g1, g2, g3⟩, y0, y1, y2, y3⟩ := b0.facts))
        obtain ⟨W3, hW3, hb3, hB3⟩ := stored b0 hB (Nat.le_refl _) (.int .u64 0) (.int .u64 0) (.int .u64 0) (.int .u64 0)
        obtain ⟨⟨c0, c1, c2, c3⟩, -⟩ := hb3.facts
        rw [hW3]
        refine bodyPost_ret (v := .tuple #[(.agg #[.int .u64 0, .int .u64 0, .int .u64 0, .int .u64 0]), .int .i64 t, .int .i64 e]) (by simp [results, Tryd.results45, go_sem, c0, c1, c2, c3]) rfl ?_
        exact ⟨by rw [hOut.out] <;> rfl, hB3⟩
      | false =>
        have hmp : 0 < m := by rcases Nat.eq_zero_or_pos m with h | h; exact absurd (hm0.out.1 h) (by simpa using hB0.out); exact h
        have h1' : (nl s)[k]? ≠ some 93 := by simpa using h1
        clear h1
        have hat := nl_at s k hkl
        obtain ⟨x, hx⟩ : ∃ x, (s[k]).toNat = x := ⟨_, rfl⟩
        rw [hx] at hat
        have hx2 : ((x : Int) == 93) = false := by
          rw [hat] at h1'
          have : x ≠ 93 := fun q => h1' (by rw [q])
          simp; omega
        clear h1' hat
        go_wp2_with (first | (go_at_call 70; (with_reducible refine (C.out _).mono ?_); rintro e w1 ⟨rfl, h1⟩; replace b0 := b0.bel h1; replace b1 := b1.bel h1; replace hrow := hrow.bel h1; replace hB := hB.trans (h1.mono hB.size); clear h1; clear f0 f1 f2 f3 z0 z1 z2 z3 g0 g1 g2 g3 y0 y1 y2 y3; obtain ⟨⟨f0, f1, f2, f3⟩, z0, z1, z2, z3⟩ := b1.facts; obtain ⟨⟨g0, g1, g2, g3⟩, y0, y1, y2, y3⟩ := b0.facts) | (go_at_call 70; (with_reducible refine (C2.out _).mono ?_); rintro e w1 ⟨rfl, h1⟩; replace b0 := b0.bel h1; replace b1 := b1.bel h1; replace hrow := hrow.bel h1; replace hB := hB.trans (h1.mono hB.size); clear h1; clear f0 f1 f2 f3 z0 z1 z2 z3 g0 g1 g2 g3 y0 y1 y2 y3; obtain ⟨⟨f0, f1, f2, f3⟩, z0, z1, z2, z3⟩ := b1.facts; obtain ⟨⟨g0, g1, g2, g3⟩, y0, y1, y2, y3⟩ := b0.facts))
        obtain ⟨W3, hW3, hb3, hB3⟩ := stored b0 hB (Nat.le_refl _) (.int .u64 0) (.int .u64 0) (.int .u64 0) (.int .u64 0)
        obtain ⟨⟨c0, c1, c2, c3⟩, -⟩ := hb3.facts
        rw [hW3]
        refine bodyPost_ret (v := .tuple #[(.agg #[.int .u64 0, .int .u64 0, .int .u64 0, .int .u64 0]), .int .i64 t, .int .i64 e]) (by simp [results, Tryd.results45, go_sem, c0, c1, c2, c3]) rfl ?_
        exact ⟨by rw [hOut.out] <;> rfl, hB3⟩
    | down _ _ c n d q h1 h2 h3 h4 h5 =>
      have C := Lib.hid (fun w' => rone_in h2 hm w')
      unfold Gives at C
      have C2 := Lib.hid (fun w' => rone_in h4 hm w')
      unfold Gives at C2
      rw [show ((n + 1 : Nat) : Int) = (n : Int) + 1 by omega] at C2
      have hOut := Lib.hid (roV_err (spU P) ((n : Int) + 1) (e := 1) (by decide))
      have hcd : decide (d < c) = true := by simp; omega
      have hkl : k < s.size := by obtain ⟨n2, q1, q2, q3⟩ := one_next h2; have := len_le h3; omega
      obtain ⟨hnl, hy⟩ := at_nl h3
      clear h2 h3 h4 h5
      cases B with
      | true =>
        obtain rfl : m = 0 := hm0.out.2 (by simpa using hB0.out)
        clear h1
        go_wp2_with (first | (go_at_call 70; (with_reducible refine (C.out _).mono ?_); rintro e w1 ⟨rfl, h1⟩; replace b0 := b0.bel h1; replace b1 := b1.bel h1; replace hrow := hrow.bel h1; replace hB := hB.trans (h1.mono hB.size); clear h1; clear f0 f1 f2 f3 z0 z1 z2 z3 g0 g1 g2 g3 y0 y1 y2 y3; obtain ⟨⟨f0, f1, f2, f3⟩, z0, z1, z2, z3⟩ := b1.facts; obtain ⟨⟨g0, g1, g2, g3⟩, y0, y1, y2, y3⟩ := b0.facts) | (go_at_call 70; (with_reducible refine (C2.out _).mono ?_); rintro e w1 ⟨rfl, h1⟩; replace b0 := b0.bel h1; replace b1 := b1.bel h1; replace hrow := hrow.bel h1; replace hB := hB.trans (h1.mono hB.size); clear h1; clear f0 f1 f2 f3 z0 z1 z2 z3 g0 g1 g2 g3 y0 y1 y2 y3; obtain ⟨⟨f0, f1, f2, f3⟩, z0, z1, z2, z3⟩ := b1.facts; obtain ⟨⟨g0, g1, g2, g3⟩, y0, y1, y2, y3⟩ := b0.facts))
        obtain ⟨W3, hW3, hb3, hB3⟩ := stored b0 hB (Nat.le_refl _) (.int .u64 0) (.int .u64 0) (.int .u64 0) (.int .u64 0)
        obtain ⟨⟨c0, c1, c2, c3⟩, -⟩ := hb3.facts
        rw [hW3]
        refine bodyPost_ret (v := .tuple #[(.agg #[.int .u64 0, .int .u64 0, .int .u64 0, .int .u64 0]), .int .i64 (n + 1), .int .i64 1]) (by simp [results, Tryd.results45, go_sem, c0, c1, c2, c3]) rfl ?_
        exact ⟨by rw [hOut.out] <;> rfl, hB3⟩
      | false =>
        have hmp : 0 < m := by rcases Nat.eq_zero_or_pos m with h | h; exact absurd (hm0.out.1 h) (by simpa using hB0.out); exact h
        have h1' : (nl s)[k]? ≠ some 93 := by simpa using h1
        clear h1
        have hat := nl_at s k hkl
        obtain ⟨x, hx⟩ : ∃ x, (s[k]).toNat = x := ⟨_, rfl⟩
        rw [hx] at hat
        have hx2 : ((x : Int) == 93) = false := by
          rw [hat] at h1'
          have : x ≠ 93 := fun q => h1' (by rw [q])
          simp; omega
        clear h1' hat
        go_wp2_with (first | (go_at_call 70; (with_reducible refine (C.out _).mono ?_); rintro e w1 ⟨rfl, h1⟩; replace b0 := b0.bel h1; replace b1 := b1.bel h1; replace hrow := hrow.bel h1; replace hB := hB.trans (h1.mono hB.size); clear h1; clear f0 f1 f2 f3 z0 z1 z2 z3 g0 g1 g2 g3 y0 y1 y2 y3; obtain ⟨⟨f0, f1, f2, f3⟩, z0, z1, z2, z3⟩ := b1.facts; obtain ⟨⟨g0, g1, g2, g3⟩, y0, y1, y2, y3⟩ := b0.facts) | (go_at_call 70; (with_reducible refine (C2.out _).mono ?_); rintro e w1 ⟨rfl, h1⟩; replace b0 := b0.bel h1; replace b1 := b1.bel h1; replace hrow := hrow.bel h1; replace hB := hB.trans (h1.mono hB.size); clear h1; clear f0 f1 f2 f3 z0 z1 z2 z3 g0 g1 g2 g3 y0 y1 y2 y3; obtain ⟨⟨f0, f1, f2, f3⟩, z0, z1, z2, z3⟩ := b1.facts; obtain ⟨⟨g0, g1, g2, g3⟩, y0, y1, y2, y3⟩ := b0.facts))
        obtain ⟨W3, hW3, hb3, hB3⟩ := stored b0 hB (Nat.le_refl _) (.int .u64 0) (.int .u64 0) (.int .u64 0) (.int .u64 0)
        obtain ⟨⟨c0, c1, c2, c3⟩, -⟩ := hb3.facts
        rw [hW3]
        refine bodyPost_ret (v := .tuple #[(.agg #[.int .u64 0, .int .u64 0, .int .u64 0, .int .u64 0]), .int .i64 (n + 1), .int .i64 1]) (by simp [results, Tryd.results45, go_sem, c0, c1, c2, c3]) rfl ?_
        exact ⟨by rw [hOut.out] <;> rfl, hB3⟩
    | span _ _ c n d q ps _ _ h1 h2 h3 h4 h5 hps =>
      have hn8 : q ≤ s.size := (by obtain ⟨n2, q1, q2, q3⟩ := one_next h4; have := nl_length s; omega)
      have hlt : k < q := (by obtain ⟨n2, q1, q2, q3⟩ := one_next h4; obtain ⟨n3, q4, q5, q6⟩ := one_next h2; omega)
      have hc8 : c ≤ 255 := one_small (nl_small s) h2
      have hcw := Lib.hid (show wrap64 (c : Int) = c by unfold wrap64; omega)
      have hok2 : ∀ p ∈ acc ++ [(c, d)], p.1 ≤ p.2 ∧ p.2 ≤ 255 := fun p hp => by
        rcases List.mem_append.1 hp with hp | hp
        · exact hok.out p hp
        · obtain rfl : p = (c, d) := by simpa using hp
          exact ⟨h5, one_small (nl_small s) h4⟩
      have hne : (acc ++ [(c, d)]).isEmpty = false := by cases acc <;> rfl
      replace hne := Lib.hid hne
      replace hok2 := Lib.hid hok2
      have hkl : k < s.size := by omega
      have C := Lib.hid (fun w' => rone_in h2 hm w')
      unfold Gives at C
      have C2 := Lib.hid (fun w' => rone_in h4 hm w')
      unfold Gives at C2
      rw [show ((n + 1 : Nat) : Int) = (n : Int) + 1 by omega] at C2
      have hd8 : d ≤ 255 := one_small (nl_small s) h4
      have hdw := Lib.hid (show wrap64 (d : Int) = d by unfold wrap64; omega)
      have hcd : decide (d < c) = false := by simp; omega
      obtain ⟨hnl, hy⟩ := at_nl h3
      clear h2 h3 h4
      cases B with
      | true =>
        obtain rfl : m = 0 := hm0.out.2 (by simpa using hB0.out)
        clear h1
        go_wp2_with (first | (go_at_call 70; (with_reducible refine (C.out _).mono ?_); rintro e w1 ⟨rfl, h1⟩; replace b0 := b0.bel h1; replace b1 := b1.bel h1; replace hrow := hrow.bel h1; replace hB := hB.trans (h1.mono hB.size); clear h1; clear f0 f1 f2 f3 z0 z1 z2 z3 g0 g1 g2 g3 y0 y1 y2 y3; obtain ⟨⟨f0, f1, f2, f3⟩, z0, z1, z2, z3⟩ := b1.facts; obtain ⟨⟨g0, g1, g2, g3⟩, y0, y1, y2, y3⟩ := b0.facts) | (go_at_call 70; (with_reducible refine (C2.out _).mono ?_); rintro e w1 ⟨rfl, h1⟩; replace b0 := b0.bel h1; replace b1 := b1.bel h1; replace hrow := hrow.bel h1; replace hB := hB.trans (h1.mono hB.size); clear h1; clear f0 f1 f2 f3 z0 z1 z2 z3 g0 g1 g2 g3 y0 y1 y2 y3; obtain ⟨⟨f0, f1, f2, f3⟩, z0, z1, z2, z3⟩ := b1.facts; obtain ⟨⟨g0, g1, g2, g3⟩, y0, y1, y2, y3⟩ := b0.facts))
        go_loopw [16] (fun i wz => ∃ j : Nat, c ≤ j ∧ j ≤ d + 1 ∧ i = .int .i64 j ∧ Blk4 wz w.heap.size 24 (.int .u64 0) (.int .u64 0) (.int .u64 0) (.int .u64 0) ∧ Blk4 wz (w.heap.size + 1) 24 (.int .u64 0) (.int .u64 0) (.int .u64 0) (.int .u64 0) ∧ BoolRow wz (w.heap.size + 1 + 1) (upU acc c j) ∧ Below w.heap.size w wz) (fun i _ => 256 - (intOf i).toNat)
        case atStart => exact ⟨c, Nat.le_refl _, by omega, by first | rfl | rw [hcw.out], b0, b1, hrow.congr fun x _ => by simp [upU]; omega, hB⟩
        case round =>
          clear b0 b1 hrow hB f0 f1 f2 f3 z0 z1 z2 z3 g0 g1 g2 g3 y0 y1 y2 y3
          obtain ⟨j, hj1, hj2, rfl, b0, b1, hrow, hB⟩ := hrel
          by_cases hj : j ≤ d
          · have hcell := hrow.cell (k := j) (by omega)
            have hfz := hrow.frozen j
            have h1 := Lib.hid (hB.setCell (p := ⟨(w.heap.size + 1 + 1), j, none⟩) (by simp; omega) (.bool true))
            have h2 := Lib.hid ((hrow.set j true).congr (g := upU acc c (j + 1)) fun x _ => upU_step acc hj1 x)
            have h3 := Lib.hid (b0.setOther (a := ⟨(w.heap.size + 1 + 1), j, none⟩) (by simp <;> omega) (.bool true))
            have h4 := Lib.hid (b1.setOther (a := ⟨(w.heap.size + 1 + 1), j, none⟩) (by simp <;> omega) (.bool true))
            clear b0 b1 hrow hB
            have hjd : decide ((j : Int) ≤ wrap64 (d : Int)) = true := by rw [hdw.out]; simp; omega
            go_wp2
            go_roundw
            case rel => exact ⟨j + 1, by omega, by omega, by go_num, h3.out, h4.out, h2.out, h1.out⟩
            case measure => simp [intOf]; omega
          · obtain rfl : j = d + 1 := by omega
            have h2 := Lib.hid (hrow.congr (g := spU (acc ++ [(c, d)])) fun x _ => upU_end acc c d x)
            have h1 := Lib.hid hB
            have h3 := Lib.hid b0
            have h4 := Lib.hid b1
            clear b0 b1 hrow hB
            have hjd : decide (((d : Int) + 1) ≤ wrap64 (d : Int)) = false := by rw [hdw.out]; simp; omega
            go_wp2
            go_roundw
            case rel => exact ⟨q, 0 + 1, acc ++ [(c, d)], ps, rfl, by go_num, hn8, by omega, by simp, by rw [hne.out]; exact hps, by rw [← hP.out]; simp, hok2.out, h3.out, h4.out, h2.out, h1.out⟩
            case measure => simp [intOf]; omega
      | false =>
        have hmp : 0 < m := by rcases Nat.eq_zero_or_pos m with h | h; exact absurd (hm0.out.1 h) (by simpa using hB0.out); exact h
        have h1' : (nl s)[k]? ≠ some 93 := by simpa using h1
        clear h1
        have hat := nl_at s k hkl
        obtain ⟨x, hx⟩ : ∃ x, (s[k]).toNat = x := ⟨_, rfl⟩
        rw [hx] at hat
        have hx2 : ((x : Int) == 93) = false := by
          rw [hat] at h1'
          have : x ≠ 93 := fun q => h1' (by rw [q])
          simp; omega
        clear h1' hat
        go_wp2_with (first | (go_at_call 70; (with_reducible refine (C.out _).mono ?_); rintro e w1 ⟨rfl, h1⟩; replace b0 := b0.bel h1; replace b1 := b1.bel h1; replace hrow := hrow.bel h1; replace hB := hB.trans (h1.mono hB.size); clear h1; clear f0 f1 f2 f3 z0 z1 z2 z3 g0 g1 g2 g3 y0 y1 y2 y3; obtain ⟨⟨f0, f1, f2, f3⟩, z0, z1, z2, z3⟩ := b1.facts; obtain ⟨⟨g0, g1, g2, g3⟩, y0, y1, y2, y3⟩ := b0.facts) | (go_at_call 70; (with_reducible refine (C2.out _).mono ?_); rintro e w1 ⟨rfl, h1⟩; replace b0 := b0.bel h1; replace b1 := b1.bel h1; replace hrow := hrow.bel h1; replace hB := hB.trans (h1.mono hB.size); clear h1; clear f0 f1 f2 f3 z0 z1 z2 z3 g0 g1 g2 g3 y0 y1 y2 y3; obtain ⟨⟨f0, f1, f2, f3⟩, z0, z1, z2, z3⟩ := b1.facts; obtain ⟨⟨g0, g1, g2, g3⟩, y0, y1, y2, y3⟩ := b0.facts))
        go_loopw [16] (fun i wz => ∃ j : Nat, c ≤ j ∧ j ≤ d + 1 ∧ i = .int .i64 j ∧ Blk4 wz w.heap.size 24 (.int .u64 0) (.int .u64 0) (.int .u64 0) (.int .u64 0) ∧ Blk4 wz (w.heap.size + 1) 24 (.int .u64 0) (.int .u64 0) (.int .u64 0) (.int .u64 0) ∧ BoolRow wz (w.heap.size + 1 + 1) (upU acc c j) ∧ Below w.heap.size w wz) (fun i _ => 256 - (intOf i).toNat)
        case atStart => exact ⟨c, Nat.le_refl _, by omega, by first | rfl | rw [hcw.out], b0, b1, hrow.congr fun x _ => by simp [upU]; omega, hB⟩
        case round =>
          clear b0 b1 hrow hB f0 f1 f2 f3 z0 z1 z2 z3 g0 g1 g2 g3 y0 y1 y2 y3
          obtain ⟨j, hj1, hj2, rfl, b0, b1, hrow, hB⟩ := hrel
          by_cases hj : j ≤ d
          · have hcell := hrow.cell (k := j) (by omega)
            have hfz := hrow.frozen j
            have h1 := Lib.hid (hB.setCell (p := ⟨(w.heap.size + 1 + 1), j, none⟩) (by simp; omega) (.bool true))
            have h2 := Lib.hid ((hrow.set j true).congr (g := upU acc c (j + 1)) fun x _ => upU_step acc hj1 x)
            have h3 := Lib.hid (b0.setOther (a := ⟨(w.heap.size + 1 + 1), j, none⟩) (by simp <;> omega) (.bool true))
            have h4 := Lib.hid (b1.setOther (a := ⟨(w.heap.size + 1 + 1), j, none⟩) (by simp <;> omega) (.bool true))
            clear b0 b1 hrow hB
            have hjd : decide ((j : Int) ≤ wrap64 (d : Int)) = true := by rw [hdw.out]; simp; omega
            go_wp2
            go_roundw
            case rel => exact ⟨j + 1, by omega, by omega, by go_num, h3.out, h4.out, h2.out, h1.out⟩
            case measure => simp [intOf]; omega
          · obtain rfl : j = d + 1 := by omega
            have h2 := Lib.hid (hrow.congr (g := spU (acc ++ [(c, d)])) fun x _ => upU_end acc c d x)
            have h1 := Lib.hid hB
            have h3 := Lib.hid b0
            have h4 := Lib.hid b1
            clear b0 b1 hrow hB
            have hjd : decide (((d : Int) + 1) ≤ wrap64 (d : Int)) = false := by rw [hdw.out]; simp; omega
            go_wp2
            go_roundw
            case rel => exact ⟨q, m + 1, acc ++ [(c, d)], ps, rfl, by go_num, hn8, by omega, by simp, by rw [hne.out]; exact hps, by rw [← hP.out]; simp, hok2.out, h3.out, h4.out, h2.out, h1.out⟩
            case measure => simp [intOf]; omega
end Go.Proofs.YtjlmeegaiagfpaaDoor.S6

namespace Go.Proofs.YtjlmeegaiagfpaaDoor.S6
open Go.RowKit
open S5 (nl nl_length nl_small at_nl nl_at Rd Sp Gives Two errV)
open S1 (Blk4 SetBox BoolRow wd noS oneS spanS orS notS spU eqB)
set_option maxRecDepth 100000 in
set_option maxHeartbeats 16000000 in
theorem rread_pos2 {s : ByteArray} (hm : s.size ≤ 99990) {k0 : Nat} {P : List (Nat × Nat)} {t : Int} {e : Nat} (h0 : (nl s)[k0]? = some 91) (hn : (nl s)[k0 + 1]? ≠ some 94) (h : Its (nl s) true (k0 + 1) P t e) (hz2 : ¬ k0 + 1 < s.size) (w : World) :
    Gives 45 #[.string s, .int .i64 k0] (roV (spU P) t e) w := by
  obtain ⟨hl0, ha0⟩ := at_nl h0
  have hz1 : k0 + 1 < s.size → ∃ y, (∃ h : k0 + 1 < s.size, (s[k0 + 1]).toNat = y) ∧ ((y : Int) == 94) = false := fun h => by
    refine ⟨_, ⟨h, rfl⟩, ?_⟩
    have := nl_at s (k0 + 1) h
    rw [this] at hn
    have : (s[k0 + 1]).toNat ≠ 94 := fun q => hn (by rw [q])
    simp; omega
  clear h0 hn
  clear hz1
  unfold Gives
  have hmk := S1.make256
  go_enter Tryd.func45, Tryd.ntmps45
  go_wp2
  obtain ⟨W, hW, b0, b1, hB⟩ := S1.boxes2 w 24 24 (.int .u64 0) (.int .u64 0) (.int .u64 0) (.int .u64 0) (.int .u64 0) (.int .u64 0) (.int .u64 0) (.int .u64 0)
  have hs : W.heap.size = w.heap.size + 1 + 1 := by rw [← hW]; simp
  rw [hW]
  clear hW hmk
  have hrow := BoolRow.new W noS
  rw [hs] at hrow
  have b0 := b0.alloc (.cells (S1.bl noS).toArray 4)
  have b1 := b1.alloc (.cells (S1.bl noS).toArray 4)
  have hB := hB.alloc hB.size (.cells (S1.bl noS).toArray 4)
  revert b0 b1 hB hrow
  generalize W.alloc (.cells (S1.bl noS).toArray 4) = W2
  intro hrow b0 b1 hB
  have hrow := hrow.congr (g := spU []) fun c _ => by simp [noS, spU]
  go_loopw [1, 10] (fun i v wr => ∃ (k m : Nat) (acc ps : List (Nat × Nat)), i = .int .i64 k ∧ v = .int .i64 m ∧ k ≤ s.size ∧ m ≤ k ∧ (m = 0 ↔ acc = []) ∧ Its (nl s) acc.isEmpty k ps t e ∧ acc ++ ps = P ∧ (∀ p ∈ acc, p.1 ≤ p.2 ∧ p.2 ≤ 255) ∧ Blk4 wr w.heap.size 24 (.int .u64 0) (.int .u64 0) (.int .u64 0) (.int .u64 0) ∧ Blk4 wr (w.heap.size + 1) 24 (.int .u64 0) (.int .u64 0) (.int .u64 0) (.int .u64 0) ∧ BoolRow wr (w.heap.size + 1 + 1) (spU acc) ∧ Below w.heap.size w wr) (fun i _ _ => s.size - (intOf i).toNat)
  case atStart => exact ⟨(k0 + 1), 0, [], P, by go_num, rfl, by omega, by omega, by simp, h, rfl, by simp, b0, b1, hrow, hB⟩
  case round =>
    clear b0 b1 hrow hB h
    obtain ⟨k, m, acc, ps, rfl, rfl, hks, hmk, hm0, hI, hP, hok, b0, b1, hrow, hB⟩ := hrel
    generalize hB0 : acc.isEmpty = B at hI
    replace hP := Lib.hid hP
    replace hm0 := Lib.hid hm0
    replace hB0 := Lib.hid hB0
    replace hok := Lib.hid hok
    obtain ⟨⟨f0, f1, f2, f3⟩, z0, z1, z2, z3⟩ := b1.facts
    obtain ⟨⟨g0, g1, g2, g3⟩, y0, y1, y2, y3⟩ := b0.facts
    cases hI with
    | close _ h1 =>
      obtain rfl : acc = P := by simpa using hP.out
      obtain ⟨hkl, hx⟩ := at_nl h1
      have hmp : 0 < m := by rcases Nat.eq_zero_or_pos m with h | h; exact absurd (hm0.out.1 h) (by simpa using hB0.out); exact h
      clear h1
      have hof := Lib.hid (fun w' hr => S1.refof_in (spU acc) (w.heap.size + 1 + 1) w' hr)
      go_wp2_with (go_at_call 71; (with_reducible refine (hof.out _ hrow).mono ?_); rintro e w1 ⟨rfl, h1⟩; replace b0 := b0.bel h1; replace b1 := b1.bel h1; replace hrow := hrow.bel h1; replace hB := hB.trans (h1.mono hB.size); clear h1; clear f0 f1 f2 f3 z0 z1 z2 z3 g0 g1 g2 g3 y0 y1 y2 y3; obtain ⟨⟨f0, f1, f2, f3⟩, z0, z1, z2, z3⟩ := b1.facts; obtain ⟨⟨g0, g1, g2, g3⟩, y0, y1, y2, y3⟩ := b0.facts)
      obtain ⟨W3, hW3, hb3, hB3⟩ := stored b0 hB (Nat.le_refl _) (.int .u64 (S1.wd (spU acc) 0)) (.int .u64 (S1.wd (spU acc) 1)) (.int .u64 (S1.wd (spU acc) 2)) (.int .u64 (S1.wd (spU acc) 3))
      obtain ⟨⟨c0, c1, c2, c3⟩, -⟩ := hb3.facts
      rw [hW3]
      refine bodyPost_ret (v := .tuple #[(.agg #[.int .u64 (S1.wd (spU acc) 0), .int .u64 (S1.wd (spU acc) 1), .int .u64 (S1.wd (spU acc) 2), .int .u64 (S1.wd (spU acc) 3)]), .int .i64 (k + 1), .int .i64 0]) (by simp [results, Tryd.results45, go_sem, c0, c1, c2, c3]) rfl ?_
      exact ⟨rfl, hB3⟩
    | bad1 _ _ _ _ h1 h2 h3 =>
      have C := Lib.hid (fun w' => rone_in h2 hm w')
      unfold Gives at C
      have hOut := Lib.hid (roV_err (spU P) t h3)
      have he1 : ((e : Int) != 0) = true := by simp; omega
      clear h2 h3
      cases B with
      | true =>
        obtain rfl : m = 0 := hm0.out.2 (by simpa using hB0.out)
        clear h1
        go_wp2_with (go_at_call 70; (with_reducible refine (C.out _).mono ?_); rintro e w1 ⟨rfl, h1⟩; replace b0 := b0.bel h1; replace b1 := b1.bel h1; replace hrow := hrow.bel h1; replace hB := hB.trans (h1.mono hB.size); clear h1; clear f0 f1 f2 f3 z0 z1 z2 z3 g0 g1 g2 g3 y0 y1 y2 y3; obtain ⟨⟨f0, f1, f2, f3⟩, z0, z1, z2, z3⟩ := b1.facts; obtain ⟨⟨g0, g1, g2, g3⟩, y0, y1, y2, y3⟩ := b0.facts)
        obtain ⟨W3, hW3, hb3, hB3⟩ := stored b0 hB (Nat.le_refl _) (.int .u64 0) (.int .u64 0) (.int .u64 0) (.int .u64 0)
        obtain ⟨⟨c0, c1, c2, c3⟩, -⟩ := hb3.facts
        rw [hW3]
        refine bodyPost_ret (v := .tuple #[(.agg #[.int .u64 0, .int .u64 0, .int .u64 0, .int .u64 0]), .int .i64 t, .int .i64 e]) (by simp [results, Tryd.results45, go_sem, c0, c1, c2, c3]) rfl ?_
        exact ⟨by rw [hOut.out] <;> rfl, hB3⟩
      | false =>
        have hmp : 0 < m := by rcases Nat.eq_zero_or_pos m with h | h; exact absurd (hm0.out.1 h) (by simpa using hB0.out); exact h
        have h1' : (nl s)[k]? ≠ some 93 := by simpa using h1
        clear h1
        by_cases hkl : k < s.size
        · have hat := nl_at s k hkl
          obtain ⟨x, hx⟩ : ∃ x, (s[k]).toNat = x := ⟨_, rfl⟩
          rw [hx] at hat
          have hx2 : ((x : Int) == 93) = false := by
            rw [hat] at h1'
            have : x ≠ 93 := fun q => h1' (by rw [q])
            simp; omega
          clear h1' hat
          go_wp2_with (go_at_call 70; (with_reducible refine (C.out _).mono ?_); rintro e w1 ⟨rfl, h1⟩; replace b0 := b0.bel h1; replace b1 := b1.bel h1; replace hrow := hrow.bel h1; replace hB := hB.trans (h1.mono hB.size); clear h1; clear f0 f1 f2 f3 z0 z1 z2 z3 g0 g1 g2 g3 y0 y1 y2 y3; obtain ⟨⟨f0, f1, f2, f3⟩, z0, z1, z2, z3⟩ := b1.facts; obtain ⟨⟨g0, g1, g2, g3⟩, y0, y1, y2, y3⟩ := b0.facts)
          obtain ⟨W3, hW3, hb3, hB3⟩ := stored b0 hB (Nat.le_refl _) (.int .u64 0) (.int .u64 0) (.int .u64 0) (.int .u64 0)
          obtain ⟨⟨c0, c1, c2, c3⟩, -⟩ := hb3.facts
          rw [hW3]
          refine bodyPost_ret (v := .tuple #[(.agg #[.int .u64 0, .int .u64 0, .int .u64 0, .int .u64 0]), .int .i64 t, .int .i64 e]) (by simp [results, Tryd.results45, go_sem, c0, c1, c2, c3]) rfl ?_
          exact ⟨by rw [hOut.out] <;> rfl, hB3⟩
        · clear h1'
          go_wp2_with (go_at_call 70; (with_reducible refine (C.out _).mono ?_); rintro e w1 ⟨rfl, h1⟩; replace b0 := b0.bel h1; replace b1 := b1.bel h1; replace hrow := hrow.bel h1; replace hB := hB.trans (h1.mono hB.size); clear h1; clear f0 f1 f2 f3 z0 z1 z2 z3 g0 g1 g2 g3 y0 y1 y2 y3; obtain ⟨⟨f0, f1, f2, f3⟩, z0, z1, z2, z3⟩ := b1.facts; obtain ⟨⟨g0, g1, g2, g3⟩, y0, y1, y2, y3⟩ := b0.facts)
          obtain ⟨W3, hW3, hb3, hB3⟩ := stored b0 hB (Nat.le_refl _) (.int .u64 0) (.int .u64 0) (.int .u64 0) (.int .u64 0)
          obtain ⟨⟨c0, c1, c2, c3⟩, -⟩ := hb3.facts
          rw [hW3]
          refine bodyPost_ret (v := .tuple #[(.agg #[.int .u64 0, .int .u64 0, .int .u64 0, .int .u64 0]), .int .i64 t, .int .i64 e]) (by simp [results, Tryd.results45, go_sem, c0, c1, c2, c3]) rfl ?_
          exact ⟨by rw [hOut.out] <;> rfl, hB3⟩
    | one _ _ c n ps _ _ h1 h2 h3 hps =>
      have hn8 : n ≤ s.size := (by obtain ⟨n2, q1, q2, q3⟩ := one_next h2; have := nl_length s; omega)
      have hlt : k < n := (by obtain ⟨n2, q1, q2, q3⟩ := one_next h2; omega)
      have hc8 : c ≤ 255 := one_small (nl_small s) h2
      have hcw := Lib.hid (show wrap64 (c : Int) = c by unfold wrap64; omega)
      have hok2 : ∀ p ∈ acc ++ [(c, c)], p.1 ≤ p.2 ∧ p.2 ≤ 255 := fun p hp => by
        rcases List.mem_append.1 hp with hp | hp
        · exact hok.out p hp
        · obtain rfl : p = (c, c) := by simpa using hp
          exact ⟨Nat.le_refl _, hc8⟩
      have hne : (acc ++ [(c, c)]).isEmpty = false := by cases acc <;> rfl
      replace hne := Lib.hid hne
      replace hok2 := Lib.hid hok2
      have hkl : k < s.size := by omega
      have C := Lib.hid (fun w' => rone_in h2 hm w')
      unfold Gives at C
      have hn45 : n < s.size → ∃ y, (∃ h : n < s.size, (s[n]).toNat = y) ∧ ((y : Int) == 45) = false := fun h => by
        refine ⟨_, ⟨h, rfl⟩, ?_⟩
        have := nl_at s n h
        rw [this] at h3
        have : (s[n]).toNat ≠ 45 := fun q => h3 (by rw [q])
        simp; omega
      clear h2 h3
      by_cases hnl : n < s.size
      · obtain ⟨y, ⟨_, hy⟩, hy2⟩ := hn45 hnl
        clear hn45
        cases B with
        | true =>
          obtain rfl : m = 0 := hm0.out.2 (by simpa using hB0.out)
          clear h1
          go_wp2_with (go_at_call 70; (with_reducible refine (C.out _).mono ?_); rintro e w1 ⟨rfl, h1⟩; replace b0 := b0.bel h1; replace b1 := b1.bel h1; replace hrow := hrow.bel h1; replace hB := hB.trans (h1.mono hB.size); clear h1; clear f0 f1 f2 f3 z0 z1 z2 z3 g0 g1 g2 g3 y0 y1 y2 y3; obtain ⟨⟨f0, f1, f2, f3⟩, z0, z1, z2, z3⟩ := b1.facts; obtain ⟨⟨g0, g1, g2, g3⟩, y0, y1, y2, y3⟩ := b0.facts)
          go_loopw [16] (fun i wz => ∃ j : Nat, c ≤ j ∧ j ≤ c + 1 ∧ i = .int .i64 j ∧ Blk4 wz w.heap.size 24 (.int .u64 0) (.int .u64 0) (.int .u64 0) (.int .u64 0) ∧ Blk4 wz (w.heap.size + 1) 24 (.int .u64 0) (.int .u64 0) (.int .u64 0) (.int .u64 0) ∧ BoolRow wz (w.heap.size + 1 + 1) (upU acc c j) ∧ Below w.heap.size w wz) (fun i _ => 256 - (intOf i).toNat)
          case atStart => exact ⟨c, Nat.le_refl _, by omega, by first | rfl | rw [hcw.out], b0, b1, hrow.congr fun x _ => by simp [upU]; omega, hB⟩
          case round =>
            clear b0 b1 hrow hB f0 f1 f2 f3 z0 z1 z2 z3 g0 g1 g2 g3 y0 y1 y2 y3
            obtain ⟨j, hj1, hj2, rfl, b0, b1, hrow, hB⟩ := hrel
            by_cases hj : j ≤ c
            · have hcell := hrow.cell (k := j) (by omega)
              have hfz := hrow.frozen j
              have h1 := Lib.hid (hB.setCell (p := ⟨(w.heap.size + 1 + 1), j, none⟩) (by simp; omega) (.bool true))
              have h2 := Lib.hid ((hrow.set j true).congr (g := upU acc c (j + 1)) fun x _ => upU_step acc hj1 x)
              have h3 := Lib.hid (b0.setOther (a := ⟨(w.heap.size + 1 + 1), j, none⟩) (by simp <;> omega) (.bool true))
              have h4 := Lib.hid (b1.setOther (a := ⟨(w.heap.size + 1 + 1), j, none⟩) (by simp <;> omega) (.bool true))
              clear b0 b1 hrow hB
              have hjd : decide ((j : Int) ≤ wrap64 (c : Int)) = true := by rw [hcw.out]; simp; omega
              go_wp2
              go_roundw
              case rel => exact ⟨j + 1, by omega, by omega, by go_num, h3.out, h4.out, h2.out, h1.out⟩
              case measure => simp [intOf]; omega
            · obtain rfl : j = c + 1 := by omega
              have h2 := Lib.hid (hrow.congr (g := spU (acc ++ [(c, c)])) fun x _ => upU_end acc c c x)
              have h1 := Lib.hid hB
              have h3 := Lib.hid b0
              have h4 := Lib.hid b1
              clear b0 b1 hrow hB
              have hjd : decide (((c : Int) + 1) ≤ wrap64 (c : Int)) = false := by rw [hcw.out]; simp; omega
              go_wp2
              go_roundw
              case rel => exact ⟨n, 0 + 1, acc ++ [(c, c)], ps, rfl, by go_num, hn8, by omega, by simp, by rw [hne.out]; exact hps, by rw [← hP.out]; simp, hok2.out, h3.out, h4.out, h2.out, h1.out⟩
              case measure => simp [intOf]; omega
        | false =>
          have hmp : 0 < m := by rcases Nat.eq_zero_or_pos m with h | h; exact absurd (hm0.out.1 h) (by simpa using hB0.out); exact h
          have h1' : (nl s)[k]? ≠ some 93 := by simpa using h1
          clear h1
          have hat := nl_at s k hkl
          obtain ⟨x, hx⟩ : ∃ x, (s[k]).toNat = x := ⟨_, rfl⟩
          rw [hx] at hat
          have hx2 : ((x : Int) == 93) = false := by
            rw [hat] at h1'
            have : x ≠ 93 := fun q => h1' (by rw [q])
            simp; omega
          clear h1' hat
          go_wp2_with (go_at_call 70; (with_reducible refine (C.out _).mono ?_); rintro e w1 ⟨rfl, h1⟩; replace b0 := b0.bel h1; replace b1 := b1.bel h1; replace hrow := hrow.bel h1; replace hB := hB.trans (h1.mono hB.size); clear h1; clear f0 f1 f2 f3 z0 z1 z2 z3 g0 g1 g2 g3 y0 y1 y2 y3; obtain ⟨⟨f0, f1, f2, f3⟩, z0, z1, z2, z3⟩ := b1.facts; obtain ⟨⟨g0, g1, g2, g3⟩, y0, y1, y2, y3⟩ := b0.facts)
          go_loopw [16] (fun i wz => ∃ j : Nat, c ≤ j ∧ j ≤ c + 1 ∧ i = .int .i64 j ∧ Blk4 wz w.heap.size 24 (.int .u64 0) (.int .u64 0) (.int .u64 0) (.int .u64 0) ∧ Blk4 wz (w.heap.size + 1) 24 (.int .u64 0) (.int .u64 0) (.int .u64 0) (.int .u64 0) ∧ BoolRow wz (w.heap.size + 1 + 1) (upU acc c j) ∧ Below w.heap.size w wz) (fun i _ => 256 - (intOf i).toNat)
          case atStart => exact ⟨c, Nat.le_refl _, by omega, by first | rfl | rw [hcw.out], b0, b1, hrow.congr fun x _ => by simp [upU]; omega, hB⟩
          case round =>
            clear b0 b1 hrow hB f0 f1 f2 f3 z0 z1 z2 z3 g0 g1 g2 g3 y0 y1 y2 y3
            obtain ⟨j, hj1, hj2, rfl, b0, b1, hrow, hB⟩ := hrel
            by_cases hj : j ≤ c
            · have hcell := hrow.cell (k := j) (by omega)
              have hfz := hrow.frozen j
              have h1 := Lib.hid (hB.setCell (p := ⟨(w.heap.size + 1 + 1), j, none⟩) (by simp; omega) (.bool true))
              have h2 := Lib.hid ((hrow.set j true).congr (g := upU acc c (j + 1)) fun x _ => upU_step acc hj1 x)
              have h3 := Lib.hid (b0.setOther (a := ⟨(w.heap.size + 1 + 1), j, none⟩) (by simp <;> omega) (.bool true))
              have h4 := Lib.hid (b1.setOther (a := ⟨(w.heap.size + 1 + 1), j, none⟩) (by simp <;> omega) (.bool true))
              clear b0 b1 hrow hB
              have hjd : decide ((j : Int) ≤ wrap64 (c : Int)) = true := by rw [hcw.out]; simp; omega
              go_wp2
              go_roundw
              case rel => exact ⟨j + 1, by omega, by omega, by go_num, h3.out, h4.out, h2.out, h1.out⟩
              case measure => simp [intOf]; omega
            · obtain rfl : j = c + 1 := by omega
              have h2 := Lib.hid (hrow.congr (g := spU (acc ++ [(c, c)])) fun x _ => upU_end acc c c x)
              have h1 := Lib.hid hB
              have h3 := Lib.hid b0
              have h4 := Lib.hid b1
              clear b0 b1 hrow hB
              have hjd : decide (((c : Int) + 1) ≤ wrap64 (c : Int)) = false := by rw [hcw.out]; simp; omega
              go_wp2
              go_roundw
              case rel => exact ⟨n, m + 1, acc ++ [(c, c)], ps, rfl, by go_num, hn8, by omega, by simp, by rw [hne.out]; exact hps, by rw [← hP.out]; simp, hok2.out, h3.out, h4.out, h2.out, h1.out⟩
              case measure => simp [intOf]; omega
      · clear hn45
        cases B with
        | true =>
          obtain rfl : m = 0 := hm0.out.2 (by simpa using hB0.out)
          clear h1
          go_wp2_with (go_at_call 70; (with_reducible refine (C.out _).mono ?_); rintro e w1 ⟨rfl, h1⟩; replace b0 := b0.bel h1; replace b1 := b1.bel h1; replace hrow := hrow.bel h1; replace hB := hB.trans (h1.mono hB.size); clear h1; clear f0 f1 f2 f3 z0 z1 z2 z3 g0 g1 g2 g3 y0 y1 y2 y3; obtain ⟨⟨f0, f1, f2, f3⟩, z0, z1, z2, z3⟩ := b1.facts; obtain ⟨⟨g0, g1, g2, g3⟩, y0, y1, y2, y3⟩ := b0.facts)
          go_loopw [16] (fun i wz => ∃ j : Nat, c ≤ j ∧ j ≤ c + 1 ∧ i = .int .i64 j ∧ Blk4 wz w.heap.size 24 (.int .u64 0) (.int .u64 0) (.int .u64 0) (.int .u64 0) ∧ Blk4 wz (w.heap.size + 1) 24 (.int .u64 0) (.int .u64 0) (.int .u64 0) (.int .u64 0) ∧ BoolRow wz (w.heap.size + 1 + 1) (upU acc c j) ∧ Below w.heap.size w wz) (fun i _ => 256 - (intOf i).toNat)
          case atStart => exact ⟨c, Nat.le_refl _, by omega, by first | rfl | rw [hcw.out], b0, b1, hrow.congr fun x _ => by simp [upU]; omega, hB⟩
          case round =>
            clear b0 b1 hrow hB f0 f1 f2 f3 z0 z1 z2 z3 g0 g1 g2 g3 y0 y1 y2 y3
            obtain ⟨j, hj1, hj2, rfl, b0, b1, hrow, hB⟩ := hrel
            by_cases hj : j ≤ c
            · have hcell := hrow.cell (k := j) (by omega)
              have hfz := hrow.frozen j
              have h1 := Lib.hid (hB.setCell (p := ⟨(w.heap.size + 1 + 1), j, none⟩) (by simp; omega) (.bool true))
              have h2 := Lib.hid ((hrow.set j true).congr (g := upU acc c (j + 1)) fun x _ => upU_step acc hj1 x)
              have h3 := Lib.hid (b0.setOther (a := ⟨(w.heap.size + 1 + 1), j, none⟩) (by simp <;> omega) (.bool true))
              have h4 := Lib.hid (b1.setOther (a := ⟨(w.heap.size + 1 + 1), j, none⟩) (by simp <;> omega) (.bool true))
              clear b0 b1 hrow hB
              have hjd : decide ((j : Int) ≤ wrap64 (c : Int)) = true := by rw [hcw.out]; simp; omega
              go_wp2
              go_roundw
              case rel => exact ⟨j + 1, by omega, by omega, by go_num, h3.out, h4.out, h2.out, h1.out⟩
              case measure => simp [intOf]; omega
            · obtain rfl : j = c + 1 := by omega
              have h2 := Lib.hid (hrow.congr (g := spU (acc ++ [(c, c)])) fun x _ => upU_end acc c c x)
              have h1 := Lib.hid hB
              have h3 := Lib.hid b0
              have h4 := Lib.hid b1
              clear b0 b1 hrow hB
              have hjd : decide (((c : Int) + 1) ≤ wrap64 (c : Int)) = false := by rw [hcw.out]; simp; omega
              go_wp2
              go_roundw
              case rel => exact ⟨n, 0 + 1, acc ++ [(c, c)], ps, rfl, by go_num, hn8, by omega, by simp, by rw [hne.out]; exact hps, by rw [← hP.out]; simp, hok2.out, h3.out, h4.out, h2.out, h1.out⟩
              case measure => simp [intOf]; omega
        | false =>
          have hmp : 0 < m := by rcases Nat.eq_zero_or_pos m with h | h; exact absurd (hm0.out.1 h) (by simpa using hB0.out); exact h
          have h1' : (nl s)[k]? ≠ some 93 := by simpa using h1
          clear h1
          have hat := nl_at s k hkl
          obtain ⟨x, hx⟩ : ∃ x, (s[k]).toNat = x := ⟨_, rfl⟩
          rw [hx] at hat
          have hx2 : ((x : Int) == 93) = false := by
            rw [hat] at h1'
            have : x ≠ 93 := fun q => h1' (by rw [q])
            simp; omega
          clear h1' hat
          go_wp2_with (go_at_call 70; (with_reducible refine (C.out _).mono ?_); rintro e w1 ⟨rfl, h1⟩; replace b0 := b0.bel h1; replace b1 := b1.bel h1; replace hrow := hrow.bel h1; replace hB := hB.trans (h1.mono hB.size); clear h1; clear f0 f1 f2 f3 z0 z1 z2 z3 g0 g1 g2 g3 y0 y1 y2 y3; obtain ⟨⟨f0, f1, f2, f3⟩, z0, z1, z2, z3⟩ := b1.facts; obtain ⟨⟨g0, g1, g2, g3⟩, y0, y1, y2, y3⟩ := b0.facts)
          go_loopw [16] (fun i wz => ∃ j : Nat, c ≤ j ∧ j ≤ c + 1 ∧ i = .int .i64 j ∧ Blk4 wz w.heap.size 24 (.int .u64 0) (.int .u64 0) (.int .u64 0) (.int .u64 0) ∧ Blk4 wz (w.heap.size + 1) 24 (.int .u64 0) (.int .u64 0) (.int .u64 0) (.int .u64 0) ∧ BoolRow wz (w.heap.size + 1 + 1) (upU acc c j) ∧ Below w.heap.size w wz) (fun i _ => 256 - (intOf i).toNat)
          case atStart => exact ⟨c, Nat.le_refl _, by omega, by first | rfl | rw [hcw.out], b0, b1, hrow.congr fun x _ => by simp [upU]; omega, hB⟩
          case round =>
            clear b0 b1 hrow hB f0 f1 f2 f3 z0 z1 z2 z3 g0 g1 g2 g3 y0 y1 y2 y3
            obtain ⟨j, hj1, hj2, rfl, b0, b1, hrow, hB⟩ := hrel
            by_cases hj : j ≤ c
            · have hcell := hrow.cell (k := j) (by omega)
              have hfz := hrow.frozen j
              have h1 := Lib.hid (hB.setCell (p := ⟨(w.heap.size + 1 + 1), j, none⟩) (by simp; omega) (.bool true))
              have h2 := Lib.hid ((hrow.set j true).congr (g := upU acc c (j + 1)) fun x _ => upU_step acc hj1 x)
              have h3 := Lib.hid (b0.setOther (a := ⟨(w.heap.size + 1 + 1), j, none⟩) (by simp <;> omega) (.bool true))
              have h4 := Lib.hid (b1.setOther (a := ⟨(w.heap.size + 1 + 1), j, none⟩) (by simp <;> omega) (.bool true))
              clear b0 b1 hrow hB
              have hjd : decide ((j : Int) ≤ wrap64 (c : Int)) = true := by rw [hcw.out]; simp; omega
              go_wp2
              go_roundw
              case rel => exact ⟨j + 1, by omega, by omega, by go_num, h3.out, h4.out, h2.out, h1.out⟩
              case measure => simp [intOf]; omega
            · obtain rfl : j = c + 1 := by omega
              have h2 := Lib.hid (hrow.congr (g := spU (acc ++ [(c, c)])) fun x _ => upU_end acc c c x)
              have h1 := Lib.hid hB
              have h3 := Lib.hid b0
              have h4 := Lib.hid b1
              clear b0 b1 hrow hB
              have hjd : decide (((c : Int) + 1) ≤ wrap64 (c : Int)) = false := by rw [hcw.out]; simp; omega
              go_wp2
              go_roundw
              case rel => exact ⟨n, m + 1, acc ++ [(c, c)], ps, rfl, by go_num, hn8, by omega, by simp, by rw [hne.out]; exact hps, by rw [← hP.out]; simp, hok2.out, h3.out, h4.out, h2.out, h1.out⟩
              case measure => simp [intOf]; omega
    | bad2 _ _ c n _ _ h1 h2 h3 h4 h5 =>
      have C := Lib.hid (fun w' => rone_in h2 hm w')
      unfold Gives at C
      have C2 := Lib.hid (fun w' => rone_in h4 hm w')
      unfold Gives at C2
      rw [show ((n + 1 : Nat) : Int) = (n : Int) + 1 by omega] at C2
      have hOut := Lib.hid (roV_err (spU P) t h5)
      have he1 : ((e : Int) != 0) = true := by simp; omega
      have hkl : k < s.size := by obtain ⟨n2, q1, q2, q3⟩ := one_next h2; have := len_le h3; omega
      obtain ⟨hnl, hy⟩ := at_nl h3
      clear h2 h3 h4 h5
      cases B with
      | true =>
        obtain rfl : m = 0 := hm0.out.2 (by simpa using hB0.out)
        clear h1
        go_wp2_with (first | (go_at_call 70; (with_reducible refine (C.out _).mono ?_); rintro e w1 ⟨rfl, h1⟩; replace b0 := b0.bel h1; replace b1 := b1.bel h1; replace hrow := hrow.bel h1; replace hB := hB.trans (h1.mono hB.size); clear h1; clear f0 f1 f2 f3 z0 z1 z2 z3 g0 g1 g2 g3 y0 y1 y2 y3; obtain ⟨⟨f0, f1, f2, f3⟩, z0, z1, z2, z3⟩ := b1.facts; obtain ⟨⟨g0, g1, g2, g3⟩, y0, y1, y2, y3⟩ := b0.facts) | (go_at_call 70; (with_reducible refine (C2.out _).mono ?_); rintro e w1 ⟨rfl, h1⟩; replace b0 := b0.bel h1; replace b1 := b1.bel h1; replace hrow := hrow.bel h1; replace hB := hB.trans (h1.mono hB.size); clear h1; clear f0 f1 f2 f3 z0 z1 z2 z3 g0 g1 g2 g3 y0 y1 y2 y3; obtain ⟨⟨f0, f1, f2, f3⟩, z0, z1, z2, z3⟩ := b1.facts; obtain ⟨⟨g0, g1, g2, g3⟩, y0, y1, y2, y3⟩ := b0.facts))
        obtain ⟨W3, hW3, hb3, hB3⟩ := stored b0 hB (Nat.le_refl _) (.int .u64 0) (.int .u64 0) (.int .u64 0) (.int .u64 0)
        obtain ⟨⟨c0, c1, c2, c3⟩, -⟩ := hb3.facts
        rw [hW3]
        refine bodyPost_ret (v := .tuple #[(.agg #[.int .u64 0, .int .u64 0, .int .u64 0, .int .u64 0]), .int .i64 t, .int .i64 e]) (by simp [results, Tryd.results45, go_sem, c0, c1, c2, c3]) rfl ?_
        exact ⟨by rw [hOut.out] <;> rfl, hB3⟩
      | false =>
        have hmp : 0 < m := by rcases Nat.eq_zero_or_pos m with h | h; exact absurd (hm0.out.1 h) (by simpa using hB0.out); exact h
        have h1' : (nl s)[k]? ≠ some 93 := by simpa using h1
        clear h1
        have hat := nl_at s k hkl
        obtain ⟨x, hx⟩ : ∃ x, (s[k]).toNat = x := ⟨_, rfl⟩
        rw [hx] at hat
        have hx2 : ((x : Int) == 93) = false := by
          rw [hat] at h1'
          have : x ≠ 93 := fun q => h1' (by rw [q])
          simp; omega
        clear h1' hat
        go_wp2_with (first | (go_at_call 70; (with_reducible refine (C.out _).mono ?_); rintro e w1 ⟨rfl, h1⟩; replace b0 := b0.bel h1; replace b1 := b1.bel h1; replace hrow := hrow.bel h1; replace hB := hB.trans (h1.mono hB.size); clear h1; clear f0 f1 f2 f3 z0 z1 z2 z3 g0 g1 g2 g3 y0 y1 y2 y3; obtain ⟨⟨f0, f1, f2, f3⟩, z0, z1, z2, z3⟩ := b1.facts; obtain ⟨⟨g0, g1, g2, g3⟩, y0, y1, y2, y3⟩ := b0.facts) | (go_at_call 70; (with_reducible refine (C2.out _).mono ?_); rintro e w1 ⟨rfl, h1⟩; replace b0 := b0.bel h1; replace b1 := b1.bel h1; replace hrow := hrow.bel h1; replace hB := hB.trans (h1.mono hB.size); clear h1; clear f0 f1 f2 f3 z0 z1 z2 z3 g0 g1 g2 g3 y0 y1 y2 y3; obtain ⟨⟨f0, f1, f2, f3⟩, z0, z1, z2, z3⟩ := b1.facts; obtain ⟨⟨g0, g1, g2, g3⟩, y0, y1, y2, y3⟩ := b0.facts))
        obtain ⟨W3, hW3, hb3, hB3⟩ := stored b0 hB (Nat.le_refl _) (.int .u64 0) (.int .u64 0) (.int .u64 0) (.int .u64 0)
        obtain ⟨⟨c0, c1, c2, c3⟩, -⟩ := hb3.facts
        rw [hW3]
        refine bodyPost_ret (v := .tuple #[(.agg #[.int .u64 0, .int .u64 0, .int .u64 0, .int .u64 0]), .int .i64 t, .int .i64 e]) (by simp [results, Tryd.results45, go_sem, c0, c1, c2, c3]) rfl ?_
        exact ⟨by rw [hOut.out] <;> rfl, hB3⟩
    | down _ _ c n d q h1 h2 h3 h4 h5 =>
      have C := Lib.hid (fun w' => rone_in h2 hm w')
      unfold Gives at C
      have C2 := Lib.hid (fun w' => rone_in h4 hm w')
      unfold Gives at C2
      rw [show ((n + 1 : Nat) : Int) = (n : Int) + 1 by omega] at C2
      have hOut := Lib.hid (roV_err (spU P) ((n : Int) + 1) (e := 1) (by decide))
      have hcd : decide (d < c) = true := by simp; omega
      have hkl : k < s.size := by obtain ⟨n2, q1, q2, q3⟩ := one_next h2; have := len_le h3; omega
      obtain ⟨hnl, hy⟩ := at_nl h3
      clear h2 h3 h4 h5
      cases B with
      | true =>
        obtain rfl : m = 0 := hm0.out.2 (by simpa using hB0.out)
        clear h1
        go_wp2_with (first | (go_at_call 70; (with_reducible refine (C.out _).mono ?_); rintro e w1 ⟨rfl, h1⟩; replace b0 := b0.bel h1; replace b1 := b1.bel h1; replace hrow := hrow.bel h1; replace hB := hB.trans (h1.mono hB.size); clear h1; clear f0 f1 f2 f3 z0 z1 z2 z3 g0 g1 g2 g3 y0 y1 y2 y3; obtain ⟨⟨f0, f1, f2, f3⟩, z0, z1, z2, z3⟩ := b1.facts; obtain ⟨⟨g0, g1, g2, g3⟩, y0, y1, y2, y3⟩ := b0.facts) | (go_at_call 70; (with_reducible refine (C2.out _).mono ?_); rintro e w1 ⟨rfl, h1⟩; replace b0 := b0.bel h1; replace b1 := b1.bel h1; replace hrow := hrow.bel h1; replace hB := hB.trans (h1.mono hB.size); clear h1; clear f0 f1 f2 f3 z0 z1 z2 z3 g0 g1 g2 g3 y0 y1 y2 y3; obtain ⟨⟨f0, f1, f2, f3⟩, z0, z1, z2, z3⟩ := b1.facts; obtain ⟨⟨g0, g1, g2, g3⟩, y0, y1, y2, y3⟩ := b0.facts))
        obtain ⟨W3, hW3, hb3, hB3⟩ := stored b0 hB (Nat.le_refl _) (.int .u64 0) (.int .u64 0) (.int .u64 0) (.int .u64 0)
        obtain ⟨⟨c0, c1, c2, c3⟩, -⟩ := hb3.facts
        rw [hW3]
        refine bodyPost_ret (v := .tuple #[(.agg #[.int .u64 0, .int .u64 0, .int .u64 0, .int .u64 0]), .int .i64 (n + 1), .int .i64 1]) (by simp [results, Tryd.results45, go_sem, c0, c1, c2, c3]) rfl ?_
        exact ⟨by rw [hOut.out] <;> rfl, hB3⟩
      | false =>
        have hmp : 0 < m := by rcases Nat.eq_zero_or_pos m with h | h; exact absurd (hm0.out.1 h) (by simpa using hB0.out); exact h
        have h1' : (nl s)[k]? ≠ some 93 := by simpa using h1
        clear h1
        have hat := nl_at s k hkl
        obtain ⟨x, hx⟩ : ∃ x, (s[k]).toNat = x := ⟨_, rfl⟩
        rw [hx] at hat
        have hx2 : ((x : Int) == 93) = false := by
          rw [hat] at h1'
          have : x ≠ 93 := fun q => h1' (by rw [q])
          simp; omega
        clear h1' hat
        go_wp2_with (first | (go_at_call 70; (with_reducible refine (C.out _).mono ?_); rintro e w1 ⟨rfl, h1⟩; replace b0 := b0.bel h1; replace b1 := b1.bel h1; replace hrow := hrow.bel h1; replace hB := hB.trans (h1.mono hB.size); clear h1; clear f0 f1 f2 f3 z0 z1 z2 z3 g0 g1 g2 g3 y0 y1 y2 y3; obtain ⟨⟨f0, f1, f2, f3⟩, z0, z1, z2, z3⟩ := b1.facts; obtain ⟨⟨g0, g1, g2, g3⟩, y0, y1, y2, y3⟩ := b0.facts) | (go_at_call 70; (with_reducible refine (C2.out _).mono ?_); rintro e w1 ⟨rfl, h1⟩; replace b0 := b0.bel h1; replace b1 := b1.bel h1; replace hrow := hrow.bel h1; replace hB := hB.trans (h1.mono hB.size); clear h1; clear f0 f1 f2 f3 z0 z1 z2 z3 g0 g1 g2 g3 y0 y1 y2 y3; obtain ⟨⟨f0, f1, f2, f3⟩, z0, z1, z2, z3⟩ := b1.facts; obtain ⟨⟨g0, g1, g2, g3⟩, y0, y1, y2, y3⟩ := b0.facts))
        obtain ⟨W3, hW3, hb3, hB3⟩ := stored b0 hB (Nat.le_refl _) (.int .u64 0) (.int .u64 0) (.int .u64 0) (.int .u64 0)
        obtain ⟨⟨c0, c1, c2, c3⟩, -⟩ := hb3.facts
        rw [hW3]
        refine bodyPost_ret (v := .tuple #[(.agg #[.int .u64 0, .int .u64 0, .int .u64 0, .int .u64 0]), .int .i64 (n + 1), .int .i64 1]) (by simp [results, Tryd.results45, go_sem, c0, c1, c2, c3]) rfl ?_
        exact ⟨by rw [hOut.out] <;> rfl, hB3⟩
    | span _ _ c n d q ps _ _ h1 h2 h3 h4 h5 hps =>
      have hn8 : q ≤ s.size := (by obtain ⟨n2, q1, q2, q3⟩ := one_next h4; have := nl_length s; omega)
      have hlt : k < q := (by obtain ⟨n2, q1, q2, q3⟩ := one_next h4; obtain ⟨n3, q4, q5, q6⟩ := one_next h2; omega)
      have hc8 : c ≤ 255 := one_small (nl_small s) h2
      have hcw := Lib.hid (show wrap64 (c : Int) = c by unfold wrap64; omega)
      have hok2 : ∀ p ∈ acc ++ [(c, d)], p.1 ≤ p.2 ∧ p.2 ≤ 255 := fun p hp => by
        rcases List.mem_append.1 hp with hp | hp
        · exact hok.out p hp
        · obtain rfl : p = (c, d) := by simpa using hp
          exact ⟨h5, one_small (nl_small s) h4⟩
      have hne : (acc ++ [(c, d)]).isEmpty = false := by cases acc <;> rfl
      replace hne := Lib.hid hne
      replace hok2 := Lib.hid hok2
      have hkl : k < s.size := by omega
      have C := Lib.hid (fun w' => rone_in h2 hm w')
      unfold Gives at C
      have C2 := Lib.hid (fun w' => rone_in h4 hm w')
      unfold Gives at C2
      rw [show ((n + 1 : Nat) : Int) = (n : Int) + 1 by omega] at C2
      have hd8 : d ≤ 255 := one_small (nl_small s) h4
      have hdw := Lib.hid (show wrap64 (d : Int) = d by unfold wrap64; omega)
      have hcd : decide (d < c) = false := by simp; omega
      obtain ⟨hnl, hy⟩ := at_nl h3
      clear h2 h3 h4
      cases B with
      | true =>
        obtain rfl : m = 0 := hm0.out.2 (by simpa using hB0.out)
        clear h1
        go_wp2_with (first | (go_at_call 70; (with_reducible refine (C.out _).mono ?_); rintro e w1 ⟨rfl, h1⟩; replace b0 := b0.bel h1; replace b1 := b1.bel h1; replace hrow := hrow.bel h1; replace hB := hB.trans (h1.mono hB.size); clear h1; clear f0 f1 f2 f3 z0 z1 z2 z3 g0 g1 g2 g3 y0 y1 y2 y3; obtain ⟨⟨f0, f1, f2, f3⟩, z0, z1, z2, z3⟩ := b1.facts; obtain ⟨⟨g0, g1, g2, g3⟩, y0, y1, y2, y3⟩ := b0.facts) | (go_at_call 70; (with_reducible refine (C2.out _).mono ?_); rintro e w1 ⟨rfl, h1⟩; replace b0 := b0.bel h1; replace b1 := b1.bel h1; replace hrow := hrow.bel h1; replace hB := hB.trans (h1.mono hB.size); clear h1; clear f0 f1 f2 f3 z0 z1 z2 z3 g0 g1 g2 g3 y0 y1 y2 y3; obtain ⟨⟨f0, f1, f2, f3⟩, z0, z1, z2, z3⟩ := b1.facts; obtain ⟨⟨g0, g1, g2, g3⟩, y0, y1, y2, y3⟩ := b0.facts))
        go_loopw [16] (fun i wz => ∃ j : Nat, c ≤ j ∧ j ≤ d + 1 ∧ i = .int .i64 j ∧ Blk4 wz w.heap.size 24 (.int .u64 0) (.int .u64 0) (.int .u64 0) (.int .u64 0) ∧ Blk4 wz (w.heap.size + 1) 24 (.int .u64 0) (.int .u64 0) (.int .u64 0) (.int .u64 0) ∧ BoolRow wz (w.heap.size + 1 + 1) (upU acc c j) ∧ Below w.heap.size w wz) (fun i _ => 256 - (intOf i).toNat)
        case atStart => exact ⟨c, Nat.le_refl _, by omega, by first | rfl | rw [hcw.out], b0, b1, hrow.congr fun x _ => by simp [upU]; omega, hB⟩
        case round =>
          clear b0 b1 hrow hB f0 f1 f2 f3 z0 z1 z2 z3 g0 g1 g2 g3 y0 y1 y2 y3
          obtain ⟨j, hj1, hj2, rfl, b0, b1, hrow, hB⟩ := hrel
          by_cases hj : j ≤ d
          · have hcell := hrow.cell (k := j) (by omega)
            have hfz := hrow.frozen j
            have h1 := Lib.hid (hB.setCell (p := ⟨(w.heap.size + 1 + 1), j, none⟩) (by simp; omega) (.bool true))
            have h2 := Lib.hid ((hrow.set j true).congr (g := upU acc c (j + 1)) fun x _ => upU_step acc hj1 x)
            have h3 := Lib.hid (b0.setOther (a := ⟨(w.heap.size + 1 + 1), j, none⟩) (by simp <;> omega) (.bool true))
            have h4 := Lib.hid (b1.setOther (a := ⟨(w.heap.size + 1 + 1), j, none⟩) (by simp <;> omega) (.bool true))
            clear b0 b1 hrow hB
            have hjd : decide ((j : Int) ≤ wrap64 (d : Int)) = true := by rw [hdw.out]; simp; omega
            go_wp2
            go_roundw
            case rel => exact ⟨j + 1, by omega, by omega, by go_num, h3.out, h4.out, h2.out, h1.out⟩
            case measure => simp [intOf]; omega
          · obtain rfl : j = d + 1 := by omega
            have h2 := Lib.hid (hrow.congr (g := spU (acc ++ [(c, d)])) fun x _ => upU_end acc c d x)
            have h1 := Lib.hid hB
            have h3 := Lib.hid b0
            have h4 := Lib.hid b1
            clear b0 b1 hrow hB
            have hjd : decide (((d : Int) + 1) ≤ wrap64 (d : Int)) = false := by rw [hdw.out]; simp; omega
            go_wp2
            go_roundw
            case rel => exact ⟨q, 0 + 1, acc ++ [(c, d)], ps, rfl, by go_num, hn8, by omega, by simp, by rw [hne.out]; exact hps, by rw [← hP.out]; simp, hok2.out, h3.out, h4.out, h2.out, h1.out⟩
            case measure => simp [intOf]; omega
      | false =>
        have hmp : 0 < m := by rcases Nat.eq_zero_or_pos m with h | h; exact absurd (hm0.out.1 h) (by simpa using hB0.out); exact h
        have h1' : (nl s)[k]? ≠ some 93 := by simpa using h1
        clear h1
        have hat := nl_at s k hkl
        obtain ⟨x, hx⟩ : ∃ x, (s[k]).toNat = x := ⟨_, rfl⟩
        rw [hx] at hat
        have hx2 : ((x : Int) == 93) = false := by
          rw [hat] at h1'
          have : x ≠ 93 := fun q => h1' (by rw [q])
          simp; omega
        clear h1' hat
        go_wp2_with (first | (go_at_call 70; (with_reducible refine (C.out _).mono ?_); rintro e w1 ⟨rfl, h1⟩; replace b0 := b0.bel h1; replace b1 := b1.bel h1; replace hrow := hrow.bel h1; replace hB := hB.trans (h1.mono hB.size); clear h1; clear f0 f1 f2 f3 z0 z1 z2 z3 g0 g1 g2 g3 y0 y1 y2 y3; obtain ⟨⟨f0, f1, f2, f3⟩, z0, z1, z2, z3⟩ := b1.facts; obtain ⟨⟨g0, g1, g2, g3⟩, y0, y1, y2, y3⟩ := b0.facts) | (go_at_call 70; (with_reducible refine (C2.out _).mono ?_); rintro e w1 ⟨rfl, h1⟩; replace b0 := b0.bel h1; replace b1 := b1.bel h1; replace hrow := hrow.bel h1; replace hB := hB.trans (h1.mono hB.size); clear h1; clear f0 f1 f2 f3 z0 z1 z2 z3 g0 g1 g2 g3 y0 y1 y2 y3; obtain ⟨⟨f0, f1, f2, f3⟩, z0, z1, z2, z3⟩ := b1.facts; obtain ⟨⟨g0, g1, g2, g3⟩, y0, y1, y2, y3⟩ := b0.facts))
        go_loopw [16] (fun i wz => ∃ j : Nat, c ≤ j ∧ j ≤ d + 1 ∧ i = .int .i64 j ∧ Blk4 wz w.heap.size 24 (.int .u64 0) (.int .u64 0) (.int .u64 0) (.int .u64 0) ∧ Blk4 wz (w.heap.size + 1) 24 (.int .u64 0) (.int .u64 0) (.int .u64 0) (.int .u64 0) ∧ BoolRow wz (w.heap.size + 1 + 1) (upU acc c j) ∧ Below w.heap.size w wz) (fun i _ => 256 - (intOf i).toNat)
        case atStart => exact ⟨c, Nat.le_refl _, by omega, by first | rfl | rw [hcw.out], b0, b1, hrow.congr fun x _ => by simp [upU]; omega, hB⟩
        case round =>
          clear b0 b1 hrow hB f0 f1 f2 f3 z0 z1 z2 z3 g0 g1 g2 g3 y0 y1 y2 y3
          obtain ⟨j, hj1, hj2, rfl, b0, b1, hrow, hB⟩ := hrel
          by_cases hj : j ≤ d
          · have hcell := hrow.cell (k := j) (by omega)
            have hfz := hrow.frozen j
            have h1 := Lib.hid (hB.setCell (p := ⟨(w.heap.size + 1 + 1), j, none⟩) (by simp; omega) (.bool true))
            have h2 := Lib.hid ((hrow.set j true).congr (g := upU acc c (j + 1)) fun x _ => upU_step acc hj1 x)
            have h3 := Lib.hid (b0.setOther (a := ⟨(w.heap.size + 1 + 1), j, none⟩) (by simp <;> omega) (.bool true))
            have h4 := Lib.hid (b1.setOther (a := ⟨(w.heap.size + 1 + 1), j, none⟩) (by simp <;> omega) (.bool true))
            clear b0 b1 hrow hB
            have hjd : decide ((j : Int) ≤ wrap64 (d : Int)) = true := by rw [hdw.out]; simp; omega
            go_wp2
            go_roundw
            case rel => exact ⟨j + 1, by omega, by omega, by go_num, h3.out, h4.out, h2.out, h1.out⟩
            case measure => simp [intOf]; omega
          · obtain rfl : j = d + 1 := by omega
            have h2 := Lib.hid (hrow.congr (g := spU (acc ++ [(c, d)])) fun x _ => upU_end acc c d x)
            have h1 := Lib.hid hB
            have h3 := Lib.hid b0
            have h4 := Lib.hid b1
            clear b0 b1 hrow hB
            have hjd : decide (((d : Int) + 1) ≤ wrap64 (d : Int)) = false := by rw [hdw.out]; simp; omega
            go_wp2
            go_roundw
            case rel => exact ⟨q, m + 1, acc ++ [(c, d)], ps, rfl, by go_num, hn8, by omega, by simp, by rw [hne.out]; exact hps, by rw [← hP.out]; simp, hok2.out, h3.out, h4.out, h2.out, h1.out⟩
            case measure => simp [intOf]; omega
end Go.Proofs.YtjlmeegaiagfpaaDoor.S6

namespace Go.Proofs.YtjlmeegaiagfpaaDoor.S6
open Go.RowKit
open S5 (nl nl_length nl_small at_nl nl_at Rd Sp Gives Two errV)
open S1 (Blk4 SetBox BoolRow wd noS oneS spanS orS notS spU eqB)
set_option maxRecDepth 100000 in
set_option maxHeartbeats 4000000 in
theorem rread_out {s : ByteArray} {i : Int} (hi : i < 0 ∨ (s.size : Int) ≤ i) (hm : s.size ≤ 99990) (w : World) :
    Gives 45 #[.string s, .int .i64 i] (.tuple #[(.agg #[.int .u64 0, .int .u64 0, .int .u64 0, .int .u64 0]), .int .i64 s.size, .int .i64 2]) w := by
  unfold Gives
  obtain ⟨W, hW, b0, b1, hB⟩ := S1.boxes2 w 24 24 (.int .u64 0) (.int .u64 0) (.int .u64 0) (.int .u64 0) (.int .u64 0) (.int .u64 0) (.int .u64 0) (.int .u64 0)
  replace hW := Lib.hid hW
  rcases hi with hi | hi
  all_goals
    have gd : decide ((s.size : Int) ≤ i) = true ∨ decide (i < 0) = true := by simp; omega
    go_enter Tryd.func45, Tryd.ntmps45
    go_wp2
    all_goals first | (exfalso; omega) | skip
    all_goals
      obtain ⟨⟨c0, c1, c2, c3⟩, -⟩ := b0.facts
      rw [hW.out]
      refine bodyPost_ret (v := .tuple #[(.agg #[.int .u64 0, .int .u64 0, .int .u64 0, .int .u64 0]), .int .i64 s.size, .int .i64 2]) (by simp [results, Tryd.results45, go_sem, c0, c1, c2, c3]) rfl ?_
      exact ⟨rfl, hB⟩
set_option maxRecDepth 100000 in
set_option maxHeartbeats 4000000 in
theorem rread_other {s : ByteArray} {k c : Nat} (h0 : (nl s)[k]? = some c) (hc : c ≠ 91) (_ : s.size ≤ 99990) (w : World) :
    Gives 45 #[.string s, .int .i64 k] (.tuple #[(.agg #[.int .u64 0, .int .u64 0, .int .u64 0, .int .u64 0]), .int .i64 k, .int .i64 4]) w := by
  obtain ⟨hlt, hat⟩ := at_nl h0
  have hx : ((c : Int) == 91) = false := by simp; omega
  have hx2 : ((c : Int) != 91) = true := by simp; omega
  clear h0 hc
  unfold Gives
  obtain ⟨W, hW, b0, b1, hB⟩ := S1.boxes2 w 24 24 (.int .u64 0) (.int .u64 0) (.int .u64 0) (.int .u64 0) (.int .u64 0) (.int .u64 0) (.int .u64 0) (.int .u64 0)
  replace hW := Lib.hid hW
  go_enter Tryd.func45, Tryd.ntmps45
  go_wp2
  obtain ⟨⟨c0, c1, c2, c3⟩, -⟩ := b0.facts
  rw [hW.out]
  refine bodyPost_ret (v := .tuple #[(.agg #[.int .u64 0, .int .u64 0, .int .u64 0, .int .u64 0]), .int .i64 k, .int .i64 4]) (by simp [results, Tryd.results45, go_sem, c0, c1, c2, c3]) rfl ?_
  exact ⟨rfl, hB⟩
theorem rread_in {s : ByteArray} (hm : s.size ≤ 99990) {i : Int} {f : Nat → Bool} {t : Int} {e : Nat} (h : Br (nl s) i f t e) (w : World) :
    Gives 45 #[.string s, .int .i64 i] (roV f t e) w := by
  have hn := nl_length s
  have pos : ∀ {k : Nat} {P : List (Nat × Nat)} {t : Int} {e : Nat}, (nl s)[k]? = some 91 → (nl s)[k + 1]? ≠ some 94 → Its (nl s) true (k + 1) P t e → Gives 45 #[.string s, .int .i64 k] (roV (spU P) t e) w := fun {k P t e} h1 h2 h3 => by
    by_cases hz : k + 1 < s.size
    · exact rread_pos1 hm h1 h2 h3 hz w
    · exact rread_pos2 hm h1 h2 h3 hz w
  cases h with
  | outside _ h1 => rw [hn] at h1 ⊢; exact rread_out h1 hm w
  | other k c h1 h2 => exact rread_other h1 h2 hm w
  | ok k ps _ h1 h2 h3 => exact pos h1 h2 h3
  | okNot k ps _ h1 h2 h3 => exact rread_not hm h1 h2 h3 w
  | bad k ps _ _ h1 h2 h3 h4 =>
    have := pos h1 h2 h3
    rw [roV_err _ _ h4] at this ⊢
    exact this
  | badNot k ps _ _ h1 h2 h3 h4 =>
    have := rread_not hm h1 h2 h3 w
    rw [roV_err _ _ h4] at this ⊢
    exact this
theorem its_err {l : List Nat} {b : Bool} {k : Nat} {ps : List (Nat × Nat)} {t : Int} {e : Nat} (h : Its l b k ps t e) : e = 0 ∨ e = 1 ∨ e = 2 ∨ e = 4 := by
  induction h with
  | close => simp
  | bad1 _ _ _ _ _ h => rcases one_err h with h | h | h <;> omega
  | one _ _ _ _ _ _ _ _ _ _ _ ih => exact ih
  | bad2 _ _ _ _ _ _ _ _ _ h => rcases one_err h with h | h | h <;> omega
  | down => simp
  | span _ _ _ _ _ _ _ _ _ _ _ _ _ _ _ ih => exact ih
theorem br_err {l : List Nat} {i : Int} {f : Nat → Bool} {t : Int} {e : Nat} (h : Br l i f t e) : e = 0 ∨ e = 1 ∨ e = 2 ∨ e = 4 := by
  cases h with
  | outside => simp
  | other => simp
  | ok => simp
  | okNot => simp
  | bad _ _ _ _ _ _ h => exact its_err h
  | badNot _ _ _ _ _ _ h => exact its_err h
end Go.Proofs.YtjlmeegaiagfpaaDoor.S6
