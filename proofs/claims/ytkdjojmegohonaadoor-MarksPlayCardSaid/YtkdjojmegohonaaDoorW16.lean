/- The state of MarksPlay's loop; what each step leaves of it. -/
import Derived.Test.YtkdjojmegohonaaDoorW15
namespace Go.Proofs.YtkdjojmegohonaaDoor
open Go.RowKit

/-- Two marks and their references hold f and h; all lie apart, in blocks from B on; what lay below B lies as it lay. -/
structure St (w0 : World) (B : Nat) (vb vg wb wg by' gy a b : Nat) (bx gx : Nat) (f h : Nat → Bool) (w : World) : Prop where
  x : Mk w bx gx a f
  y : Mk w by' gy b h
  v : Rf w vb vg a f
  u : Rf w wb wg b h
  apart : (gx ≠ by' ∧ gx ≠ gy ∧ gx ≠ vb ∧ gx ≠ vg ∧ gx ≠ wb ∧ gx ≠ wg) ∧ (vg ≠ bx ∧ vg ≠ gx ∧ vg ≠ by' ∧ vg ≠ gy ∧ vg ≠ wb ∧ vg ≠ wg) ∧
    (gy ≠ bx ∧ gy ≠ gx ∧ gy ≠ vb ∧ gy ≠ vg ∧ gy ≠ wb ∧ gy ≠ wg) ∧ (wg ≠ bx ∧ wg ≠ gx ∧ wg ≠ by' ∧ wg ≠ gy ∧ wg ≠ vb ∧ wg ≠ vg)
  above : ∀ k ∈ [bx, gx, by', gy, vb, vg, wb, wg], B ≤ k
  below : Below B w0 w
section
variable {w0 w w1 w2 : World} {B vb vg wb wg by' gy a b bx gx : Nat} {f h f' : Nat → Bool}
theorem St.bel (s : St w0 B vb vg wb wg by' gy a b bx gx f h w) (hb : Bel w w1) : St w0 B vb vg wb wg by' gy a b bx gx f h w1 :=
  ⟨s.x.bel' hb, s.y.bel' hb, s.v.bel hb (Nat.le_refl _), s.u.bel hb (Nat.le_refl _), s.apart, s.above, s.below.trans (Below.mono hb (Nat.le_of_lt (Nat.lt_of_le_of_lt (s.above bx (by simp)) s.x.lt.1)))⟩
theorem St.hB (s : St w0 B vb vg wb wg by' gy a b bx gx f h w) : B ≤ w.heap.size := Nat.le_of_lt (Nat.lt_of_le_of_lt (s.above bx (by simp)) s.x.lt.1)
theorem St.drew (s : St w0 B vb vg wb wg by' gy a b bx gx f h w) : St w0 B vb vg wb wg by' gy a b bx gx f h w.drew := s.bel (Bel.drew (Bel.refl w))
/-- All numbers apart, as inequalities. -/
theorem St.ne (s : St w0 B vb vg wb wg by' gy a b bx gx f h w) : (gx ≠ by' ∧ gx ≠ gy ∧ gx ≠ vb ∧ gx ≠ vg ∧ gx ≠ wb ∧ gx ≠ wg) ∧ (vg ≠ bx ∧ vg ≠ gx ∧ vg ≠ by' ∧ vg ≠ gy ∧ vg ≠ wb ∧ vg ≠ wg) ∧
    (gy ≠ bx ∧ gy ≠ gx ∧ gy ≠ vb ∧ gy ≠ vg ∧ gy ≠ wb ∧ gy ≠ wg) ∧ (wg ≠ bx ∧ wg ≠ gx ∧ wg ≠ by' ∧ wg ≠ gy ∧ wg ≠ vb ∧ wg ≠ vg) := s.apart
/-- The reference of x, while x alone was written. -/
theorem St.midV (s : St w0 B vb vg wb wg by' gy a b bx gx f h w) (g1 : w.grownBy w1 (some gx)) : Rf w1 vb vg a f := s.v.kept g1 (by simpa using s.ne.1.2.2.1) (by simpa using s.ne.1.2.2.2.1)
theorem St.midU (s : St w0 B vb vg wb wg by' gy a b bx gx f h w) (g1 : w.grownBy w1 (some gy)) : Rf w1 wb wg b h := s.u.kept g1 (by simpa using s.ne.2.2.1.2.2.2.2.1) (by simpa using s.ne.2.2.1.2.2.2.2.2)
theorem St.stepX (s : St w0 B vb vg wb wg by' gy a b bx gx f h w) (m1 : Mk w1 bx gx a f') (g1 : w.grownBy w1 (some gx)) (r2 : Rf w2 vb vg a f') (g2 : w1.grownBy w2 (some vg)) : St w0 B vb vg wb wg by' gy a b bx gx f' h w2 := by
  obtain ⟨⟨n1, n2, n3, n4, n5, n6⟩, ⟨m1', m2', m3', m4', m5', m6'⟩, _, _⟩ := s.ne
  exact ⟨m1.kept g2 (by simpa using m1') (by simpa using m2'), (s.y.kept g1 (by simpa using n1) (by simpa using n2)).kept g2 (by simpa using m3') (by simpa using m4'), r2,
    (s.u.kept g1 (by simpa using n5) (by simpa using n6)).kept g2 (by simpa using m5') (by simpa using m6'), s.apart, s.above,
    below_put (below_put s.below s.hB g1 (s.above gx (by simp))) (Nat.le_trans s.hB g1.size) g2 (s.above vg (by simp))⟩
theorem St.stepY (s : St w0 B vb vg wb wg by' gy a b bx gx f h w) (m1 : Mk w1 by' gy b f') (g1 : w.grownBy w1 (some gy)) (r2 : Rf w2 wb wg b f') (g2 : w1.grownBy w2 (some wg)) : St w0 B vb vg wb wg by' gy a b bx gx f f' w2 := by
  obtain ⟨_, _, ⟨n1, n2, n3, n4, n5, n6⟩, ⟨m1', m2', m3', m4', m5', m6'⟩⟩ := s.ne
  exact ⟨(s.x.kept g1 (by simpa using n1) (by simpa using n2)).kept g2 (by simpa using m1') (by simpa using m2'), m1.kept g2 (by simpa using m3') (by simpa using m4'),
    (s.v.kept g1 (by simpa using n3) (by simpa using n4)).kept g2 (by simpa using m5') (by simpa using m6'), r2, s.apart, s.above,
    below_put (below_put s.below s.hB g1 (s.above gy (by simp))) (Nat.le_trans s.hB g1.size) g2 (s.above wg (by simp))⟩
/-- The reference written first, then the marks (an Or). -/
theorem St.orX (s : St w0 B vb vg wb wg by' gy a b bx gx f h w) (r1 : Rf w1 vb vg a f') (g1 : w.grownBy w1 (some vg)) (m2 : Mk w2 bx gx a f') (g2 : w1.grownBy w2 (some gx)) : St w0 B vb vg wb wg by' gy a b bx gx f' h w2 := by
  obtain ⟨⟨n1, n2, n3, n4, n5, n6⟩, ⟨m1', m2', m3', m4', m5', m6'⟩, _, _⟩ := s.ne
  exact ⟨m2, (s.y.kept g1 (by simpa using m3') (by simpa using m4')).kept g2 (by simpa using n1) (by simpa using n2), r1.kept g2 (by simpa using n3) (by simpa using n4),
    (s.u.kept g1 (by simpa using m5') (by simpa using m6')).kept g2 (by simpa using n5) (by simpa using n6), s.apart, s.above,
    below_put (below_put s.below s.hB g1 (s.above vg (by simp))) (Nat.le_trans s.hB g1.size) g2 (s.above gx (by simp))⟩
theorem St.orY (s : St w0 B vb vg wb wg by' gy a b bx gx f h w) (r1 : Rf w1 wb wg b f') (g1 : w.grownBy w1 (some wg)) (m2 : Mk w2 by' gy b f') (g2 : w1.grownBy w2 (some gy)) : St w0 B vb vg wb wg by' gy a b bx gx f f' w2 := by
  obtain ⟨_, _, ⟨n1, n2, n3, n4, n5, n6⟩, ⟨m1', m2', m3', m4', m5', m6'⟩⟩ := s.ne
  exact ⟨(s.x.kept g1 (by simpa using m1') (by simpa using m2')).kept g2 (by simpa using n1) (by simpa using n2), m2,
    (s.v.kept g1 (by simpa using m5') (by simpa using m6')).kept g2 (by simpa using n3) (by simpa using n4), r1.kept g2 (by simpa using n5) (by simpa using n6), s.apart, s.above,
    below_put (below_put s.below s.hB g1 (s.above wg (by simp))) (Nat.le_trans s.hB g1.size) g2 (s.above gy (by simp))⟩
/-- x goes on as a copy, and the old one is written. -/
theorem St.copied (s : St w0 B vb vg wb wg by' gy a b bx gx f h w) {b' g' : Nat} (hb : Below w.heap.size w w1) (hm : Mk w1 b' g' a f) (h1 : w.heap.size ≤ b') (h2 : w.heap.size ≤ g') (g2 : w1.grownBy w2 (some gx)) : St w0 B vb vg wb wg by' gy a b b' g' f h w2 := by
  have s1 := s.bel hb
  obtain ⟨A1, ⟨_, _, A2⟩, ⟨_, _, A3⟩, ⟨_, _, A4⟩⟩ := s.ne
  have n1 := A1.1
  have n2 := A1.2.1
  have n3 := A1.2.2.1
  have n4 := A1.2.2.2.1
  have n5 := A1.2.2.2.2.1
  have n6 := A1.2.2.2.2.2
  replace A1 := Lib.hid A1
  have lx := s.x.lt
  have ly := s.y.lt
  have lv := s.v.lt
  have lu := s.u.lt
  have hne := hm.ne
  have e1 : (some gx : Option Nat) ≠ some b' := by simp; omega
  have e2 : (some gx : Option Nat) ≠ some g' := by simp; omega
  refine ⟨hm.kept g2 e1 e2, s1.y.kept g2 (by simpa using n1) (by simpa using n2), s1.v.kept g2 (by simpa using n3) (by simpa using n4), s1.u.kept g2 (by simpa using n5) (by simpa using n6), ?_, ?_,
    below_put s1.below s1.hB g2 (s.above gx (by simp))⟩
  · exact ⟨⟨by omega, by omega, by omega, by omega, by omega, by omega⟩, ⟨by omega, by omega, A2⟩, ⟨by omega, by omega, A3⟩, ⟨by omega, by omega, A4⟩⟩
  · intro k hk
    simp only [List.mem_cons, List.not_mem_nil, or_false] at hk
    have hB := s.hB
    rcases hk with e | e | hk
    · omega
    · omega
    · exact s.above k (by simp only [List.mem_cons, List.not_mem_nil, or_false]; omega)
end
/-- A row from base on stays while a block below base is written. -/
theorem row_far {w w1 : World} {base e size n g : Nat} {v : Value} {xs : List Value} (h : w.ownsRow base e size v n xs) (hg : w.grownBy w1 (some g)) (hgb : g < base) : w1.ownsRow base e size v n xs := by
  refine h.kept hg ?_
  rcases h.2 with ⟨rfl, _⟩ | ⟨g', cap, cur, rfl, hb, _⟩
  · exact .inl rfl
  · refine .inr ?_
    simp only [Value.ownBlock, ne_eq, Option.some.injEq]
    omega
/-- f with the first k of l put in below n. -/
def putsS (f : Nat → Bool) (n : Nat) (l : List Nat) : Nat → Bool := fun c => f c || (l.contains c && decide (c < n))
theorem putsS_snoc (f : Nat → Bool) (n : Nat) (l : List Nat) (x : Nat) : ∀ c, putS (putsS f n l) n x c = putsS f n (l ++ [x]) c := fun c => by
  unfold putS putsS
  rw [Bool.eq_iff_iff]
  simp only [Bool.or_eq_true, Bool.and_eq_true, decide_eq_true_eq, List.contains_iff_mem, List.mem_append, List.mem_singleton, Int.natCast_inj]
  constructor
  · rintro ((h | ⟨h, q⟩) | ⟨h, q⟩)
    · exact .inl h
    · exact .inr ⟨.inl h, q⟩
    · exact .inr ⟨.inr h, q⟩
  · rintro (h | ⟨h | h, q⟩)
    · exact .inl (.inl h)
    · exact .inl (.inr ⟨h, q⟩)
    · exact .inr ⟨h, q⟩
/-- Was one of l new to f below n? -/
def Fresh (f : Nat → Bool) (n : Nat) (l : List Nat) (r : Bool) : Prop := r = true ↔ ∃ i ∈ l, i < n ∧ f i = false
theorem fresh_snoc {f : Nat → Bool} {n : Nat} {l : List Nat} {r : Bool} (h : Fresh f n l r) (x : Nat) : (fresh (putsS f n l) n x = true → Fresh f n (l ++ [x]) true) ∧ (fresh (putsS f n l) n x = false → Fresh f n (l ++ [x]) r) := by
  unfold Fresh at *
  constructor
  · intro hx
    simp only [fresh, putsS, Bool.and_eq_true, decide_eq_true_eq, Int.toNat_natCast, Bool.not_eq_true', Bool.or_eq_false_iff] at hx
    exact ⟨fun _ => ⟨x, by simp, by omega, hx.2.1⟩, fun _ => rfl⟩
  · intro hx
    rw [h]
    constructor
    · rintro ⟨i, h1, h2⟩
      exact ⟨i, by simp [h1], h2⟩
    · rintro ⟨i, h1, h2, h3⟩
      rcases List.mem_append.1 h1 with h1 | h1
      · exact ⟨i, h1, h2, h3⟩
      · obtain rfl : i = x := by simpa using h1
        have : putsS f n l i = true := by
          cases hp : putsS f n l i
          · have hi : (0 : Int) ≤ i ∧ (i : Int) < n := by omega
            simp [fresh, hp, hi] at hx
          · rfl
        simp only [putsS, h3, Bool.false_or, Bool.and_eq_true, List.contains_iff_mem] at this
        exact ⟨i, this.1, h2, h3⟩
theorem fresh_end {f g : Nat → Bool} {n m : Nat} {r : Bool} (hg : ∀ i, m ≤ i → g i = false) (h : Fresh f n (mem g m) r) : r = true ↔ ∃ i, newS f g n i = true := by
  refine h.trans ⟨?_, ?_⟩
  · rintro ⟨i, h1, h2, h3⟩
    exact ⟨i, by simp [newS, h3, h2, (mem_mem.1 h1).2]⟩
  · rintro ⟨i, h1⟩
    simp only [newS, Bool.and_eq_true, Bool.not_eq_true', decide_eq_true_eq] at h1
    refine ⟨i, mem_mem.2 ⟨?_, h1.2.1⟩, h1.2.2, h1.1⟩
    refine Nat.lt_of_not_le fun h2 => ?_
    rw [hg i h2] at h1
    exact absurd h1.2.1 (by simp)
theorem putsS_end {f g : Nat → Bool} {n m : Nat} (hg : ∀ i, m ≤ i → g i = false) : ∀ c, putsS f n (mem g m) c = orTo f g n c := fun c => by
  unfold putsS orTo
  rw [Bool.eq_iff_iff]
  simp only [Bool.or_eq_true, Bool.and_eq_true, decide_eq_true_eq, List.contains_iff_mem, mem_mem]
  constructor
  · rintro (h | ⟨⟨_, h⟩, q⟩)
    · exact .inl h
    · exact .inr ⟨h, q⟩
  · rintro (h | ⟨h, q⟩)
    · exact .inl h
    · refine .inr ⟨⟨Nat.lt_of_not_le fun h2 => ?_, h⟩, q⟩
      rw [hg c h2] at h; cases h
/-- Is one of l in h? -/
def Among (h : Nat → Bool) (l : List Nat) (r : Bool) : Prop := r = true ↔ ∃ i ∈ l, h i = true
theorem among_snoc {h : Nat → Bool} {l : List Nat} {r : Bool} (hr : Among h l r) (x : Nat) : Among h (l ++ [x]) (r || h x) := by
  unfold Among at *
  rw [Bool.or_eq_true, hr]
  constructor
  · rintro (⟨i, h1, h2⟩ | h1)
    · exact ⟨i, by simp [h1], h2⟩
    · exact ⟨x, by simp, h1⟩
  · rintro ⟨i, h1, h2⟩
    rcases List.mem_append.1 h1 with h1 | h1
    · exact .inl ⟨i, h1, h2⟩
    · obtain rfl : i = x := by simpa using h1
      exact .inr h2
theorem among_end {f h : Nat → Bool} {n : Nat} {r : Bool} (hf : ∀ i, n ≤ i → f i = false) (hr : Among h (mem f n) r) : Shares f h r := by
  refine hr.trans ⟨?_, ?_⟩
  · rintro ⟨i, h1, h2⟩
    exact ⟨i, by simp [andS, (mem_mem.1 h1).2, h2]⟩
  · rintro ⟨i, h1⟩
    simp only [andS, Bool.and_eq_true] at h1
    refine ⟨i, mem_mem.2 ⟨Nat.lt_of_not_le fun h2 => ?_, h1.1⟩, h1.2⟩
    rw [hf i h2] at h1; cases h1.1
theorem wasIn_nat {h : Nat → Bool} {m : Nat} (ht : ∀ i, m ≤ i → h i = false) (i : Nat) : wasIn h m i = h i := by
  unfold wasIn
  by_cases q : i < m
  · simp [q]
  · simp [ht i (by omega)]
end Go.Proofs.YtkdjojmegohonaaDoor
