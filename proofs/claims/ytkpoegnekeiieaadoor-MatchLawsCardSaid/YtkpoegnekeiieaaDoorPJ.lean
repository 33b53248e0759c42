/- Texts merged: S10W21, S10W22. -/

import Derived.Test.YtkpoegnekeiieaaDoorPI
namespace Go.Proofs.YtkpoegnekeiieaaDoor
open Go.RowKit
open Go.Tree7
open S7
open S5 (nl nl_length nl_small at_nl nl_at Gives idx idx_at ix ix_no ix_yes)
noncomputable def isTo (a b : T) (l : List Nat) (k : Nat) : Bool := (List.range k).any fun i => isB a (l.take i) && isB b (l.drop i)
noncomputable def agTo (a s : T) (l : List Nat) (k : Nat) : Bool := decide (l.length = 0) || (List.range k).any fun i => decide (0 < i) && (isB a (l.take i) && isB s (l.drop i))
theorem any_range {f : Nat → Bool} {n : Nat} : (List.range n).any f = true ↔ ∃ i, i < n ∧ f i = true := by
  rw [List.any_eq_true]
  constructor
  · rintro ⟨i, h1, h2⟩; exact ⟨i, List.mem_range.1 h1, h2⟩
  · rintro ⟨i, h1, h2⟩; exact ⟨i, List.mem_range.2 h1, h2⟩
theorem isTo_next (a b : T) (l : List Nat) (k : Nat) : isTo a b l (k + 1) = (isTo a b l k || (isB a (l.take k) && isB b (l.drop k))) := by
  unfold isTo
  rw [List.range_succ, List.any_append, List.any_cons, List.any_nil, Bool.or_false]
theorem agTo_next (a s : T) (l : List Nat) (k : Nat) : agTo a s l (k + 1) = (agTo a s l k || (decide (0 < k) && (isB a (l.take k) && isB s (l.drop k)))) := by
  unfold agTo
  rw [List.range_succ, List.any_append, List.any_cons, List.any_nil, Bool.or_false, Bool.or_assoc]
theorem works_kid {k : Int} {p : Option Addr} {cap : Nat} {mn mx : Int} {ks : List T} (h : worksB (.mk k 0 0 0 0 p cap mn mx ⟨#[]⟩ ks) = true) (hk : k ≠ 4 ∨ (k = 4 ∧ mx = -1 ∧ mn = 0)) {t : T} (ht : t ∈ ks) : worksB t = true := by
  obtain ⟨h1, h2⟩ := (worksB_iff _).1 h
  refine (worksB_iff _).2 ⟨right_kid h1 ht, ?_⟩
  have hpos : ∀ x ∈ ks, 1 ≤ weightT x := fun x hx => (weight_within (right_all ((rightB_iff x).1 (right_kid h1 hx))).1).1
  have hkw : ∀ x : Int, x ≤ 4000 ∨ 4000 < kidW k mn mx x := fun x => by
    unfold kidW
    rcases hk with hk | ⟨rfl, rfl, rfl⟩
    · rw [if_neg (fun h => hk h.1), if_neg hk]; omega
    · rw [if_pos ⟨rfl, rfl⟩]; unfold cut20; split <;> omega
  have hk0 : ∀ x : Int, 1 ≤ x → 0 ≤ kidW k mn mx x := fun x hx => by
    unfold kidW
    rcases hk with hk | ⟨rfl, rfl, rfl⟩
    · rw [if_neg (fun h => hk h.1), if_neg hk]; omega
    · rw [if_pos ⟨rfl, rfl⟩]; unfold cut20; split <;> omega
  rw [weightT_mk] at h2
  have key : ∀ (l : List T), (∀ x ∈ l, x ∈ ks) → ∀ a : Int, 0 ≤ a → l.foldl (fun w t => cut20 (w + kidW k mn mx (weightT t))) a ≤ 4000 → a ≤ 4000 ∧ ∀ x ∈ l, weightT x ≤ 4000 := by
    intro l
    induction l with
    | nil => intro _ a _ h; exact ⟨h, fun x hx => by cases hx⟩
    | cons y l ih =>
      intro hm a ha h
      rw [List.foldl_cons] at h
      have hy := hk0 _ (hpos y (hm y (by simp)))
      obtain ⟨h3, h4⟩ := ih (fun x hx => hm x (by simp [hx])) _ (by unfold cut20; split <;> omega) h
      have h5 : a + kidW k mn mx (weightT y) ≤ 4000 := by unfold cut20 at h3; split at h3 <;> omega
      refine ⟨by omega, fun x hx => ?_⟩
      rcases List.mem_cons.1 hx with rfl | hx
      · rcases hkw (weightT x) with h6 | h6
        · exact h6
        · omega
      · exact h4 x hx
  exact (key ks (fun x hx => hx) 1 (by decide) h2).2 t ht
section
variable {a b : T} {l : List Nat}
theorem laws_cat {p : Option Addr} {cap : Nat} (h : worksB (.mk 2 0 0 0 0 p cap 0 0 ⟨#[]⟩ [a, b]) = true) (hl : l.length ≤ 4096) : isB (.mk 2 0 0 0 0 p cap 0 0 ⟨#[]⟩ [a, b]) l = isTo a b l (l.length + 1) := by
  have ha := works_kid h (Or.inl (by decide)) (t := a) (by simp)
  have hb := works_kid h (Or.inl (by decide)) (t := b) (by simp)
  unfold isTo
  rw [Bool.eq_iff_iff, isB_of h hl, lang_cat2, any_range]
  constructor
  · rintro ⟨u, v, rfl, h1, h2⟩
    refine ⟨u.length, by simp; omega, ?_⟩
    rw [List.take_left, List.drop_left, Bool.and_eq_true, isB_of ha (by simp at hl; omega), isB_of hb (by simp at hl; omega)]
    exact ⟨h1, h2⟩
  · rintro ⟨i, hi, h1⟩
    rw [Bool.and_eq_true, isB_of ha (by rw [List.length_take]; omega), isB_of hb (by rw [List.length_drop]; omega)] at h1
    exact ⟨_, _, (List.take_append_drop i l).symm, h1.1, h1.2⟩
theorem laws_alt {p : Option Addr} {cap : Nat} (h : worksB (.mk 3 0 0 0 0 p cap 0 0 ⟨#[]⟩ [a, b]) = true) (hl : l.length ≤ 4096) : isB (.mk 3 0 0 0 0 p cap 0 0 ⟨#[]⟩ [a, b]) l = (isB a l || isB b l) := by
  have ha := works_kid h (Or.inl (by decide)) (t := a) (by simp)
  have hb := works_kid h (Or.inl (by decide)) (t := b) (by simp)
  rw [Bool.eq_iff_iff, isB_of h hl, lang_alt2, Bool.or_eq_true, isB_of ha hl, isB_of hb hl]
theorem laws_star {p : Option Addr} {cap : Nat} (h : worksB (.mk 4 0 0 0 0 p cap 0 (-1) ⟨#[]⟩ [a]) = true) (hl : l.length ≤ 4096) : isB (.mk 4 0 0 0 0 p cap 0 (-1) ⟨#[]⟩ [a]) l = agTo a (.mk 4 0 0 0 0 p cap 0 (-1) ⟨#[]⟩ [a]) l (l.length + 1) := by
  have ha := works_kid h (Or.inr ⟨rfl, rfl, rfl⟩) (t := a) (by simp)
  unfold agTo
  rw [Bool.eq_iff_iff, isB_of h hl, lang_star, Bool.or_eq_true, decide_eq_true_eq, List.length_eq_zero_iff, any_range]
  constructor
  · rintro (h1 | ⟨u, v, hu, rfl, h1, h2⟩)
    · exact Or.inl h1
    · refine Or.inr ⟨u.length, by simp; omega, ?_⟩
      have hu2 : 0 < u.length := List.length_pos_iff.2 hu
      rw [List.take_left, List.drop_left, decide_eq_true hu2, Bool.true_and, Bool.and_eq_true, isB_of ha (by simp at hl; omega), isB_of h (by simp at hl; omega)]
      exact ⟨h1, h2⟩
  · rintro (h1 | ⟨i, hi, h1⟩)
    · exact Or.inl h1
    · rw [Bool.and_eq_true, decide_eq_true_eq, Bool.and_eq_true, isB_of ha (by rw [List.length_take]; omega), isB_of h (by rw [List.length_drop]; omega)] at h1
      refine Or.inr ⟨_, _, ?_, (List.take_append_drop i l).symm, h1.2.1, h1.2.2⟩
      intro e
      have := congrArg List.length e
      rw [List.length_take, List.length_nil] at this
      omega
end
end Go.Proofs.YtkpoegnekeiieaaDoor
namespace Go.Proofs.YtkpoegnekeiieaaDoor
open Go.RowKit
open Go.Tree7
open S7
open S5 (nl nl_length nl_small at_nl nl_at Gives idx idx_at ix ix_no ix_yes)
set_option maxRecDepth 100000 in
set_option maxHeartbeats 8000000 in
theorem laws_full1 {w : World} {a b : T} (hTa : T.In w w.heap.size a) (_ : T.In w w.heap.size b) {ad : Option Addr} {m c : Nat} (hz : 40 ≤ a.size) (cA' : ∀ w', Bel w w' → Calls Tryd.prog 7 #[] w' fun e w'' => e = .returned (.bool true) ∧ Below w'.heap.size w' w'') : Calls Tryd.prog 5 #[.agg a.cells.toArray, .agg b.cells.toArray, .slice ad m c] w fun e w' => e = .returned (.bool true) ∧ Below w.heap.size w w' := by
  have hb0 : Bel w ((w.alloc (.cells a.cells.toArray 27)).alloc (.cells b.cells.toArray 27)) := Bel.alloc (Bel.new w _) _
  have hba : ((w.alloc (.cells a.cells.toArray 27)).alloc (.cells b.cells.toArray 27)).heap[w.heap.size]? = some (.cells a.cells.toArray 27 (0, 0)) := (Below.heap_alloc _ _ _ (by simp)).trans (World.alloc_heap_new _ _)
  have hbb : ((w.alloc (.cells a.cells.toArray 27)).alloc (.cells b.cells.toArray 27)).heap[w.heap.size + 1]? = some (.cells b.cells.toArray 27 (0, 0)) := by have := World.alloc_heap_new (w.alloc (.cells a.cells.toArray 27)) (.cells b.cells.toArray 27); rw [World.size_alloc] at this; exact this
  have cA := cA' _ hb0
  have cSa : (∀ w', Bel w w' → Calls Tryd.prog 8 #[.agg a.cells.toArray, .int .i64 40] w' fun e w'' => ∃ m : T, e = .returned (.tuple #[.agg m.cells.toArray, .bool false]) ∧ Below w'.heap.size w' w'') := fun w' hb => small_full (n := 40) (in_bel hTa hb) (by decide) (by decide) hz
  have cSb := 0
  clear hTa hz cA'
  obtain ⟨ka, a0, a1, a2, a3, pa, capa, mna, mxa, txa, ksa⟩ := a
  obtain ⟨kb, b0, b1, b2, b3, pb, capb, mnb, mxb, txb, ksb⟩ := b
  simp only [T.cells] at hb0 hba hbb cSa cA ⊢
  have hq0 := Lib.hid hb0
  replace hba := Lib.hid hba
  replace hbb := Lib.hid hbb
  replace cA := Lib.hid cA
  replace cSa := Lib.hid cSa
  clear hb0
  obtain ⟨n0, n1, n2, n3, n4, n5, n6, n7, n8⟩ := c9 hba.out
  obtain ⟨x0, x1, x2, x3, x4, x5, x6, x7, x8⟩ := c9 hbb.out
  go_enter Tryd.func5, Tryd.ntmps5
  go_wp2_with (first | (go_at_call 7; (with_reducible refine cA.out.mono ?_); rintro e w1 ⟨rfl, hb⟩; have hba := Lib.hid (kept_row hba.out hb); have hbb := Lib.hid (kept_row hbb.out hb); have hlb := lt_box hbb.out; have hla : w.heap.size < w1.heap.size := (by omega); clear n0 n1 n2 n3 n4 n5 n6 n7 n8 x0 x1 x2 x3 x4 x5 x6 x7 x8; obtain ⟨n0, n1, n2, n3, n4, n5, n6, n7, n8⟩ := c9 hba.out; obtain ⟨x0, x1, x2, x3, x4, x5, x6, x7, x8⟩ := c9 hbb.out; have hq1 := Lib.hid (Bel.step hq0.out hb); clear hb) | (go_at_call 8; (with_reducible refine (cSa.out _ hq1.out).mono ?_); rintro e w2 ⟨⟨kg, g0, g1, g2, g3, pg, capg, mng, mxg, txg, ksg⟩, rfl, hb⟩; dsimp only; have hq2 := Lib.hid (Bel.alloc (Bel.step hq1.out hb) (.cells #[.int .i64 kg, .int .u64 g0, .int .u64 g1, .int .u64 g2, .int .u64 g3, .slice pg ksg.length capg, .int .i64 mng, .int .i64 mxg, .string txg] 32)); clear hb))
  go_ret
  exact ⟨rfl, hq2.out⟩
set_option maxRecDepth 100000 in
set_option maxHeartbeats 8000000 in
theorem laws_full2 {w : World} {a b : T} (hTa : T.In w w.heap.size a) (hTb : T.In w w.heap.size b) {ad : Option Addr} {m c : Nat} (hz : a.size < 40) (hy : 40 ≤ b.size) (cA' : ∀ w', Bel w w' → Calls Tryd.prog 7 #[] w' fun e w'' => e = .returned (.bool true) ∧ Below w'.heap.size w' w'') : Calls Tryd.prog 5 #[.agg a.cells.toArray, .agg b.cells.toArray, .slice ad m c] w fun e w' => e = .returned (.bool true) ∧ Below w.heap.size w w' := by
  have hb0 : Bel w ((w.alloc (.cells a.cells.toArray 27)).alloc (.cells b.cells.toArray 27)) := Bel.alloc (Bel.new w _) _
  have hba : ((w.alloc (.cells a.cells.toArray 27)).alloc (.cells b.cells.toArray 27)).heap[w.heap.size]? = some (.cells a.cells.toArray 27 (0, 0)) := (Below.heap_alloc _ _ _ (by simp)).trans (World.alloc_heap_new _ _)
  have hbb : ((w.alloc (.cells a.cells.toArray 27)).alloc (.cells b.cells.toArray 27)).heap[w.heap.size + 1]? = some (.cells b.cells.toArray 27 (0, 0)) := by have := World.alloc_heap_new (w.alloc (.cells a.cells.toArray 27)) (.cells b.cells.toArray 27); rw [World.size_alloc] at this; exact this
  have cA := cA' _ hb0
  have cSa : (∀ w', Bel w w' → Calls Tryd.prog 8 #[.agg a.cells.toArray, .int .i64 40] w' fun e w'' => ∃ m : T, e = .returned (.tuple #[.agg m.cells.toArray, .bool true]) ∧ Below w'.heap.size w' w'' ∧ T.In w'' w''.heap.size m ∧ m.strip = a.strip) := fun w' hb => small_room (n := 40) (in_bel hTa hb) (by decide) hz
  have cSb : (∀ w', Bel w w' → Calls Tryd.prog 8 #[.agg b.cells.toArray, .int .i64 40] w' fun e w'' => ∃ m : T, e = .returned (.tuple #[.agg m.cells.toArray, .bool false]) ∧ Below w'.heap.size w' w'') := fun w' hb => small_full (n := 40) (in_bel hTb hb) (by decide) (by decide) hy
  clear hTa hTb hz hy cA'
  generalize a.strip = sa at *
  obtain ⟨ka, a0, a1, a2, a3, pa, capa, mna, mxa, txa, ksa⟩ := a
  obtain ⟨kb, b0, b1, b2, b3, pb, capb, mnb, mxb, txb, ksb⟩ := b
  simp only [T.cells] at hb0 hba hbb cSa cSb cA ⊢
  have hq0 := Lib.hid hb0
  replace hba := Lib.hid hba
  replace hbb := Lib.hid hbb
  replace cA := Lib.hid cA
  replace cSa := Lib.hid cSa
  replace cSb := Lib.hid cSb
  clear hb0
  obtain ⟨n0, n1, n2, n3, n4, n5, n6, n7, n8⟩ := c9 hba.out
  obtain ⟨x0, x1, x2, x3, x4, x5, x6, x7, x8⟩ := c9 hbb.out
  go_enter Tryd.func5, Tryd.ntmps5
  go_wp2_with (first | (go_at_call 7; (with_reducible refine cA.out.mono ?_); rintro e w1 ⟨rfl, hb⟩; have hba := Lib.hid (kept_row hba.out hb); have hbb := Lib.hid (kept_row hbb.out hb); have hlb := lt_box hbb.out; have hla : w.heap.size < w1.heap.size := (by omega); clear n0 n1 n2 n3 n4 n5 n6 n7 n8 x0 x1 x2 x3 x4 x5 x6 x7 x8; obtain ⟨n0, n1, n2, n3, n4, n5, n6, n7, n8⟩ := c9 hba.out; obtain ⟨x0, x1, x2, x3, x4, x5, x6, x7, x8⟩ := c9 hbb.out; have hq1 := Lib.hid (Bel.step hq0.out hb); clear hb) | (go_at_call 8; (with_reducible refine (cSa.out _ hq1.out).mono ?_); rintro e w2 ⟨⟨kg, g0, g1, g2, g3, pg, capg, mng, mxg, txg, ksg⟩, rfl, hb, -, -⟩; dsimp only; have hba := Lib.hid (kept_row hba.out hb); have hbb := Lib.hid (kept_row hbb.out hb); have hlb := lt_box hbb.out; have hla : w.heap.size < w2.heap.size := (by omega); clear n0 n1 n2 n3 n4 n5 n6 n7 n8 x0 x1 x2 x3 x4 x5 x6 x7 x8; obtain ⟨n0, n1, n2, n3, n4, n5, n6, n7, n8⟩ := c9 hba.out; obtain ⟨x0, x1, x2, x3, x4, x5, x6, x7, x8⟩ := c9 hbb.out; have hq2 := Lib.hid (Bel.alloc (Bel.step hq1.out hb) (.cells #[.int .i64 kg, .int .u64 g0, .int .u64 g1, .int .u64 g2, .int .u64 g3, .slice pg ksg.length capg, .int .i64 mng, .int .i64 mxg, .string txg] 32)); replace hba := Lib.hid (kept_alloc9 hba.out (.cells #[.int .i64 kg, .int .u64 g0, .int .u64 g1, .int .u64 g2, .int .u64 g3, .slice pg ksg.length capg, .int .i64 mng, .int .i64 mxg, .string txg] 32)); replace hbb := Lib.hid (kept_alloc9 hbb.out (.cells #[.int .i64 kg, .int .u64 g0, .int .u64 g1, .int .u64 g2, .int .u64 g3, .slice pg ksg.length capg, .int .i64 mng, .int .i64 mxg, .string txg] 32)); clear hb) | (go_at_call 8; (with_reducible refine (cSb.out _ hq2.out).mono ?_); rintro e w3 ⟨⟨kh, h0, h1, h2, h3, ph, caph, mnh, mxh, txh, ksh⟩, rfl, hb⟩; dsimp only; have hq3 := Lib.hid (Bel.alloc (Bel.step hq2.out hb) (.cells #[.int .i64 kh, .int .u64 h0, .int .u64 h1, .int .u64 h2, .int .u64 h3, .slice ph ksh.length caph, .int .i64 mnh, .int .i64 mxh, .string txh] 32)); clear hb))
  go_ret
  exact ⟨rfl, hq3.out⟩
set_option maxRecDepth 100000 in
set_option maxHeartbeats 8000000 in
theorem laws_long {w : World} {a b : T} (hTa : T.In w w.heap.size a) (hTb : T.In w w.heap.size b) {ad : Option Addr} {m c : Nat} (hz : a.size < 40) (hy : b.size < 40) (hm : ¬ m ≤ 10) (hm2 : m ≤ 9223372036854775807) (cA' : ∀ w', Bel w w' → Calls Tryd.prog 7 #[] w' fun e w'' => e = .returned (.bool true) ∧ Below w'.heap.size w' w'') : Calls Tryd.prog 5 #[.agg a.cells.toArray, .agg b.cells.toArray, .slice ad m c] w fun e w' => e = .returned (.bool true) ∧ Below w.heap.size w w' := by
  have hb0 : Bel w ((w.alloc (.cells a.cells.toArray 27)).alloc (.cells b.cells.toArray 27)) := Bel.alloc (Bel.new w _) _
  have hba : ((w.alloc (.cells a.cells.toArray 27)).alloc (.cells b.cells.toArray 27)).heap[w.heap.size]? = some (.cells a.cells.toArray 27 (0, 0)) := (Below.heap_alloc _ _ _ (by simp)).trans (World.alloc_heap_new _ _)
  have hbb : ((w.alloc (.cells a.cells.toArray 27)).alloc (.cells b.cells.toArray 27)).heap[w.heap.size + 1]? = some (.cells b.cells.toArray 27 (0, 0)) := by have := World.alloc_heap_new (w.alloc (.cells a.cells.toArray 27)) (.cells b.cells.toArray 27); rw [World.size_alloc] at this; exact this
  have cA := cA' _ hb0
  have cSa : (∀ w', Bel w w' → Calls Tryd.prog 8 #[.agg a.cells.toArray, .int .i64 40] w' fun e w'' => ∃ m : T, e = .returned (.tuple #[.agg m.cells.toArray, .bool true]) ∧ Below w'.heap.size w' w'' ∧ T.In w'' w''.heap.size m ∧ m.strip = a.strip) := fun w' hb => small_room (n := 40) (in_bel hTa hb) (by decide) hz
  have cSb : (∀ w', Bel w w' → Calls Tryd.prog 8 #[.agg b.cells.toArray, .int .i64 40] w' fun e w'' => ∃ m : T, e = .returned (.tuple #[.agg m.cells.toArray, .bool true]) ∧ Below w'.heap.size w' w'' ∧ T.In w'' w''.heap.size m ∧ m.strip = b.strip) := fun w' hb => small_room (n := 40) (in_bel hTb hb) (by decide) hy
  clear hTa hTb hz hy cA'
  generalize a.strip = sa at *
  generalize b.strip = sb at *
  obtain ⟨ka, a0, a1, a2, a3, pa, capa, mna, mxa, txa, ksa⟩ := a
  obtain ⟨kb, b0, b1, b2, b3, pb, capb, mnb, mxb, txb, ksb⟩ := b
  simp only [T.cells] at hb0 hba hbb cSa cSb cA ⊢
  have hq0 := Lib.hid hb0
  replace hba := Lib.hid hba
  replace hbb := Lib.hid hbb
  replace cA := Lib.hid cA
  replace cSa := Lib.hid cSa
  replace cSb := Lib.hid cSb
  clear hb0
  obtain ⟨n0, n1, n2, n3, n4, n5, n6, n7, n8⟩ := c9 hba.out
  obtain ⟨x0, x1, x2, x3, x4, x5, x6, x7, x8⟩ := c9 hbb.out
  go_enter Tryd.func5, Tryd.ntmps5
  go_wp2_with (first | (go_at_call 7; (with_reducible refine cA.out.mono ?_); rintro e w1 ⟨rfl, hb⟩; have hba := Lib.hid (kept_row hba.out hb); have hbb := Lib.hid (kept_row hbb.out hb); have hlb := lt_box hbb.out; have hla : w.heap.size < w1.heap.size := (by omega); clear n0 n1 n2 n3 n4 n5 n6 n7 n8 x0 x1 x2 x3 x4 x5 x6 x7 x8; obtain ⟨n0, n1, n2, n3, n4, n5, n6, n7, n8⟩ := c9 hba.out; obtain ⟨x0, x1, x2, x3, x4, x5, x6, x7, x8⟩ := c9 hbb.out; have hq1 := Lib.hid (Bel.step hq0.out hb); clear hb) | (go_at_call 8; (with_reducible refine (cSa.out _ hq1.out).mono ?_); rintro e w2 ⟨⟨kg, g0, g1, g2, g3, pg, capg, mng, mxg, txg, ksg⟩, rfl, hb, -, -⟩; dsimp only; have hba := Lib.hid (kept_row hba.out hb); have hbb := Lib.hid (kept_row hbb.out hb); have hlb := lt_box hbb.out; have hla : w.heap.size < w2.heap.size := (by omega); clear n0 n1 n2 n3 n4 n5 n6 n7 n8 x0 x1 x2 x3 x4 x5 x6 x7 x8; obtain ⟨n0, n1, n2, n3, n4, n5, n6, n7, n8⟩ := c9 hba.out; obtain ⟨x0, x1, x2, x3, x4, x5, x6, x7, x8⟩ := c9 hbb.out; have hq2 := Lib.hid (Bel.alloc (Bel.step hq1.out hb) (.cells #[.int .i64 kg, .int .u64 g0, .int .u64 g1, .int .u64 g2, .int .u64 g3, .slice pg ksg.length capg, .int .i64 mng, .int .i64 mxg, .string txg] 32)); replace hba := Lib.hid (kept_alloc9 hba.out (.cells #[.int .i64 kg, .int .u64 g0, .int .u64 g1, .int .u64 g2, .int .u64 g3, .slice pg ksg.length capg, .int .i64 mng, .int .i64 mxg, .string txg] 32)); replace hbb := Lib.hid (kept_alloc9 hbb.out (.cells #[.int .i64 kg, .int .u64 g0, .int .u64 g1, .int .u64 g2, .int .u64 g3, .slice pg ksg.length capg, .int .i64 mng, .int .i64 mxg, .string txg] 32)); clear hb) | (go_at_call 8; (with_reducible refine (cSb.out _ hq2.out).mono ?_); rintro e w3 ⟨⟨kh, h0, h1, h2, h3, ph, caph, mnh, mxh, txh, ksh⟩, rfl, hb, -, -⟩; dsimp only; have hba := Lib.hid (kept_row hba.out hb); have hbb := Lib.hid (kept_row hbb.out hb); have hlb := lt_box hbb.out; have hla : w.heap.size < w3.heap.size := (by omega); clear n0 n1 n2 n3 n4 n5 n6 n7 n8 x0 x1 x2 x3 x4 x5 x6 x7 x8; obtain ⟨n0, n1, n2, n3, n4, n5, n6, n7, n8⟩ := c9 hba.out; obtain ⟨x0, x1, x2, x3, x4, x5, x6, x7, x8⟩ := c9 hbb.out; have hq3 := Lib.hid (Bel.step hq2.out hb); clear hb))
  go_ret
  exact ⟨rfl, Bel.alloc hq3.out _⟩
end Go.Proofs.YtkpoegnekeiieaaDoor
