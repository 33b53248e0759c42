/- The program's copied: slices.Clone; a row whose places are set one by one. -/
import Derived.Test.YtbkmoaollooomaaDoorW36
import Derived.Test.YtbkmoaollooomaaDoorW24
namespace Go.Proofs.YtbkmoaollooomaaDoor
open Go.RowKit
open Go.Tree7
theorem infoN9 : (Tryd.prog.info? 27).map (fun i => (i.zero, i.size, i.bytes)) = some (some (.agg #[.int .i64 0, .int .u64 0, .int .u64 0, .int .u64 0, .int .u64 0, .slice none 0 0, .int .i64 0, .int .i64 0, .string ⟨#[]⟩]), 9, 96) := by kernel_rfl
/-- A row of nodes, all of it known: block g. -/
def NRowAt (W : World) (g : Nat) (l : List T) : Prop := ∃ cur, W.heap[g]? = some (.cells cur 27 (0, 0)) ∧ ∀ i (hi : i < l.length), ∀ q, q < 9 → cur[i * 9 + q]? = (l[i].cells)[q]?
theorem NRowAt.bel {W W' : World} {g : Nat} {l : List T} (h : NRowAt W g l) (hb : Below W.heap.size W W') : NRowAt W' g l := by
  obtain ⟨cur, h1, h2⟩ := h
  exact ⟨cur, (hb.block _ (Array.getElem?_eq_some_iff.1 h1).1).trans h1, h2⟩
theorem NRowAt.lt {W : World} {g : Nat} {l : List T} (h : NRowAt W g l) : g < W.heap.size := by
  obtain ⟨cur, h1, -⟩ := h
  exact (Array.getElem?_eq_some_iff.1 h1).1
theorem NRowAt.cell {W : World} {g : Nat} {l : List T} (h : NRowAt W g l) {i : Nat} (hi : i < l.length) {q : Nat} (hq : q < 9) : W.cell? ⟨g, i * 9 + q, none⟩ = (l[i].cells)[q]? := by
  obtain ⟨cur, h1, h2⟩ := h
  rw [cell_of_row _ _ _ _ _ (0, 0) h1]
  exact h2 i hi q hq
theorem NRowAt.frozen {W : World} {g : Nat} {l : List T} (h : NRowAt W g l) (x : Nat) : W.frozen? ⟨g, x, none⟩ = false := by
  obtain ⟨cur, h1, -⟩ := h
  simp [World.frozen?, h1]
/-- The nine cells of a place set anew. -/
theorem NRowAt.set {W : World} {g : Nat} {l : List T} (h : NRowAt W g l) {j : Nat} (hj : j < l.length) (t : T) {d0 d1 d2 d3 d4 d5 d6 d7 d8 : Value} (ht : t.cells = [d0, d1, d2, d3, d4, d5, d6, d7, d8]) (W' : World)
    (hW : W' = (((((((((W.setCell ⟨g, j * 9, none⟩ d0).setCell ⟨g, j * 9 + 1, none⟩ d1).setCell ⟨g, j * 9 + 2, none⟩ d2).setCell ⟨g, j * 9 + 3, none⟩ d3).setCell ⟨g, j * 9 + 4, none⟩ d4).setCell ⟨g, j * 9 + 5, none⟩ d5).setCell ⟨g, j * 9 + 6, none⟩ d6).setCell ⟨g, j * 9 + 7, none⟩ d7).setCell ⟨g, j * 9 + 8, none⟩ d8)) :
    NRowAt W' g (l.set j t) ∧ W'.heap.size = W.heap.size ∧ (∀ k, k ≠ g → W'.heap[k]? = W.heap[k]?) ∧ ∀ n, n ≤ g → Below n W W' := by
  obtain ⟨cur, h1, h2⟩ := h
  have hsz : j * 9 + 9 ≤ cur.size := by
    have := h2 j hj 8 (by decide)
    rw [List.getElem?_eq_getElem (by rw [T.cells_length]; decide)] at this
    have := (Array.getElem?_eq_some_iff.1 this).1
    omega
  have a0 := box_set h1 (j * 9) d0
  have a1 := box_set a0 (j * 9 + 1) d1
  have a2 := box_set a1 (j * 9 + 2) d2
  have a3 := box_set a2 (j * 9 + 3) d3
  have a4 := box_set a3 (j * 9 + 4) d4
  have a5 := box_set a4 (j * 9 + 5) d5
  have a6 := box_set a5 (j * 9 + 6) d6
  have a7 := box_set a6 (j * 9 + 7) d7
  have a8 := box_set a7 (j * 9 + 8) d8
  rw [← hW] at a8
  refine ⟨⟨_, a8, fun i hi q hq => ?_⟩, by rw [hW]; simp only [size_set], fun k hk => ?_, fun n hn => ?_⟩
  · rw [List.length_set] at hi
    simp only [Array.getElem?_setIfInBounds]
    by_cases e : i = j
    · subst e
      rw [List.getElem_set_self, ht]
      have hc : q = 0 ∨ q = 1 ∨ q = 2 ∨ q = 3 ∨ q = 4 ∨ q = 5 ∨ q = 6 ∨ q = 7 ∨ q = 8 := by omega
      simp only [Array.size_setIfInBounds]
      rcases hc with rfl | rfl | rfl | rfl | rfl | rfl | rfl | rfl | rfl <;> simp <;> omega
    · rw [List.getElem_set_ne (Ne.symm e)]
      rw [if_neg (by omega), if_neg (by omega), if_neg (by omega), if_neg (by omega), if_neg (by omega), if_neg (by omega), if_neg (by omega), if_neg (by omega), if_neg (by omega)]
      exact h2 i hi q hq
  · rw [hW]
    iterate 9 rw [Below.heap_setCell _ _ _ _ hk]
  · rw [hW]
    have s0 := (Below.refl n W).setCell (p := ⟨g, j * 9, none⟩) hn d0
    have s1 := s0.setCell (p := ⟨g, j * 9 + 1, none⟩) hn d1
    have s2 := s1.setCell (p := ⟨g, j * 9 + 2, none⟩) hn d2
    have s3 := s2.setCell (p := ⟨g, j * 9 + 3, none⟩) hn d3
    have s4 := s3.setCell (p := ⟨g, j * 9 + 4, none⟩) hn d4
    have s5 := s4.setCell (p := ⟨g, j * 9 + 5, none⟩) hn d5
    have s6 := s5.setCell (p := ⟨g, j * 9 + 6, none⟩) hn d6
    have s7 := s6.setCell (p := ⟨g, j * 9 + 7, none⟩) hn d7
    exact s7.setCell (p := ⟨g, j * 9 + 8, none⟩) hn d8
theorem fits_cell {t : T} (c : Value) (h : c ∈ t.cells) : c.oneCell' = true := by
  cases t
  simp only [T.cells, List.mem_cons, List.not_mem_nil, or_false] at h
  rcases h with rfl | rfl | rfl | rfl | rfl | rfl | rfl | rfl | rfl <;> rfl
/-- What Clone gives back: a row of its own. -/
def GivesClone (w : World) (ks : List T) (e : Ending) (w' : World) : Prop := ∃ (p : Option Addr) (cap : Nat), e = .returned (.slice p ks.length cap) ∧ ks.length ≤ cap ∧ cap ≤ maxLen ∧ (0 < ks.length → ∃ g, p = some ⟨g, 0, none⟩ ∧ w.heap.size ≤ g ∧ NRowAt w' g ks) ∧ Below w.heap.size w w'
theorem own_none9 {w : World} {base g : Nat} (h : w.heap[g]? = some (.cells #[] 27 (0, 0))) (hb : base ≤ g) : w.ownsRow base 27 9 (.slice (some ⟨g, 0, none⟩) 0 0) 0 [] :=
  ⟨rfl, .inr ⟨g, 0, #[], rfl, hb, h, by simp, Nat.zero_le _, rfl, rfl⟩⟩
theorem clone_row {w : World} {base : Nat} {p : Option Addr} {cap : Nat} {ks : List T} (h : w.ownsRow base 27 9 (.slice p ks.length cap) ks.length (ks.flatMap T.cells)) : ks.length ≤ cap ∧ cap ≤ maxLen ∧ (0 < ks.length → ∃ g, p = some ⟨g, 0, none⟩ ∧ base ≤ g ∧ NRowAt w g ks) := by
  rcases h.2 with ⟨e, h0⟩ | ⟨g, cap', cur, e, hb, hg, h1, h2, h3, h4⟩
  · simp only [Value.slice.injEq] at e
    obtain ⟨-, -, rfl⟩ := e
    exact ⟨by omega, Nat.zero_le _, fun h => by omega⟩
  · simp only [Value.slice.injEq, true_and] at e
    obtain ⟨rfl, rfl⟩ := e
    refine ⟨h1, h2, fun _ => ⟨g, rfl, hb, cur, hg, fun i hi q hq => ?_⟩⟩
    have h5 := flat9 ks i q hi hq
    rw [← h4, List.getElem?_take] at h5
    rw [if_pos (by omega)] at h5
    rw [← h5]
    simp
set_option maxRecDepth 10000 in
set_option maxHeartbeats 4000000 in
theorem clone_in {w0 w : World} {B0 : Nat} (hB0 : Below B0 w0 w) {k u0 u1 u2 u3 : Int} {p : Option Addr} {cap : Nat} {mn mx : Int} {tx : ByteArray} {ks : List T} (hT : T.In w0 B0 (.mk k u0 u1 u2 u3 p cap mn mx tx ks)) (hlen : ks.length ≤ 1000) :
    Calls Tryd.prog 51 #[.slice p ks.length cap] w (GivesClone w ks) := by
  obtain ⟨i0, hi, hz0, hz1, hz2⟩ := info_parts infoN9
  replace hi := Lib.hid hi
  replace hz0 := Lib.hid hz0
  replace hz1 := Lib.hid hz1
  replace hz2 := Lib.hid hz2
  have hG : ∃ G, G = GivesClone w ks := ⟨_, rfl⟩
  obtain ⟨G, hG⟩ := hG
  rw [← hG]
  replace hG := Lib.hid hG
  have hq : ∀ w, (binOp .eql 25 (.slice p ks.length cap) (.slice none 0 0)).run Tryd.prog w = .ok (.bool p.isNone) w := fun w => Lib.run_eql_slice_nil w _ _ _ _ _ _ _ Tryd.underlying25
  cases p with
  | none =>
    have hk0 : Hid (ks.length = 0) := Lib.hid (by
      rcases Nat.eq_zero_or_pos ks.length with h | h
      · exact h
      · cases hT with
        | mk h1 h2 h3 h4 h5 =>
          obtain ⟨a, e, -⟩ := h4 0 h
          cases e)
    clear hT hB0
    go_enter Tryd.func51, Tryd.ntmps51
    go_wp2
    rw [hG.out]
    exact ⟨none, 0, by rw [hk0.out]; rfl, by rw [hk0.out]; exact Nat.le_refl _, Nat.zero_le _, fun h => by have := hk0.out; omega, Below.refl _ _⟩
  | some ad =>
    have hfl : Hid ((ks.flatMap T.cells).length = ks.length * 9) := Lib.hid (by
      have : ∀ l : List T, (l.flatMap T.cells).length = l.length * 9 := by
        intro l
        induction l with
        | nil => rfl
        | cons t l ih => rw [List.flatMap_cons, List.length_append, T.cells_length, ih, List.length_cons]; omega
      exact this ks)
    have hnews : Hid (∀ x u, (ks.flatMap T.cells)[x]? = some u → (w.alloc (.cells #[] 27)).cell? (ad.add x) = some u) := Lib.hid fun x u h => by
      have hx : x < ks.length * 9 := by have := (List.getElem?_eq_some_iff.1 h).1; have := hfl.out; omega
      cases hT with
      | mk h1 h2 h3 h4 h5 =>
        obtain ⟨a, e, hb, hc⟩ := h4 (x / 9) (by omega)
        cases e
        have h6 := hc (x % 9) (Nat.mod_lt _ (by decide))
        have h7 := flat9 ks (x / 9) (x % 9) (by omega) (Nat.mod_lt _ (by decide))
        rw [show x / 9 * 9 + x % 9 = x by omega] at h6 h7
        rw [h] at h7
        rw [← h7] at h6
        have e2 : (ad.add x).block = ad.block := by unfold Addr.add; split <;> rfl
        have h8 := (hB0.cell (p := ad.add x) (by rw [e2]; exact hb)).trans h6
        exact ((Below.refl w.heap.size w).alloc (Nat.le_refl _) _).cell (p := ad.add x) (World.block_lt_of_cell? _ _ h8) |>.trans h8
    have hone : Hid (∀ u ∈ ks.flatMap T.cells, u.oneCell' = true) := Lib.hid fun u hu => by
      obtain ⟨t, -, h⟩ := List.mem_flatMap.1 hu
      exact fits_cell u h
    have hrow0 : Hid ((w.alloc (.cells #[] 27)).ownsRow w.heap.size 27 9 (.slice (some ⟨w.heap.size, 0, none⟩) 0 0) 0 []) := Lib.hid (own_none9 (World.alloc_heap_new _ _) (Nat.le_refl _))
    clear hT hB0
    go_enter Tryd.func51, Tryd.ntmps51
    go_wp2_with (at_builtin; refine wpList_append_own _ rfl _ _ 25 rfl w.heap.size 27 i0 (.agg #[.int .i64 0, .int .u64 0, .int .u64 0, .int .u64 0, .int .u64 0, .slice none 0 0, .int .i64 0, .int .i64 0, .string ⟨#[]⟩]) 9 96 Tryd.underlying25 hi.out hz0.out hz1.out hz2.out rfl (by decide) _ _ _ rfl hrow0.out ad ks.length cap (ks.flatMap T.cells) rfl hfl.out hnews.out hone.out (by simp [maxLen]; omega) (by omega) (by simp) ?_; intro v' w9 hown' hgrow hnil; clear hnil; rw [Nat.zero_add, List.nil_append] at hown'; obtain ⟨pv2, cv2, rfl, -⟩ := row_form hown'; have hgr : World.grownBy (w.alloc (.cells #[] 27)) w9 (Value.slice (some ⟨w.heap.size, 0, none⟩) 0 0).ownBlock := hgrow; clear hgrow; replace hgr := Lib.hid hgr; replace hown' := Lib.hid hown')
    rw [hG.out]
    obtain ⟨r1, r2, r3⟩ := clone_row hown'.out
    exact ⟨pv2, cv2, rfl, r1, r2, r3, ((Below.refl w.heap.size w).alloc (Nat.le_refl _) _).grown hgr.out (by simp) (fun k hk => by simp only [Value.ownBlock, Option.some.injEq] at hk; omega)⟩
end Go.Proofs.YtbkmoaollooomaaDoor
