/- Texts merged: S7W24, S7W39. -/
import Derived.Maps.AppendAt
import Derived.Test.YtobbifhflnlplaaDoorS7C
import Derived.Test.YtobbifhflnlplaaDoorS7W9
namespace Go.Proofs.YtobbifhflnlplaaDoor.S7
open Go.RowKit
open Go.Tree7
theorem infoRN : (Tryd.prog.info? 32).map (fun i => (i.zero, i.size, i.bytes)) = some (some (.agg #[.int .i64 0, .int .u64 0, .int .u64 0, .int .u64 0, .int .u64 0, .slice none 0 0, .int .i64 0, .int .i64 0, .string ⟨#[]⟩]), 9, 96) := by kernel_rfl
def GivesTree (left : Nat) (w : World) (t : T) (e : Ending) (w' : World) : Prop :=
 ∃ m : T, e = .returned (.tuple #[.agg m.cells.toArray, .int .i64 ((left - t.size : Nat) : Int)]) ∧ Below w.heap.size w w' ∧ (t.size < left → T.InP w' (fun b => w.heap.size ≤ b ∧ b < w'.heap.size) m ∧ m.strip = t.strip)
def Kept (w : World) (b0 : Nat) (v : Value) (ms : List T) : Prop := ∀ t ∈ ms, T.InP w (fun b => b0 ≤ b ∧ b < w.heap.size ∧ v.ownBlock ≠ some b) t
theorem Kept.bel {w w' : World} {b0 : Nat} {v : Value} {ms : List T} (h : Kept w b0 v ms) (hb : Below w.heap.size w w') : Kept w' b0 v ms := fun t ht =>
 ((h t ht).keep (fun b hS => hb.block b hS.2.1)).imp fun _ hS => ⟨hS.1, Nat.lt_of_lt_of_le hS.2.1 hb.size, hS.2.2⟩
theorem Kept.grown {w w' : World} {b0 : Nat} {v v' : Value} {ms : List T} (h : Kept w b0 v ms) (hg : w.grownBy w' v.ownBlock) (ho : v'.ownBlock = v.ownBlock ∨ v'.ownBlock = some w.heap.size) : Kept w' b0 v' ms := fun t ht =>
 ((h t ht).keep (fun b hS => hg.block b hS.2.1 (fun e => hS.2.2 e.symm))).imp fun b hS => ⟨hS.1, Nat.lt_of_lt_of_le hS.2.1 hg.size, by
  rcases ho with ho | ho
  ·rw [ho]; exact hS.2.2
  ·rw [ho]; intro e; have := Option.some.inj e; omega⟩
theorem Kept.set {w : World} {b0 : Nat} {v : Value} {ms : List T} (h : Kept w b0 v ms) {a : Addr} (ha : a.block < b0) (u : Value) : Kept (w.setCell a u) b0 v ms := fun t ht =>
 ((h t ht).keep (fun b hS => Below.heap_setCell _ _ _ _ (by omega))).imp fun b hS => ⟨hS.1, by rw [size_set]; exact hS.2.1, hS.2.2⟩
structure OfSt (w wr : World) (k u0 u1 u2 u3 mn mx : Int) (tx : ByteArray) (ks : List T) (left j l : Nat) (p2 : Option Addr) (cap2 : Nat) (ms : List T) (sj : Nat) : Prop where
 len : ms.length = j
 lft : l = left - 1 - sj
 b6 : wr.heap[w.heap.size + 1 + 1]? = some (.cells #[.int .i64 k, .int .u64 u0, .int .u64 u1, .int .u64 u2, .int .u64 u3, .slice p2 j cap2, .int .i64 mn, .int .i64 mx, .string tx] 32 (0, 0))
 b4 : wr.heap[w.heap.size + 1]? = some (.cells #[.int .i64 0, .int .u64 0, .int .u64 0, .int .u64 0, .int .u64 0, .slice none 0 0, .int .i64 0, .int .i64 0, .string ⟨#[]⟩] 32 (0, 0))
 own : wr.ownsRow (w.heap.size + 3) 32 9 (.slice p2 j cap2) j (ms.flatMap T.cells)
 bel : Below w.heap.size w wr
 siz : w.heap.size + 3 ≤ wr.heap.size
 good : 1 + sj < left → Kept wr (w.heap.size + 3) (.slice p2 j cap2) ms ∧ ms.map T.strip = (ks.take j).map T.strip
theorem own_keep2 {w w' : World} {base size n : Nat} {e : TypeId} {v : Value} {xs : List Value} (h : w.ownsRow base e size v n xs) (hk : ∀ g, v.ownBlock = some g → g < w.heap.size → w'.heap[g]? = w.heap[g]?) : w'.ownsRow base e size v n xs := by
 refine ⟨h.1, ?_⟩
 rcases h.2 with h2 | ⟨g, cap, cur, rfl, h3, h4, h5⟩
 ·exact .inl h2
 ·exact .inr ⟨g, cap, cur, rfl, h3, (hk g rfl (Array.getElem?_eq_some_iff.1 h4).1).trans h4, h5⟩
theorem flat9 : ∀ (l : List T) (i j : Nat) (hi : i < l.length), j < 9 → (l.flatMap T.cells)[i * 9 + j]? = (l[i].cells)[j]? := by
 intro l
 induction l with
 | nil => intro i j hi; simp at hi
 | cons t l ih =>
  intro i j hi hj
  rw [List.flatMap_cons]
  cases i with
  | zero => rw [List.getElem?_append_left (by rw [T.cells_length]; omega)]; simp
  | succ i =>
   rw [List.getElem?_append_right (by rw [T.cells_length]; omega), T.cells_length, show (i + 1) * 9 + j - 9 = i * 9 + j by omega]
   exact ih i j (by simpa using hi) hj
theorem inP_of_row {w : World} {b0 b1 : Nat} {tp : TypeId} {k u0 u1 u2 u3 : Int} {p : Option Addr} {cap : Nat} {mn mx : Int} {tx : ByteArray} {ms : List T} {n : Nat} (hn : ms.length = n) (hf : fits k u0 u1 u2 u3 mn mx tx) (h : w.ownsRow b0 tp 9 (.slice p n cap) n (ms.flatMap T.cells)) (hk : Kept w b0 (.slice p n cap) ms) (hb : b1 ≤ b0) :
  T.InP w (fun b => b1 ≤ b ∧ b < w.heap.size) (.mk k u0 u1 u2 u3 p cap mn mx tx ms) := by
 subst hn
 obtain ⟨p', cap', hv, hcap, hnil, hc⟩ := row_form h
 have hmax : cap ≤ maxLen := by
  rcases h.2 with ⟨e, -⟩ | ⟨g, cap', cur, e, -, -, -, hm, -⟩
  ·simp only [Value.slice.injEq] at e; rw [e.2.2]; exact Nat.zero_le _
  ·simp only [Value.slice.injEq] at e; rw [e.2.2]; exact hm
 simp only [Value.slice.injEq, true_and] at hv
 obtain ⟨rfl, rfl⟩ := hv
 refine .mk hcap hmax hf (fun i hi => ?_) (fun t ht => ((hk t ht).imp fun b hS => ⟨by omega, hS.2.1⟩))
 obtain ⟨g, rfl, h1, h2, hcell⟩ := hc (by omega)
 refine ⟨⟨g, 0, none⟩, rfl, ⟨by show b1 ≤ g; omega, h2⟩, fun j hj => ?_⟩
 have e : (⟨g, 0, none⟩ : Addr).add (i * 9 + j) = ⟨g, i * 9 + j, none⟩ := by unfold Addr.add; split <;> simp_all
 rw [e, hcell _ (by omega), flat9 ms i j hi hj]
theorem sum_take (ks : List T) {j : Nat} (hj : j < ks.length) : ((ks.take (j + 1)).map T.size).sum = ((ks.take j).map T.size).sum + ks[j].size := by
 rw [List.take_succ_eq_append_getElem hj, List.map_append, List.sum_append]
 simp only [List.map_cons, List.map_nil, List.sum_cons, List.sum_nil, Nat.add_zero]
theorem sum_le (ks : List T) (j : Nat) : ((ks.take j).map T.size).sum ≤ (ks.map T.size).sum := by
 have : (ks.map T.size).sum = ((ks.take j).map T.size).sum + ((ks.drop j).map T.size).sum := by
  rw [← List.sum_append, ← List.map_append, List.take_append_drop]
 omega
theorem len_sum (ks : List T) {j : Nat} (hj : j ≤ ks.length) : j ≤ ((ks.take j).map T.size).sum := by
 induction j with
 | zero => exact Nat.zero_le _
 | succ j ih =>
  rw [sum_take ks (by omega)]
  have := ih (by omega)
  have := T.size_pos (ks[j]'(by omega))
  omega
end Go.Proofs.YtobbifhflnlplaaDoor.S7
namespace Go.Proofs.YtobbifhflnlplaaDoor.S7
open Go.RowKit
open Go.Tree7
theorem infoN9 : (Tryd.prog.info? 27).map (fun i => (i.zero, i.size, i.bytes)) = some (some (.agg #[.int .i64 0, .int .u64 0, .int .u64 0, .int .u64 0, .int .u64 0, .slice none 0 0, .int .i64 0, .int .i64 0, .string ⟨#[]⟩]), 9, 96) := by kernel_rfl
def NRowAt (W : World) (g : Nat) (l : List T) : Prop := ∃ cur, W.heap[g]? = some (.cells cur 27 (0, 0)) ∧ ∀ i (hi : i < l.length), ∀ q, q < 9 → cur[i * 9 + q]? = (l[i].cells)[q]?
theorem NRowAt.bel {W W' : World} {g : Nat} {l : List T} (h : NRowAt W g l) (hb : Below W.heap.size W W') : NRowAt W' g l := by
 obtain ⟨cur, h1, h2⟩ := h
 exact ⟨cur, (hb.block _ (Array.getElem?_eq_some_iff.1 h1).1).trans h1, h2⟩
theorem NRowAt.lt {W : World} {g : Nat} {l : List T} (h : NRowAt W g l) : g < W.heap.size := by
 obtain ⟨cur, h1, -⟩ := h
 exact (Array.getElem?_eq_some_iff.1 h1).1
theorem NRowAt.cell {W : World} {g : Nat} {l : List T} (h : NRowAt W g l) {i : Nat} (hi : i < l.length) {q : Nat} (hq : q < 9) : W.cell? ⟨g, i * 9 + q, none⟩ = (l[i].cells)[q]? := by
 obtain ⟨cur, h1, h2⟩ := h
 rw [cell_of_row _ _ _ _ _ (0, 0) h1]
 exact h2 i hi q hq
theorem NRowAt.frozen {W : World} {g : Nat} {l : List T} (h : NRowAt W g l) (x : Nat) : W.frozen? ⟨g, x, none⟩ = false := by
 obtain ⟨cur, h1, -⟩ := h
 simp [World.frozen?, h1]
theorem NRowAt.set {W : World} {g : Nat} {l : List T} (h : NRowAt W g l) {j : Nat} (hj : j < l.length) (t : T) {d0 d1 d2 d3 d4 d5 d6 d7 d8 : Value} (ht : t.cells = [d0, d1, d2, d3, d4, d5, d6, d7, d8]) (W' : World)
  (hW : W' = (((((((((W.setCell ⟨g, j * 9, none⟩ d0).setCell ⟨g, j * 9 + 1, none⟩ d1).setCell ⟨g, j * 9 + 2, none⟩ d2).setCell ⟨g, j * 9 + 3, none⟩ d3).setCell ⟨g, j * 9 + 4, none⟩ d4).setCell ⟨g, j * 9 + 5, none⟩ d5).setCell ⟨g, j * 9 + 6, none⟩ d6).setCell ⟨g, j * 9 + 7, none⟩ d7).setCell ⟨g, j * 9 + 8, none⟩ d8)) :
  NRowAt W' g (l.set j t) ∧ W'.heap.size = W.heap.size ∧ (∀ k, k ≠ g → W'.heap[k]? = W.heap[k]?) ∧ ∀ n, n ≤ g → Below n W W' := by
 obtain ⟨cur, h1, h2⟩ := h
 have hsz : j * 9 + 9 ≤ cur.size := by
  have := h2 j hj 8 (by decide)
  rw [List.getElem?_eq_getElem (by rw [T.cells_length]; decide)] at this
  have := (Array.getElem?_eq_some_iff.1 this).1
  omega
 have a0 := box_set h1 (j * 9) d0
 have a1 := box_set a0 (j * 9 + 1) d1
 have a2 := box_set a1 (j * 9 + 2) d2
 have a3 := box_set a2 (j * 9 + 3) d3
 have a4 := box_set a3 (j * 9 + 4) d4
 have a5 := box_set a4 (j * 9 + 5) d5
 have a6 := box_set a5 (j * 9 + 6) d6
 have a7 := box_set a6 (j * 9 + 7) d7
 have a8 := box_set a7 (j * 9 + 8) d8
 rw [← hW] at a8
 refine ⟨⟨_, a8, fun i hi q hq => ?_⟩, by rw [hW]; simp only [size_set], fun k hk => ?_, fun n hn => ?_⟩
 ·rw [List.length_set] at hi
  simp only [Array.getElem?_setIfInBounds]
  by_cases e : i = j
  ·subst e
   rw [List.getElem_set_self, ht]
   have hc : q = 0 ∨ q = 1 ∨ q = 2 ∨ q = 3 ∨ q = 4 ∨ q = 5 ∨ q = 6 ∨ q = 7 ∨ q = 8 := by omega
   simp only [Array.size_setIfInBounds]
   rcases hc with rfl | rfl | rfl | rfl | rfl | rfl | rfl | rfl | rfl <;> simp <;> omega
  ·rw [List.getElem_set_ne (Ne.symm e)]
   rw [if_neg (by omega), if_neg (by omega), if_neg (by omega), if_neg (by omega), if_neg (by omega), if_neg (by omega), if_neg (by omega), if_neg (by omega), if_neg (by omega)]
   exact h2 i hi q hq
 ·rw [hW]
  iterate 9 rw [Below.heap_setCell _ _ _ _ hk]
 ·rw [hW]
  have s0 := (Below.refl n W).setCell (p := ⟨g, j * 9, none⟩) hn d0
  have s1 := s0.setCell (p := ⟨g, j * 9 + 1, none⟩) hn d1
  have s2 := s1.setCell (p := ⟨g, j * 9 + 2, none⟩) hn d2
  have s3 := s2.setCell (p := ⟨g, j * 9 + 3, none⟩) hn d3
  have s4 := s3.setCell (p := ⟨g, j * 9 + 4, none⟩) hn d4
  have s5 := s4.setCell (p := ⟨g, j * 9 + 5, none⟩) hn d5
  have s6 := s5.setCell (p := ⟨g, j * 9 + 6, none⟩) hn d6
  have s7 := s6.setCell (p := ⟨g, j * 9 + 7, none⟩) hn d7
  exact s7.setCell (p := ⟨g, j * 9 + 8, none⟩) hn d8
theorem fits_cell {t : T} (c : Value) (h : c ∈ t.cells) : c.oneCell' = true := by
 cases t
 simp only [T.cells, List.mem_cons, List.not_mem_nil, or_false] at h
 rcases h with rfl | rfl | rfl | rfl | rfl | rfl | rfl | rfl | rfl <;> rfl
end Go.Proofs.YtobbifhflnlplaaDoor.S7
