/- How the marks of the document's program and those of the reference lie in memory. -/
import Derived.Test.YtkdjojmegohonaaDoorM
import Derived.Below
import Derived.Laws.OwnMore
import Derived.Laws.Rows
import Derived.OneCell
namespace Go.Proofs.YtkdjojmegohonaaDoor
open Go.RowKit

/-- The first k words of the set f. -/
def wds (f : Nat → Bool) (k : Nat) : Array Value := ((List.range k).map fun j => Value.int .u64 (wd f j : Nat)).toArray
/-- The first n truths of the set f. -/
def bls (f : Nat → Bool) (n : Nat) : Array Value := ((List.range n).map fun j => Value.bool (f j)).toArray
/-- How many words a bound has. -/
def kw (n : Nat) : Nat := (n + 63) / 64

/-- Marks of the bound n that hold f: the struct in block b, its words in block g. -/
structure Mk (w : World) (b g n : Nat) (f : Nat → Bool) : Prop where
  obj : w.heap[b]? = some (.cells #[.int .i64 n, .slice (some ⟨g, 0, none⟩) (kw n) (kw n)] 48 (0, 0))
  row : w.heap[g]? = some (.cells (wds f (kw n)) 49 (0, 0))
  ne : b ≠ g
  top : ∀ i, n ≤ i → f i = false
  le : n ≤ 65536

/-- The reference's marks of the bound n that hold f: the struct in block b, its truths in block g. -/
structure Rf (w : World) (b g n : Nat) (f : Nat → Bool) : Prop where
  obj : w.heap[b]? = some (.cells #[.slice (some ⟨g, 0, none⟩) n n] 33 (0, 0))
  row : w.heap[g]? = some (.cells (bls f n) 4 (0, 0))
  ne : b ≠ g
  top : ∀ i, n ≤ i → f i = false
  le : n ≤ 65536

theorem wds_get (f : Nat → Bool) (k j : Nat) (h : j < k) : (wds f k)[j]? = some (.int .u64 (wd f j : Nat)) := by simp [wds, h]
theorem bls_get (f : Nat → Bool) (k j : Nat) (h : j < k) : (bls f k)[j]? = some (.bool (f j)) := by simp [bls, h]
theorem kw_lt {n i : Nat} (h : i < n) : i / 64 < kw n := by unfold kw; omega
theorem kw_lt' {n k : Nat} (h : k < kw n) : 64 * k < n := by unfold kw at h; omega
theorem kw_le (n : Nat) : n ≤ 64 * kw n := by unfold kw; omega
theorem kw_max {n : Nat} (h : n ≤ 65536) : kw n ≤ 1024 := by unfold kw; omega

section
variable {w w' : World} {b g n : Nat} {f : Nat → Bool} {row : Option Nat}
theorem Mk.lt (h : Mk w b g n f) : b < w.heap.size ∧ g < w.heap.size := ⟨lt_of_block h.obj, lt_of_block h.row⟩
theorem Rf.lt (h : Rf w b g n f) : b < w.heap.size ∧ g < w.heap.size := ⟨lt_of_block h.obj, lt_of_block h.row⟩
theorem Mk.c0 (h : Mk w b g n f) : w.cell? ⟨b, 0, none⟩ = some (.int .i64 n) := by rw [cell_of_row w b 0 _ _ _ h.obj]; rfl
theorem Mk.c1 (h : Mk w b g n f) : w.cell? ⟨b, 1, none⟩ = some (.slice (some ⟨g, 0, none⟩) (kw n) (kw n)) := by rw [cell_of_row w b 1 _ _ _ h.obj]; rfl
theorem Mk.cw (h : Mk w b g n f) {j : Nat} (hj : j < kw n) : w.cell? ⟨g, j, none⟩ = some (.int .u64 (wd f j : Nat)) := by rw [cell_of_row w g j _ _ _ h.row]; exact wds_get f _ j hj
theorem Mk.fz (h : Mk w b g n f) (j : Nat) : w.frozen? ⟨g, j, none⟩ = false := frozen_of_row w g j _ _ h.row
theorem Rf.c0 (h : Rf w b g n f) : w.cell? ⟨b, 0, none⟩ = some (.slice (some ⟨g, 0, none⟩) n n) := by rw [cell_of_row w b 0 _ _ _ h.obj]; rfl
theorem Rf.cw (h : Rf w b g n f) {j : Nat} (hj : j < n) : w.cell? ⟨g, j, none⟩ = some (.bool (f j)) := by rw [cell_of_row w g j _ _ _ h.row]; exact bls_get f _ j hj
theorem Rf.fz (h : Rf w b g n f) (j : Nat) : w.frozen? ⟨g, j, none⟩ = false := frozen_of_row w g j _ _ h.row

theorem Mk.kept (h : Mk w b g n f) (hg : w.grownBy w' row) (h1 : row ≠ some b) (h2 : row ≠ some g) : Mk w' b g n f :=
  ⟨(hg.block b h.lt.1 (Ne.symm h1)).trans h.obj, (hg.block g h.lt.2 (Ne.symm h2)).trans h.row, h.ne, h.top, h.le⟩
theorem Rf.kept (h : Rf w b g n f) (hg : w.grownBy w' row) (h1 : row ≠ some b) (h2 : row ≠ some g) : Rf w' b g n f :=
  ⟨(hg.block b h.lt.1 (Ne.symm h1)).trans h.obj, (hg.block g h.lt.2 (Ne.symm h2)).trans h.row, h.ne, h.top, h.le⟩
theorem Mk.bel {B : Nat} (h : Mk w b g n f) (hb : Below B w w') (hB : w.heap.size ≤ B) : Mk w' b g n f :=
  ⟨(hb.block b (by have := h.lt; omega)).trans h.obj, (hb.block g (by have := h.lt; omega)).trans h.row, h.ne, h.top, h.le⟩
theorem Rf.bel {B : Nat} (h : Rf w b g n f) (hb : Below B w w') (hB : w.heap.size ≤ B) : Rf w' b g n f :=
  ⟨(hb.block b (by have := h.lt; omega)).trans h.obj, (hb.block g (by have := h.lt; omega)).trans h.row, h.ne, h.top, h.le⟩
theorem Mk.congr {f' : Nat → Bool} (h : Mk w b g n f) (e : ∀ i, f i = f' i) : Mk w b g n f' := by rw [← funext e]; exact h
theorem Rf.congr {f' : Nat → Bool} (h : Rf w b g n f) (e : ∀ i, f i = f' i) : Rf w b g n f' := by rw [← funext e]; exact h

theorem wds_set {f f' : Nat → Bool} {k j : Nat} (he : ∀ i, i / 64 ≠ j → f' i = f i) : (wds f k).setIfInBounds j (.int .u64 (wd f' j : Nat)) = wds f' k := by
  apply Array.ext_getElem?
  intro i
  rw [Array.getElem?_setIfInBounds]
  by_cases hij : j = i
  · subst hij
    by_cases hk : j < k
    · rw [if_pos rfl, if_pos (by simpa [wds] using hk), wds_get _ _ _ hk]
    · rw [if_pos rfl, if_neg (by simpa [wds] using hk)]
      simp [wds, hk]
  · rw [if_neg hij]
    by_cases hk : i < k
    · rw [wds_get _ _ _ hk, wds_get _ _ _ hk, wd_congr (f := f) (g := f') fun l hl => (he _ (by omega)).symm]
    · simp [wds, hk]
theorem bls_set {f f' : Nat → Bool} {k j : Nat} (he : ∀ i, i ≠ j → f' i = f i) : (bls f k).setIfInBounds j (.bool (f' j)) = bls f' k := by
  apply Array.ext_getElem?
  intro i
  rw [Array.getElem?_setIfInBounds]
  by_cases hij : j = i
  · subst hij
    by_cases hk : j < k
    · rw [if_pos rfl, if_pos (by simpa [bls] using hk), bls_get _ _ _ hk]
    · rw [if_pos rfl, if_neg (by simpa [bls] using hk)]
      simp [bls, hk]
  · rw [if_neg hij]
    by_cases hk : i < k
    · rw [bls_get _ _ _ hk, bls_get _ _ _ hk, he i (Ne.symm hij)]
    · simp [bls, hk]
/-- A word stored. -/
theorem Mk.set (h : Mk w b g n f) {f' : Nat → Bool} {j : Nat} (he : ∀ i, i / 64 ≠ j → f' i = f i) (ht : ∀ i, n ≤ i → f' i = false) : Mk (w.setCell ⟨g, j, none⟩ (.int .u64 (wd f' j : Nat))) b g n f' :=
  ⟨(heap_setCell_other w ⟨g, j, none⟩ b _ h.ne).trans h.obj, by rw [heap_setCell_same w g j _ _ _ h.row, wds_set he], h.ne, ht, h.le⟩
theorem Rf.set (h : Rf w b g n f) {f' : Nat → Bool} {j : Nat} (he : ∀ i, i ≠ j → f' i = f i) (ht : ∀ i, n ≤ i → f' i = false) : Rf (w.setCell ⟨g, j, none⟩ (.bool (f' j))) b g n f' :=
  ⟨(heap_setCell_other w ⟨g, j, none⟩ b _ h.ne).trans h.obj, by rw [heap_setCell_same w g j _ _ _ h.row, bls_set he], h.ne, ht, h.le⟩
theorem grown_set (w : World) (g j : Nat) (u : Value) : w.grownBy (w.setCell ⟨g, j, none⟩ u) (some g) :=
  ⟨rfl, rfl, rfl, by simp, fun k _ hk => heap_setCell_other w ⟨g, j, none⟩ k u fun e => hk (by simp [e])⟩
theorem grown_drew (w : World) : w.grownBy w.drew row := ⟨rfl, rfl, rfl, Nat.le_refl _, fun _ _ _ => rfl⟩
theorem grown_refl (w : World) : w.grownBy w row := ⟨rfl, rfl, rfl, Nat.le_refl _, fun _ _ _ => rfl⟩
theorem grown_trans {a b c : World} (h : a.grownBy b row) (k : b.grownBy c row) : a.grownBy c row :=
  ⟨k.os.trans h.os, k.tape.trans h.tape, k.output.trans h.output, Nat.le_trans h.size k.size, fun i hi hr => (k.block i (Nat.lt_of_lt_of_le hi h.size) hr).trans (h.block i hi hr)⟩
theorem grown_of_below {a b : World} (h : Below a.heap.size a b) : a.grownBy b row := ⟨h.os, h.tape, h.output, h.size, fun k hk _ => h.block k hk⟩
theorem below_of_grown {a b : World} (h : a.grownBy b none) : Below a.heap.size a b := ⟨h.os, h.tape, h.output, h.size, fun k hk => h.block k hk (by simp)⟩
theorem Mk.drew (h : Mk w b g n f) : Mk w.drew b g n f := ⟨h.obj, h.row, h.ne, h.top, h.le⟩
theorem Rf.drew (h : Rf w b g n f) : Rf w.drew b g n f := ⟨h.obj, h.row, h.ne, h.top, h.le⟩
end
end Go.Proofs.YtkdjojmegohonaaDoor
