/- Texts merged: S1W5, S1W13, S1W14, S1W16. -/
import Derived.Laws.MakeOwn
import Derived.OwnWalk
import Derived.WalkSmall
import Derived.Laws.BytesArg
import Derived.Test.YtkpoegnekeiieaaDoorS1C
namespace Go.Proofs.YtkpoegnekeiieaaDoor.S1
open Go.RowKit

def bl (g : Nat → Bool) : List Value := (List.range 256).map fun i => .bool (g i)
theorem bl_get (g : Nat → Bool) {k : Nat} (h : k < 256) : (bl g)[k]? = some (.bool (g k)) := by simp [bl, h]
theorem bl_set (g : Nat → Bool) (k : Nat) (u : Bool) : (bl g).set k (.bool u) = bl (fun x => if x = k then u else g x) := by
  apply List.ext_getElem?
  intro i
  by_cases hi : i < 256
  · rw [bl_get _ hi, List.getElem?_set]
    by_cases e : k = i
    · subst e; simp [bl, hi]
    · have e' : ¬ i = k := fun x => e x.symm
      simp [e, e', bl_get g hi]
  · have h1 : (bl g).length = 256 := by simp [bl]
    rw [List.getElem?_eq_none (by simp [bl]; omega), List.getElem?_eq_none (by simp [bl]; omega)]
/-- Block b is a row of 256 Bools. -/
def BoolRow (w : World) (b : Nat) (g : Nat → Bool) : Prop := w.heap[b]? = some (.cells (bl g).toArray 4 (0, 0))
theorem BoolRow.lt {w : World} {b : Nat} {g : Nat → Bool} (h : BoolRow w b g) : b < w.heap.size := (Array.getElem?_eq_some_iff.1 h).1
theorem BoolRow.below {w w' : World} {B b : Nat} {g : Nat → Bool} (h : BoolRow w b g) (hb : Below B w w') (hB : b < B) : BoolRow w' b g := (hb.block b hB).trans h
theorem BoolRow.bel {w w' : World} {b : Nat} {g : Nat → Bool} (h : BoolRow w b g) (hb : Bel w w') : BoolRow w' b g := h.below hb h.lt
theorem BoolRow.cell {w : World} {b : Nat} {g : Nat → Bool} (h : BoolRow w b g) {k : Nat} (hk : k < 256) : w.cell? ⟨b, k, none⟩ = some (.bool (g k)) := by
  rw [cell_of_row w b k _ _ (0, 0) h]; simpa using bl_get g hk
theorem BoolRow.frozen {w : World} {b : Nat} {g : Nat → Bool} (h : BoolRow w b g) (k : Nat) : w.frozen? ⟨b, k, none⟩ = false := frozen_of_row w b k _ _ h
theorem BoolRow.set {w : World} {b : Nat} {g : Nat → Bool} (h : BoolRow w b g) (k : Nat) (u : Bool) : BoolRow (w.setCell ⟨b, k, none⟩ (.bool u)) b (fun x => if x = k then u else g x) := by
  have := heap_setCell_same w b k _ _ (.bool u) h
  unfold BoolRow
  rw [this, ← bl_set]
  simp
theorem BoolRow.new (w : World) (g : Nat → Bool) : BoolRow (w.alloc (.cells (bl g).toArray 4)) w.heap.size g := World.alloc_heap_new w _
theorem BoolRow.congr {w : World} {b : Nat} {f g : Nat → Bool} (h : BoolRow w b f) (hfg : ∀ c, c < 256 → f c = g c) : BoolRow w b g := by
  have : bl f = bl g := List.map_congr_left fun i hi => by rw [hfg i (List.mem_range.1 hi)]
  unfold BoolRow at *
  rw [← this]; exact h
theorem i4 : ∃ i, Tryd.prog.info? 4 = some i ∧ i.zero = some (.bool false) ∧ i.size = 1 ∧ i.bytes = 1 := by
  cases h : Tryd.prog.info? 4 with
  | none => have : (Tryd.prog.info? 4).isSome = true := by kernel_rfl
            rw [h] at this; cases this
  | some i =>
    have hh : (Tryd.prog.info? 4).map (fun i => (i.zero, i.size, i.bytes)) = some (some (.bool false), 1, 1) := by kernel_rfl
    rw [h] at hh
    simp at hh
    exact ⟨i, rfl, hh.1, hh.2.1, hh.2.2⟩
end Go.Proofs.YtkpoegnekeiieaaDoor.S1
namespace Go.Proofs.YtkpoegnekeiieaaDoor.S1
open Go.RowKit Go.Shelf

theorem ownsRow_bel {w w' : World} {base : Nat} {e : TypeId} {size : Nat} {v : Value} {n : Nat} {xs : List Value} (h : w.ownsRow base e size v n xs) (hb : Below w.heap.size w w') : w'.ownsRow base e size v n xs := by
  refine ⟨h.1, ?_⟩
  rcases h.2 with h1 | ⟨g, cap, cur, hv, hg, hh, r⟩
  · exact .inl h1
  · exact .inr ⟨g, cap, cur, hv, hg, (hb.block g (Array.getElem?_eq_some_iff.1 hh).1).trans hh, r⟩
theorem Blk4.grown {w w1 : World} {b : Nat} {t : TypeId} {v0 v1 v2 v3 : Value} {base : Nat} {e : TypeId} {size : Nat} {v : Value} {n : Nat} {xs : List Value} {tmp : Obj} (h : Blk4 w b t v0 v1 v2 v3)
    (hrow : w.ownsRow base e size v n xs) (hte : t ≠ e) (hg : (w.alloc tmp).grownBy w1 v.ownBlock) : Blk4 w1 b t v0 v1 v2 v3 := by
  have h1 := h.alloc tmp
  refine (hg.block b h1.lt ?_).trans h1
  rcases hrow.2 with ⟨rfl, _⟩ | ⟨g, cap, cur, rfl, _, hgb, _⟩
  · simp [Value.ownBlock]
  · intro e'
    obtain rfl : b = g := by simpa [Value.ownBlock] using e'
    have := (show w.heap[b]? = _ from h).symm.trans hgb
    simp at this
    exact hte this.2
def encN (c : Nat) : Value := .int .u8 (c : Int)
end Go.Proofs.YtkpoegnekeiieaaDoor.S1
namespace Go.Proofs.YtkpoegnekeiieaaDoor.S1
open Go.RowKit Go.Shelf

def enA (f : Nat → Bool) (k : Nat) : List Nat := if k = 0 ∨ f (k - 1) = false then [k] else []
def enZ (f : Nat → Bool) (k : Nat) : List Nat := if k = 255 ∨ f (k + 1) = false then [k] else []
/-- The beginnings and ends met below p. -/
def en (f : Nat → Bool) : Nat → List Nat
  | 0 => []
  | p + 1 => if f p = true then en f p ++ enA f p ++ enZ f p else en f p
def encI (c : Nat) : Value := .int .i64 (c : Int)
end Go.Proofs.YtkpoegnekeiieaaDoor.S1
namespace Go.Proofs.YtkpoegnekeiieaaDoor.S1
open Go.RowKit Go.Shelf

theorem row_form {w : World} {base : Nat} {e : TypeId} {size : Nat} {v : Value} {n : Nat} {xs : List Value} (h : w.ownsRow base e size v n xs) :
    ∃ (p : Option Addr) (cap : Nat), v = .slice p n cap ∧ (0 < n → ∃ g, p = some ⟨g, 0, none⟩ ∧ base ≤ g ∧ g < w.heap.size ∧ n ≤ cap ∧ ∀ j, j < n * size → w.cell? ⟨g, j, none⟩ = xs[j]?) := by
  rcases h.2 with ⟨h1, h2⟩ | ⟨g, cap, cur, hv2, hg, hh, hcap, r⟩
  · exact ⟨none, 0, by rw [h1, h2], fun h => by omega⟩
  · subst hv2
    exact ⟨some ⟨g, 0, none⟩, cap, rfl, fun _ => ⟨g, rfl, hg, (Array.getElem?_eq_some_iff.1 hh).1, hcap, fun j hj => h.cellAt j hj⟩⟩

end Go.Proofs.YtkpoegnekeiieaaDoor.S1
