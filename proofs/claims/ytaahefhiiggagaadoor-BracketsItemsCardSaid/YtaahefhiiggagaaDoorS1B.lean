/- Boxes: a variable of type Set (four cells in a block of its own), a variable of one cell; what is read of them in every world in which nothing that lay has turned. -/
import Derived.Test.YtaahefhiiggagaaDoorS1M
import Derived.Test.YtaahefhiiggagaaDoorS1Q
import Derived.RangeFuncRecord
namespace Go.Proofs.YtaahefhiiggagaaDoor.S1
open Go.RowKit

/-- Block b is four cells of type t. -/
def Blk4 (w : World) (b : Nat) (t : TypeId) (v0 v1 v2 v3 : Value) : Prop := w.heap[b]? = some (.cells #[v0, v1, v2, v3] t (0, 0))
theorem Blk4.lt {w : World} {b : Nat} {t : TypeId} {v0 v1 v2 v3 : Value} (h : Blk4 w b t v0 v1 v2 v3) : b < w.heap.size := (Array.getElem?_eq_some_iff.1 h).1
theorem Blk4.new (w : World) (t : TypeId) (v0 v1 v2 v3 : Value) : Blk4 (w.alloc (.cells #[v0, v1, v2, v3] t)) w.heap.size t v0 v1 v2 v3 := World.alloc_heap_new w _
theorem Blk4.alloc {w : World} {b : Nat} {t : TypeId} {v0 v1 v2 v3 : Value} (h : Blk4 w b t v0 v1 v2 v3) (o : Obj) : Blk4 (w.alloc o) b t v0 v1 v2 v3 := (Below.heap_alloc w o b h.lt).trans h
theorem Blk4.below {w w' : World} {B b : Nat} {t : TypeId} {v0 v1 v2 v3 : Value} (h : Blk4 w b t v0 v1 v2 v3) (hb : Below B w w') (hB : b < B) : Blk4 w' b t v0 v1 v2 v3 := (hb.block b hB).trans h
theorem Blk4.bel {w w' : World} {b : Nat} {t : TypeId} {v0 v1 v2 v3 : Value} (h : Blk4 w b t v0 v1 v2 v3) (hb : Bel w w') : Blk4 w' b t v0 v1 v2 v3 := h.below hb h.lt
theorem Blk4.drew {w : World} {b : Nat} {t : TypeId} {v0 v1 v2 v3 : Value} (h : Blk4 w b t v0 v1 v2 v3) : Blk4 w.drew b t v0 v1 v2 v3 := h
theorem Blk4.facts {w : World} {b : Nat} {t : TypeId} {v0 v1 v2 v3 : Value} (h : Blk4 w b t v0 v1 v2 v3) :
    (w.cell? ⟨b, 0, none⟩ = some v0 ∧ w.cell? ⟨b, 1, none⟩ = some v1 ∧ w.cell? ⟨b, 2, none⟩ = some v2 ∧ w.cell? ⟨b, 3, none⟩ = some v3) ∧
    (w.frozen? ⟨b, 0, none⟩ = false ∧ w.frozen? ⟨b, 1, none⟩ = false ∧ w.frozen? ⟨b, 2, none⟩ = false ∧ w.frozen? ⟨b, 3, none⟩ = false) := by
  refine ⟨⟨?_, ?_, ?_, ?_⟩, ?_, ?_, ?_, ?_⟩ <;> simp [World.cell?, World.frozen?, show w.heap[b]? = _ from h]
theorem Blk4.setCell {w : World} {b : Nat} {t : TypeId} {v0 v1 v2 v3 : Value} (h : Blk4 w b t v0 v1 v2 v3) (u : Value) :
    Blk4 (w.setCell ⟨b, 0, none⟩ u) b t u v1 v2 v3 ∧ Blk4 (w.setCell ⟨b, 1, none⟩ u) b t v0 u v2 v3 ∧ Blk4 (w.setCell ⟨b, 2, none⟩ u) b t v0 v1 u v3 ∧ Blk4 (w.setCell ⟨b, 3, none⟩ u) b t v0 v1 v2 u := by
  obtain ⟨hlt, hk⟩ := Array.getElem?_eq_some_iff.1 h
  refine ⟨?_, ?_, ?_, ?_⟩ <;>
  · show (w.heap.modify b _)[b]? = _
    rw [Array.getElem?_eq_getElem (by rw [Array.size_modify]; exact hlt), Array.getElem_modify_self, hk]
    rfl
theorem Blk4.set {w : World} {b : Nat} {t : TypeId} {v0 v1 v2 v3 : Value} (h : Blk4 w b t v0 v1 v2 v3) (u0 u1 u2 u3 : Value) :
    Blk4 ((((w.setCell ⟨b, 0, none⟩ u0).setCell ⟨b, 1, none⟩ u1).setCell ⟨b, 2, none⟩ u2).setCell ⟨b, 3, none⟩ u3) b t u0 u1 u2 u3 :=
  ((((h.setCell u0).1.setCell u1).2.1.setCell u2).2.2.1.setCell u3).2.2.2
theorem Blk4.other {w : World} {b : Nat} {t : TypeId} {v0 v1 v2 v3 : Value} (h : Blk4 w b t v0 v1 v2 v3) {b' : Nat} (hne : b ≠ b') (u0 u1 u2 u3 : Value) :
    Blk4 ((((w.setCell ⟨b', 0, none⟩ u0).setCell ⟨b', 1, none⟩ u1).setCell ⟨b', 2, none⟩ u2).setCell ⟨b', 3, none⟩ u3) b t v0 v1 v2 v3 := by
  unfold Blk4
  rw [Below.heap_setCell _ _ _ _ hne, Below.heap_setCell _ _ _ _ hne, Below.heap_setCell _ _ _ _ hne, Below.heap_setCell _ _ _ _ hne]
  exact h
theorem below_set4 {B : Nat} {a w : World} (h : Below B a w) {b : Nat} (hb : B ≤ b) (u0 u1 u2 u3 : Value) :
    Below B a ((((w.setCell ⟨b, 0, none⟩ u0).setCell ⟨b, 1, none⟩ u1).setCell ⟨b, 2, none⟩ u2).setCell ⟨b, 3, none⟩ u3) :=
  (((h.setCell (p := ⟨b, 0, none⟩) hb _).setCell (p := ⟨b, 1, none⟩) hb _).setCell (p := ⟨b, 2, none⟩) hb _).setCell (p := ⟨b, 3, none⟩) hb _
/-- What is read of the box in every world in which nothing that lay has turned. -/
theorem Blk4.all {W : World} {b : Nat} {t : TypeId} {v0 v1 v2 v3 : Value} (h : Blk4 W b t v0 v1 v2 v3) :
    (∀ w', Bel W w' → w'.cell? ⟨b, 0, none⟩ = some v0) ∧ (∀ w', Bel W w' → w'.cell? ⟨b, 1, none⟩ = some v1) ∧ (∀ w', Bel W w' → w'.cell? ⟨b, 2, none⟩ = some v2) ∧ (∀ w', Bel W w' → w'.cell? ⟨b, 3, none⟩ = some v3) :=
  ⟨fun _ hb => (h.bel hb).facts.1.1, fun _ hb => (h.bel hb).facts.1.2.1, fun _ hb => (h.bel hb).facts.1.2.2.1, fun _ hb => (h.bel hb).facts.1.2.2.2⟩
theorem boxes1 (w : World) (t : TypeId) (a0 a1 a2 a3 : Value) : ∃ W, w.alloc (.cells #[a0, a1, a2, a3] t) = W ∧ Blk4 W w.heap.size t a0 a1 a2 a3 ∧ Below w.heap.size w W :=
  ⟨_, rfl, Blk4.new _ _ _ _ _ _, (Below.refl _ _).alloc (Nat.le_refl _) _⟩
theorem boxes2 (w : World) (t u : TypeId) (a0 a1 a2 a3 b0 b1 b2 b3 : Value) : ∃ W, (w.alloc (.cells #[a0, a1, a2, a3] t)).alloc (.cells #[b0, b1, b2, b3] u) = W ∧
    Blk4 W w.heap.size t a0 a1 a2 a3 ∧ Blk4 W (w.heap.size + 1) u b0 b1 b2 b3 ∧ Below w.heap.size w W := by
  refine ⟨_, rfl, (Blk4.new _ _ _ _ _ _).alloc _, ?_, ((Below.refl _ _).alloc (Nat.le_refl _) _).alloc (by simp) _⟩
  have := Blk4.new (w.alloc (.cells #[a0, a1, a2, a3] t)) u b0 b1 b2 b3
  rwa [World.size_alloc] at this
theorem boxes3 (w : World) (t u v : TypeId) (a0 a1 a2 a3 b0 b1 b2 b3 c0 c1 c2 c3 : Value) : ∃ W, ((w.alloc (.cells #[a0, a1, a2, a3] t)).alloc (.cells #[b0, b1, b2, b3] u)).alloc (.cells #[c0, c1, c2, c3] v) = W ∧
    Blk4 W w.heap.size t a0 a1 a2 a3 ∧ Blk4 W (w.heap.size + 1) u b0 b1 b2 b3 ∧ Blk4 W (w.heap.size + 1 + 1) v c0 c1 c2 c3 ∧ Below w.heap.size w W := by
  obtain ⟨W, hW, h1, h2, hB⟩ := boxes2 w t u a0 a1 a2 a3 b0 b1 b2 b3
  have hs : W.heap.size = w.heap.size + 1 + 1 := by rw [← hW]; simp
  rw [hW]
  refine ⟨_, rfl, h1.alloc _, h2.alloc _, ?_, hB.alloc hB.size _⟩
  have := Blk4.new W v c0 c1 c2 c3
  rwa [hs] at this
/-- A box that holds a set. -/
def SetBox (w : World) (b : Nat) (t : TypeId) (f : Nat → Bool) : Prop := Blk4 w b t (.int .u64 (wd f 0)) (.int .u64 (wd f 1)) (.int .u64 (wd f 2)) (.int .u64 (wd f 3))
theorem SetBox.blk {w : World} {b : Nat} {t : TypeId} {f : Nat → Bool} (h : SetBox w b t f) : Blk4 w b t (.int .u64 (wd f 0)) (.int .u64 (wd f 1)) (.int .u64 (wd f 2)) (.int .u64 (wd f 3)) := h
theorem SetBox.congr {w : World} {b : Nat} {t : TypeId} {f g : Nat → Bool} (h : SetBox w b t f) (hfg : ∀ c, c < 256 → f c = g c) : SetBox w b t g := by
  unfold SetBox at *
  rw [← wd_congr (f := f) (g := g) (k := 0) (fun i hi => hfg _ (by omega)), ← wd_congr (f := f) (g := g) (k := 1) (fun i hi => hfg _ (by omega)),
    ← wd_congr (f := f) (g := g) (k := 2) (fun i hi => hfg _ (by omega)), ← wd_congr (f := f) (g := g) (k := 3) (fun i hi => hfg _ (by omega))]
  exact h
end Go.Proofs.YtaahefhiiggagaaDoor.S1
