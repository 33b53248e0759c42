/- A struct of nine cells, all set. -/
import Derived.Test.YtbkmoaollooomaaDoorW21
namespace Go.Proofs.YtbkmoaollooomaaDoor
open Go.RowKit
open Go.Tree7
theorem box_set {w : World} {b : Nat} {cs : Array Value} {t : TypeId} (h : w.heap[b]? = some (.cells cs t (0, 0))) (q : Nat) (v : Value) : (w.setCell ⟨b, q, none⟩ v).heap[b]? = some (.cells (cs.setIfInBounds q v) t (0, 0)) := by
  simp [World.setCell, Array.getElem?_modify, h]
theorem size_set (w : World) (a : Addr) (v : Value) : (w.setCell a v).heap.size = w.heap.size := by simp [World.setCell]
/-- A node's nine cells, all set. -/
theorem arr9 {c0 c1 c2 c3 c4 c5 c6 c7 c8 d0 d1 d2 d3 d4 d5 d6 d7 d8 : Value} : ((((((((((#[c0, c1, c2, c3, c4, c5, c6, c7, c8] : Array Value).setIfInBounds 0 d0).setIfInBounds 1 d1).setIfInBounds 2 d2).setIfInBounds 3 d3).setIfInBounds 4 d4).setIfInBounds 5 d5).setIfInBounds 6 d6).setIfInBounds 7 d7).setIfInBounds 8 d8) = #[d0, d1, d2, d3, d4, d5, d6, d7, d8] := by
  simp
theorem set9 {w : World} {b : Nat} {c0 c1 c2 c3 c4 c5 c6 c7 c8 d0 d1 d2 d3 d4 d5 d6 d7 d8 : Value} {t : TypeId} (h : w.heap[b]? = some (.cells #[c0, c1, c2, c3, c4, c5, c6, c7, c8] t (0, 0))) (W : World) (hW : W = (((((((((w.setCell ⟨b, 0, none⟩ d0).setCell ⟨b, 1, none⟩ d1).setCell ⟨b, 2, none⟩ d2).setCell ⟨b, 3, none⟩ d3).setCell ⟨b, 4, none⟩ d4).setCell ⟨b, 5, none⟩ d5).setCell ⟨b, 6, none⟩ d6).setCell ⟨b, 7, none⟩ d7).setCell ⟨b, 8, none⟩ d8)) :
    W.heap[b]? = some (.cells #[d0, d1, d2, d3, d4, d5, d6, d7, d8] t (0, 0)) ∧ W.heap.size = w.heap.size ∧ (∀ k, k ≠ b → W.heap[k]? = w.heap[k]?) ∧ ∀ n, n ≤ b → Below n w W := by
  have a0 := box_set h 0 d0
  have a1 := box_set a0 1 d1
  have a2 := box_set a1 2 d2
  have a3 := box_set a2 3 d3
  have a4 := box_set a3 4 d4
  have a5 := box_set a4 5 d5
  have a6 := box_set a5 6 d6
  have a7 := box_set a6 7 d7
  have a8 := box_set a7 8 d8
  rw [arr9, ← hW] at a8
  refine ⟨a8, by rw [hW]; simp only [size_set], fun k hk => ?_, fun n hn => ?_⟩
  · rw [hW]
    iterate 9 rw [Below.heap_setCell _ _ _ _ hk]
  · rw [hW]
    have s0 := (Below.refl n w).setCell (p := ⟨b, 0, none⟩) hn d0
    have s1 := s0.setCell (p := ⟨b, 1, none⟩) hn d1
    have s2 := s1.setCell (p := ⟨b, 2, none⟩) hn d2
    have s3 := s2.setCell (p := ⟨b, 3, none⟩) hn d3
    have s4 := s3.setCell (p := ⟨b, 4, none⟩) hn d4
    have s5 := s4.setCell (p := ⟨b, 5, none⟩) hn d5
    have s6 := s5.setCell (p := ⟨b, 6, none⟩) hn d6
    have s7 := s6.setCell (p := ⟨b, 7, none⟩) hn d7
    exact s7.setCell (p := ⟨b, 8, none⟩) hn d8
end Go.Proofs.YtbkmoaollooomaaDoor
