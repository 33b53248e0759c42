/- The reference's Same. -/
import Derived.Test.YtjlmeegaiagfpaaGreatDoorS7E
import Derived.Deep.RegionHeld3
import Derived.Deep.DeepCutAuto
import Derived.Deep.CutBlock
import Derived.BigQuiet
namespace Go.Proofs.YtjlmeegaiagfpaaGreatDoor.S7
open Go.RowKit
open Go.Tree7
theorem two_boxes (w : World) (A B : Obj) : ((w.alloc A).alloc B).drew.heap[w.heap.size]? = some A ∧ ((w.alloc A).alloc B).drew.heap[w.heap.size + 1]? = some B ∧ Bel w ((w.alloc A).alloc B).drew := by
  refine ⟨(Below.heap_alloc (w.alloc A) B w.heap.size (by simp)).trans (World.alloc_heap_new w A), ?_, (((Below.refl _ w).alloc (Nat.le_refl _) _).alloc (by simp) _).drew⟩
  have := World.alloc_heap_new (w.alloc A) B
  rw [World.size_alloc] at this
  exact this
end Go.Proofs.YtjlmeegaiagfpaaGreatDoor.S7
