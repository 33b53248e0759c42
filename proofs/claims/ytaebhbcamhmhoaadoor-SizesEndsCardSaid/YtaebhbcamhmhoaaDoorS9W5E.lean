/- What the laws of sizes want of the program's calls; facts on Of and on new boxes. -/

import Derived.Test.YtaebhbcamhmhoaaDoorWS
import Derived.Test.YtaebhbcamhmhoaaDoorS9W4E
import Derived.Test.YtaebhbcamhmhoaaDoorMB
import Derived.Test.YtaebhbcamhmhoaaDoorWG
import Derived.Test.YtaebhbcamhmhoaaDoorS7W25
import Derived.Test.YtaebhbcamhmhoaaDoorEA
namespace Go.Proofs.YtaebhbcamhmhoaaDoor
open Go.RowKit
open Go.Tree7
open S7
open S5 (nl nl_length nl_small at_nl nl_at Gives idx idx_at ix ix_no ix_yes)
theorem box_in9 {w : World} {c : Nat} {t : T} (h : T.InP w (fun b => c ≤ b ∧ b < w.heap.size) t) : T.In w w.heap.size t := h.toIn (B := w.heap.size) fun _ hb => hb.2
theorem four_new (w : World) (c0 c1 c2 c3 : Array Value) (t0 t1 t2 t3 : TypeId) : ∃ W, (((w.alloc (.cells c0 t0)).alloc (.cells c1 t1)).alloc (.cells c2 t2)).alloc (.cells c3 t3) = W ∧ W.heap[w.heap.size]? = some (.cells c0 t0 (0, 0)) ∧ W.heap[w.heap.size + 1]? = some (.cells c1 t1 (0, 0)) ∧
    W.heap[w.heap.size + 1 + 1]? = some (.cells c2 t2 (0, 0)) ∧ W.heap[w.heap.size + 1 + 1 + 1]? = some (.cells c3 t3 (0, 0)) ∧ Below w.heap.size w W := by
  have h0 := World.alloc_heap_new w (.cells c0 t0)
  have h1 := World.alloc_heap_new (w.alloc (.cells c0 t0)) (.cells c1 t1)
  have h2 := World.alloc_heap_new ((w.alloc (.cells c0 t0)).alloc (.cells c1 t1)) (.cells c2 t2)
  have h3 := World.alloc_heap_new (((w.alloc (.cells c0 t0)).alloc (.cells c1 t1)).alloc (.cells c2 t2)) (.cells c3 t3)
  rw [World.size_alloc] at h1
  rw [World.size_alloc, World.size_alloc] at h2
  rw [World.size_alloc, World.size_alloc, World.size_alloc] at h3
  exact ⟨_, rfl, kept_alloc9 (kept_alloc9 (kept_alloc9 h0 _) _) _, kept_alloc9 (kept_alloc9 h1 _) _, kept_alloc9 h2 _, h3, ((((Below.refl _ _).alloc (Nat.le_refl _) _).alloc (by simp) _).alloc (by simp; omega) _).alloc (by simp; omega) _⟩
/-- The reference's calls on a tree that Of has made of another. -/
theorem ref_of {w : World} {m n : T} (hT : T.In w w.heap.size m) (hms : m.strip = n.strip) (hR : rightB n = true) : ∀ w', Bel w w' →
    (Calls Tryd.prog 8 #[.agg m.cells.toArray] w' fun e w'' => e = .returned (.bool true) ∧ Below w'.heap.size w' w'') ∧
    (Calls Tryd.prog 9 #[.agg m.cells.toArray] w' fun e w'' => e = .returned (.bool (voidT n)) ∧ Below w'.heap.size w' w'') ∧
    (Calls Tryd.prog 10 #[.agg m.cells.toArray, .bool false] w' fun e w'' => e = .returned (.agg #[.int .u64 (S1.wd (endsT false n) 0), .int .u64 (S1.wd (endsT false n) 1), .int .u64 (S1.wd (endsT false n) 2), .int .u64 (S1.wd (endsT false n) 3)]) ∧ Below w'.heap.size w' w'') ∧
    (Calls Tryd.prog 10 #[.agg m.cells.toArray, .bool true] w' fun e w'' => e = .returned (.agg #[.int .u64 (S1.wd (endsT true n) 0), .int .u64 (S1.wd (endsT true n) 1), .int .u64 (S1.wd (endsT true n) 2), .int .u64 (S1.wd (endsT true n) 3)]) ∧ Below w'.heap.size w' w'') ∧
    (Calls Tryd.prog 11 #[.agg m.cells.toArray] w' fun e w'' => e = .returned (.agg #[.int .u64 (S1.wd (alphaT n) 0), .int .u64 (S1.wd (alphaT n) 1), .int .u64 (S1.wd (alphaT n) 2), .int .u64 (S1.wd (alphaT n) 3)]) ∧ Below w'.heap.size w' w'') := by
  have hRm : rightB m = true := by rw [← right_strip, hms, right_strip, hR]
  have hall := (right_all ((rightB_iff m).1 hRm)).1
  intro w' hb
  have c1 := rright_in (in_bel hT hb)
  have c2 := rvoid_in (Nat.le_refl _) m hall hT w' hb
  have c3 := rends_false (Nat.le_refl _) m hall hT w' hb
  have c4 := rends_true (Nat.le_refl _) m hall hT w' hb
  have c5 := ralpha_in (Nat.le_refl _) m hall hT w' hb
  rw [hRm] at c1
  rw [← void_strip, hms, void_strip] at c2
  rw [← ends_strip, hms, ends_strip] at c3 c4
  rw [← alpha_strip, hms, alpha_strip] at c5
  exact ⟨c1, c2, c3, c4, c5⟩
theorem rright_not {w : World} {m n : T} (hT : T.In w w.heap.size m) (hms : m.strip = n.strip) (hR : rightB n = false) : ∀ w', Bel w w' →
    Calls Tryd.prog 8 #[.agg m.cells.toArray] w' fun e w'' => e = .returned (.bool false) ∧ Below w'.heap.size w' w'' := by
  intro w' hb
  have c1 := rright_in (in_bel hT hb)
  rw [show rightB m = false by rw [← right_strip, hms, right_strip, hR]] at c1
  exact c1
end Go.Proofs.YtaebhbcamhmhoaaDoor
