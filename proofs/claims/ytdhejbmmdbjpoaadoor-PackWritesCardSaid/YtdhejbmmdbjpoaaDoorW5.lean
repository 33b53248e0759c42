/- The reader: take, Fail, Err, Left. -/
import Derived.Test.YtdhejbmmdbjpoaaDoorW4
namespace Go.Proofs.YtdhejbmmdbjpoaaDoor
open Go.RowKit
theorem Src.set {w : World} {g off n c b : Nat} {l : List Nat} (h : Src w (some ⟨g, off, none⟩) n c l) (hb : g ≠ b) (j : Nat) (u : Value) : Src (w.setCell ⟨b, j, none⟩ u) (some ⟨g, off, none⟩) n c l := by
  refine ⟨h.len, h.small, h.nil, fun ad e k v hv => ?_, h.cap⟩
  have h1 := h.cells ad e k v hv
  cases e
  have e2 : (⟨g, off, none⟩ : Addr).add k = ⟨g, off + k, none⟩ := by unfold Addr.add; split <;> simp_all
  rw [e2] at h1 ⊢
  rw [World.cell?_of_block (Below.heap_setCell w ⟨b, j, none⟩ u g hb)]
  exact h1
theorem slice_fore (bb off n m c : Nat) (hm : m ≤ n) (hc : n ≤ c) (w : World) : (Instr.sliceAt 26 (.slice (some ⟨bb, off, none⟩) n c) none (some (.int .i64 m)) none).run Tryd.prog w = .ok (.slice (some ⟨bb, off, none⟩) m c) w := by
  have m0 : (0 : Int) ≤ (m : Int) := by omega
  have m1 : (m : Int) ≤ (c : Int) := by omega
  by_cases h : c = 0
  · subst h
    obtain rfl : m = 0 := by omega
    go_simp
  · go_simp
theorem slice_aft (bb off n m c : Nat) (hm : m ≤ n) (hc : n ≤ c) : ∃ off', (∀ w, (Instr.sliceAt 26 (.slice (some ⟨bb, off, none⟩) n c) (some (.int .i64 m)) none none).run Tryd.prog w = .ok (.slice (some ⟨bb, off', none⟩) (n - m) (c - m)) w) ∧ (m < n → off' = off + m) := by
  have m0 : (0 : Int) ≤ (m : Int) := by omega
  have m1 : (m : Int) ≤ (n : Int) := by omega
  by_cases h : c = m
  · refine ⟨off, fun w => ?_, fun h => by omega⟩
    subst h
    obtain rfl : c = n := by omega
    go_simp
  · refine ⟨off + m, fun w => ?_, fun _ => rfl⟩
    go_simp
end Go.Proofs.YtdhejbmmdbjpoaaDoor
