/- Texts of earlier layers, merged: S1W5, S1W6, S1W10. -/
import Derived.Test.YtjlmeegaiagfpaaGreatDoorS1C
import Derived.Laws.MakeOwn
namespace Go.Proofs.YtjlmeegaiagfpaaGreatDoor.S1
open Go.RowKit

def bl (g : Nat → Bool) : List Value := (List.range 256).map fun i => .bool (g i)
theorem bl_get (g : Nat → Bool) {k : Nat} (h : k < 256) : (bl g)[k]? = some (.bool (g k)) := by simp [bl, h]
theorem bl_set (g : Nat → Bool) (k : Nat) (u : Bool) : (bl g).set k (.bool u) = bl (fun x => if x = k then u else g x) := by
  apply List.ext_getElem?
  intro i
  by_cases hi : i < 256
  · rw [bl_get _ hi, List.getElem?_set]
    by_cases e : k = i
    · subst e; simp [bl, hi]
    · have e' : ¬ i = k := fun x => e x.symm
      simp [e, e', bl_get g hi]
  · have h1 : (bl g).length = 256 := by simp [bl]
    rw [List.getElem?_eq_none (by simp [bl]; omega), List.getElem?_eq_none (by simp [bl]; omega)]
/-- Block b is a row of 256 Bools. -/
def BoolRow (w : World) (b : Nat) (g : Nat → Bool) : Prop := w.heap[b]? = some (.cells (bl g).toArray 4 (0, 0))
theorem BoolRow.lt {w : World} {b : Nat} {g : Nat → Bool} (h : BoolRow w b g) : b < w.heap.size := (Array.getElem?_eq_some_iff.1 h).1
theorem BoolRow.below {w w' : World} {B b : Nat} {g : Nat → Bool} (h : BoolRow w b g) (hb : Below B w w') (hB : b < B) : BoolRow w' b g := (hb.block b hB).trans h
theorem BoolRow.bel {w w' : World} {b : Nat} {g : Nat → Bool} (h : BoolRow w b g) (hb : Bel w w') : BoolRow w' b g := h.below hb h.lt
theorem BoolRow.cell {w : World} {b : Nat} {g : Nat → Bool} (h : BoolRow w b g) {k : Nat} (hk : k < 256) : w.cell? ⟨b, k, none⟩ = some (.bool (g k)) := by
  rw [cell_of_row w b k _ _ (0, 0) h]; simpa using bl_get g hk
theorem BoolRow.frozen {w : World} {b : Nat} {g : Nat → Bool} (h : BoolRow w b g) (k : Nat) : w.frozen? ⟨b, k, none⟩ = false := frozen_of_row w b k _ _ h
theorem BoolRow.set {w : World} {b : Nat} {g : Nat → Bool} (h : BoolRow w b g) (k : Nat) (u : Bool) : BoolRow (w.setCell ⟨b, k, none⟩ (.bool u)) b (fun x => if x = k then u else g x) := by
  have := heap_setCell_same w b k _ _ (.bool u) h
  unfold BoolRow
  rw [this, ← bl_set]
  simp
theorem BoolRow.new (w : World) (g : Nat → Bool) : BoolRow (w.alloc (.cells (bl g).toArray 4)) w.heap.size g := World.alloc_heap_new w _
theorem BoolRow.congr {w : World} {b : Nat} {f g : Nat → Bool} (h : BoolRow w b f) (hfg : ∀ c, c < 256 → f c = g c) : BoolRow w b g := by
  have : bl f = bl g := List.map_congr_left fun i hi => by rw [hfg i (List.mem_range.1 hi)]
  unfold BoolRow at *
  rw [← this]; exact h
theorem Blk4.setOther {w : World} {b : Nat} {t : TypeId} {v0 v1 v2 v3 : Value} (h : Blk4 w b t v0 v1 v2 v3) {a : Addr} (hne : b ≠ a.block) (u : Value) : Blk4 (w.setCell a u) b t v0 v1 v2 v3 :=
  (Below.heap_setCell w a u b hne).trans h
theorem BoolRow.setOther {w : World} {b : Nat} {g : Nat → Bool} (h : BoolRow w b g) {a : Addr} (hne : b ≠ a.block) (u : Value) : BoolRow (w.setCell a u) b g :=
  (Below.heap_setCell w a u b hne).trans h

def cutS (g : Nat → Bool) (k : Nat) : Nat → Bool := fun x => g x && decide (x < k)
theorem cut_add {g : Nat → Bool} {k q : Nat} (hk : k / 64 = q) (hg : g k = true) : IntKind.u64.wrap ((wd (cutS g k) q : Int) + ((2 ^ (k % 64) : Nat) : Int)) = (wd (cutS g (k + 1)) q : Int) := by
  have hm := Nat.mod_lt k (by decide : 0 < 64)
  have hlt : wd (cutS g k) q < 2 ^ (k % 64) := by
    apply Nat.lt_pow_two_of_testBit
    intro i hi
    rw [testBit_wd]
    by_cases h64 : i < 64
    · have : ¬ 64 * q + i < k := by omega
      simp [cutS, this]
    · simp [h64]
  have e : wd (cutS g k) q + 2 ^ (k % 64) = wd (cutS g (k + 1)) q := by
    have hp : (2 : Nat) ^ (k % 64) * 2 ≤ 2 ^ 64 := by
      rw [← Nat.pow_succ]; exact Nat.pow_le_pow_right (by decide) (by omega)
    refine eq_wd (by have : (2 : Nat) ^ 64 = 18446744073709551616 := by decide
                     omega) fun i hi => ?_
    have e1 : wd (cutS g k) q + 2 ^ (k % 64) = 2 ^ (k % 64) * 1 + wd (cutS g k) q := by omega
    rw [e1, Nat.testBit_two_pow_mul_add _ hlt, testBit_wd]
    by_cases h1 : i < k % 64
    · have a1 : 64 * q + i < k := by omega
      have a2 : 64 * q + i < k + 1 := by omega
      simp [h1, hi, cutS, a1, a2]
    · by_cases h2 : i = k % 64
      · have a1 : 64 * q + i = k := by omega
        simp [h2, cutS]
        have a3 : 64 * q + k % 64 = k := by omega
        rw [a3, hg]; simp
      · have a1 : ¬ 64 * q + i < k + 1 := by omega
        obtain ⟨j, hj⟩ : ∃ j, i - k % 64 = j + 1 := ⟨i - k % 64 - 1, by omega⟩
        simp [h1, cutS, a1, hj, Nat.testBit_succ]
  rw [← Int.natCast_add, e]
  exact wrap_nat (wd_lt _ _)
theorem cut_off {g : Nat → Bool} {k j : Nat} (hk : k / 64 ≠ j) : wd (cutS g (k + 1)) j = wd (cutS g k) j :=
  wd_congr fun i hi => by
    unfold cutS
    have : (64 * j + i < k + 1) ↔ (64 * j + i < k) := by omega
    rw [Bool.eq_iff_iff]; simp [this]
theorem cut_miss {g : Nat → Bool} {k : Nat} (hg : g k = false) : ∀ c, c < 256 → cutS g k c = cutS g (k + 1) c := fun c _ => by
  unfold cutS
  by_cases e : c = k
  · subst e; simp [hg]
  · have : (c < k + 1) ↔ (c < k) := by omega
    rw [Bool.eq_iff_iff]; simp [this]
theorem pow_wrap (k : Nat) : IntKind.u64.wrap (2 ^ ((k : Int) % 64).toNat) = ((2 ^ (k % 64) : Nat) : Int) := by
  have e : ((k : Int) % 64).toNat = k % 64 := by omega
  have this : (2 : Int) ^ (k % 64) = ((2 ^ (k % 64) : Nat) : Int) := by simp
  rw [e, this]
  exact wrap_nat (Nat.pow_lt_pow_right (a := 2) (by decide) (Nat.mod_lt k (by decide : 0 < 64)))

theorem i4 : ∃ i, Tryz.prog.info? 4 = some i ∧ i.zero = some (.bool false) ∧ i.size = 1 ∧ i.bytes = 1 := by
  cases h : Tryz.prog.info? 4 with
  | none => have : (Tryz.prog.info? 4).isSome = true := by kernel_rfl
            rw [h] at this; cases this
  | some i =>
    have hh : (Tryz.prog.info? 4).map (fun i => (i.zero, i.size, i.bytes)) = some (some (.bool false), 1, 1) := by kernel_rfl
    rw [h] at hh
    simp at hh
    exact ⟨i, rfl, hh.1, hh.2.1, hh.2.2⟩
end Go.Proofs.YtjlmeegaiagfpaaGreatDoor.S1

namespace Go.Proofs.YtjlmeegaiagfpaaGreatDoor.S1
open Go.RowKit

end Go.Proofs.YtjlmeegaiagfpaaGreatDoor.S1

namespace Go.Proofs.YtjlmeegaiagfpaaGreatDoor.S1
open Go.RowKit Go.Shelf

theorem spans_in (f : Nat → Bool) (w : World) (hT : Tab w) : Calls Tryz.prog 67 #[(.agg #[.int .u64 (wd f 0), .int .u64 (wd f 1), .int .u64 (wd f 2), .int .u64 (wd f 3)])] w (GivesSpans w (spAll (el f 256))) := (callsIn_wide (n := 5)).1 (spans_wide 5 (by decide) f w hT)

end Go.Proofs.YtjlmeegaiagfpaaGreatDoor.S1
