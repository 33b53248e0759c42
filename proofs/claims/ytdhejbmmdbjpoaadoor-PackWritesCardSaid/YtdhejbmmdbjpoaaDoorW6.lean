/- The reader: take, Fail, Err, Left; Num. -/
import Derived.Test.YtdhejbmmdbjpoaaDoorW5
import Derived.ChangeAlike
namespace Go.Proofs.YtdhejbmmdbjpoaaDoor
open Go.RowKit
theorem take_in {w : World} {b : Nat} {x y : List Nat} (h : Rd w b (x ++ y)) :
    Calls Tryd.prog 33 #[.pointer (some ⟨b, 0, none⟩), .int .i64 x.length] w fun e w' => (∃ g off c, e = .returned (.slice (some ⟨g, off, none⟩) x.length c) ∧ Src w' (some ⟨g, off, none⟩) x.length c x ∧ g ≠ b) ∧ Rd w' b y ∧ Apt w w' b none := by
  obtain ⟨g, off, c, hb, hs, hgb⟩ := h
  have h0 : w.cell? ⟨b, 0, none⟩ = some (.slice (some ⟨g, off, none⟩) (x ++ y).length c) := (cell_of_row w b 0 _ _ _ hb).trans rfl
  have f0 : w.frozen? ⟨b, 0, none⟩ = false := frozen_of_row w b 0 _ _ hb
  have hcap := hs.cap
  rw [List.length_append] at h0 hcap
  have hF := fun w' => slice_fore g off (x.length + y.length) x.length c (by omega) hcap w'
  obtain ⟨off', hA, hoff⟩ := slice_aft g off (x.length + y.length) x.length c (by omega) hcap
  rw [show x.length + y.length - x.length = y.length by omega] at hA
  have hs1 : Src w (some ⟨g, off, none⟩) x.length c x := hs.head
  have hs2 : Src w (some ⟨g, off', none⟩) y.length (c - x.length) y := by
    rcases Nat.eq_zero_or_pos y.length with h | h
    · obtain rfl : y = [] := List.length_eq_zero_iff.1 h
      exact ⟨rfl, fun q hq => (by cases hq), fun e => (by cases e), fun ad e j u hu => (by simp at hu), by simp⟩
    · rw [hoff (by omega)]
      exact hs.tail
  replace hs1 := Lib.hid hs1
  replace hs2 := Lib.hid hs2
  clear hoff hs
  go_enter Tryd.func33, Tryd.ntmps33
  go_wp2
  go_ret
  obtain ⟨hgb, cs, hcs⟩ := hgb
  exact ⟨⟨g, off, c, rfl, hs1.out.set hgb _ _, hgb⟩, ⟨g, off', c - x.length, heap_set0 hb, hs2.out.set hgb _ _, hgb, cs, (Below.heap_setCell _ _ _ _ hgb).trans hcs⟩, (Apt.refl _ _ _).setCell _ _⟩
/-- A reader that failed with the error E. -/
def Rf (w : World) (b : Nat) (E : Value) : Prop := ∃ v, w.heap[b]? = some (.cells #[v, E] 61 (0, 0))
theorem ifail_ok {w : World} {b : Nat} {l : List Nat} (h : Rd w b l) (E : Value) :
    Calls Tryd.prog 32 #[.pointer (some ⟨b, 0, none⟩), .iface 78 E] w fun e w' => e = .returned (.tuple #[]) ∧ Rf w' b (.iface 78 E) ∧ Apt w w' b none := by
  obtain ⟨g, off, c, hb, hs, hgb⟩ := h
  have h1 : w.cell? ⟨b, 1, none⟩ = some .nilIface := (cell_of_row w b 1 _ _ _ hb).trans rfl
  have f1 : w.frozen? ⟨b, 1, none⟩ = false := frozen_of_row w b 1 _ _ hb
  go_enter Tryd.func32, Tryd.ntmps32
  go_wp2
  go_end0
  exact ⟨rfl, ⟨_, heap_set1 hb⟩, (Apt.refl _ _ _).setCell _ _⟩
theorem ierr_ok {w : World} {b : Nat} {l : List Nat} (h : Rd w b l) :
    Calls Tryd.prog 20 #[.pointer (some ⟨b, 0, none⟩)] w fun e w' => e = .returned .nilIface ∧ w = w' := by
  obtain ⟨g, off, c, hb, hs, hgb⟩ := h
  have h1 : w.cell? ⟨b, 1, none⟩ = some .nilIface := (cell_of_row w b 1 _ _ _ hb).trans rfl
  go_enter Tryd.func20, Tryd.ntmps20
  go_wp2
  go_ret
  exact ⟨rfl, rfl⟩
theorem ierr_failed {w : World} {b : Nat} {E : Value} (h : Rf w b (.iface 78 E)) :
    Calls Tryd.prog 20 #[.pointer (some ⟨b, 0, none⟩)] w fun e w' => e = .returned (.iface 78 E) ∧ w = w' := by
  obtain ⟨v, hb⟩ := h
  have h1 : w.cell? ⟨b, 1, none⟩ = some (.iface 78 E) := (cell_of_row w b 1 _ _ _ hb).trans rfl
  go_enter Tryd.func20, Tryd.ntmps20
  go_wp2
  go_ret
  exact ⟨rfl, rfl⟩
theorem ileft_ok {w : World} {b : Nat} {l : List Nat} (h : Rd w b l) :
    Calls Tryd.prog 21 #[.pointer (some ⟨b, 0, none⟩)] w fun e w' => e = .returned (.int .i64 l.length) ∧ w = w' := by
  obtain ⟨g, off, c, hb, hs, hgb⟩ := h
  have h1 : w.cell? ⟨b, 0, none⟩ = some (.slice (some ⟨g, off, none⟩) l.length c) := (cell_of_row w b 0 _ _ _ hb).trans rfl
  go_enter Tryd.func21, Tryd.ntmps21
  go_wp2
  go_ret
  exact ⟨rfl, rfl⟩
end Go.Proofs.YtdhejbmmdbjpoaaDoor
