/- What the condition on math/bits' table gives the walks: its cells. Arguments of type Set, opened. -/
import Derived.Test.YtkdjojmegohonaaDoorRows
import Derived.Test.YtkdjojmegohonaaDoorTie
import Derived.Test.YtkdjojmegohonaaDoorCards
import Derived.Test.YtkdjojmegohonaaDoorW5
import Derived.ProofKit
import Derived.LaidMore
import Derived.OpenShut
import Derived.Stop.Joined
import Derived.Below
import Derived.ChangeOld
import Derived.Laws.IdiomArrays
import Derived.Carry
namespace Go.Proofs.YtkdjojmegohonaaDoor
open Go.ChangeShapes Go.WideShapes Go.ChangeAt Go.WideMaps Go.WideElems Go.RowKit

theorem own : ownKnob Tryd.prog.godebug = none := by kernel_rfl
theorem laidOut : laidOutB Tryd.prog = true := by kernel_rfl
theorem gTab : Tryd.prog.globalNamed "math/bits.deBruijn64tab" = some 1 := by kernel_rfl
theorem tTab : (Tryd.prog.globals[1]?).map (·.type) = some 54 := by kernel_rfl
theorem u54 : Tryd.prog.underlying 54 = some (.array 64 5) := by kernel_rfl
theorem c5 : Tryd.prog.cellsOf 5 = 1 := by kernel_rfl
theorem u5 : Tryd.prog.underlying 5 = some (.int .u8) := by kernel_rfl

/-- The door's own heap meets the condition. -/
theorem door_met (os : Os) (args : Array Value) : laidMetH Tryd.prog Rows.marksKeysRow.laid ((World.doorLaid Tryd.prog 400 os).forCall (fun _ _ => 0) ⟨#[], args, []⟩).memory :=
  laidMetH_of_parts3 (fuel := 8) (laidMet_of_run' 8 (by kernel_rfl) (by kernel_rfl)) (by kernel_rfl) (by kernel_rfl)

def tabL : List Nat := [0, 1, 56, 2, 57, 49, 28, 3, 61, 58, 42, 50, 38, 29, 17, 4, 62, 47, 59, 36, 45, 43, 51, 22, 53, 39, 33, 30, 24, 18, 12, 5, 63, 55, 48, 27, 60, 41, 37, 16, 46, 35, 44, 21, 52, 32, 23, 11, 54, 26, 40, 15, 34, 20, 31, 10, 25, 14, 19, 9, 13, 8, 7, 6]
theorem tab_ix : ∀ t : Nat, t < 64 → tabL[tabIx t]? = some t := by decide +kernel

theorem tab_of_laid {W : World} (h : laidMetH Tryd.prog Rows.marksKeysRow.laid W) : Tab W := by
  rw [MakeChecks.laidMetH_plain _ _ _ (by kernel_rfl)] at h
  obtain ⟨ps, ⟨g0, t0, cs0, f0, p0, q0, hg0, ht0, hv0, hd0, _, _⟩, _⟩ := h
  obtain rfl := Option.some.inj (gTab.symm.trans hg0)
  obtain rfl := Option.some.inj (tTab.symm.trans ht0)
  obtain ⟨xs, m1, rfl, hx1, hlen, hn, hel⟩ := DataW.trod_array u54 hd0
  simp only [Prod.mk.injEq] at hx1
  have hd : (xs.map (·.1)) = tabL.map fun n : Nat => (DataW.lit (.int .u8 (n : Int)) : DataW _) := by
    have := hx1.1
    simp only [Rows.laid_math_bits_deBruijn64tab, DataW.agg.injEq] at this
    rw [← this]
    rfl
  have cells : ∀ i : Nat, i < 64 → ∀ n : Nat, tabL[i]? = some n → W.cell? ⟨1, i, none⟩ = some (.int .u8 (n : Int)) := by
    intro i hi n hin
    have h1 := hel i hi
    have hxi : (xs.map (·.1))[i]? = some (.lit (.int .u8 (n : Int))) := by rw [hd]; simp [hin]
    rw [List.getElem?_map] at hxi
    cases hx : xs[i]? with
    | none => rw [hx] at hxi; cases hxi
    | some y =>
      rw [hx] at h1 hxi
      simp only [Option.map_some, Option.some.injEq] at hxi
      obtain ⟨k, e1, e2, _⟩ := DataW.trod_int u5 h1
      rw [e2] at hxi
      have hk : k = (n : Int) := by simpa using hxi
      subst hk
      rw [World.var?_cell gTab hv0 i]
      rw [c5] at e1
      have e3 : ((cs0.toList.drop (i * 1)).take 1)[0]? = some (.int .u8 (n : Int)) := by rw [e1]; rfl
      rw [List.getElem?_take, List.getElem?_drop] at e3
      simpa using e3
  exact ⟨World.block_lt_of_cell? _ _ (cells 0 (by decide) 0 (by decide)), fun t ht => cells _ (idx_lt t ht) t (tab_ix t ht)⟩
end Go.Proofs.YtkdjojmegohonaaDoor
