/- MatchBest: texts merged. -/
import Derived.Test.YtobbifhflnlplaaDoorPN
import Derived.Test.YtobbifhflnlplaaDoorBB
import Derived.Deep.Slices
namespace Go.Proofs.YtobbifhflnlplaaDoor
open Go.ChangeShapes Go.WideShapes Go.ChangeAt Go.WideMaps Go.WideElems Go.RowKit
open Go.Tree7
open S7
theorem und_ns : Tryd.prog.underlying 25 = some (.slice 27) := by kernel_rfl
set_option maxRecDepth 100000 in
theorem open_nodes {H : Type} {enc : TypeId × Value → H} {W : World} {fuel : Nat} {v : Value} {x : DataW H × List MemPlace}
  (hf : DataW.trod enc Tryd.prog W 0 (fun _ => true) true fuel 25 [v] = some x) : ∃ (p : Option Addr) (cap : Nat) (ks : List T), v = .slice p ks.length cap ∧ RowIn W p ks ∧ (∀ x ∈ ks, T.In W W.heap.size x) ∧ ks.length ≤ 9223372036854775807 := by
 obtain ⟨f0, f1, f2, f3, f4, f5, S⟩ := shapeN
 rcases DataW.trod_slice und_ns hf with ⟨e2, -⟩ | ⟨a, len, cap, elems, rest, n', hn', e2, -, hb, hl, hm, hel, hat, -, -⟩
 ·simp only [List.cons.injEq, and_true] at e2
  subst e2
  exact ⟨none, 0, [], rfl, fun i hi => by simp at hi, fun t ht => by simp at ht, by simp⟩
 ·simp only [List.cons.injEq, and_true] at e2
  subst e2
  have each : ∀ i, i < len → ∃ t : T, (∀ j, j < 9 → W.cell? (a.add (i * 9 + j)) = t.cells[j]?) ∧ T.In W W.heap.size t := by
   intro i hi
   have h1 := hat i hi
   rw [List.getElem?_eq_getElem (by omega), S.hc] at h1
   obtain ⟨cs', h2, h3⟩ := Option.bind_eq_some_iff.1 h1
   obtain ⟨t, rfl, ht⟩ := open_tree S n' cs' _ h3
   obtain ⟨-, -, h4⟩ := World.cells?_some h2
   refine ⟨t, fun j hj => ?_, ht⟩
   rw [← h4 j hj, Go.Deep.add_add]
  obtain ⟨F, hF⟩ : ∃ F : Nat → T, ∀ i, i < len → (∀ j, j < 9 → W.cell? (a.add (i * 9 + j)) = (F i).cells[j]?) ∧ T.In W W.heap.size (F i) := by
   have : Inhabited T := ⟨.mk 0 0 0 0 0 none 0 0 0 ⟨#[]⟩ []⟩
   exact Go.Deep.choose_lt each
  have hkl : ((List.range len).map F).length = len := by simp
  have hT : T.In W W.heap.size (.mk 2 0 0 0 0 (some a) cap 0 0 ⟨#[]⟩ ((List.range len).map F)) := by
   refine .mk (by rw [hkl]; exact hl) hm ⟨by decide, ⟨by decide, by decide, by decide, by decide⟩, by decide, by decide, by decide⟩ (fun i hi => ⟨a, rfl, ?_, fun j hj => ?_⟩) (fun t ht => ?_)
   ·have hi' : i < len := by rw [hkl] at hi; exact hi
    have h1 := (hF i hi').1 0 (by omega)
    rw [List.getElem?_eq_getElem (by rw [T.cells_length]; omega)] at h1
    have := World.block_lt_of_cell? _ _ h1
    unfold Addr.add at this
    split at this <;> simpa using this
   ·have hi' : i < len := by rw [hkl] at hi; exact hi
    rw [(hF i hi').1 j hj]
    simp
   ·obtain ⟨i, hi, rfl⟩ := List.mem_map.1 ht
    exact (hF i (List.mem_range.1 hi)).2
  refine ⟨some a, cap, (List.range len).map F, by rw [hkl], fun i hi => ?_, fun t ht => kid_in10 hT ht, by rw [hkl]; unfold maxLen at hm; omega⟩
  obtain ⟨b, o, -, hp, hbl, hc⟩ := T.kid hT hi
  exact ⟨b, o, hp, hbl, hc⟩
set_option maxRecDepth 100000 in
theorem open_list10 {H : Type} {enc : TypeId × Value → H} {W : World} {r : Reach} {b0 : Nat} {v : Value} {d : DataW H} {p : List MemPlace} (hv : Value.okWide Tryd.prog W r b0 25 v)
  (h : DataW.Trod enc Tryd.prog W 0 (fun _ => true) true 25 v d p) : ∃ (p : Option Addr) (cap : Nat) (ks : List T), v = .slice p ks.length cap ∧ RowIn W p ks ∧ (∀ x ∈ ks, T.In W W.heap.size x) ∧ ks.length ≤ 9223372036854775807 := by
 obtain ⟨a, len, cap, rfl⟩ := okWide_slice und_ns hv
 obtain ⟨fuel, hf⟩ := h
 exact open_nodes hf
end Go.Proofs.YtobbifhflnlplaaDoor
