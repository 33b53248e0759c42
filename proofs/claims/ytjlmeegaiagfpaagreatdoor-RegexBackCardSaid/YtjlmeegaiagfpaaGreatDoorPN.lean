/- A tree that came in. -/
import Derived.Test.YtjlmeegaiagfpaaGreatDoorRows
import Derived.Test.YtjlmeegaiagfpaaGreatDoorLP
import Derived.Test.YtjlmeegaiagfpaaGreatDoorS7K
namespace Go.Proofs.YtjlmeegaiagfpaaGreatDoor
open Go.ChangeShapes Go.WideShapes Go.ChangeAt Go.WideMaps Go.WideElems Go.RowKit
open Go.Tree7
theorem fieldsN : (match Tryz.prog.underlying 27 with | some (.struct fs) => (fs.toList.map fun f => (f.type, f.offset)) == [(3, 0), (24, 1), (25, 5), (3, 6), (3, 7), (9, 8)] | _ => false) = true := by kernel_rfl
set_option maxRecDepth 100000 in
theorem shapeN : ∃ f0 f1 f2 f3 f4 f5, Shape Tryz.prog 27 3 24 22 25 9 f0 f1 f2 f3 f4 f5 := by
  have h := fieldsN
  cases hu : Tryz.prog.underlying 27 with
  | none => rw [hu] at h; cases h
  | some u =>
    rw [hu] at h
    cases u with
    | struct fs =>
      obtain ⟨l⟩ := fs
      have h2 : (l.map fun f => (f.type, f.offset)) = [(3, 0), (24, 1), (25, 5), (3, 6), (3, 7), (9, 8)] := by simpa using h
      have hl : l.length = 6 := by have := congrArg List.length h2; simpa using this
      match l, hl, h2, hu with
      | [f0, f1, f2, f3, f4, f5], _, h2, hu =>
        simp only [List.map_cons, List.map_nil, List.cons.injEq, Prod.mk.injEq, and_true] at h2
        obtain ⟨y0, y1, y2, y3, y4, y5⟩ := h2
        exact ⟨f0, f1, f2, f3, f4, f5, ⟨hu, by kernel_rfl, y0, y1, y2, y3, y4, y5, by kernel_rfl, by kernel_rfl, by kernel_rfl, by kernel_rfl, by kernel_rfl, by kernel_rfl, by kernel_rfl, by kernel_rfl, by kernel_rfl, by kernel_rfl⟩⟩
    | _ => simp at h
set_option maxRecDepth 100000 in
theorem open_node {H : Type} {enc : TypeId × Value → H} {W : World} {r : Reach} {b0 : Nat} {v : Value} {d : DataW H} {p : List MemPlace} (hv : Value.okWide Tryz.prog W r b0 27 v)
    (h : DataW.Trod enc Tryz.prog W 0 (fun _ => true) true 27 v d p) : ∃ t : T, v = .agg t.cells.toArray ∧ T.In W W.heap.size t := by
  obtain ⟨f0, f1, f2, f3, f4, f5, S⟩ := shapeN
  obtain ⟨cs, rfl, hsz⟩ : ∃ cs, v = .agg cs ∧ cs.size = Tryz.prog.cellsOf 27 := by
    simp only [Value.okWide, S.hn] at hv
    obtain ⟨cs, h1, h2, _⟩ := hv
    exact ⟨cs, h1, h2⟩
  obtain ⟨fuel, hf⟩ := h
  obtain ⟨t, h1, h2⟩ := open_tree S fuel _ _ hf
  refine ⟨t, ?_, h2⟩
  rw [← h1]
  simp [Value.cells]
end Go.Proofs.YtjlmeegaiagfpaaGreatDoor
