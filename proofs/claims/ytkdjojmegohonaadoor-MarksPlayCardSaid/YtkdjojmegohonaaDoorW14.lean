/- The contract of Copy of the document's marks. -/
import Derived.Test.YtkdjojmegohonaaDoorW13
import Derived.Laws.CopyOwn
import Derived.Deep.RegionLaw
namespace Go.Proofs.YtkdjojmegohonaaDoor
open Go.RowKit
/-- A copy into a row of the call's own, told by which row is written. -/
theorem step_copy_grown {P : Program} {ops : Array Oper} {o : Oper} {a : Act} {w : World} {K : Act → World → Prop} {Q : Exit → Act → World → Prop} {E : Prop} (hgd : o.guard = none) (d s : Operand) (dT sT : TypeId)
    (ho : o.op = .call { callee := .builtin .copy, args := #[d, s], argTypes := #[dT, sT] }) (elem : TypeId) (hu : P.underlying dT = some (.slice elem)) (hsz : (P.info? elem).map (·.size) = some 1)
    (g gs n dCap sCap : Nat) (hd : a.eval d = .slice (some ⟨g, 0, none⟩) n dCap) (hs : a.eval s = .slice (some ⟨gs, 0, none⟩) n sCap)
    (cur cs : List Value) (t : TypeId) (hg : w.heap[g]? = some (.cells cur.toArray t (0, 0))) (hn : cs.length = n) (hc : cur.length = n)
    (hsrc : ∀ j v, cs[j]? = some v → w.cell? ((⟨gs, 0, none⟩ : Addr).add j) = some v) (h1 : ∀ v ∈ cs, v.oneCell' = true)
    (h : ∀ w', w'.heap[g]? = some (.cells cs.toArray t (0, 0)) → w.grownBy w' (some g) → K (a.put o.dst (goInt cs.length)) w') :
    if Region.wanted o (yielded ops a.tmps) = true then Oper.wp P o a w K Q else E := by
  rw [if_pos (by simp [Region.wanted, hgd])]
  rcases Nat.eq_zero_or_pos n with h0 | h0
  · obtain rfl : cs = [] := List.eq_nil_of_length_eq_zero (by omega)
    obtain rfl : cur = [] := List.eq_nil_of_length_eq_zero (by omega)
    subst h0
    have hrun := run_copy_none (P := P) w dT sT o.type elem (some ⟨g, 0, none⟩) (some ⟨gs, 0, none⟩) 0 dCap 0 sCap hu hsz rfl
    unfold Oper.wp
    simp [execOp, ho, resolve, invoke, builtin, hd, hs, hrun, Result.andThen]
    exact h w hg (grown_refl w)
  · have hrun := run_copy_row (P := P) w dT sT o.type elem g 0 n dCap ⟨gs, 0, none⟩ n sCap cur.toArray t cs hu hsz hg (by rw [hn]; exact (Nat.min_self n).symm) hsrc (by simp; omega) h1
    have e : (cur.toArray.toList.take 0 ++ cs ++ cur.toArray.toList.drop (0 + cs.length)) = cs := by simp; omega
    unfold Oper.wp
    simp [execOp, ho, resolve, invoke, builtin, hd, hs, hrun, Result.andThen]
    refine h _ ?_ ⟨rfl, rfl, rfl, by simp, fun k _ hk => setRow_other w g k _ fun e => hk (by simp [e])⟩
    rw [setRow_heap w g _ _ t _ hg]
    have : cur.drop cs.length = [] := List.drop_eq_nil_of_le (by omega)
    simp [this]
theorem wds_len (f : Nat → Bool) (k : Nat) : (wds f k).toList.length = k := by simp [wds]
theorem wds_one (f : Nat → Bool) (k : Nat) : ∀ v ∈ (wds f k).toList, v.oneCell' = true := by
  intro v hv
  unfold wds at hv
  obtain ⟨j, _, rfl⟩ := List.mem_map.1 hv
  rfl
set_option maxHeartbeats 1000000 in
theorem copy_in {w : World} {b g n : Nat} {f : Nat → Bool} (h : Mk w b g n f) : Calls Tryd.prog 13 #[.pointer (some ⟨b, 0, none⟩)] w fun e w' => ∃ b' g', e = .returned (.pointer (some ⟨b', 0, none⟩)) ∧ Mk w' b' g' n f ∧ w.heap.size ≤ b' ∧ w.heap.size ≤ g' ∧ Below w.heap.size w w' := by
  obtain ⟨i0, hi, hz0, hz1, hz2⟩ := info_parts info49
  have hc0 := h.c0
  have hc1 := h.c1
  have hle := kw_max h.le
  have hlt := h.lt
  have hb := hlt.1
  replace h := Lib.hid h
  have hmk := fun (w : World) => run_make (P := Tryd.prog) w 46 49 i0 (.int .u64 0) u46 hi hz0 .i64 .i64 (kw n : Int) (kw n : Int) (by omega) (Int.le_refl _) (by rw [hz2]; omega) (by omega)
  generalize hK : kw n = K at *
  replace hK := Lib.hid hK
  clear hlt
  go_enter Tryd.func13, Tryd.ntmps13
  go_wp2
  go_region
  go_wp2
  have H := heap2 w (Obj.cells (madeCells #[Value.int IntKind.u64 0] K) 49) (Obj.cells #[Value.int IntKind.i64 n, Value.slice (some { block := w.heap.size, off := 0 }) K K] 48)
  have hB : Below w.heap.size w ((w.alloc (Obj.cells (madeCells #[Value.int IntKind.u64 0] K) 49)).alloc (Obj.cells #[Value.int IntKind.i64 n, Value.slice (some { block := w.heap.size, off := 0 }) K K] 48)).drew :=
    (((Below.refl _ _).alloc (Nat.le_refl _) _).alloc (by simp) _).drew
  have hd0 : ((w.alloc (Obj.cells (madeCells #[Value.int IntKind.u64 0] K) 49)).alloc (Obj.cells #[Value.int IntKind.i64 n, Value.slice (some { block := w.heap.size, off := 0 }) K K] 48)).drew.heap[w.heap.size]? = some (.cells (List.replicate K (Value.int IntKind.u64 0)).toArray 49 (0, 0)) := by
    rw [heap_drew, H.1, ← toList_madeCells_one]
  have hd1 : ((w.alloc (Obj.cells (madeCells #[Value.int IntKind.u64 0] K) 49)).alloc (Obj.cells #[Value.int IntKind.i64 n, Value.slice (some { block := w.heap.size, off := 0 }) K K] 48)).drew.heap[w.heap.size + 1]? = some (Obj.cells #[Value.int IntKind.i64 n, Value.slice (some { block := w.heap.size, off := 0 }) K K] 48 (0, 0)) := by
    rw [heap_drew, H.2]
  clear H
  revert hB hd0 hd1
  generalize ((w.alloc (Obj.cells (madeCells #[Value.int IntKind.u64 0] K) 49)).alloc (Obj.cells #[Value.int IntKind.i64 n, Value.slice (some { block := w.heap.size, off := 0 }) K K] 48)).drew = W2
  intro hB hd0 hd1
  have hM := h.out.bel hB (Nat.le_refl _)
  have hs1 := hM.c1
  have hx1 : W2.cell? ⟨w.heap.size + 1, 1, none⟩ = some (.slice (some ⟨w.heap.size, 0, none⟩) K K) := by rw [cell_of_row W2 _ 1 _ _ _ hd1]; rfl
  rw [hK.out] at hs1
  have hsrc : Hid (∀ j v, (wds f K).toList[j]? = some v → W2.cell? ((⟨g, 0, none⟩ : Addr).add j) = some v) := Lib.hid fun j v hv => by
    have hrow := hM.row
    rw [hK.out] at hrow
    rw [Addr.add_lit, Nat.zero_add, cell_of_row W2 g j _ _ _ hrow]
    simpa using hv
  replace hM := Lib.hid hM
  replace hB := Lib.hid hB
  replace hd0 := Lib.hid hd0
  replace hd1 := Lib.hid hd1
  clear hmk hc0 hc1
  go_region_law (refine step_copy_grown rfl (.tmp 21) (.tmp 25) 46 46 rfl 49 u46 (by kernel_rfl) w.heap.size g K K K rfl rfl (List.replicate K (Value.int IntKind.u64 0)) (wds f K).toList 49 hd0.out (wds_len f K) (by simp) hsrc.out (wds_one f K) ?_; intro w4 hg4 hgr4)
  all_goals
    replace hg4 := Lib.hid hg4
    replace hgr4 := Lib.hid (grown_trans (grown_drew W2) hgr4)
    go_wp2
    go_ret
    refine ⟨w.heap.size + 1, w.heap.size, rfl, ⟨?_, ?_, by omega, h.out.top, h.out.le⟩, by omega, Nat.le_refl _, hB.out.grown hgr4.out hB.out.size fun k e => by cases e; exact Nat.le_refl _⟩
    · rw [hgr4.out.block _ (lt_of_block hd1.out) (by simp), hd1.out, hK.out]
    · rw [hg4.out, hK.out]
end Go.Proofs.YtkdjojmegohonaaDoor
