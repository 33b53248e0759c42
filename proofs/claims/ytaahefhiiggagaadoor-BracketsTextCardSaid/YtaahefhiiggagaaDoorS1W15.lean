/- The reference's Spans of layer 1, walked. -/
import Derived.Test.YtaahefhiiggagaaDoorS1W14
namespace Go.Proofs.YtaahefhiiggagaaDoor.S1
open Go.RowKit Go.Shelf

set_option maxRecDepth 10000 in
set_option maxHeartbeats 4000000 in
theorem refspans_aux (N : Nat) (hN : Hid (N = 256)) (f : Nat → Bool) (w : World) : Calls Tryd.prog 28 #[(.agg #[.int .u64 (wd f 0), .int .u64 (wd f 1), .int .u64 (wd f 2), .int .u64 (wd f 3)])] w (GivesInts w (en f N)) := by
  obtain ⟨i0, hi, hz0, hz1, hz2⟩ := info_parts info3
  unfold GivesInts
  go_enter Tryd.func28, Tryd.ntmps28
  go_wp2
  obtain ⟨W, hW, bf, hB⟩ := boxes1 w 23 (.int .u64 (wd f 0)) (.int .u64 (wd f 1)) (.int .u64 (wd f 2)) (.int .u64 (wd f 3))
  have hs : W.heap.size = w.heap.size + 1 := by rw [← hW]; simp
  rw [hW]
  clear hW
  have hrow : (W.alloc (.cells #[] 3)).ownsRow w.heap.size 3 1 (.slice (some ⟨w.heap.size + 1, 0, none⟩) 0 0) (en f 0).length ((en f 0).map encI) := by
    have := World.ownsRow_lit (base := w.heap.size) (e := 3) (size := 1) W #[] 0 (by omega) (by decide) rfl
    rw [hs] at this
    simpa [en] using this
  have bf := bf.alloc (.cells #[] 3)
  have hB := hB.alloc hB.size (.cells #[] 3)
  revert bf hB hrow
  generalize W.alloc (.cells #[] 3) = W2
  intro hrow bf hB
  go_loopw [3, 4] (fun v i wr => ∃ k : Nat, k ≤ 256 ∧ i = .int .i64 k ∧ wr.ownsRow w.heap.size 3 1 v (en f k).length ((en f k).map encI) ∧ SetBox wr w.heap.size 23 f ∧ Below w.heap.size w wr) (fun _ i _ => 256 - (intOf i).toNat)
  case atStart => exact ⟨0, by omega, rfl, hrow, bf, hB⟩
  case round =>
    clear hrow bf hB
    obtain ⟨k, hk, rfl, hrow, bf, hB⟩ := hrel
    by_cases hlt : k < 256
    · have hlen := en_len f k
      have hk8 : k ≤ 255 := by omega
      replace bf := bf.blk
      obtain ⟨⟨f0, f1, f2, f3⟩, -⟩ := bf.facts
      cases hf : f k
      · have hc := has_ref_int f k false (by omega) (by omega) hf
        have he : en f (k + 1) = en f k := by rw [en, if_neg (by simp [hf])]
        replace hc := Lib.hid hc
        replace he := Lib.hid he
        clear hf
        go_wp2_with (go_at_call 30; refine (hc.out _).mono ?_; rintro e w' ⟨rfl, hb⟩; replace hrow := ownsRow_bel hrow hb; replace bf := bf.bel hb; replace hB := hB.trans (hb.mono hB.size); clear hb f0 f1 f2 f3)
        go_roundw
        case rel => exact ⟨k + 1, by omega, by go_num, by rw [he.out]; exact hrow, bf, hB⟩
        case measure => simp [intOf]; omega
      · have hc := has_ref_int f k true (by omega) (by omega) hf
        have he : en f (k + 1) = en f k ++ enA f k ++ enZ f k := by rw [en, if_pos hf]
        replace hc := Lib.hid hc
        replace he := Lib.hid he
        clear hf
        generalize hl : (en f k).length = m at *
        generalize hxs : (en f k).map encI = xs at *
        replace hl := Lib.hid hl
        replace hxs := Lib.hid hxs
        -- the three ways at the beginning
        obtain ⟨z0, z1, hA, hm0, hm⟩ : ∃ (z0 z1 : Bool), Hid (enA f k = if z0 || !z1 then [k] else []) ∧ ((k : Int) == 0) = z0 ∧ (z0 = false → 1 ≤ k ∧ ∀ w, Calls Tryd.prog 30 #[(.agg #[.int .u64 (wd f 0), .int .u64 (wd f 1), .int .u64 (wd f 2), .int .u64 (wd f 3)]), .int .i64 ((k : Int) - 1)] w fun e w' => e = .returned (.bool z1) ∧ Below w.heap.size w w') := by
          by_cases h : k = 0
          · exact ⟨true, true, Lib.hid (by unfold enA; rw [if_pos (.inl h)]; rfl), by simpa using h, fun h => by cases h⟩
          · refine ⟨false, f (k - 1), Lib.hid ?_, by simpa using h, fun _ => ⟨by omega, has_ref_int f _ _ (by omega) (by omega) (by congr 1; omega)⟩⟩
            unfold enA
            cases f (k - 1) <;> simp [h]
        obtain ⟨y0, y1, hZ, hp0, hp⟩ : ∃ (y0 y1 : Bool), Hid (enZ f k = if y0 || !y1 then [k] else []) ∧ ((k : Int) == 255) = y0 ∧ (y0 = false → k ≤ 254 ∧ ∀ w, Calls Tryd.prog 30 #[(.agg #[.int .u64 (wd f 0), .int .u64 (wd f 1), .int .u64 (wd f 2), .int .u64 (wd f 3)]), .int .i64 ((k : Int) + 1)] w fun e w' => e = .returned (.bool y1) ∧ Below w.heap.size w w') := by
          by_cases h : k = 255
          · exact ⟨true, true, Lib.hid (by unfold enZ; rw [if_pos (.inl h)]; rfl), by simp; omega, fun h => by cases h⟩
          · refine ⟨false, f (k + 1), Lib.hid ?_, by simp; omega, fun _ => ⟨by omega, has_ref_int f _ _ (by omega) (by omega) (by congr 1)⟩⟩
            unfold enZ
            cases f (k + 1) <;> simp [h]
        cases z0 <;> cases y0 <;> cases z1 <;> cases y1
        all_goals
          simp only [forall_const, reduceCtorEq, false_implies] at hm hp
          replace hm := Lib.hid hm
          replace hp := Lib.hid hp
          go_wp2_with (first
            | (go_at_call 30; first | (with_reducible refine (hc.out _).mono ?_) | (with_reducible refine (hm.out.2 _).mono ?_) | (with_reducible refine (hp.out.2 _).mono ?_)
               rintro e w' ⟨rfl, hb⟩; replace hrow := ownsRow_bel hrow hb; replace bf := Blk4.bel bf hb; replace hB := Below.trans hB (hb.mono hB.size); clear hb; obtain ⟨⟨f0, f1, f2, f3⟩, -⟩ := bf.facts)
            | (at_builtin; refine wpList_append_own _ rfl _ _ 61 rfl w.heap.size 3 i0 (.int .i64 0) 1 8 Tryd.underlying61 hi hz0 hz1 hz2 rfl (by decide) _ _ _ rfl (hrow.alloc _) ⟨_, 0, none⟩ 1 1 [.int .i64 (k : Int)] rfl rfl (cell_one_new _ _ _) (by simp [Value.oneCell']) (by simp [maxLen]; omega) (by omega) (by have := hB.size; simp; omega) ?_; intro v' w1 hown' hgrow _; replace bf := Blk4.grown bf hrow (by decide) hgrow; replace hB := below_grown hB hB.size hrow hgrow; replace hrow := hown'; clear hgrow hown'; obtain ⟨⟨f0, f1, f2, f3⟩, -⟩ := bf.facts))
          go_roundw
          case rel => exact ⟨k + 1, by omega, by go_num, by rw [he.out, hA.out, hZ.out]; simp only [List.length_append, List.map_append, hl.out, hxs.out]; simpa [encI] using hrow, bf, hB⟩
          case measure => simp [intOf]; omega
    · have e : k = N := by have := hN.out; omega
      subst e
      clear bf
      replace hB := Lib.hid hB
      replace hrow := Lib.hid hrow
      go_wp2
      go_ret
      exact ⟨_, rfl, hrow.out, hB.out⟩
theorem refspans_in (f : Nat → Bool) (w : World) : Calls Tryd.prog 28 #[(.agg #[.int .u64 (wd f 0), .int .u64 (wd f 1), .int .u64 (wd f 2), .int .u64 (wd f 3)])] w (GivesInts w (flat (spAll (el f 256)))) := by
  rw [← en_all]; exact refspans_aux 256 (Lib.hid rfl) f w
end Go.Proofs.YtaahefhiiggagaaDoor.S1
