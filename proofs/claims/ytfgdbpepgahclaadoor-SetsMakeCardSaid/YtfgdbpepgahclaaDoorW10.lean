/- alive of the statements of layer 1 returns true; it asks that math/bits' table lie in block 0. SetsMix returns true at every two sets. -/
import Derived.Test.YtfgdbpepgahclaaDoorW9
import Derived.Test.YtfgdbpepgahclaaDoorW6
namespace Go.Proofs.YtfgdbpepgahclaaDoor
open Go.RowKit Go.Shelf

theorem spans_in (f : Nat → Bool) (w : World) (hT : Tab w) : Calls Tryd.prog 23 #[(.agg #[.int .u64 (wd f 0), .int .u64 (wd f 1), .int .u64 (wd f 2), .int .u64 (wd f 3)])] w (GivesSpans w (spAll (el f 256))) := (callsIn_wide (n := 5)).1 (spans_wide 5 (by decide) f w hT)

theorem abc_el : spAll (el (spanS 97 99) 256) = [(97, 99)] := by decide +kernel
theorem abc_sz : szS (spanS 97 99) = 3 := by decide +kernel

set_option maxHeartbeats 2000000 in
theorem alive_in (w : World) (hT : Tab w) :
    Calls Tryd.prog 7 #[] w fun e w' => e = .returned (.bool true) ∧ Below w.heap.size w w' := by
  have hS := span_in 97 99 (by decide) (by decide)
  have hP := spans_in (spanS 97 99)
  have hL := len_in (spanS 97 99)
  rw [abc_el] at hP
  rw [abc_sz] at hL
  generalize spanS 97 99 = f at *
  replace hS := Lib.hid hS
  replace hP := Lib.hid hP
  replace hL := Lib.hid hL
  replace hT := Lib.hid hT
  go_enter Tryd.func7, Tryd.ntmps7
  go_wp2_with (go_at_call 12; refine (hS.out _).mono ?_; rintro e w1 ⟨rfl, hb1⟩; replace hb1 := Lib.hid hb1)
  have bS : SetBox (w1.alloc (.cells #[.int .u64 (wd f 0), .int .u64 (wd f 1), .int .u64 (wd f 2), .int .u64 (wd f 3)] 28)) w1.heap.size 28 f := Blk4.new _ _ _ _ _ _
  have hB1 : Below w.heap.size w (w1.alloc (.cells #[.int .u64 (wd f 0), .int .u64 (wd f 1), .int .u64 (wd f 2), .int .u64 (wd f 3)] 28)) := hb1.out.alloc hb1.out.size _
  generalize hW1 : w1.alloc (.cells #[.int .u64 (wd f 0), .int .u64 (wd f 1), .int .u64 (wd f 2), .int .u64 (wd f 3)] 28) = W1 at *
  have hT1 := hT.out.below hB1 hT.out.1
  replace hW1 := Lib.hid hW1
  refine (hP.out _ hT1).mono ?_
  rintro e w2 ⟨v, rfl, hrow, hb2⟩
  obtain ⟨g, cap, rfl⟩ := ownsRow_succ hrow
  have bS2 := bS.blk.below hb2 bS.blk.lt
  have hr0 := hrow.cellAt 0 (by simp)
  have hr1 := hrow.cellAt 1 (by simp)
  have hgl := (hrow.lt g rfl).2
  have hz : (spCells [(97, 99)]) = [.int .u8 97, .int .u8 99] := rfl
  rw [hz] at hr0 hr1
  simp only [List.getElem?_cons_zero, List.getElem?_cons_succ] at hr0 hr1
  obtain ⟨⟨f0, f1, f2, f3⟩, -⟩ := bS2.facts
  have hB2 := hB1.trans (hb2.mono hB1.size)
  replace hB2 := Lib.hid hB2
  clear hrow bS hb2 hz hT1 hB1
  go_wp2_with (go_at_call 25; refine (hL.out _).mono ?_; rintro e w3 ⟨rfl, hb3⟩; replace hr0 := (hb3.cell (p := ⟨g, 0, none⟩) hgl).trans hr0; replace hr1 := (hb3.cell (p := ⟨g, 1, none⟩) hgl).trans hr1; replace hb3 := Lib.hid hb3; clear f0 f1 f2 f3)
  go_ret
  exact ⟨rfl, hB2.out.trans (hb3.out.mono hB2.out.size)⟩

set_option maxRecDepth 10000 in
set_option maxHeartbeats 4000000 in
theorem mix_in (f g : Nat → Bool) (w : World) (hT : Tab w) :
    Calls Tryd.prog 4 #[(.agg #[.int .u64 (wd f 0), .int .u64 (wd f 1), .int .u64 (wd f 2), .int .u64 (wd f 3)]), (.agg #[.int .u64 (wd g 0), .int .u64 (wd g 1), .int .u64 (wd g 2), .int .u64 (wd g 3)])] w fun e w' => e = .returned (.bool true) ∧ Below w.heap.size w w' := by
  have hA := alive_in
  have heq := eq28
  have n0 : wd (minusS (spanS 0 255) f) 0 = wd (notS f) 0 := wd_congr fun i hi => by simp [minusS, andS, notS, spanS]; omega
  have n1 : wd (minusS (spanS 0 255) f) 1 = wd (notS f) 1 := wd_congr fun i hi => by simp [minusS, andS, notS, spanS]; omega
  have n2 : wd (minusS (spanS 0 255) f) 2 = wd (notS f) 2 := wd_congr fun i hi => by simp [minusS, andS, notS, spanS]; omega
  have n3 : wd (minusS (spanS 0 255) f) 3 = wd (notS f) 3 := wd_congr fun i hi => by simp [minusS, andS, notS, spanS]; omega
  have hsp := refspan_in 0 255 (by decide) (by decide)
  replace hA := Lib.hid hA
  replace hT := Lib.hid hT
  replace hsp := Lib.hid hsp
  replace heq := Lib.hid heq
  replace n0 := Lib.hid n0
  replace n1 := Lib.hid n1
  replace n2 := Lib.hid n2
  replace n3 := Lib.hid n3
  go_enter Tryd.func4, Tryd.ntmps4
  go_wp2_with fail
  obtain ⟨W, hW, bf, bg, hB⟩ := boxes2 w 28 28 (.int .u64 (wd f 0)) (.int .u64 (wd f 1)) (.int .u64 (wd f 2)) (.int .u64 (wd f 3)) (.int .u64 (wd g 0)) (.int .u64 (wd g 1)) (.int .u64 (wd g 2)) (.int .u64 (wd g 3))
  rw [hW]
  clear hW
  have hTW := hT.out.below hB hT.out.1
  refine (hA.out W hTW).mono ?_
  rintro e w1 ⟨rfl, hb⟩
  replace bf := bf.below hb bf.lt
  replace bg := bg.below hb bg.lt
  replace hB := hB.trans (hb.mono hB.size)
  clear hb hTW
  obtain ⟨f0, f1, f2, f3⟩ := bf.all
  obtain ⟨g0, g1, g2, g3⟩ := bg.all
  replace hB := Lib.hid hB
  clear bf bg
  go_wp2_with fail
  have heq := heq.out
  have n0 := n0.out
  have n1 := n1.out
  have n2 := n2.out
  have n3 := n3.out
  refine wp_region_bel (by kernel_rfl) (by kernel_rfl) ?_
  repeat (first
    | go_big_quiet_skip
    | (go_big_quiet_want
       first
         | (refine BigFrame.quiet_move _ rfl ?_
            simp only [Act.put, Act.eval, List.setIfInBounds_toArray, List.set_cons_zero, List.set_cons_succ, List.getD_toArray, List.getD_cons_zero, List.getD_cons_succ]
            go_big_quiet_on)
         | (refine BigFrame.quiet_assign _ rfl ?_
            simp only [Act.put, Act.eval, List.setIfInBounds_toArray, List.set_cons_zero, List.set_cons_succ, List.getD_toArray, List.getD_cons_zero, List.getD_cons_succ]
            go_big_quiet_on)
         | (refine quiet_call 16 ?_
            apply Exists.intro
            refine ⟨fun w' hC => ?_, ?_⟩
            · go_simp
              with_reducible rfl
            refine ⟨_, fun w' hC => Calls.bel hC (or_in f g _), ?_⟩
            simp only [Act.put, List.setIfInBounds_toArray, List.set_cons_zero, List.set_cons_succ]
            go_big_quiet_on)
         | (refine quiet_call 18 ?_
            apply Exists.intro
            refine ⟨fun w' hC => ?_, ?_⟩
            · go_simp
              with_reducible rfl
            refine ⟨_, fun w' hC => Calls.bel hC (and_in f g _), ?_⟩
            simp only [Act.put, List.setIfInBounds_toArray, List.set_cons_zero, List.set_cons_succ]
            go_big_quiet_on)
         | (refine quiet_call 19 ?_
            apply Exists.intro
            refine ⟨fun w' hC => ?_, ?_⟩
            · go_simp
              with_reducible rfl
            refine ⟨_, fun w' hC => Calls.bel hC (minus_in f g _), ?_⟩
            simp only [Act.put, List.setIfInBounds_toArray, List.set_cons_zero, List.set_cons_succ]
            go_big_quiet_on)
         | (refine quiet_call 20 ?_
            apply Exists.intro
            refine ⟨fun w' hC => ?_, ?_⟩
            · go_simp
              with_reducible rfl
            refine ⟨_, fun w' hC => Calls.bel hC (not_in f _), ?_⟩
            simp only [Act.put, List.setIfInBounds_toArray, List.set_cons_zero, List.set_cons_succ]
            go_big_quiet_on)
         | (refine quiet_call 11 ?_
            apply Exists.intro
            refine ⟨fun w' hC => ?_, ?_⟩
            · go_simp
              with_reducible rfl
            refine ⟨_, fun w' hC => Calls.bel hC (hsp.out _), ?_⟩
            simp only [Act.put, List.setIfInBounds_toArray, List.set_cons_zero, List.set_cons_succ]
            go_big_quiet_on)
         | (refine quiet_call 17 ?_
            apply Exists.intro
            refine ⟨fun w' hC => ?_, ?_⟩
            · go_simp
              with_reducible rfl
            refine ⟨_, fun w' hC => Calls.bel hC (by first | with_reducible exact both0_in _ _ _ | with_reducible exact both1_in _ _ _ | with_reducible exact both2_in _ _ _), ?_⟩
            simp only [Act.put, List.setIfInBounds_toArray, List.set_cons_zero, List.set_cons_succ]
            go_big_quiet_on)
         | (refine quiet_val ?_
            apply Exists.intro
            refine ⟨fun w' hC => ?_, ?_⟩
            · go_simp
              with_reducible rfl
            simp only [Act.put, List.setIfInBounds_toArray, List.set_cons_zero, List.set_cons_succ]
            go_big_quiet_on)))
  refine wpQuiet_nil ?_
  intro wq hq

  clear f0 f1 f2 f3 g0 g1 g2 g3 heq n0 n1 n2 n3
  go_wp2
  go_ret
  exact ⟨rfl, hB.out.trans (hq.mono hB.out.size)⟩
end Go.Proofs.YtfgdbpepgahclaaDoor
