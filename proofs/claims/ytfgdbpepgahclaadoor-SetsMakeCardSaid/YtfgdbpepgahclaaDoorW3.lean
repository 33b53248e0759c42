/- Contracts of Minus, Has, All, Span, Of and Len of package sets: each returns what the sets of its arguments say and touches no old memory. Of asks that its list lie in memory. -/
import Derived.Test.YtfgdbpepgahclaaDoorW2
import Derived.Test.YtfgdbpepgahclaaDoorB
import Derived.Outline
import Derived.Lib.Hide
namespace Go.Proofs.YtfgdbpepgahclaaDoor
open Go.RowKit
def minusS (f g : Nat → Bool) : Nat → Bool := andS f (notS g)

set_option maxHeartbeats 1000000 in
theorem minus_in (f g : Nat → Bool) (w : World) :
    Calls Tryd.prog 19 #[(.agg #[.int .u64 (wd f 0), .int .u64 (wd f 1), .int .u64 (wd f 2), .int .u64 (wd f 3)]), (.agg #[.int .u64 (wd g 0), .int .u64 (wd g 1), .int .u64 (wd g 2), .int .u64 (wd g 3)])] w fun e w' => e = .returned (.agg #[.int .u64 (wd (minusS f g) 0), .int .u64 (wd (minusS f g) 1), .int .u64 (wd (minusS f g) 2), .int .u64 (wd (minusS f g) 3)]) ∧ Below w.heap.size w w' := by
  go_enter Tryd.func19, Tryd.ntmps19
  go_wp2
  obtain ⟨W, hW, bf, bg, br, hB⟩ := boxes3 w 28 28 28 (.int .u64 (wd f 0)) (.int .u64 (wd f 1)) (.int .u64 (wd f 2)) (.int .u64 (wd f 3)) (.int .u64 (wd g 0)) (.int .u64 (wd g 1)) (.int .u64 (wd g 2)) (.int .u64 (wd g 3)) (.int .u64 0) (.int .u64 0) (.int .u64 0) (.int .u64 0)
  rw [hW]
  clear hW
  obtain ⟨f0, f1, f2, f3⟩ := bf.all
  obtain ⟨g0, g1, g2, g3⟩ := bg.all
  refine wp_region_bel_tail 4 (by kernel_rfl) (by kernel_rfl) ?_
  simp only [List.take_succ_cons, List.take_zero, List.drop_succ_cons, List.drop_zero]
  repeat (first
    | go_big_quiet_skip
    | (go_big_quiet_want
       first
         | (refine BigFrame.quiet_move _ rfl ?_
            simp only [Act.put, Act.eval, List.setIfInBounds_toArray, List.set_cons_zero, List.set_cons_succ, List.getD_toArray, List.getD_cons_zero, List.getD_cons_succ]
            go_big_quiet_on)
         | (refine BigFrame.quiet_assign _ rfl ?_
            simp only [Act.put, Act.eval, List.setIfInBounds_toArray, List.set_cons_zero, List.set_cons_succ, List.getD_toArray, List.getD_cons_zero, List.getD_cons_succ]
            go_big_quiet_on)
         | (refine quiet_call 20 ?_
            apply Exists.intro
            refine ⟨fun w' hC => ?_, ?_⟩
            · go_simp
              with_reducible rfl
            refine ⟨_, fun w' hC => Calls.bel hC (not_in g _), ?_⟩
            simp only [Act.put, List.setIfInBounds_toArray, List.set_cons_zero, List.set_cons_succ]
            go_big_quiet_on)
         | (refine quiet_call 18 ?_
            apply Exists.intro
            refine ⟨fun w' hC => ?_, ?_⟩
            · go_simp
              with_reducible rfl
            refine ⟨_, fun w' hC => Calls.bel hC (and_in f (notS g) _), ?_⟩
            simp only [Act.put, List.setIfInBounds_toArray, List.set_cons_zero, List.set_cons_succ]
            go_big_quiet_on)
         | (refine quiet_val ?_
            apply Exists.intro
            refine ⟨fun w' hC => ?_, ?_⟩
            · go_simp
              with_reducible rfl
            simp only [Act.put, List.setIfInBounds_toArray, List.set_cons_zero, List.set_cons_succ]
            go_big_quiet_on)))
  refine wpQuiet_nil ?_
  intro wq hq

  obtain ⟨⟨r0, r1, r2, r3⟩, z0, z1, z2, z3⟩ := (br.bel hq).facts
  have hfin := below_set4 (hB.trans (hq.mono hB.size)) (b := w.heap.size + 1 + 1) (by omega) (.int .u64 (wd (andS f (notS g)) 0)) (.int .u64 (wd (andS f (notS g)) 1)) (.int .u64 (wd (andS f (notS g)) 2)) (.int .u64 (wd (andS f (notS g)) 3))
  have hbx := ((br.bel hq).set (.int .u64 (wd (andS f (notS g)) 0)) (.int .u64 (wd (andS f (notS g)) 1)) (.int .u64 (wd (andS f (notS g)) 2)) (.int .u64 (wd (andS f (notS g)) 3))).facts.1
  have hh := Lib.hid hfin
  have hx := Lib.hid hbx
  clear hfin hbx
  go_wp2
  exact bodyPost_ret (v := (.agg #[.int .u64 (wd (minusS f g) 0), .int .u64 (wd (minusS f g) 1), .int .u64 (wd (minusS f g) 2), .int .u64 (wd (minusS f g) 3)])) (by simp [results, Tryd.results19, go_sem, hx.out.1, hx.out.2.1, hx.out.2.2.1, hx.out.2.2.2, minusS]) rfl ⟨rfl, hh.out⟩

set_option maxHeartbeats 1000000 in
theorem has_in (f : Nat → Bool) (c : Nat) (hc : c ≤ 255) (w : World) :
    Calls Tryd.prog 27 #[(.agg #[.int .u64 (wd f 0), .int .u64 (wd f 1), .int .u64 (wd f 2), .int .u64 (wd f 3)]), .int .u8 c] w fun e w' => e = .returned (.bool (f c)) ∧ Below w.heap.size w w' := by
  have hfin : (!eqB (andS f (oneS c)) noS) = f c := by
    cases h : f c
    · rw [eqB_true]; rfl
      intro x _
      unfold andS oneS noS
      by_cases e : x = c
      · subst e; simp [h]
      · simp [e]
    · cases e : eqB (andS f (oneS c)) noS
      · rfl
      · have := eqB_spec e c (by omega)
        simp [andS, oneS, noS, h] at this
  have hfin' := Lib.hid hfin
  clear hfin
  go_enter Tryd.func27, Tryd.ntmps27
  go_wp2
  obtain ⟨W, hW, bf, hB⟩ := boxes1 w 28 (.int .u64 (wd f 0)) (.int .u64 (wd f 1)) (.int .u64 (wd f 2)) (.int .u64 (wd f 3))
  rw [hW]
  clear hW
  obtain ⟨f0, f1, f2, f3⟩ := bf.all
  refine wp_region_bel (by kernel_rfl) (by kernel_rfl) ?_
  repeat (first
    | go_big_quiet_skip
    | (go_big_quiet_want
       first
         | (refine BigFrame.quiet_move _ rfl ?_
            simp only [Act.put, Act.eval, List.setIfInBounds_toArray, List.set_cons_zero, List.set_cons_succ, List.getD_toArray, List.getD_cons_zero, List.getD_cons_succ]
            go_big_quiet_on)
         | (refine BigFrame.quiet_assign _ rfl ?_
            simp only [Act.put, Act.eval, List.setIfInBounds_toArray, List.set_cons_zero, List.set_cons_succ, List.getD_toArray, List.getD_cons_zero, List.getD_cons_succ]
            go_big_quiet_on)
         | (refine quiet_call 10 ?_
            apply Exists.intro
            refine ⟨fun w' hC => ?_, ?_⟩
            · go_simp
              with_reducible rfl
            refine ⟨_, fun w' hC => Calls.bel hC (one_in c hc _), ?_⟩
            simp only [Act.put, List.setIfInBounds_toArray, List.set_cons_zero, List.set_cons_succ]
            go_big_quiet_on)
         | (refine quiet_call 18 ?_
            apply Exists.intro
            refine ⟨fun w' hC => ?_, ?_⟩
            · go_simp
              with_reducible rfl
            refine ⟨_, fun w' hC => Calls.bel hC (and_in f (oneS c) _), ?_⟩
            simp only [Act.put, List.setIfInBounds_toArray, List.set_cons_zero, List.set_cons_succ]
            go_big_quiet_on)
         | (refine quiet_call 26 ?_
            apply Exists.intro
            refine ⟨fun w' hC => ?_, ?_⟩
            · go_simp
              with_reducible rfl
            refine ⟨_, fun w' hC => Calls.bel hC (empty_in (andS f (oneS c)) _), ?_⟩
            simp only [Act.put, List.setIfInBounds_toArray, List.set_cons_zero, List.set_cons_succ]
            go_big_quiet_on)
         | (refine quiet_val ?_
            apply Exists.intro
            refine ⟨fun w' hC => ?_, ?_⟩
            · go_simp
              with_reducible rfl
            simp only [Act.put, List.setIfInBounds_toArray, List.set_cons_zero, List.set_cons_succ]
            go_big_quiet_on)))
  refine wpQuiet_nil ?_
  intro wq hq

  go_wp2
  go_ret
  exact ⟨ret_bool hfin'.out, hB.trans (hq.mono hB.size)⟩

set_option maxHeartbeats 1000000 in
theorem all_in (w : World) :
    Calls Tryd.prog 15 #[] w fun e w' => e = .returned (.agg #[.int .u64 (wd (notS noS) 0), .int .u64 (wd (notS noS) 1), .int .u64 (wd (notS noS) 2), .int .u64 (wd (notS noS) 3)]) ∧ Below w.heap.size w w' := by
  have hn := no_wd 0
  have hn1 := no_wd 1
  have hn2 := no_wd 2
  have hn3 := no_wd 3
  have hc := not_in noS
  rw [hn, hn1, hn2, hn3] at hc
  clear hn hn1 hn2 hn3
  go_enter Tryd.func15, Tryd.ntmps15
  have hB : Below w.heap.size w (w.alloc (.cells #[.int .u64 0, .int .u64 0, .int .u64 0, .int .u64 0] 28)) := (Below.refl _ _).alloc (Nat.le_refl _) _
  have br := Blk4.new w 28 (.int .u64 0) (.int .u64 0) (.int .u64 0) (.int .u64 0)
  have hB' := Lib.hid hB
  have br' := Lib.hid br
  clear hB br
  go_wp2_with (go_at_call 20; refine (hc _).mono ?_; rintro e w' ⟨rfl, hb⟩; have b1 := Lib.hid (br'.out.bel hb); obtain ⟨⟨r0, r1, r2, r3⟩, z0, z1, z2, z3⟩ := b1.out.facts; have hb := Lib.hid hb)
  have hx := (b1.out.set (.int .u64 (wd (notS noS) 0)) (.int .u64 (wd (notS noS) 1)) (.int .u64 (wd (notS noS) 2)) (.int .u64 (wd (notS noS) 3))).facts.1
  exact bodyPost_ret (v := (.agg #[.int .u64 (wd (notS noS) 0), .int .u64 (wd (notS noS) 1), .int .u64 (wd (notS noS) 2), .int .u64 (wd (notS noS) 3)])) (by simp [results, Tryd.results15, go_sem, hx.1, hx.2.1, hx.2.2.1, hx.2.2.2]) rfl ⟨rfl, below_set4 (hB'.out.trans (hb.out.mono (by simp))) (Nat.le_refl _) _ _ _ _⟩
end Go.Proofs.YtfgdbpepgahclaaDoor
