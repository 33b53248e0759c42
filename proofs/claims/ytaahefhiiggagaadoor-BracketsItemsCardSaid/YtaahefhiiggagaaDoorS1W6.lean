/- Contracts of the reference's Span and Both of layer 1. -/
import Derived.Test.YtaahefhiiggagaaDoorS1W5
namespace Go.Proofs.YtaahefhiiggagaaDoor.S1
open Go.RowKit

set_option maxRecDepth 10000 in
set_option maxHeartbeats 2000000 in
theorem refspan_in (lo hi : Nat) (hlo : lo ≤ 255) (hhi : hi ≤ 255) (w : World) :
    Calls Tryd.prog 12 #[.int .i64 lo, .int .i64 hi] w fun e w' => e = .returned (.agg #[.int .u64 (wd (spanS lo hi) 0), .int .u64 (wd (spanS lo hi) 1), .int .u64 (wd (spanS lo hi) 2), .int .u64 (wd (spanS lo hi) 3)]) ∧ Below w.heap.size w w' := by
  have hmk := make256
  go_enter Tryd.func12, Tryd.ntmps12
  go_wp2
  obtain ⟨W, hW, br, hB⟩ := boxes1 w 23 (.int .u64 0) (.int .u64 0) (.int .u64 0) (.int .u64 0)
  have hs : W.heap.size = w.heap.size + 1 := by rw [← hW]; simp
  rw [hW]
  clear hW hmk
  have hrow := BoolRow.new W noS
  rw [hs] at hrow
  have br := br.alloc (.cells (bl noS).toArray 4)
  have hB := hB.alloc hB.size (.cells (bl noS).toArray 4)
  revert br hB hrow
  generalize W.alloc (.cells (bl noS).toArray 4) = W2
  intro hrow br hB
  have hrow := hrow.congr (g := upS lo lo) fun c _ => by simp [noS, upS] <;> omega
  go_loopw [6] (fun i wr => ∃ k : Nat, lo ≤ k ∧ (k ≤ hi + 1 ∨ k = lo) ∧ i = .int .i64 k ∧ Blk4 wr w.heap.size 23 (.int .u64 0) (.int .u64 0) (.int .u64 0) (.int .u64 0) ∧ BoolRow wr (w.heap.size + 1) (upS lo k) ∧ Below w.heap.size w wr) (fun i _ => 256 - (intOf i).toNat)
  case atStart => exact ⟨lo, Nat.le_refl _, .inr rfl, rfl, br, hrow, hB⟩
  case round =>
    clear br hrow hB
    obtain ⟨k, hk1, hk2, rfl, br, hrow, hB⟩ := hrel
    by_cases hlt : k ≤ hi
    · have hcell := hrow.cell (k := k) (by omega)
      have hfz := hrow.frozen k
      have hbx := (hrow.set k true).congr (g := upS lo (k + 1)) fun c _ => by
        simp only [upS]
        by_cases e : c = k
        · subst e; simp [hk1]
        · have a : (c < k + 1) ↔ (c < k) := by omega
          rw [Bool.eq_iff_iff]; simp [e, a]
      have h1 := Lib.hid (hB.setCell (p := ⟨w.heap.size + 1, k, none⟩) (Nat.le_succ _) (.bool true))
      have h2 := Lib.hid hbx
      have h3 := Lib.hid (br.setOther (a := ⟨w.heap.size + 1, k, none⟩) (by simp <;> omega) (.bool true))
      clear hbx hB hrow br
      go_wp2
      go_roundw
      case rel => exact ⟨k + 1, by omega, by omega, by go_num, h3.out, h2.out, h1.out⟩
      case measure => simp [intOf]; omega
    · have hrow := hrow.congr (g := spanS lo hi) fun c _ => by
        simp only [upS, spanS]
        rw [Bool.eq_iff_iff]; simp; omega
      have hof := refof_in (spanS lo hi) (w.heap.size + 1) wr hrow
      have h2 := Lib.hid hB
      have h3 := Lib.hid br
      clear hB hrow br
      go_wp2_with (go_at_call 31; refine hof.mono ?_; clear hof; rintro e w' ⟨rfl, hb⟩; have b1 := Lib.hid (h3.out.bel hb); obtain ⟨⟨r0, r1, r2, r3⟩, z0, z1, z2, z3⟩ := b1.out.facts; have hb := Lib.hid hb)
      have hx := (b1.out.set (.int .u64 (wd (spanS lo hi) 0)) (.int .u64 (wd (spanS lo hi) 1)) (.int .u64 (wd (spanS lo hi) 2)) (.int .u64 (wd (spanS lo hi) 3))).facts.1
      exact bodyPost_ret (v := (.agg #[.int .u64 (wd (spanS lo hi) 0), .int .u64 (wd (spanS lo hi) 1), .int .u64 (wd (spanS lo hi) 2), .int .u64 (wd (spanS lo hi) 3)])) (by simp [results, Tryd.results12, go_sem, hx.1, hx.2.1, hx.2.2.1, hx.2.2.2]) rfl ⟨rfl, below_set4 (h2.out.trans (hb.out.mono h2.out.size)) (Nat.le_refl _) _ _ _ _⟩

set_option maxRecDepth 10000 in
set_option maxHeartbeats 2000000 in
theorem both0_in (f g : Nat → Bool) (w : World) :
    Calls Tryd.prog 11 #[(.agg #[.int .u64 (wd f 0), .int .u64 (wd f 1), .int .u64 (wd f 2), .int .u64 (wd f 3)]), (.agg #[.int .u64 (wd g 0), .int .u64 (wd g 1), .int .u64 (wd g 2), .int .u64 (wd g 3)]), .int .i64 0] w fun e w' => e = .returned (.agg #[.int .u64 (wd (orS f g) 0), .int .u64 (wd (orS f g) 1), .int .u64 (wd (orS f g) 2), .int .u64 (wd (orS f g) 3)]) ∧ Below w.heap.size w w' := by
  have hmk := make256
  go_enter Tryd.func11, Tryd.ntmps11
  go_wp2
  obtain ⟨W, hW, bf, bg, br, hB⟩ := boxes3 w 23 23 23 (.int .u64 (wd f 0)) (.int .u64 (wd f 1)) (.int .u64 (wd f 2)) (.int .u64 (wd f 3)) (.int .u64 (wd g 0)) (.int .u64 (wd g 1)) (.int .u64 (wd g 2)) (.int .u64 (wd g 3)) (.int .u64 0) (.int .u64 0) (.int .u64 0) (.int .u64 0)
  have hs : W.heap.size = w.heap.size + 1 + 1 + 1 := by rw [← hW]; simp
  rw [hW]
  clear hW hmk
  have hrow := BoolRow.new W noS
  rw [hs] at hrow
  have bf := bf.alloc (.cells (bl noS).toArray 4)
  have bg := bg.alloc (.cells (bl noS).toArray 4)
  have br := br.alloc (.cells (bl noS).toArray 4)
  have hB := hB.alloc hB.size (.cells (bl noS).toArray 4)
  revert bf bg br hB hrow
  generalize W.alloc (.cells (bl noS).toArray 4) = W2
  intro hrow bf bg br hB
  have hrow := hrow.congr (g := cutS (orS f g) 0) fun c _ => by simp [noS, cutS]
  go_loopw [8] (fun i wr => ∃ k : Nat, k ≤ 256 ∧ i = .int .i64 k ∧ SetBox wr w.heap.size 23 f ∧ SetBox wr (w.heap.size + 1) 23 g ∧ Blk4 wr (w.heap.size + 1 + 1) 23 (.int .u64 0) (.int .u64 0) (.int .u64 0) (.int .u64 0) ∧ BoolRow wr (w.heap.size + 1 + 1 + 1) (cutS (orS f g) k) ∧ Below w.heap.size w wr) (fun i _ => 256 - (intOf i).toNat)
  case atStart => exact ⟨0, Nat.zero_le _, rfl, bf, bg, br, hrow, hB⟩
  case round =>
    clear bf bg br hrow hB
    obtain ⟨k, hk, rfl, bf, bg, br, hrow, hB⟩ := hrel
    by_cases hlt : k < 256
    · obtain ⟨f0, f1, f2, f3⟩ := bf.blk.all
      obtain ⟨g0, g1, g2, g3⟩ := bg.blk.all
      have hk8 : k ≤ 255 := by omega
      have hset : ∀ wq, Bel wr wq → BoolRow (wq.setCell ⟨w.heap.size + 1 + 1 + 1, k, none⟩ (.bool (f k || g k))) (w.heap.size + 1 + 1 + 1) (cutS (orS f g) (k + 1)) := fun wq hq =>
        ((hrow.bel hq).set k (f k || g k)).congr fun c _ => by
          simp only [cutS]
          by_cases e : c = k
          · subst e; simp [orS, andS, notS, minusS]
          · have a : (c < k + 1) ↔ (c < k) := by omega
            rw [Bool.eq_iff_iff]; simp [e, a]
      have hset := Lib.hid hset
      generalize hx : f k = x at hset
      generalize hy : g k = y at hset
      cases x <;> cases y
      all_goals
        go_wp2_with fail
        refine wp_region_bel (by kernel_rfl) (by kernel_rfl) ?_
        repeat (first
          | go_big_quiet_skip
          | (go_big_quiet_want
             first
               | (refine BigFrame.quiet_move _ rfl ?_
                  simp only [Act.put, Act.eval, List.setIfInBounds_toArray, List.set_cons_zero, List.set_cons_succ, List.getD_toArray, List.getD_cons_zero, List.getD_cons_succ]
                  go_big_quiet_on)
               | (refine BigFrame.quiet_assign _ rfl ?_
                  simp only [Act.put, Act.eval, List.setIfInBounds_toArray, List.set_cons_zero, List.set_cons_succ, List.getD_toArray, List.getD_cons_zero, List.getD_cons_succ]
                  go_big_quiet_on)
               | (refine quiet_call 30 ?_
                  apply Exists.intro
                  refine ⟨fun w' hC => ?_, ?_⟩
                  · go_simp
                    with_reducible rfl
                  refine ⟨_, fun w' hC => Calls.bel hC (has_ref _ k hk8 _), ?_⟩
                  simp only [Act.put, List.setIfInBounds_toArray, List.set_cons_zero, List.set_cons_succ]
                  go_big_quiet_on)
               | (refine quiet_val ?_
                  apply Exists.intro
                  refine ⟨fun w' hC => ?_, ?_⟩
                  · go_simp
                    with_reducible rfl
                  simp only [Act.put, List.setIfInBounds_toArray, List.set_cons_zero, List.set_cons_succ]
                  go_big_quiet_on)))
        refine wpQuiet_nil ?_
        intro wq hq

        have hcell := (hrow.bel hq).cell hlt
        have hfz := (hrow.bel hq).frozen k
        have hB2 := hB.trans (hq.mono hB.size)
        have h1 := Lib.hid (hB2.setCell (p := ⟨w.heap.size + 1 + 1 + 1, k, none⟩) (by simp <;> omega))
        have h2 := Lib.hid (hset.out wq hq)
        have h3 := Lib.hid ((br.bel hq).setOther (a := ⟨w.heap.size + 1 + 1 + 1, k, none⟩) (by simp <;> omega))
        have h4 := Lib.hid ((bf.blk.bel hq).setOther (a := ⟨w.heap.size + 1 + 1 + 1, k, none⟩) (by simp <;> omega))
        have h5 := Lib.hid ((bg.blk.bel hq).setOther (a := ⟨w.heap.size + 1 + 1 + 1, k, none⟩) (by simp <;> omega))
        clear f0 f1 f2 f3 g0 g1 g2 g3 hrow bf bg br hB hB2
        go_wp2
        go_roundw
        case rel => exact ⟨k + 1, by omega, by go_num, h4.out _, h5.out _, h3.out _, h2.out, h1.out _⟩
        case measure => simp [intOf]; omega
    · have e : k = 256 := by omega
      subst e
      have hrow := hrow.congr (g := orS f g) fun c hc => by simp [cutS, hc]
      have hof := refof_in (orS f g) (w.heap.size + 1 + 1 + 1) wr hrow
      have h2 := Lib.hid hB
      have h3 := Lib.hid br
      clear hB hrow br bf bg
      go_wp2_with (go_at_call 31; refine hof.mono ?_; clear hof; rintro e w' ⟨rfl, hb⟩; have b1 := Lib.hid (h3.out.bel hb); obtain ⟨⟨r0, r1, r2, r3⟩, z0, z1, z2, z3⟩ := b1.out.facts; have hb := Lib.hid hb)
      have hx := (b1.out.set (.int .u64 (wd (orS f g) 0)) (.int .u64 (wd (orS f g) 1)) (.int .u64 (wd (orS f g) 2)) (.int .u64 (wd (orS f g) 3))).facts.1
      exact bodyPost_ret (v := (.agg #[.int .u64 (wd (orS f g) 0), .int .u64 (wd (orS f g) 1), .int .u64 (wd (orS f g) 2), .int .u64 (wd (orS f g) 3)])) (by simp [results, Tryd.results11, go_sem, hx.1, hx.2.1, hx.2.2.1, hx.2.2.2]) rfl ⟨rfl, below_set4 (h2.out.trans (hb.out.mono h2.out.size)) (by omega) _ _ _ _⟩

set_option maxRecDepth 10000 in
set_option maxHeartbeats 2000000 in
theorem both1_in (f g : Nat → Bool) (w : World) :
    Calls Tryd.prog 11 #[(.agg #[.int .u64 (wd f 0), .int .u64 (wd f 1), .int .u64 (wd f 2), .int .u64 (wd f 3)]), (.agg #[.int .u64 (wd g 0), .int .u64 (wd g 1), .int .u64 (wd g 2), .int .u64 (wd g 3)]), .int .i64 1] w fun e w' => e = .returned (.agg #[.int .u64 (wd (andS f g) 0), .int .u64 (wd (andS f g) 1), .int .u64 (wd (andS f g) 2), .int .u64 (wd (andS f g) 3)]) ∧ Below w.heap.size w w' := by
  have hmk := make256
  go_enter Tryd.func11, Tryd.ntmps11
  go_wp2
  obtain ⟨W, hW, bf, bg, br, hB⟩ := boxes3 w 23 23 23 (.int .u64 (wd f 0)) (.int .u64 (wd f 1)) (.int .u64 (wd f 2)) (.int .u64 (wd f 3)) (.int .u64 (wd g 0)) (.int .u64 (wd g 1)) (.int .u64 (wd g 2)) (.int .u64 (wd g 3)) (.int .u64 0) (.int .u64 0) (.int .u64 0) (.int .u64 0)
  have hs : W.heap.size = w.heap.size + 1 + 1 + 1 := by rw [← hW]; simp
  rw [hW]
  clear hW hmk
  have hrow := BoolRow.new W noS
  rw [hs] at hrow
  have bf := bf.alloc (.cells (bl noS).toArray 4)
  have bg := bg.alloc (.cells (bl noS).toArray 4)
  have br := br.alloc (.cells (bl noS).toArray 4)
  have hB := hB.alloc hB.size (.cells (bl noS).toArray 4)
  revert bf bg br hB hrow
  generalize W.alloc (.cells (bl noS).toArray 4) = W2
  intro hrow bf bg br hB
  have hrow := hrow.congr (g := cutS (andS f g) 0) fun c _ => by simp [noS, cutS]
  go_loopw [8] (fun i wr => ∃ k : Nat, k ≤ 256 ∧ i = .int .i64 k ∧ SetBox wr w.heap.size 23 f ∧ SetBox wr (w.heap.size + 1) 23 g ∧ Blk4 wr (w.heap.size + 1 + 1) 23 (.int .u64 0) (.int .u64 0) (.int .u64 0) (.int .u64 0) ∧ BoolRow wr (w.heap.size + 1 + 1 + 1) (cutS (andS f g) k) ∧ Below w.heap.size w wr) (fun i _ => 256 - (intOf i).toNat)
  case atStart => exact ⟨0, Nat.zero_le _, rfl, bf, bg, br, hrow, hB⟩
  case round =>
    clear bf bg br hrow hB
    obtain ⟨k, hk, rfl, bf, bg, br, hrow, hB⟩ := hrel
    by_cases hlt : k < 256
    · obtain ⟨f0, f1, f2, f3⟩ := bf.blk.all
      obtain ⟨g0, g1, g2, g3⟩ := bg.blk.all
      have hk8 : k ≤ 255 := by omega
      have hset : ∀ wq, Bel wr wq → BoolRow (wq.setCell ⟨w.heap.size + 1 + 1 + 1, k, none⟩ (.bool (f k && g k))) (w.heap.size + 1 + 1 + 1) (cutS (andS f g) (k + 1)) := fun wq hq =>
        ((hrow.bel hq).set k (f k && g k)).congr fun c _ => by
          simp only [cutS]
          by_cases e : c = k
          · subst e; simp [orS, andS, notS, minusS]
          · have a : (c < k + 1) ↔ (c < k) := by omega
            rw [Bool.eq_iff_iff]; simp [e, a]
      have hset := Lib.hid hset
      generalize hx : f k = x at hset
      generalize hy : g k = y at hset
      cases x <;> cases y
      all_goals
        go_wp2_with fail
        refine wp_region_bel (by kernel_rfl) (by kernel_rfl) ?_
        repeat (first
          | go_big_quiet_skip
          | (go_big_quiet_want
             first
               | (refine BigFrame.quiet_move _ rfl ?_
                  simp only [Act.put, Act.eval, List.setIfInBounds_toArray, List.set_cons_zero, List.set_cons_succ, List.getD_toArray, List.getD_cons_zero, List.getD_cons_succ]
                  go_big_quiet_on)
               | (refine BigFrame.quiet_assign _ rfl ?_
                  simp only [Act.put, Act.eval, List.setIfInBounds_toArray, List.set_cons_zero, List.set_cons_succ, List.getD_toArray, List.getD_cons_zero, List.getD_cons_succ]
                  go_big_quiet_on)
               | (refine quiet_call 30 ?_
                  apply Exists.intro
                  refine ⟨fun w' hC => ?_, ?_⟩
                  · go_simp
                    with_reducible rfl
                  refine ⟨_, fun w' hC => Calls.bel hC (has_ref _ k hk8 _), ?_⟩
                  simp only [Act.put, List.setIfInBounds_toArray, List.set_cons_zero, List.set_cons_succ]
                  go_big_quiet_on)
               | (refine quiet_val ?_
                  apply Exists.intro
                  refine ⟨fun w' hC => ?_, ?_⟩
                  · go_simp
                    with_reducible rfl
                  simp only [Act.put, List.setIfInBounds_toArray, List.set_cons_zero, List.set_cons_succ]
                  go_big_quiet_on)))
        refine wpQuiet_nil ?_
        intro wq hq

        have hcell := (hrow.bel hq).cell hlt
        have hfz := (hrow.bel hq).frozen k
        have hB2 := hB.trans (hq.mono hB.size)
        have h1 := Lib.hid (hB2.setCell (p := ⟨w.heap.size + 1 + 1 + 1, k, none⟩) (by simp <;> omega))
        have h2 := Lib.hid (hset.out wq hq)
        have h3 := Lib.hid ((br.bel hq).setOther (a := ⟨w.heap.size + 1 + 1 + 1, k, none⟩) (by simp <;> omega))
        have h4 := Lib.hid ((bf.blk.bel hq).setOther (a := ⟨w.heap.size + 1 + 1 + 1, k, none⟩) (by simp <;> omega))
        have h5 := Lib.hid ((bg.blk.bel hq).setOther (a := ⟨w.heap.size + 1 + 1 + 1, k, none⟩) (by simp <;> omega))
        clear f0 f1 f2 f3 g0 g1 g2 g3 hrow bf bg br hB hB2
        go_wp2
        go_roundw
        case rel => exact ⟨k + 1, by omega, by go_num, h4.out _, h5.out _, h3.out _, h2.out, h1.out _⟩
        case measure => simp [intOf]; omega
    · have e : k = 256 := by omega
      subst e
      have hrow := hrow.congr (g := andS f g) fun c hc => by simp [cutS, hc]
      have hof := refof_in (andS f g) (w.heap.size + 1 + 1 + 1) wr hrow
      have h2 := Lib.hid hB
      have h3 := Lib.hid br
      clear hB hrow br bf bg
      go_wp2_with (go_at_call 31; refine hof.mono ?_; clear hof; rintro e w' ⟨rfl, hb⟩; have b1 := Lib.hid (h3.out.bel hb); obtain ⟨⟨r0, r1, r2, r3⟩, z0, z1, z2, z3⟩ := b1.out.facts; have hb := Lib.hid hb)
      have hx := (b1.out.set (.int .u64 (wd (andS f g) 0)) (.int .u64 (wd (andS f g) 1)) (.int .u64 (wd (andS f g) 2)) (.int .u64 (wd (andS f g) 3))).facts.1
      exact bodyPost_ret (v := (.agg #[.int .u64 (wd (andS f g) 0), .int .u64 (wd (andS f g) 1), .int .u64 (wd (andS f g) 2), .int .u64 (wd (andS f g) 3)])) (by simp [results, Tryd.results11, go_sem, hx.1, hx.2.1, hx.2.2.1, hx.2.2.2]) rfl ⟨rfl, below_set4 (h2.out.trans (hb.out.mono h2.out.size)) (by omega) _ _ _ _⟩

set_option maxRecDepth 10000 in
set_option maxHeartbeats 2000000 in
theorem both2_in (f g : Nat → Bool) (w : World) :
    Calls Tryd.prog 11 #[(.agg #[.int .u64 (wd f 0), .int .u64 (wd f 1), .int .u64 (wd f 2), .int .u64 (wd f 3)]), (.agg #[.int .u64 (wd g 0), .int .u64 (wd g 1), .int .u64 (wd g 2), .int .u64 (wd g 3)]), .int .i64 2] w fun e w' => e = .returned (.agg #[.int .u64 (wd (minusS f g) 0), .int .u64 (wd (minusS f g) 1), .int .u64 (wd (minusS f g) 2), .int .u64 (wd (minusS f g) 3)]) ∧ Below w.heap.size w w' := by
  have hmk := make256
  go_enter Tryd.func11, Tryd.ntmps11
  go_wp2
  obtain ⟨W, hW, bf, bg, br, hB⟩ := boxes3 w 23 23 23 (.int .u64 (wd f 0)) (.int .u64 (wd f 1)) (.int .u64 (wd f 2)) (.int .u64 (wd f 3)) (.int .u64 (wd g 0)) (.int .u64 (wd g 1)) (.int .u64 (wd g 2)) (.int .u64 (wd g 3)) (.int .u64 0) (.int .u64 0) (.int .u64 0) (.int .u64 0)
  have hs : W.heap.size = w.heap.size + 1 + 1 + 1 := by rw [← hW]; simp
  rw [hW]
  clear hW hmk
  have hrow := BoolRow.new W noS
  rw [hs] at hrow
  have bf := bf.alloc (.cells (bl noS).toArray 4)
  have bg := bg.alloc (.cells (bl noS).toArray 4)
  have br := br.alloc (.cells (bl noS).toArray 4)
  have hB := hB.alloc hB.size (.cells (bl noS).toArray 4)
  revert bf bg br hB hrow
  generalize W.alloc (.cells (bl noS).toArray 4) = W2
  intro hrow bf bg br hB
  have hrow := hrow.congr (g := cutS (minusS f g) 0) fun c _ => by simp [noS, cutS]
  go_loopw [8] (fun i wr => ∃ k : Nat, k ≤ 256 ∧ i = .int .i64 k ∧ SetBox wr w.heap.size 23 f ∧ SetBox wr (w.heap.size + 1) 23 g ∧ Blk4 wr (w.heap.size + 1 + 1) 23 (.int .u64 0) (.int .u64 0) (.int .u64 0) (.int .u64 0) ∧ BoolRow wr (w.heap.size + 1 + 1 + 1) (cutS (minusS f g) k) ∧ Below w.heap.size w wr) (fun i _ => 256 - (intOf i).toNat)
  case atStart => exact ⟨0, Nat.zero_le _, rfl, bf, bg, br, hrow, hB⟩
  case round =>
    clear bf bg br hrow hB
    obtain ⟨k, hk, rfl, bf, bg, br, hrow, hB⟩ := hrel
    by_cases hlt : k < 256
    · obtain ⟨f0, f1, f2, f3⟩ := bf.blk.all
      obtain ⟨g0, g1, g2, g3⟩ := bg.blk.all
      have hk8 : k ≤ 255 := by omega
      have hset : ∀ wq, Bel wr wq → BoolRow (wq.setCell ⟨w.heap.size + 1 + 1 + 1, k, none⟩ (.bool (f k && !g k))) (w.heap.size + 1 + 1 + 1) (cutS (minusS f g) (k + 1)) := fun wq hq =>
        ((hrow.bel hq).set k (f k && !g k)).congr fun c _ => by
          simp only [cutS]
          by_cases e : c = k
          · subst e; simp [orS, andS, notS, minusS]
          · have a : (c < k + 1) ↔ (c < k) := by omega
            rw [Bool.eq_iff_iff]; simp [e, a]
      have hset := Lib.hid hset
      generalize hx : f k = x at hset
      generalize hy : g k = y at hset
      cases x <;> cases y
      all_goals
        go_wp2_with fail
        refine wp_region_bel (by kernel_rfl) (by kernel_rfl) ?_
        repeat (first
          | go_big_quiet_skip
          | (go_big_quiet_want
             first
               | (refine BigFrame.quiet_move _ rfl ?_
                  simp only [Act.put, Act.eval, List.setIfInBounds_toArray, List.set_cons_zero, List.set_cons_succ, List.getD_toArray, List.getD_cons_zero, List.getD_cons_succ]
                  go_big_quiet_on)
               | (refine BigFrame.quiet_assign _ rfl ?_
                  simp only [Act.put, Act.eval, List.setIfInBounds_toArray, List.set_cons_zero, List.set_cons_succ, List.getD_toArray, List.getD_cons_zero, List.getD_cons_succ]
                  go_big_quiet_on)
               | (refine quiet_call 30 ?_
                  apply Exists.intro
                  refine ⟨fun w' hC => ?_, ?_⟩
                  · go_simp
                    with_reducible rfl
                  refine ⟨_, fun w' hC => Calls.bel hC (has_ref _ k hk8 _), ?_⟩
                  simp only [Act.put, List.setIfInBounds_toArray, List.set_cons_zero, List.set_cons_succ]
                  go_big_quiet_on)
               | (refine quiet_val ?_
                  apply Exists.intro
                  refine ⟨fun w' hC => ?_, ?_⟩
                  · go_simp
                    with_reducible rfl
                  simp only [Act.put, List.setIfInBounds_toArray, List.set_cons_zero, List.set_cons_succ]
                  go_big_quiet_on)))
        refine wpQuiet_nil ?_
        intro wq hq

        have hcell := (hrow.bel hq).cell hlt
        have hfz := (hrow.bel hq).frozen k
        have hB2 := hB.trans (hq.mono hB.size)
        have h1 := Lib.hid (hB2.setCell (p := ⟨w.heap.size + 1 + 1 + 1, k, none⟩) (by simp <;> omega))
        have h2 := Lib.hid (hset.out wq hq)
        have h3 := Lib.hid ((br.bel hq).setOther (a := ⟨w.heap.size + 1 + 1 + 1, k, none⟩) (by simp <;> omega))
        have h4 := Lib.hid ((bf.blk.bel hq).setOther (a := ⟨w.heap.size + 1 + 1 + 1, k, none⟩) (by simp <;> omega))
        have h5 := Lib.hid ((bg.blk.bel hq).setOther (a := ⟨w.heap.size + 1 + 1 + 1, k, none⟩) (by simp <;> omega))
        clear f0 f1 f2 f3 g0 g1 g2 g3 hrow bf bg br hB hB2
        go_wp2
        go_roundw
        case rel => exact ⟨k + 1, by omega, by go_num, h4.out _, h5.out _, h3.out _, h2.out, h1.out _⟩
        case measure => simp [intOf]; omega
    · have e : k = 256 := by omega
      subst e
      have hrow := hrow.congr (g := minusS f g) fun c hc => by simp [cutS, hc]
      have hof := refof_in (minusS f g) (w.heap.size + 1 + 1 + 1) wr hrow
      have h2 := Lib.hid hB
      have h3 := Lib.hid br
      clear hB hrow br bf bg
      go_wp2_with (go_at_call 31; refine hof.mono ?_; clear hof; rintro e w' ⟨rfl, hb⟩; have b1 := Lib.hid (h3.out.bel hb); obtain ⟨⟨r0, r1, r2, r3⟩, z0, z1, z2, z3⟩ := b1.out.facts; have hb := Lib.hid hb)
      have hx := (b1.out.set (.int .u64 (wd (minusS f g) 0)) (.int .u64 (wd (minusS f g) 1)) (.int .u64 (wd (minusS f g) 2)) (.int .u64 (wd (minusS f g) 3))).facts.1
      exact bodyPost_ret (v := (.agg #[.int .u64 (wd (minusS f g) 0), .int .u64 (wd (minusS f g) 1), .int .u64 (wd (minusS f g) 2), .int .u64 (wd (minusS f g) 3)])) (by simp [results, Tryd.results11, go_sem, hx.1, hx.2.1, hx.2.2.1, hx.2.2.2]) rfl ⟨rfl, below_set4 (h2.out.trans (hb.out.mono h2.out.size)) (by omega) _ _ _ _⟩

end Go.Proofs.YtaahefhiiggagaaDoor.S1
