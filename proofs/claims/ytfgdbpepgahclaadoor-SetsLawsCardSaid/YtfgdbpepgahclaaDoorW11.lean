/- SetsLaws returns true at every two sets; it asks that math/bits' table lie in block 0. -/
import Derived.Test.YtfgdbpepgahclaaDoorW10
import Derived.Test.YtfgdbpepgahclaaDoorM2
import Derived.Deep.RegionHeld3
namespace Go.Proofs.YtfgdbpepgahclaaDoor
open Go.RowKit Go.Shelf

/-- All that lay in W but block u lies in w' as it lay. -/
def Exc (W : World) (u : Nat) (w' : World) : Prop := W.heap.size ≤ w'.heap.size ∧ ∀ b, b < W.heap.size → b ≠ u → w'.heap[b]? = W.heap[b]?
theorem Exc.refl (W : World) (u : Nat) : Exc W u W := ⟨Nat.le_refl _, fun _ _ _ => rfl⟩
theorem Exc.bel {W w w' : World} {u : Nat} (h : Exc W u w) (hb : Bel w w') : Exc W u w' :=
  ⟨Nat.le_trans h.1 (Below.size hb), fun b hb1 hne => (Below.block hb b (Nat.lt_of_lt_of_le hb1 h.1)).trans (h.2 b hb1 hne)⟩
theorem Exc.set4 {W w : World} {u : Nat} (h : Exc W u w) (u0 u1 u2 u3 : Value) :
    Exc W u ((((w.setCell ⟨u, 0, none⟩ u0).setCell ⟨u, 1, none⟩ u1).setCell ⟨u, 2, none⟩ u2).setCell ⟨u, 3, none⟩ u3) := by
  refine ⟨by simp only [World.setCell, Array.size_modify]; exact h.1, fun b hb hne => ?_⟩
  rw [Below.heap_setCell _ _ _ _ hne, Below.heap_setCell _ _ _ _ hne, Below.heap_setCell _ _ _ _ hne, Below.heap_setCell _ _ _ _ hne]
  exact h.2 b hb hne
theorem Exc.cell {W w : World} {u : Nat} (h : Exc W u w) {b o : Nat} (hb : b < W.heap.size) (hne : b ≠ u) : w.cell? ⟨b, o, none⟩ = W.cell? ⟨b, o, none⟩ := World.cell?_of_block (h.2 b hb hne)
theorem Exc.tab {W w : World} {u : Nat} (h : Exc W u w) (hT : Tab W) (hu : 0 ≠ u) : Tab w :=
  ⟨Nat.lt_of_lt_of_le hT.1 h.1, fun t ht => (h.cell hT.1 hu).trans (hT.2 t ht)⟩
theorem Exc.blk {W w : World} {u : Nat} (h : Exc W u w) {b : Nat} {t : TypeId} {v0 v1 v2 v3 : Value} (hb : Blk4 W b t v0 v1 v2 v3) (hne : b ≠ u) : Blk4 w b t v0 v1 v2 v3 := (h.2 b hb.lt hne).trans hb

set_option maxRecDepth 10000 in
set_option maxHeartbeats 4000000 in
theorem laws_in (f g : Nat → Bool) (w : World) (hT : Tab w) :
    Calls Tryd.prog 6 #[(.agg #[.int .u64 (wd f 0), .int .u64 (wd f 1), .int .u64 (wd f 2), .int .u64 (wd f 3)]), (.agg #[.int .u64 (wd g 0), .int .u64 (wd g 1), .int .u64 (wd g 2), .int .u64 (wd g 3)])] w fun e w' => e = .returned (.bool true) ∧ Below w.heap.size w w' := by
  have hA := alive_in
  have hP := spans_in f
  obtain ⟨hs1, -, -⟩ := spAll_el f 256 (Nat.le_refl _)
  have hcov := spU_all f
  have hpl := spAll_len (el f 256)
  have hel := el_len f 256
  have hL := list_in f
  have hly : ∀ c ∈ el f 256, c ≤ 255 := fun c hc => by have := el_lt hc; omega
  have hlS := listS_el f
  generalize spAll (el f 256) = ps at *
  generalize el f 256 = ys at *
  replace hA := Lib.hid hA
  replace hP := Lib.hid hP
  replace hT := Lib.hid hT
  replace hcov := Lib.hid hcov
  replace hs1 := Lib.hid hs1
  have hn : ps.length ≤ 256 := by omega
  have hys : ys.length ≤ 9223372036854775807 := by omega
  clear hpl hel
  replace hL := Lib.hid hL
  replace hly := Lib.hid hly
  replace hlS := Lib.hid hlS
  replace hys := Lib.hid hys
  go_enter Tryd.func6, Tryd.ntmps6
  go_wp2_with fail
  obtain ⟨W, hW, bf, bg, hB⟩ := boxes2 w 28 28 (.int .u64 (wd f 0)) (.int .u64 (wd f 1)) (.int .u64 (wd f 2)) (.int .u64 (wd f 3)) (.int .u64 (wd g 0)) (.int .u64 (wd g 1)) (.int .u64 (wd g 2)) (.int .u64 (wd g 3))
  have hWs : W.heap.size = w.heap.size + 1 + 1 := by rw [← hW]; simp
  rw [hW]
  clear hW
  have hTW := hT.out.below hB hT.out.1
  refine (hA.out W hTW).mono ?_
  rintro e w1 ⟨rfl, hb⟩
  replace bf := bf.below hb bf.lt
  replace bg := bg.below hb bg.lt
  replace hTW := hTW.below hb hTW.1
  replace hB := hB.trans (hb.mono hB.size)
  have hw1 : w.heap.size + 1 + 1 ≤ w1.heap.size := by have := hb.size; omega
  clear hb
  obtain ⟨⟨f0, f1, f2, f3⟩, -⟩ := bf.facts
  have e0 : ∀ o, (w1.alloc o).cell? ⟨w.heap.size, 0, none⟩ = some (.int .u64 (wd f 0)) := fun o => (bf.alloc o).facts.1.1
  have e1 : ∀ o, (w1.alloc o).cell? ⟨w.heap.size, 1, none⟩ = some (.int .u64 (wd f 1)) := fun o => (bf.alloc o).facts.1.2.1
  have e2 : ∀ o, (w1.alloc o).cell? ⟨w.heap.size, 2, none⟩ = some (.int .u64 (wd f 2)) := fun o => (bf.alloc o).facts.1.2.2.1
  have e3 : ∀ o, (w1.alloc o).cell? ⟨w.heap.size, 3, none⟩ = some (.int .u64 (wd f 3)) := fun o => (bf.alloc o).facts.1.2.2.2
  replace hB := Lib.hid hB
  replace bg := Lib.hid bg
  replace bf := Lib.hid bf
  replace hTW := Lib.hid hTW
  go_wp2_with fail
  obtain ⟨W2, hW2, bu, hB2⟩ := boxes1 w1 28 (.int .u64 0) (.int .u64 0) (.int .u64 0) (.int .u64 0)
  have hs2 : W2.heap.size = w1.heap.size + 1 := by rw [← hW2]; simp
  rw [hW2]
  clear hW2 f0 f1 f2 f3 e0 e1 e2 e3
  have hT2 := hTW.out.below hB2 hTW.out.1
  refine (hP.out W2 hT2).mono ?_
  rintro e w3 ⟨v, rfl, hrow, hb3⟩
  replace bf := (bf.out.below hB2 bf.out.lt).below hb3 (by have := bf.out.lt; omega)
  replace bg := (bg.out.below hB2 bg.out.lt).below hb3 (by have := bg.out.lt; omega)
  have bu3 : SetBox w3 w1.heap.size 28 (spU (ps.take 0)) := by
    have h0 : SetBox W2 w1.heap.size 28 noS := by unfold SetBox; simp only [no_wd]; exact bu
    exact (SetBox.congr (h0.blk.below hb3 h0.blk.lt) fun c _ => by simp [noS, spU])
  have hT3 := hT2.below hb3 hT2.1
  have hB3 := (hB.out.trans (hB2.mono hB.out.size)).trans (hb3.mono (Nat.le_trans hB.out.size hB2.size))
  have hs3 : w1.heap.size + 1 ≤ w3.heap.size := by have := hb3.size; omega
  obtain ⟨ptr, cap, rfl, hptr⟩ : ∃ (p : Option Addr) (cap : Nat), v = .slice p ps.length cap ∧ ∀ k (h : k < ps.length), ∃ gg, p = some ⟨gg, 0, none⟩ ∧ gg < w3.heap.size ∧ gg ≠ w1.heap.size ∧ ps.length ≤ cap ∧
      w3.cell? ⟨gg, k * 2, none⟩ = some (.int .u8 ((ps[k].1 : Nat) : Int)) ∧ w3.cell? ⟨gg, k * 2 + 1, none⟩ = some (.int .u8 ((ps[k].2 : Nat) : Int)) := by
    rcases hrow.2 with ⟨h1, h2⟩ | ⟨gg, cap, cur, hv2, hg, hh, hcap, r⟩
    · exact ⟨none, 0, by rw [h1, h2], fun k h => by omega⟩
    · subst hv2
      refine ⟨some ⟨gg, 0, none⟩, cap, rfl, fun k h => ⟨gg, rfl, (Array.getElem?_eq_some_iff.1 hh).1, by omega, hcap, ?_, ?_⟩⟩
      · rw [hrow.cellAt (k * 2) (by omega)]; exact spCells_at ps h |>.1
      · rw [hrow.cellAt (k * 2 + 1) (by omega)]; exact spCells_at ps h |>.2
  clear hrow hT2 hb3 bu hTW hB hB2
  replace hptr := Lib.hid hptr
  replace hB3 := Lib.hid hB3
  replace bf := Lib.hid bf
  replace bg := Lib.hid bg
  replace hT3 := Lib.hid hT3
  replace bu3 := Lib.hid bu3
  go_wp2_with fail
  go_loopw [14, 7] (fun i _ wr => ∃ k : Nat, k ≤ ps.length ∧ i = .int .i64 k ∧ SetBox wr w1.heap.size 28 (spU (ps.take k)) ∧ Exc w3 w1.heap.size wr ∧ Below w.heap.size w wr) (fun i _ _ => ps.length - (intOf i).toNat)
  case atStart => exact ⟨0, Nat.zero_le _, rfl, bu3.out, Exc.refl _ _, hB3.out⟩
  case round =>
    clear bu3 hB3
    obtain ⟨k, hk, rfl, bu, hE, hB⟩ := hrel
    by_cases hlt : k < ps.length
    · obtain ⟨gg, rfl, hgl, hgne, hcap, hc0, hc1⟩ := hptr.out k hlt
      replace hc0 := (hE.cell (o := k * 2) hgl hgne).trans hc0
      replace hc1 := (hE.cell (o := k * 2 + 1) hgl hgne).trans hc1
      have hab := hs1.out ps[k] (List.getElem_mem hlt)
      have htk : ∀ c, c < 256 → orS (spU (ps.take k)) (spanS ps[k].1 ps[k].2) c = spU (ps.take (k + 1)) c := fun c _ => by
        rw [List.take_succ_eq_append_getElem hlt]
        unfold orS spanS
        rw [spU_snoc]
      replace htk := Lib.hid htk
      clear hptr
      have ha8 : ps[k].1 ≤ 255 := by omega
      have hb8 : ps[k].2 ≤ 255 := by omega
      clear hab
      generalize ps[k].1 = a at *
      generalize ps[k].2 = b at *
      obtain ⟨W4, hW4, bx, hB4⟩ : ∃ W4, wr.alloc (.cells #[.int .u8 (a : Int), .int .u8 (b : Int)] 50) = W4 ∧ W4.heap[wr.heap.size]? = some (.cells #[.int .u8 (a : Int), .int .u8 (b : Int)] 50 (0, 0)) ∧ Bel wr W4 :=
        ⟨_, rfl, World.alloc_heap_new _ _, (Below.refl _ _).alloc (Nat.le_refl _) _⟩
      have hl4 : wr.heap.size < W4.heap.size := (Array.getElem?_eq_some_iff.1 bx).1
      have x0 : ∀ w', Bel W4 w' → w'.cell? ⟨wr.heap.size, 0, none⟩ = some (.int .u8 (a : Int)) := fun w' h => by
        have := (Below.block h wr.heap.size hl4).trans bx
        simp [World.cell?, this]
      have x1 : ∀ w', Bel W4 w' → w'.cell? ⟨wr.heap.size, 1, none⟩ = some (.int .u8 (b : Int)) := fun w' h => by
        have := (Below.block h wr.heap.size hl4).trans bx
        simp [World.cell?, this]
      have bu4 : SetBox W4 w1.heap.size 28 (spU (ps.take k)) := bu.blk.bel hB4
      obtain ⟨u0, u1, u2, u3⟩ := bu4.blk.all
      have hB5 := hB.trans (Below.mono hB4 hB.size)
      have hE5 := hE.bel hB4
      replace hW4 := Lib.hid hW4
      replace hB5 := Lib.hid hB5
      replace hE5 := Lib.hid hE5
      replace hB := Lib.hid hB
      replace bx := Lib.hid bx
      replace hB4 := Lib.hid hB4
      replace bu4 := Lib.hid bu4
      clear bu hE hl4
      go_wp2_with fail
      rw [hW4.out]
      refine wp_region_bel_tail 7 (by kernel_rfl) (by kernel_rfl) ?_
      simp only [List.take_succ_cons, List.take_zero, List.drop_succ_cons, List.drop_zero]
      repeat (first
        | go_big_quiet_skip
        | (go_big_quiet_want
           first
             | (refine BigFrame.quiet_move _ rfl ?_
                simp only [Act.put, Act.eval, List.setIfInBounds_toArray, List.set_cons_zero, List.set_cons_succ, List.getD_toArray, List.getD_cons_zero, List.getD_cons_succ]
                go_big_quiet_on)
             | (refine BigFrame.quiet_assign _ rfl ?_
                simp only [Act.put, Act.eval, List.setIfInBounds_toArray, List.set_cons_zero, List.set_cons_succ, List.getD_toArray, List.getD_cons_zero, List.getD_cons_succ]
                go_big_quiet_on)
             | (refine quiet_call 12 ?_
                apply Exists.intro
                refine ⟨fun w' hC => ?_, ?_⟩
                · go_simp
                  with_reducible rfl
                refine ⟨_, fun w' hC => Calls.bel hC (span_in a b ha8 hb8 _), ?_⟩
                simp only [Act.put, List.setIfInBounds_toArray, List.set_cons_zero, List.set_cons_succ]
                go_big_quiet_on)
             | (refine quiet_call 16 ?_
                apply Exists.intro
                refine ⟨fun w' hC => ?_, ?_⟩
                · go_simp
                  with_reducible rfl
                refine ⟨_, fun w' hC => Calls.bel hC (or_in (spU (ps.take k)) (spanS a b) _), ?_⟩
                simp only [Act.put, List.setIfInBounds_toArray, List.set_cons_zero, List.set_cons_succ]
                go_big_quiet_on)
             | (refine quiet_val ?_
                apply Exists.intro
                refine ⟨fun w' hC => ?_, ?_⟩
                · go_simp
                  with_reducible rfl
                simp only [Act.put, List.setIfInBounds_toArray, List.set_cons_zero, List.set_cons_succ]
                go_big_quiet_on)))
      refine wpQuiet_nil ?_
      intro wq hq

      obtain ⟨⟨r0, r1, r2, r3⟩, z0, z1, z2, z3⟩ := (bu4.out.blk.bel hq).facts
      have h1 := Lib.hid (below_set4 (hB5.out.trans (Below.mono hq hB5.out.size)) (b := w1.heap.size) (by omega) (.int .u64 (wd (orS (spU (ps.take k)) (spanS a b)) 0)) (.int .u64 (wd (orS (spU (ps.take k)) (spanS a b)) 1)) (.int .u64 (wd (orS (spU (ps.take k)) (spanS a b)) 2)) (.int .u64 (wd (orS (spU (ps.take k)) (spanS a b)) 3)))
      have hbx : SetBox _ w1.heap.size 28 (orS (spU (ps.take k)) (spanS a b)) := (bu4.out.blk.bel hq).set (.int .u64 (wd (orS (spU (ps.take k)) (spanS a b)) 0)) (.int .u64 (wd (orS (spU (ps.take k)) (spanS a b)) 1)) (.int .u64 (wd (orS (spU (ps.take k)) (spanS a b)) 2)) (.int .u64 (wd (orS (spU (ps.take k)) (spanS a b)) 3))
      have h2 := Lib.hid (hbx.congr (g := spU (ps.take (k + 1))) htk.out)
      have h3 := Lib.hid ((hE5.out.bel hq).set4 (.int .u64 (wd (orS (spU (ps.take k)) (spanS a b)) 0)) (.int .u64 (wd (orS (spU (ps.take k)) (spanS a b)) 1)) (.int .u64 (wd (orS (spU (ps.take k)) (spanS a b)) 2)) (.int .u64 (wd (orS (spU (ps.take k)) (spanS a b)) 3)))
      clear hbx u0 u1 u2 u3 x0 x1 hq
      go_wp2
      go_roundw
      case rel => exact ⟨k + 1, by omega, by go_num, h2.out, h3.out, h1.out⟩
      case measure => simp [intOf]; omega
    · have e : ps.take k = ps := List.take_of_length_le (by omega)
      rw [e] at bu
      clear e
      replace bu := bu.congr hcov.out
      have hT4 := hE.tab hT3.out (by have := hT3.out.1; omega)
      have bf4 := hE.blk bf.out (by omega)
      have bg4 := hE.blk bg.out (by omega)
      clear hptr hs1 hcov bf bg hT3
      have heq := eq28
      have l0 : wd (listS ys) 0 = wd f 0 := wd_congr fun i hi => hlS.out _ (by omega)
      have d0 : wd (andS (notS f) (notS g)) 0 = wd (notS (orS f g)) 0 := wd_congr fun i _ => by simp [andS, notS, orS]
      have m0 : wd (orS (minusS f g) (andS f g)) 0 = wd f 0 := wd_congr fun i _ => by simp only [orS, minusS, andS, notS]; cases f (64 * 0 + i) <;> cases g (64 * 0 + i) <;> rfl
      have l1 : wd (listS ys) 1 = wd f 1 := wd_congr fun i hi => hlS.out _ (by omega)
      have d1 : wd (andS (notS f) (notS g)) 1 = wd (notS (orS f g)) 1 := wd_congr fun i _ => by simp [andS, notS, orS]
      have m1 : wd (orS (minusS f g) (andS f g)) 1 = wd f 1 := wd_congr fun i _ => by simp only [orS, minusS, andS, notS]; cases f (64 * 1 + i) <;> cases g (64 * 1 + i) <;> rfl
      have l2 : wd (listS ys) 2 = wd f 2 := wd_congr fun i hi => hlS.out _ (by omega)
      have d2 : wd (andS (notS f) (notS g)) 2 = wd (notS (orS f g)) 2 := wd_congr fun i _ => by simp [andS, notS, orS]
      have m2 : wd (orS (minusS f g) (andS f g)) 2 = wd f 2 := wd_congr fun i _ => by simp only [orS, minusS, andS, notS]; cases f (64 * 2 + i) <;> cases g (64 * 2 + i) <;> rfl
      have l3 : wd (listS ys) 3 = wd f 3 := wd_congr fun i hi => hlS.out _ (by omega)
      have d3 : wd (andS (notS f) (notS g)) 3 = wd (notS (orS f g)) 3 := wd_congr fun i _ => by simp [andS, notS, orS]
      have m3 : wd (orS (minusS f g) (andS f g)) 3 = wd f 3 := wd_congr fun i _ => by simp only [orS, minusS, andS, notS]; cases f (64 * 3 + i) <;> cases g (64 * 3 + i) <;> rfl
      have e5 : eqB (andS (minusS f g) g) noS = true := eqB_true fun c _ => by simp only [andS, minusS, notS, noS]; cases f c <;> cases g c <;> rfl
      have z1 := szS_le f
      have z2 := szS_le g
      have zs := szS_sum f g
      have s1 : IntKind.i64.wrap ((szS (orS f g) : Int) + szS (andS f g)) = ((szS f + szS g : Nat) : Int) := by rw [IntKind.wrap_i64]; omega
      have s2 : IntKind.i64.wrap ((szS f : Int) + szS g) = ((szS f + szS g : Nat) : Int) := by rw [IntKind.wrap_i64]; omega
      obtain ⟨f0, f1, f2, f3⟩ := bf4.all
      obtain ⟨g0, g1, g2, g3⟩ := bg4.all
      obtain ⟨u0, u1, u2, u3⟩ := bu.blk.all
      have hR : Bel wr wr := Bel.refl wr
      replace hT4 := Lib.hid hT4
      replace hB := Lib.hid hB
      clear z1 z2 zs bf4 bg4 bu hE
      generalize szS f + szS g = sz at *
      go_wp2_with fail
      go_region_held3 (Bel wr) (first | assumption | exact Bel.drew ‹_›) (first | (go_at_call 24; refine (hL.out _ (hT4.out.below ‹Bel wr _› hT4.out.1)).mono ?_; rintro e w' ⟨v, rfl, hrow, hb⟩; replace hb := Bel.step ‹Bel wr _› hb) | (go_at_call 9; refine (of_in _ ys hly.out hys.out _ (ownsRow_base hrow (Nat.zero_le _))).mono ?_; clear hrow; rintro e w' ⟨rfl, hb⟩; replace hb := Bel.step ‹Bel wr _› hb) | (go_at_call 16; (with_reducible refine (or_in _ _ _).mono ?_); rintro e w' ⟨rfl, hb⟩; replace hb := Bel.step ‹Bel wr _› hb) | (go_at_call 20; (with_reducible refine (not_in _ _).mono ?_); rintro e w' ⟨rfl, hb⟩; replace hb := Bel.step ‹Bel wr _› hb) | (go_at_call 18; (with_reducible refine (and_in _ _ _).mono ?_); rintro e w' ⟨rfl, hb⟩; replace hb := Bel.step ‹Bel wr _› hb) | (go_at_call 19; (with_reducible refine (minus_in _ _ _).mono ?_); rintro e w' ⟨rfl, hb⟩; replace hb := Bel.step ‹Bel wr _› hb) | (go_at_call 26; (with_reducible refine (empty_in _ _).mono ?_); rintro e w' ⟨rfl, hb⟩; replace hb := Bel.step ‹Bel wr _› hb) | (go_at_call 25; (with_reducible refine (len_in _ _).mono ?_); rintro e w' ⟨rfl, hb⟩; replace hb := Bel.step ‹Bel wr _› hb))
      clear f0 f1 f2 f3 g0 g1 g2 g3 u0 u1 u2 u3 heq s1 s2 e5 l0 l1 l2 l3 d0 d1 d2 d3 m0 m1 m2 m3
      go_wp2
      go_ret
      exact ⟨rfl, hB.out.trans (Below.mono ‹Bel wr _› hB.out.size)⟩
end Go.Proofs.YtfgdbpepgahclaaDoor
