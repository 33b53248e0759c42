/- A set's text: the reference. -/
import Derived.Test.YtbkmoaollooomaaDoorS6B
import Derived.Test.YtbkmoaollooomaaDoorS1E
import Derived.IntWalk
namespace Go.Proofs.YtbkmoaollooomaaDoor.S6
open Go.RowKit
open S5 (nl nl_length nl_small at_nl nl_at Rd Sp nl_strN nl_inj nl_append sp_small Bld)
open S1 (Blk4 SetBox BoolRow wd noS oneS spanS orS notS spU eqB el spAll spCells)
theorem full_in (w : World) : Calls Tryd.prog 39 #[.int .i64 0, .int .i64 255] w fun e w' => e = .returned (.agg #[.int .u64 (S1.wd (spanS 0 255) 0), .int .u64 (S1.wd (spanS 0 255) 1), .int .u64 (S1.wd (spanS 0 255) 2), .int .u64 (S1.wd (spanS 0 255) 3)]) ∧ Below w.heap.size w w' := S1.refspan_in 0 255 (by decide) (by decide) w
/-- What List gives back, as far as its length goes. -/
def GivesLen (w : World) (n : Nat) (e : Ending) (w' : World) : Prop := ∃ p cap, e = .returned (.slice p n cap) ∧ Below w.heap.size w w'
theorem list_len (f : Nat → Bool) (w : World) : Calls Tryd.prog 26 #[(.agg #[.int .u64 (S1.wd (f) 0), .int .u64 (S1.wd (f) 1), .int .u64 (S1.wd (f) 2), .int .u64 (S1.wd (f) 3)])] w (GivesLen w (el f 256).length) := by
  refine (S1.reflist_in f w).mono ?_
  rintro e w' ⟨v, rfl, hrow, hb⟩
  obtain ⟨p, cap, rfl, -⟩ := S1.row_form hrow
  exact ⟨p, cap, rfl, hb⟩
/-- A row of numbers in memory: the ends of ranges. -/
def IRow (w : World) (g : Nat) (ps : List (Nat × Nat)) : Prop := ∃ cs, w.heap[g]? = some (.cells cs 3 (0, 0)) ∧ ∀ k (h : k < ps.length), cs[2 * k]? = some (.int .i64 (ps[k].1 : Nat)) ∧ cs[2 * k + 1]? = some (.int .i64 (ps[k].2 : Nat))
theorem IRow.bel {w w' : World} {g : Nat} {ps : List (Nat × Nat)} (h : IRow w g ps) (hb : Bel w w') : IRow w' g ps := by
  obtain ⟨cs, h1, h2⟩ := h
  exact ⟨cs, (Below.block hb g (lt_of_block h1)).trans h1, h2⟩
theorem IRow.cells {w : World} {g : Nat} {ps : List (Nat × Nat)} (h : IRow w g ps) {k : Nat} (hk : k < ps.length) :
    w.cell? ⟨g, 2 * k, none⟩ = some (.int .i64 (ps[k].1 : Nat)) ∧ w.cell? ⟨g, 2 * k + 1, none⟩ = some (.int .i64 (ps[k].2 : Nat)) := by
  obtain ⟨cs, h1, h2⟩ := h
  have := h2 k hk
  constructor
  · rw [cell_of_row w g _ _ _ (0, 0) h1]; simpa using this.1
  · rw [cell_of_row w g _ _ _ (0, 0) h1]; simpa using this.2
/-- What the reference's Spans gives back. -/
def GivesIRow (w : World) (ps : List (Nat × Nat)) (e : Ending) (w' : World) : Prop := ∃ g cap, e = .returned (.slice (some ⟨g, 0, none⟩) (2 * ps.length) cap) ∧ 2 * ps.length ≤ cap ∧ IRow w' g ps ∧ Below w.heap.size w w'
theorem rspans_row (f : Nat → Bool) (hne : spAll (el f 256) ≠ []) (w : World) : Calls Tryd.prog 40 #[(.agg #[.int .u64 (S1.wd (f) 0), .int .u64 (S1.wd (f) 1), .int .u64 (S1.wd (f) 2), .int .u64 (S1.wd (f) 3)])] w (GivesIRow w (spAll (el f 256))) := by
  refine (S1.refspans_in f w).mono ?_
  rintro e w' ⟨v, rfl, hrow, hb⟩
  generalize spAll (el f 256) = ps at *
  have hl := S1.flat_len ps
  have hpos : ps.length ≠ 0 := by simpa using hne
  rcases hrow.2 with ⟨_, h0⟩ | ⟨g, cap, cur, hv, _, hg, hcap, r⟩
  · exfalso; omega
  · subst hv
    rw [hl] at hcap hrow ⊢
    refine ⟨g, cap, rfl, hcap, ⟨cur, hg, fun k hk => ?_⟩, hb⟩
    have h1 := hrow.cellAt (2 * k) (by omega)
    have h2 := hrow.cellAt (2 * k + 1) (by omega)
    rw [cell_of_row w' g _ _ _ (0, 0) hg] at h1 h2
    have := S1.flat_at ps hk
    rw [List.getElem?_map, this.1] at h1
    rw [List.getElem?_map, this.2] at h2
    exact ⟨by simpa [S1.encI] using h1, by simpa [S1.encI] using h2⟩
set_option maxRecDepth 10000 in
set_option maxHeartbeats 4000000 in
theorem rtext_neg0 (f : Nat → Bool) {n : Nat} (hn : (el f 256).length = n) (hc : n = 0) (w : World) :
    Calls Tryd.prog 29 #[(.agg #[.int .u64 (S1.wd (f) 0), .int .u64 (S1.wd (f) 1), .int .u64 (S1.wd (f) 2), .int .u64 (S1.wd (f) 3)])] w fun e w' => e = .returned (.string (strN (txtB f))) ∧ Below w.heap.size w w' := by
  have hneg : neg f = true := by
    unfold neg
    rw [hn]
    simp
    omega
  have hres : strN ([91, 94] ++ itms (spAll (el (notS f) 256))) ++ ⟨#[93]⟩ = strN (txtB f) := by
    unfold txtB rng
    rw [hneg]
    have e : (⟨#[93]⟩ : ByteArray) = strN [93] := by decide
    rw [e, ← strN_app]
    simp
  have hne : spAll (el (notS f) 256) ≠ [] := by
    have := rng_ne f
    unfold rng at this
    rw [hneg] at this
    simpa using this
  have hok := Lib.hid (rng_ok' (notS f))
  have hln : (spAll (el (notS f) 256)).length ≤ 256 := spAll_256 _
  have cL := fun w => list_len f w
  rw [hn] at cL
  replace cL := Lib.hid cL
  have cF := Lib.hid full_in
  have cM := Lib.hid (fun w => S1.both2_in (spanS 0 255) f w)
  obtain ⟨r0, r1, r2, r3⟩ := wd_same (f := S1.minusS (spanS 0 255) f) (g := notS f) (fun c hc => by rw [Bool.eq_iff_iff]; simp [S1.minusS, S1.andS, spanS, notS]; omega)
  have cS : ∀ w, Calls Tryd.prog 40 #[(.agg #[.int .u64 (S1.wd (S1.minusS (spanS 0 255) f) 0), .int .u64 (S1.wd (S1.minusS (spanS 0 255) f) 1), .int .u64 (S1.wd (S1.minusS (spanS 0 255) f) 2), .int .u64 (S1.wd (S1.minusS (spanS 0 255) f) 3)])] w (GivesIRow w (spAll (el (notS f) 256))) := fun w => by
    rw [r0, r1, r2, r3]
    exact rspans_row (notS f) hne w
  clear r0 r1 r2 r3
  replace cS := Lib.hid cS
  replace hres := Lib.hid hres
  have hn8 : n ≤ 256 := by have := S1.el_len f 256; omega
  subst hc
  clear hneg hn hne
  try clear hc
  go_enter Tryd.func29, Tryd.ntmps29
  go_wp2_with fail
  obtain ⟨W, hW, bx, hB⟩ := S1.boxes1 w 23 (.int .u64 (S1.wd (f) 0)) (.int .u64 (S1.wd (f) 1)) (.int .u64 (S1.wd (f) 2)) (.int .u64 (S1.wd (f) 3))
  rw [hW]
  clear hW
  obtain ⟨⟨g0, g1, g2, g3⟩, y0, y1, y2, y3⟩ := bx.facts
  go_wp2_with (go_at_call 26; (with_reducible refine (cL.out _).mono ?_); rintro e w1 ⟨p, cap, rfl, h1⟩; replace bx := bx.bel h1; replace hB := hB.trans (h1.mono hB.size); clear h1; obtain ⟨⟨g0, g1, g2, g3⟩, y0, y1, y2, y3⟩ := bx.facts)
  have x0 : ∀ w', Bel w1 w' → w'.cell? ⟨w.heap.size, 0, none⟩ = some (.int .u64 (wd f 0)) := (bx.all).1
  have x1 : ∀ w', Bel w1 w' → w'.cell? ⟨w.heap.size, 1, none⟩ = some (.int .u64 (wd f 1)) := (bx.all).2.1
  have x2 : ∀ w', Bel w1 w' → w'.cell? ⟨w.heap.size, 2, none⟩ = some (.int .u64 (wd f 2)) := (bx.all).2.2.1
  have x3 : ∀ w', Bel w1 w' → w'.cell? ⟨w.heap.size, 3, none⟩ = some (.int .u64 (wd f 3)) := (bx.all).2.2.2
  clear g0 g1 g2 g3 y0 y1 y2 y3
  refine wp_region_bel_tail 3 (by kernel_rfl) (by kernel_rfl) ?_
  simp only [List.take_succ_cons, List.take_zero, List.drop_succ_cons, List.drop_zero]
  repeat (first
    | go_big_quiet_skip
    | (go_big_quiet_want
       first
         | (refine BigFrame.quiet_move _ rfl ?_
            simp only [Act.put, Act.eval, List.setIfInBounds_toArray, List.set_cons_zero, List.set_cons_succ, List.getD_toArray, List.getD_cons_zero, List.getD_cons_succ]
            go_big_quiet_on)
         | (refine BigFrame.quiet_assign _ rfl ?_
            simp only [Act.put, Act.eval, List.setIfInBounds_toArray, List.set_cons_zero, List.set_cons_succ, List.getD_toArray, List.getD_cons_zero, List.getD_cons_succ]
            go_big_quiet_on)
         | (refine quiet_call 39 ?_
            apply Exists.intro
            refine ⟨fun w' hC => ?_, ?_⟩
            · go_simp
              with_reducible rfl
            refine ⟨_, fun w' hC => Calls.bel hC (by with_reducible exact cF.out _), ?_⟩
            simp only [Act.put, List.setIfInBounds_toArray, List.set_cons_zero, List.set_cons_succ]
            go_big_quiet_on)
         | (refine quiet_call 38 ?_
            apply Exists.intro
            refine ⟨fun w' hC => ?_, ?_⟩
            · go_simp
              with_reducible rfl
            refine ⟨_, fun w' hC => Calls.bel hC (by with_reducible exact cM.out _), ?_⟩
            simp only [Act.put, List.setIfInBounds_toArray, List.set_cons_zero, List.set_cons_succ]
            go_big_quiet_on)
         | (refine quiet_val ?_
            apply Exists.intro
            refine ⟨fun w' hC => ?_, ?_⟩
            · go_simp
              with_reducible rfl
            simp only [Act.put, List.setIfInBounds_toArray, List.set_cons_zero, List.set_cons_succ]
            go_big_quiet_on)))
  refine wpQuiet_nil ?_
  intro wq hq
  obtain ⟨-, y0, y1, y2, y3⟩ := (bx.bel hq).facts
  obtain ⟨c0, c1, c2, c3⟩ := (bx.bel hq).facts.1
  replace hB := hB.trans (hq.mono hB.size)
  obtain ⟨W3, hW3, hb3, hB3⟩ := stored (bx.bel hq) hB (Nat.le_refl _) (.int .u64 (S1.wd (S1.minusS (spanS 0 255) f) 0)) (.int .u64 (S1.wd (S1.minusS (spanS 0 255) f) 1)) (.int .u64 (S1.wd (S1.minusS (spanS 0 255) f) 2)) (.int .u64 (S1.wd (S1.minusS (spanS 0 255) f) 3))
  replace hW3 := Lib.hid hW3
  clear x0 x1 x2 x3 hB
  have hB := Lib.hid hB3
  have bx3 : SetBox W3 w.heap.size 23 (notS f) := SetBox.congr (f := S1.minusS (spanS 0 255) f) hb3 (fun c hc => by rw [Bool.eq_iff_iff]; simp [S1.minusS, S1.andS, spanS, notS]; omega)
  obtain ⟨⟨f0, f1, f2, f3⟩, -⟩ := bx3.blk.facts
  clear hb3 hB3 bx3
  go_wp2_with fail
  rw [hW3.out]
  go_wp2_with (go_at_call 40; (with_reducible refine (cS.out _).mono ?_); rintro e w4 ⟨gs, cap2, rfl, hcap, hI, hb⟩; replace hB := Lib.hid (hB.out.trans (hb.mono hB.out.size)); replace hI := Lib.hid hI; replace hcap := Lib.hid hcap; clear hb)
  have hS0 : (⟨#[91, 94]⟩ : ByteArray) = strN ([91, 94] ++ itms ((spAll (el (notS f) 256)).take 0)) := by simp [itms]; decide
  generalize spAll (el (notS f) 256) = ps at *
  rw [hS0]
  clear hS0
  generalize hN9 : 2 * ps.length = N at *
  replace hN9 := Lib.hid hN9
  go_loopw [4, 6] (fun v i wr => ∃ k m : Nat, k ≤ ps.length ∧ Hid (m = 2 * k) ∧ i = .int .i64 m ∧ v = .string (strN ([91, 94] ++ itms (ps.take k))) ∧ Hid (Below w.heap.size w wr) ∧ Hid (IRow wr gs ps)) (fun _ i _ => 2 * ps.length - (intOf i).toNat)
  case atStart => exact ⟨0, 0, Nat.zero_le _, Lib.hid rfl, by go_num, rfl, hB, hI⟩
  case round =>
    clear hB hI
    obtain ⟨k, m, hk, hm, rfl, rfl, hB, hI⟩ := hrel
    by_cases hlt : k < ps.length
    · have hp := hok.out ps[k] (List.getElem_mem hlt)
      have hsk := Lib.hid (itms_take hlt)
      obtain ⟨c0, c1⟩ := hI.out.cells hlt
      rw [← hm.out] at c0 c1
      generalize ps[k] = p at *
      obtain ⟨lo, hi⟩ := p
      simp only at hp c0 c1
      have hh8 : hi ≤ 255 := hp.2
      have hl8 : lo ≤ hi := hp.1
      have hl9 : lo ≤ 255 := by omega
      clear hp
      have szA := pi_sz hl9
      have szB := pi_sz hh8
      have sz0 : (strN ([91, 94] ++ itms (ps.take k))).size ≤ 2310 := by rw [strN_size]; have := itms_bound hok.out hk hln; simp; omega
      have cA := Lib.hid (fun w => S5.rinner_in (pi_sp hl9) w)
      have cZ := Lib.hid (fun w => S5.rinner_in (pi_sp hh8) w)
      have hmN : m + 1 < N := by have := hm.out; have := hN9.out; omega
      have hmb : m ≤ 512 := by have := hm.out; omega
      have hc9 := hcap.out
      have k1 : IntKind.i64.wrap ((m : Int) + 1) = m + 1 := IntWalk.i64_in _ (by omega)
      have k2 : ((m : Int) + 1).toNat = m + 1 := by omega
      have k3 : (0 : Int) ≤ (m : Int) + 1 := by omega
      have e1 : IntKind.u8.wrap (lo : Int) = lo := by rw [IntKind.wrap_u8]; omega
      have e2 : IntKind.u8.wrap (hi : Int) = hi := by rw [IntKind.wrap_u8]; omega
      rcases Nat.lt_or_ge (lo + 1) hi with hc1 | hc1
      · have hval : strN ([91, 94] ++ itms (ps.take (k + 1))) = strN ([91, 94] ++ itms (ps.take k)) ++ strN (pi lo) ++ ⟨#[45]⟩ ++ strN (pi hi) := by
          rw [hsk.out, ← List.append_assoc, strN_app]
          have : strN (itm (lo, hi)) = strN (pi lo) ++ ⟨#[45]⟩ ++ strN (pi hi) := by
            unfold itm
            rw [if_pos (by simp only; omega), if_pos (by simp only; omega), strN_app, strN_app, dashB]
          rw [this] <;> first | rfl | simp only [ByteArray.append_assoc]
        replace hval := Lib.hid hval
        have d1 : decide ((lo : Int) + 1 < hi) = true := by simp; omega
        have d2 : decide (lo < hi) = true := by simp; omega
        clear hsk
        generalize strN (pi lo) = SA at *
        generalize strN (pi hi) = SB at *
        generalize strN ([91, 94] ++ itms (ps.take k)) = S0 at *
        go_wp2
        go_quiet (fail)
        go_wp2_with (go_at_call 41; first | ((with_reducible refine (cA.out _).mono ?_); rintro e w5 ⟨rfl, h1⟩; have hd : Bel wr w5 := (below_drewN (Below.refl wr.heap.size wr) _).trans (h1.mono (below_drewN (Below.refl wr.heap.size wr) _).size); replace hB := Lib.hid (hB.out.trans (hd.mono hB.out.size)); replace hI := Lib.hid (hI.out.bel hd); clear h1 hd) | ((with_reducible refine (cZ.out _).mono ?_); rintro e w5 ⟨rfl, h1⟩; replace hB := Lib.hid (hB.out.trans (h1.mono hB.out.size)); replace hI := Lib.hid (hI.out.bel h1); clear h1))
        go_roundw
        case rel => exact ⟨k + 1, m + 2, by omega, Lib.hid (by have := hm.out; omega), by go_num, by rw [hval.out], hB, hI⟩
        case measure => have := hm.out; have := hN9.out; simp [intOf]; omega
      · by_cases hc2 : lo < hi
        · have hval : strN ([91, 94] ++ itms (ps.take (k + 1))) = strN ([91, 94] ++ itms (ps.take k)) ++ strN (pi lo) ++ strN (pi hi) := by
            rw [hsk.out, ← List.append_assoc, strN_app]
            have : strN (itm (lo, hi)) = strN (pi lo) ++ strN (pi hi) := by
              unfold itm
              rw [if_neg (by simp only; omega), if_pos (by simp only; omega), List.append_nil, strN_app]
            rw [this] <;> first | rfl | simp only [ByteArray.append_assoc]
          replace hval := Lib.hid hval
          have d1 : decide ((lo : Int) + 1 < hi) = false := by simp; omega
          have d2 : decide (lo < hi) = true := by simp; omega
          clear hsk
          generalize strN (pi lo) = SA at *
          generalize strN (pi hi) = SB at *
          generalize strN ([91, 94] ++ itms (ps.take k)) = S0 at *
          go_wp2
          go_quiet (fail)
          go_wp2_with (go_at_call 41; first | ((with_reducible refine (cA.out _).mono ?_); rintro e w5 ⟨rfl, h1⟩; have hd : Bel wr w5 := (below_drewN (Below.refl wr.heap.size wr) _).trans (h1.mono (below_drewN (Below.refl wr.heap.size wr) _).size); replace hB := Lib.hid (hB.out.trans (hd.mono hB.out.size)); replace hI := Lib.hid (hI.out.bel hd); clear h1 hd) | ((with_reducible refine (cZ.out _).mono ?_); rintro e w5 ⟨rfl, h1⟩; replace hB := Lib.hid (hB.out.trans (h1.mono hB.out.size)); replace hI := Lib.hid (hI.out.bel h1); clear h1))
          go_roundw
          case rel => exact ⟨k + 1, m + 2, by omega, Lib.hid (by have := hm.out; omega), by go_num, by rw [hval.out], hB, hI⟩
          case measure => have := hm.out; have := hN9.out; simp [intOf]; omega
        · have hval : strN ([91, 94] ++ itms (ps.take (k + 1))) = strN ([91, 94] ++ itms (ps.take k)) ++ strN (pi lo) := by
            rw [hsk.out, ← List.append_assoc, strN_app]
            have : strN (itm (lo, hi)) = strN (pi lo) := by
              unfold itm
              rw [if_neg (by simp only; omega), if_neg (by simp only; omega), List.append_nil, List.append_nil]
            rw [this] <;> first | rfl | simp only [ByteArray.append_assoc]
          replace hval := Lib.hid hval
          have d1 : decide ((lo : Int) + 1 < hi) = false := by simp; omega
          have d2 : decide (lo < hi) = false := by simp; omega
          clear hsk
          generalize strN (pi lo) = SA at *
          generalize strN (pi hi) = SB at *
          generalize strN ([91, 94] ++ itms (ps.take k)) = S0 at *
          go_wp2
          go_quiet (fail)
          go_wp2_with (go_at_call 41; first | ((with_reducible refine (cA.out _).mono ?_); rintro e w5 ⟨rfl, h1⟩; have hd : Bel wr w5 := (below_drewN (Below.refl wr.heap.size wr) _).trans (h1.mono (below_drewN (Below.refl wr.heap.size wr) _).size); replace hB := Lib.hid (hB.out.trans (hd.mono hB.out.size)); replace hI := Lib.hid (hI.out.bel hd); clear h1 hd) | ((with_reducible refine (cZ.out _).mono ?_); rintro e w5 ⟨rfl, h1⟩; replace hB := Lib.hid (hB.out.trans (h1.mono hB.out.size)); replace hI := Lib.hid (hI.out.bel h1); clear h1))
          go_roundw
          case rel => exact ⟨k + 1, m + 2, by omega, Lib.hid (by have := hm.out; omega), by go_num, by rw [hval.out], hB, hI⟩
          case measure => have := hm.out; have := hN9.out; simp [intOf]; omega
    · obtain rfl : k = ps.length := by omega
      have hmN : m = N := by have := hm.out; have := hN9.out; omega
      subst hmN
      have hall : ps.take ps.length = ps := List.take_of_length_le (Nat.le_refl _)
      rw [hall]
      clear hall
      have hres2 := hres
      have sz0 : (strN ([91, 94] ++ itms ps)).size ≤ 2310 := by rw [strN_size]; have := itms_len hok.out; simp; omega
      generalize strN ([91, 94] ++ itms ps) = S0 at *
      go_wp2
      go_ret
      exact ⟨congrArg (fun x => Ending.returned (.string x)) hres2.out, hB.out⟩
set_option maxRecDepth 10000 in
set_option maxHeartbeats 4000000 in
theorem rtext_neg1 (f : Nat → Bool) {n : Nat} (hn : (el f 256).length = n) (hc : 128 < n ∧ n < 256) (w : World) :
    Calls Tryd.prog 29 #[(.agg #[.int .u64 (S1.wd (f) 0), .int .u64 (S1.wd (f) 1), .int .u64 (S1.wd (f) 2), .int .u64 (S1.wd (f) 3)])] w fun e w' => e = .returned (.string (strN (txtB f))) ∧ Below w.heap.size w w' := by
  have hneg : neg f = true := by
    unfold neg
    rw [hn]
    simp
    omega
  have hres : strN ([91, 94] ++ itms (spAll (el (notS f) 256))) ++ ⟨#[93]⟩ = strN (txtB f) := by
    unfold txtB rng
    rw [hneg]
    have e : (⟨#[93]⟩ : ByteArray) = strN [93] := by decide
    rw [e, ← strN_app]
    simp
  have hne : spAll (el (notS f) 256) ≠ [] := by
    have := rng_ne f
    unfold rng at this
    rw [hneg] at this
    simpa using this
  have hok := Lib.hid (rng_ok' (notS f))
  have hln : (spAll (el (notS f) 256)).length ≤ 256 := spAll_256 _
  have cL := fun w => list_len f w
  rw [hn] at cL
  replace cL := Lib.hid cL
  have cF := Lib.hid full_in
  have cM := Lib.hid (fun w => S1.both2_in (spanS 0 255) f w)
  obtain ⟨r0, r1, r2, r3⟩ := wd_same (f := S1.minusS (spanS 0 255) f) (g := notS f) (fun c hc => by rw [Bool.eq_iff_iff]; simp [S1.minusS, S1.andS, spanS, notS]; omega)
  have cS : ∀ w, Calls Tryd.prog 40 #[(.agg #[.int .u64 (S1.wd (S1.minusS (spanS 0 255) f) 0), .int .u64 (S1.wd (S1.minusS (spanS 0 255) f) 1), .int .u64 (S1.wd (S1.minusS (spanS 0 255) f) 2), .int .u64 (S1.wd (S1.minusS (spanS 0 255) f) 3)])] w (GivesIRow w (spAll (el (notS f) 256))) := fun w => by
    rw [r0, r1, r2, r3]
    exact rspans_row (notS f) hne w
  clear r0 r1 r2 r3
  replace cS := Lib.hid cS
  replace hres := Lib.hid hres
  have hn8 : n ≤ 256 := by have := S1.el_len f 256; omega
  have e0 : ((n : Int) == 0) = false := by simp; omega
  have e1 : decide ((128 : Int) < n) = true := by simp; omega
  have e2 : decide ((n : Int) < 256) = true := by simp; omega
  clear hneg hn hne
  try clear hc
  go_enter Tryd.func29, Tryd.ntmps29
  go_wp2_with fail
  obtain ⟨W, hW, bx, hB⟩ := S1.boxes1 w 23 (.int .u64 (S1.wd (f) 0)) (.int .u64 (S1.wd (f) 1)) (.int .u64 (S1.wd (f) 2)) (.int .u64 (S1.wd (f) 3))
  rw [hW]
  clear hW
  obtain ⟨⟨g0, g1, g2, g3⟩, y0, y1, y2, y3⟩ := bx.facts
  go_wp2_with (go_at_call 26; (with_reducible refine (cL.out _).mono ?_); rintro e w1 ⟨p, cap, rfl, h1⟩; replace bx := bx.bel h1; replace hB := hB.trans (h1.mono hB.size); clear h1; obtain ⟨⟨g0, g1, g2, g3⟩, y0, y1, y2, y3⟩ := bx.facts)
  have x0 : ∀ w', Bel w1 w' → w'.cell? ⟨w.heap.size, 0, none⟩ = some (.int .u64 (wd f 0)) := (bx.all).1
  have x1 : ∀ w', Bel w1 w' → w'.cell? ⟨w.heap.size, 1, none⟩ = some (.int .u64 (wd f 1)) := (bx.all).2.1
  have x2 : ∀ w', Bel w1 w' → w'.cell? ⟨w.heap.size, 2, none⟩ = some (.int .u64 (wd f 2)) := (bx.all).2.2.1
  have x3 : ∀ w', Bel w1 w' → w'.cell? ⟨w.heap.size, 3, none⟩ = some (.int .u64 (wd f 3)) := (bx.all).2.2.2
  clear g0 g1 g2 g3 y0 y1 y2 y3
  refine wp_region_bel_tail 3 (by kernel_rfl) (by kernel_rfl) ?_
  simp only [List.take_succ_cons, List.take_zero, List.drop_succ_cons, List.drop_zero]
  repeat (first
    | go_big_quiet_skip
    | (go_big_quiet_want
       first
         | (refine BigFrame.quiet_move _ rfl ?_
            simp only [Act.put, Act.eval, List.setIfInBounds_toArray, List.set_cons_zero, List.set_cons_succ, List.getD_toArray, List.getD_cons_zero, List.getD_cons_succ]
            go_big_quiet_on)
         | (refine BigFrame.quiet_assign _ rfl ?_
            simp only [Act.put, Act.eval, List.setIfInBounds_toArray, List.set_cons_zero, List.set_cons_succ, List.getD_toArray, List.getD_cons_zero, List.getD_cons_succ]
            go_big_quiet_on)
         | (refine quiet_call 39 ?_
            apply Exists.intro
            refine ⟨fun w' hC => ?_, ?_⟩
            · go_simp
              with_reducible rfl
            refine ⟨_, fun w' hC => Calls.bel hC (by with_reducible exact cF.out _), ?_⟩
            simp only [Act.put, List.setIfInBounds_toArray, List.set_cons_zero, List.set_cons_succ]
            go_big_quiet_on)
         | (refine quiet_call 38 ?_
            apply Exists.intro
            refine ⟨fun w' hC => ?_, ?_⟩
            · go_simp
              with_reducible rfl
            refine ⟨_, fun w' hC => Calls.bel hC (by with_reducible exact cM.out _), ?_⟩
            simp only [Act.put, List.setIfInBounds_toArray, List.set_cons_zero, List.set_cons_succ]
            go_big_quiet_on)
         | (refine quiet_val ?_
            apply Exists.intro
            refine ⟨fun w' hC => ?_, ?_⟩
            · go_simp
              with_reducible rfl
            simp only [Act.put, List.setIfInBounds_toArray, List.set_cons_zero, List.set_cons_succ]
            go_big_quiet_on)))
  refine wpQuiet_nil ?_
  intro wq hq
  obtain ⟨-, y0, y1, y2, y3⟩ := (bx.bel hq).facts
  obtain ⟨c0, c1, c2, c3⟩ := (bx.bel hq).facts.1
  replace hB := hB.trans (hq.mono hB.size)
  obtain ⟨W3, hW3, hb3, hB3⟩ := stored (bx.bel hq) hB (Nat.le_refl _) (.int .u64 (S1.wd (S1.minusS (spanS 0 255) f) 0)) (.int .u64 (S1.wd (S1.minusS (spanS 0 255) f) 1)) (.int .u64 (S1.wd (S1.minusS (spanS 0 255) f) 2)) (.int .u64 (S1.wd (S1.minusS (spanS 0 255) f) 3))
  replace hW3 := Lib.hid hW3
  clear x0 x1 x2 x3 hB
  have hB := Lib.hid hB3
  have bx3 : SetBox W3 w.heap.size 23 (notS f) := SetBox.congr (f := S1.minusS (spanS 0 255) f) hb3 (fun c hc => by rw [Bool.eq_iff_iff]; simp [S1.minusS, S1.andS, spanS, notS]; omega)
  obtain ⟨⟨f0, f1, f2, f3⟩, -⟩ := bx3.blk.facts
  clear hb3 hB3 bx3
  go_wp2_with fail
  rw [hW3.out]
  go_wp2_with (go_at_call 40; (with_reducible refine (cS.out _).mono ?_); rintro e w4 ⟨gs, cap2, rfl, hcap, hI, hb⟩; replace hB := Lib.hid (hB.out.trans (hb.mono hB.out.size)); replace hI := Lib.hid hI; replace hcap := Lib.hid hcap; clear hb)
  have hS0 : (⟨#[91, 94]⟩ : ByteArray) = strN ([91, 94] ++ itms ((spAll (el (notS f) 256)).take 0)) := by simp [itms]; decide
  generalize spAll (el (notS f) 256) = ps at *
  rw [hS0]
  clear hS0
  generalize hN9 : 2 * ps.length = N at *
  replace hN9 := Lib.hid hN9
  go_loopw [4, 6] (fun v i wr => ∃ k m : Nat, k ≤ ps.length ∧ Hid (m = 2 * k) ∧ i = .int .i64 m ∧ v = .string (strN ([91, 94] ++ itms (ps.take k))) ∧ Hid (Below w.heap.size w wr) ∧ Hid (IRow wr gs ps)) (fun _ i _ => 2 * ps.length - (intOf i).toNat)
  case atStart => exact ⟨0, 0, Nat.zero_le _, Lib.hid rfl, by go_num, rfl, hB, hI⟩
  case round =>
    clear hB hI
    obtain ⟨k, m, hk, hm, rfl, rfl, hB, hI⟩ := hrel
    by_cases hlt : k < ps.length
    · have hp := hok.out ps[k] (List.getElem_mem hlt)
      have hsk := Lib.hid (itms_take hlt)
      obtain ⟨c0, c1⟩ := hI.out.cells hlt
      rw [← hm.out] at c0 c1
      generalize ps[k] = p at *
      obtain ⟨lo, hi⟩ := p
      simp only at hp c0 c1
      have hh8 : hi ≤ 255 := hp.2
      have hl8 : lo ≤ hi := hp.1
      have hl9 : lo ≤ 255 := by omega
      clear hp
      have szA := pi_sz hl9
      have szB := pi_sz hh8
      have sz0 : (strN ([91, 94] ++ itms (ps.take k))).size ≤ 2310 := by rw [strN_size]; have := itms_bound hok.out hk hln; simp; omega
      have cA := Lib.hid (fun w => S5.rinner_in (pi_sp hl9) w)
      have cZ := Lib.hid (fun w => S5.rinner_in (pi_sp hh8) w)
      have hmN : m + 1 < N := by have := hm.out; have := hN9.out; omega
      have hmb : m ≤ 512 := by have := hm.out; omega
      have hc9 := hcap.out
      have k1 : IntKind.i64.wrap ((m : Int) + 1) = m + 1 := IntWalk.i64_in _ (by omega)
      have k2 : ((m : Int) + 1).toNat = m + 1 := by omega
      have k3 : (0 : Int) ≤ (m : Int) + 1 := by omega
      have e1 : IntKind.u8.wrap (lo : Int) = lo := by rw [IntKind.wrap_u8]; omega
      have e2 : IntKind.u8.wrap (hi : Int) = hi := by rw [IntKind.wrap_u8]; omega
      rcases Nat.lt_or_ge (lo + 1) hi with hc1 | hc1
      · have hval : strN ([91, 94] ++ itms (ps.take (k + 1))) = strN ([91, 94] ++ itms (ps.take k)) ++ strN (pi lo) ++ ⟨#[45]⟩ ++ strN (pi hi) := by
          rw [hsk.out, ← List.append_assoc, strN_app]
          have : strN (itm (lo, hi)) = strN (pi lo) ++ ⟨#[45]⟩ ++ strN (pi hi) := by
            unfold itm
            rw [if_pos (by simp only; omega), if_pos (by simp only; omega), strN_app, strN_app, dashB]
          rw [this] <;> first | rfl | simp only [ByteArray.append_assoc]
        replace hval := Lib.hid hval
        have d1 : decide ((lo : Int) + 1 < hi) = true := by simp; omega
        have d2 : decide (lo < hi) = true := by simp; omega
        clear hsk
        generalize strN (pi lo) = SA at *
        generalize strN (pi hi) = SB at *
        generalize strN ([91, 94] ++ itms (ps.take k)) = S0 at *
        go_wp2
        go_quiet (fail)
        go_wp2_with (go_at_call 41; first | ((with_reducible refine (cA.out _).mono ?_); rintro e w5 ⟨rfl, h1⟩; have hd : Bel wr w5 := (below_drewN (Below.refl wr.heap.size wr) _).trans (h1.mono (below_drewN (Below.refl wr.heap.size wr) _).size); replace hB := Lib.hid (hB.out.trans (hd.mono hB.out.size)); replace hI := Lib.hid (hI.out.bel hd); clear h1 hd) | ((with_reducible refine (cZ.out _).mono ?_); rintro e w5 ⟨rfl, h1⟩; replace hB := Lib.hid (hB.out.trans (h1.mono hB.out.size)); replace hI := Lib.hid (hI.out.bel h1); clear h1))
        go_roundw
        case rel => exact ⟨k + 1, m + 2, by omega, Lib.hid (by have := hm.out; omega), by go_num, by rw [hval.out], hB, hI⟩
        case measure => have := hm.out; have := hN9.out; simp [intOf]; omega
      · by_cases hc2 : lo < hi
        · have hval : strN ([91, 94] ++ itms (ps.take (k + 1))) = strN ([91, 94] ++ itms (ps.take k)) ++ strN (pi lo) ++ strN (pi hi) := by
            rw [hsk.out, ← List.append_assoc, strN_app]
            have : strN (itm (lo, hi)) = strN (pi lo) ++ strN (pi hi) := by
              unfold itm
              rw [if_neg (by simp only; omega), if_pos (by simp only; omega), List.append_nil, strN_app]
            rw [this] <;> first | rfl | simp only [ByteArray.append_assoc]
          replace hval := Lib.hid hval
          have d1 : decide ((lo : Int) + 1 < hi) = false := by simp; omega
          have d2 : decide (lo < hi) = true := by simp; omega
          clear hsk
          generalize strN (pi lo) = SA at *
          generalize strN (pi hi) = SB at *
          generalize strN ([91, 94] ++ itms (ps.take k)) = S0 at *
          go_wp2
          go_quiet (fail)
          go_wp2_with (go_at_call 41; first | ((with_reducible refine (cA.out _).mono ?_); rintro e w5 ⟨rfl, h1⟩; have hd : Bel wr w5 := (below_drewN (Below.refl wr.heap.size wr) _).trans (h1.mono (below_drewN (Below.refl wr.heap.size wr) _).size); replace hB := Lib.hid (hB.out.trans (hd.mono hB.out.size)); replace hI := Lib.hid (hI.out.bel hd); clear h1 hd) | ((with_reducible refine (cZ.out _).mono ?_); rintro e w5 ⟨rfl, h1⟩; replace hB := Lib.hid (hB.out.trans (h1.mono hB.out.size)); replace hI := Lib.hid (hI.out.bel h1); clear h1))
          go_roundw
          case rel => exact ⟨k + 1, m + 2, by omega, Lib.hid (by have := hm.out; omega), by go_num, by rw [hval.out], hB, hI⟩
          case measure => have := hm.out; have := hN9.out; simp [intOf]; omega
        · have hval : strN ([91, 94] ++ itms (ps.take (k + 1))) = strN ([91, 94] ++ itms (ps.take k)) ++ strN (pi lo) := by
            rw [hsk.out, ← List.append_assoc, strN_app]
            have : strN (itm (lo, hi)) = strN (pi lo) := by
              unfold itm
              rw [if_neg (by simp only; omega), if_neg (by simp only; omega), List.append_nil, List.append_nil]
            rw [this] <;> first | rfl | simp only [ByteArray.append_assoc]
          replace hval := Lib.hid hval
          have d1 : decide ((lo : Int) + 1 < hi) = false := by simp; omega
          have d2 : decide (lo < hi) = false := by simp; omega
          clear hsk
          generalize strN (pi lo) = SA at *
          generalize strN (pi hi) = SB at *
          generalize strN ([91, 94] ++ itms (ps.take k)) = S0 at *
          go_wp2
          go_quiet (fail)
          go_wp2_with (go_at_call 41; first | ((with_reducible refine (cA.out _).mono ?_); rintro e w5 ⟨rfl, h1⟩; have hd : Bel wr w5 := (below_drewN (Below.refl wr.heap.size wr) _).trans (h1.mono (below_drewN (Below.refl wr.heap.size wr) _).size); replace hB := Lib.hid (hB.out.trans (hd.mono hB.out.size)); replace hI := Lib.hid (hI.out.bel hd); clear h1 hd) | ((with_reducible refine (cZ.out _).mono ?_); rintro e w5 ⟨rfl, h1⟩; replace hB := Lib.hid (hB.out.trans (h1.mono hB.out.size)); replace hI := Lib.hid (hI.out.bel h1); clear h1))
          go_roundw
          case rel => exact ⟨k + 1, m + 2, by omega, Lib.hid (by have := hm.out; omega), by go_num, by rw [hval.out], hB, hI⟩
          case measure => have := hm.out; have := hN9.out; simp [intOf]; omega
    · obtain rfl : k = ps.length := by omega
      have hmN : m = N := by have := hm.out; have := hN9.out; omega
      subst hmN
      have hall : ps.take ps.length = ps := List.take_of_length_le (Nat.le_refl _)
      rw [hall]
      clear hall
      have hres2 := hres
      have sz0 : (strN ([91, 94] ++ itms ps)).size ≤ 2310 := by rw [strN_size]; have := itms_len hok.out; simp; omega
      generalize strN ([91, 94] ++ itms ps) = S0 at *
      go_wp2
      go_ret
      exact ⟨congrArg (fun x => Ending.returned (.string x)) hres2.out, hB.out⟩
set_option maxRecDepth 10000 in
set_option maxHeartbeats 4000000 in
theorem rtext_pos0 (f : Nat → Bool) {n : Nat} (hn : (el f 256).length = n) (hc : 0 < n ∧ n ≤ 128) (w : World) :
    Calls Tryd.prog 29 #[(.agg #[.int .u64 (S1.wd (f) 0), .int .u64 (S1.wd (f) 1), .int .u64 (S1.wd (f) 2), .int .u64 (S1.wd (f) 3)])] w fun e w' => e = .returned (.string (strN (txtB f))) ∧ Below w.heap.size w w' := by
  have hneg : neg f = false := by
    unfold neg
    rw [hn]
    simp
    omega
  have hres : strN ([91] ++ itms (spAll (el (f) 256))) ++ ⟨#[93]⟩ = strN (txtB f) := by
    unfold txtB rng
    rw [hneg]
    have e : (⟨#[93]⟩ : ByteArray) = strN [93] := by decide
    rw [e, ← strN_app]
    simp
  have hne : spAll (el (f) 256) ≠ [] := by
    have := rng_ne f
    unfold rng at this
    rw [hneg] at this
    simpa using this
  have hok := Lib.hid (rng_ok' (f))
  have hln : (spAll (el (f) 256)).length ≤ 256 := spAll_256 _
  have cL := fun w => list_len f w
  rw [hn] at cL
  replace cL := Lib.hid cL
  have cF := Lib.hid full_in
  have cM := Lib.hid (fun w => S1.both2_in (spanS 0 255) f w)
  have cS := Lib.hid (fun w => rspans_row (f) hne w)
  replace hres := Lib.hid hres
  have hn8 : n ≤ 256 := by have := S1.el_len f 256; omega
  have e0 : ((n : Int) == 0) = false := by simp; omega
  have e1 : decide ((128 : Int) < n) = false := by simp; omega
  clear hneg hn hne
  try clear hc
  go_enter Tryd.func29, Tryd.ntmps29
  go_wp2_with fail
  obtain ⟨W, hW, bx, hB⟩ := S1.boxes1 w 23 (.int .u64 (S1.wd (f) 0)) (.int .u64 (S1.wd (f) 1)) (.int .u64 (S1.wd (f) 2)) (.int .u64 (S1.wd (f) 3))
  rw [hW]
  clear hW
  obtain ⟨⟨g0, g1, g2, g3⟩, y0, y1, y2, y3⟩ := bx.facts
  replace hB := hB
  go_wp2_with (first | (go_at_call 26; (with_reducible refine (cL.out _).mono ?_); rintro e w1 ⟨p, cap, rfl, h1⟩; replace bx := bx.bel h1; replace hB := hB.trans (h1.mono hB.size); clear h1; obtain ⟨⟨g0, g1, g2, g3⟩, y0, y1, y2, y3⟩ := bx.facts; replace hB := Lib.hid hB) | (go_at_call 40; (with_reducible refine (cS.out _).mono ?_); rintro e w4 ⟨gs, cap2, rfl, hcap, hI, hb⟩; replace hB := Lib.hid (hB.out.trans (hb.mono hB.out.size)); replace hI := Lib.hid hI; replace hcap := Lib.hid hcap; clear hb))
  have hS0 : (⟨#[91]⟩ : ByteArray) = strN ([91] ++ itms ((spAll (el (f) 256)).take 0)) := by simp [itms]; decide
  generalize spAll (el (f) 256) = ps at *
  rw [hS0]
  clear hS0
  generalize hN9 : 2 * ps.length = N at *
  replace hN9 := Lib.hid hN9
  go_loopw [4, 6] (fun v i wr => ∃ k m : Nat, k ≤ ps.length ∧ Hid (m = 2 * k) ∧ i = .int .i64 m ∧ v = .string (strN ([91] ++ itms (ps.take k))) ∧ Hid (Below w.heap.size w wr) ∧ Hid (IRow wr gs ps)) (fun _ i _ => 2 * ps.length - (intOf i).toNat)
  case atStart => exact ⟨0, 0, Nat.zero_le _, Lib.hid rfl, by go_num, rfl, hB, hI⟩
  case round =>
    clear hB hI
    obtain ⟨k, m, hk, hm, rfl, rfl, hB, hI⟩ := hrel
    by_cases hlt : k < ps.length
    · have hp := hok.out ps[k] (List.getElem_mem hlt)
      have hsk := Lib.hid (itms_take hlt)
      obtain ⟨c0, c1⟩ := hI.out.cells hlt
      rw [← hm.out] at c0 c1
      generalize ps[k] = p at *
      obtain ⟨lo, hi⟩ := p
      simp only at hp c0 c1
      have hh8 : hi ≤ 255 := hp.2
      have hl8 : lo ≤ hi := hp.1
      have hl9 : lo ≤ 255 := by omega
      clear hp
      have szA := pi_sz hl9
      have szB := pi_sz hh8
      have sz0 : (strN ([91] ++ itms (ps.take k))).size ≤ 2310 := by rw [strN_size]; have := itms_bound hok.out hk hln; simp; omega
      have cA := Lib.hid (fun w => S5.rinner_in (pi_sp hl9) w)
      have cZ := Lib.hid (fun w => S5.rinner_in (pi_sp hh8) w)
      have hmN : m + 1 < N := by have := hm.out; have := hN9.out; omega
      have hmb : m ≤ 512 := by have := hm.out; omega
      have hc9 := hcap.out
      have k1 : IntKind.i64.wrap ((m : Int) + 1) = m + 1 := IntWalk.i64_in _ (by omega)
      have k2 : ((m : Int) + 1).toNat = m + 1 := by omega
      have k3 : (0 : Int) ≤ (m : Int) + 1 := by omega
      have e1 : IntKind.u8.wrap (lo : Int) = lo := by rw [IntKind.wrap_u8]; omega
      have e2 : IntKind.u8.wrap (hi : Int) = hi := by rw [IntKind.wrap_u8]; omega
      rcases Nat.lt_or_ge (lo + 1) hi with hc1 | hc1
      · have hval : strN ([91] ++ itms (ps.take (k + 1))) = strN ([91] ++ itms (ps.take k)) ++ strN (pi lo) ++ ⟨#[45]⟩ ++ strN (pi hi) := by
          rw [hsk.out, ← List.append_assoc, strN_app]
          have : strN (itm (lo, hi)) = strN (pi lo) ++ ⟨#[45]⟩ ++ strN (pi hi) := by
            unfold itm
            rw [if_pos (by simp only; omega), if_pos (by simp only; omega), strN_app, strN_app, dashB]
          rw [this] <;> first | rfl | simp only [ByteArray.append_assoc]
        replace hval := Lib.hid hval
        have d1 : decide ((lo : Int) + 1 < hi) = true := by simp; omega
        have d2 : decide (lo < hi) = true := by simp; omega
        clear hsk
        generalize strN (pi lo) = SA at *
        generalize strN (pi hi) = SB at *
        generalize strN ([91] ++ itms (ps.take k)) = S0 at *
        go_wp2
        go_quiet (fail)
        go_wp2_with (go_at_call 41; first | ((with_reducible refine (cA.out _).mono ?_); rintro e w5 ⟨rfl, h1⟩; have hd : Bel wr w5 := (below_drewN (Below.refl wr.heap.size wr) _).trans (h1.mono (below_drewN (Below.refl wr.heap.size wr) _).size); replace hB := Lib.hid (hB.out.trans (hd.mono hB.out.size)); replace hI := Lib.hid (hI.out.bel hd); clear h1 hd) | ((with_reducible refine (cZ.out _).mono ?_); rintro e w5 ⟨rfl, h1⟩; replace hB := Lib.hid (hB.out.trans (h1.mono hB.out.size)); replace hI := Lib.hid (hI.out.bel h1); clear h1))
        go_roundw
        case rel => exact ⟨k + 1, m + 2, by omega, Lib.hid (by have := hm.out; omega), by go_num, by rw [hval.out], hB, hI⟩
        case measure => have := hm.out; have := hN9.out; simp [intOf]; omega
      · by_cases hc2 : lo < hi
        · have hval : strN ([91] ++ itms (ps.take (k + 1))) = strN ([91] ++ itms (ps.take k)) ++ strN (pi lo) ++ strN (pi hi) := by
            rw [hsk.out, ← List.append_assoc, strN_app]
            have : strN (itm (lo, hi)) = strN (pi lo) ++ strN (pi hi) := by
              unfold itm
              rw [if_neg (by simp only; omega), if_pos (by simp only; omega), List.append_nil, strN_app]
            rw [this] <;> first | rfl | simp only [ByteArray.append_assoc]
          replace hval := Lib.hid hval
          have d1 : decide ((lo : Int) + 1 < hi) = false := by simp; omega
          have d2 : decide (lo < hi) = true := by simp; omega
          clear hsk
          generalize strN (pi lo) = SA at *
          generalize strN (pi hi) = SB at *
          generalize strN ([91] ++ itms (ps.take k)) = S0 at *
          go_wp2
          go_quiet (fail)
          go_wp2_with (go_at_call 41; first | ((with_reducible refine (cA.out _).mono ?_); rintro e w5 ⟨rfl, h1⟩; have hd : Bel wr w5 := (below_drewN (Below.refl wr.heap.size wr) _).trans (h1.mono (below_drewN (Below.refl wr.heap.size wr) _).size); replace hB := Lib.hid (hB.out.trans (hd.mono hB.out.size)); replace hI := Lib.hid (hI.out.bel hd); clear h1 hd) | ((with_reducible refine (cZ.out _).mono ?_); rintro e w5 ⟨rfl, h1⟩; replace hB := Lib.hid (hB.out.trans (h1.mono hB.out.size)); replace hI := Lib.hid (hI.out.bel h1); clear h1))
          go_roundw
          case rel => exact ⟨k + 1, m + 2, by omega, Lib.hid (by have := hm.out; omega), by go_num, by rw [hval.out], hB, hI⟩
          case measure => have := hm.out; have := hN9.out; simp [intOf]; omega
        · have hval : strN ([91] ++ itms (ps.take (k + 1))) = strN ([91] ++ itms (ps.take k)) ++ strN (pi lo) := by
            rw [hsk.out, ← List.append_assoc, strN_app]
            have : strN (itm (lo, hi)) = strN (pi lo) := by
              unfold itm
              rw [if_neg (by simp only; omega), if_neg (by simp only; omega), List.append_nil, List.append_nil]
            rw [this] <;> first | rfl | simp only [ByteArray.append_assoc]
          replace hval := Lib.hid hval
          have d1 : decide ((lo : Int) + 1 < hi) = false := by simp; omega
          have d2 : decide (lo < hi) = false := by simp; omega
          clear hsk
          generalize strN (pi lo) = SA at *
          generalize strN (pi hi) = SB at *
          generalize strN ([91] ++ itms (ps.take k)) = S0 at *
          go_wp2
          go_quiet (fail)
          go_wp2_with (go_at_call 41; first | ((with_reducible refine (cA.out _).mono ?_); rintro e w5 ⟨rfl, h1⟩; have hd : Bel wr w5 := (below_drewN (Below.refl wr.heap.size wr) _).trans (h1.mono (below_drewN (Below.refl wr.heap.size wr) _).size); replace hB := Lib.hid (hB.out.trans (hd.mono hB.out.size)); replace hI := Lib.hid (hI.out.bel hd); clear h1 hd) | ((with_reducible refine (cZ.out _).mono ?_); rintro e w5 ⟨rfl, h1⟩; replace hB := Lib.hid (hB.out.trans (h1.mono hB.out.size)); replace hI := Lib.hid (hI.out.bel h1); clear h1))
          go_roundw
          case rel => exact ⟨k + 1, m + 2, by omega, Lib.hid (by have := hm.out; omega), by go_num, by rw [hval.out], hB, hI⟩
          case measure => have := hm.out; have := hN9.out; simp [intOf]; omega
    · obtain rfl : k = ps.length := by omega
      have hmN : m = N := by have := hm.out; have := hN9.out; omega
      subst hmN
      have hall : ps.take ps.length = ps := List.take_of_length_le (Nat.le_refl _)
      rw [hall]
      clear hall
      have hres2 := hres
      have sz0 : (strN ([91] ++ itms ps)).size ≤ 2310 := by rw [strN_size]; have := itms_len hok.out; simp; omega
      generalize strN ([91] ++ itms ps) = S0 at *
      go_wp2
      go_ret
      exact ⟨congrArg (fun x => Ending.returned (.string x)) hres2.out, hB.out⟩
set_option maxRecDepth 10000 in
set_option maxHeartbeats 4000000 in
theorem rtext_pos1 (f : Nat → Bool) {n : Nat} (hn : (el f 256).length = n) (hc : 256 ≤ n) (w : World) :
    Calls Tryd.prog 29 #[(.agg #[.int .u64 (S1.wd (f) 0), .int .u64 (S1.wd (f) 1), .int .u64 (S1.wd (f) 2), .int .u64 (S1.wd (f) 3)])] w fun e w' => e = .returned (.string (strN (txtB f))) ∧ Below w.heap.size w w' := by
  have hneg : neg f = false := by
    unfold neg
    rw [hn]
    simp
    omega
  have hres : strN ([91] ++ itms (spAll (el (f) 256))) ++ ⟨#[93]⟩ = strN (txtB f) := by
    unfold txtB rng
    rw [hneg]
    have e : (⟨#[93]⟩ : ByteArray) = strN [93] := by decide
    rw [e, ← strN_app]
    simp
  have hne : spAll (el (f) 256) ≠ [] := by
    have := rng_ne f
    unfold rng at this
    rw [hneg] at this
    simpa using this
  have hok := Lib.hid (rng_ok' (f))
  have hln : (spAll (el (f) 256)).length ≤ 256 := spAll_256 _
  have cL := fun w => list_len f w
  rw [hn] at cL
  replace cL := Lib.hid cL
  have cF := Lib.hid full_in
  have cM := Lib.hid (fun w => S1.both2_in (spanS 0 255) f w)
  have cS := Lib.hid (fun w => rspans_row (f) hne w)
  replace hres := Lib.hid hres
  have hn8 : n ≤ 256 := by have := S1.el_len f 256; omega
  have e0 : ((n : Int) == 0) = false := by simp; omega
  have e1 : decide ((128 : Int) < n) = true := by simp; omega
  have e2 : decide ((n : Int) < 256) = false := by simp; omega
  clear hneg hn hne
  try clear hc
  go_enter Tryd.func29, Tryd.ntmps29
  go_wp2_with fail
  obtain ⟨W, hW, bx, hB⟩ := S1.boxes1 w 23 (.int .u64 (S1.wd (f) 0)) (.int .u64 (S1.wd (f) 1)) (.int .u64 (S1.wd (f) 2)) (.int .u64 (S1.wd (f) 3))
  rw [hW]
  clear hW
  obtain ⟨⟨g0, g1, g2, g3⟩, y0, y1, y2, y3⟩ := bx.facts
  replace hB := hB
  go_wp2_with (first | (go_at_call 26; (with_reducible refine (cL.out _).mono ?_); rintro e w1 ⟨p, cap, rfl, h1⟩; replace bx := bx.bel h1; replace hB := hB.trans (h1.mono hB.size); clear h1; obtain ⟨⟨g0, g1, g2, g3⟩, y0, y1, y2, y3⟩ := bx.facts; replace hB := Lib.hid hB) | (go_at_call 40; (with_reducible refine (cS.out _).mono ?_); rintro e w4 ⟨gs, cap2, rfl, hcap, hI, hb⟩; replace hB := Lib.hid (hB.out.trans (hb.mono hB.out.size)); replace hI := Lib.hid hI; replace hcap := Lib.hid hcap; clear hb))
  have hS0 : (⟨#[91]⟩ : ByteArray) = strN ([91] ++ itms ((spAll (el (f) 256)).take 0)) := by simp [itms]; decide
  generalize spAll (el (f) 256) = ps at *
  rw [hS0]
  clear hS0
  generalize hN9 : 2 * ps.length = N at *
  replace hN9 := Lib.hid hN9
  go_loopw [4, 6] (fun v i wr => ∃ k m : Nat, k ≤ ps.length ∧ Hid (m = 2 * k) ∧ i = .int .i64 m ∧ v = .string (strN ([91] ++ itms (ps.take k))) ∧ Hid (Below w.heap.size w wr) ∧ Hid (IRow wr gs ps)) (fun _ i _ => 2 * ps.length - (intOf i).toNat)
  case atStart => exact ⟨0, 0, Nat.zero_le _, Lib.hid rfl, by go_num, rfl, hB, hI⟩
  case round =>
    clear hB hI
    obtain ⟨k, m, hk, hm, rfl, rfl, hB, hI⟩ := hrel
    by_cases hlt : k < ps.length
    · have hp := hok.out ps[k] (List.getElem_mem hlt)
      have hsk := Lib.hid (itms_take hlt)
      obtain ⟨c0, c1⟩ := hI.out.cells hlt
      rw [← hm.out] at c0 c1
      generalize ps[k] = p at *
      obtain ⟨lo, hi⟩ := p
      simp only at hp c0 c1
      have hh8 : hi ≤ 255 := hp.2
      have hl8 : lo ≤ hi := hp.1
      have hl9 : lo ≤ 255 := by omega
      clear hp
      have szA := pi_sz hl9
      have szB := pi_sz hh8
      have sz0 : (strN ([91] ++ itms (ps.take k))).size ≤ 2310 := by rw [strN_size]; have := itms_bound hok.out hk hln; simp; omega
      have cA := Lib.hid (fun w => S5.rinner_in (pi_sp hl9) w)
      have cZ := Lib.hid (fun w => S5.rinner_in (pi_sp hh8) w)
      have hmN : m + 1 < N := by have := hm.out; have := hN9.out; omega
      have hmb : m ≤ 512 := by have := hm.out; omega
      have hc9 := hcap.out
      have k1 : IntKind.i64.wrap ((m : Int) + 1) = m + 1 := IntWalk.i64_in _ (by omega)
      have k2 : ((m : Int) + 1).toNat = m + 1 := by omega
      have k3 : (0 : Int) ≤ (m : Int) + 1 := by omega
      have e1 : IntKind.u8.wrap (lo : Int) = lo := by rw [IntKind.wrap_u8]; omega
      have e2 : IntKind.u8.wrap (hi : Int) = hi := by rw [IntKind.wrap_u8]; omega
      rcases Nat.lt_or_ge (lo + 1) hi with hc1 | hc1
      · have hval : strN ([91] ++ itms (ps.take (k + 1))) = strN ([91] ++ itms (ps.take k)) ++ strN (pi lo) ++ ⟨#[45]⟩ ++ strN (pi hi) := by
          rw [hsk.out, ← List.append_assoc, strN_app]
          have : strN (itm (lo, hi)) = strN (pi lo) ++ ⟨#[45]⟩ ++ strN (pi hi) := by
            unfold itm
            rw [if_pos (by simp only; omega), if_pos (by simp only; omega), strN_app, strN_app, dashB]
          rw [this] <;> first | rfl | simp only [ByteArray.append_assoc]
        replace hval := Lib.hid hval
        have d1 : decide ((lo : Int) + 1 < hi) = true := by simp; omega
        have d2 : decide (lo < hi) = true := by simp; omega
        clear hsk
        generalize strN (pi lo) = SA at *
        generalize strN (pi hi) = SB at *
        generalize strN ([91] ++ itms (ps.take k)) = S0 at *
        go_wp2
        go_quiet (fail)
        go_wp2_with (go_at_call 41; first | ((with_reducible refine (cA.out _).mono ?_); rintro e w5 ⟨rfl, h1⟩; have hd : Bel wr w5 := (below_drewN (Below.refl wr.heap.size wr) _).trans (h1.mono (below_drewN (Below.refl wr.heap.size wr) _).size); replace hB := Lib.hid (hB.out.trans (hd.mono hB.out.size)); replace hI := Lib.hid (hI.out.bel hd); clear h1 hd) | ((with_reducible refine (cZ.out _).mono ?_); rintro e w5 ⟨rfl, h1⟩; replace hB := Lib.hid (hB.out.trans (h1.mono hB.out.size)); replace hI := Lib.hid (hI.out.bel h1); clear h1))
        go_roundw
        case rel => exact ⟨k + 1, m + 2, by omega, Lib.hid (by have := hm.out; omega), by go_num, by rw [hval.out], hB, hI⟩
        case measure => have := hm.out; have := hN9.out; simp [intOf]; omega
      · by_cases hc2 : lo < hi
        · have hval : strN ([91] ++ itms (ps.take (k + 1))) = strN ([91] ++ itms (ps.take k)) ++ strN (pi lo) ++ strN (pi hi) := by
            rw [hsk.out, ← List.append_assoc, strN_app]
            have : strN (itm (lo, hi)) = strN (pi lo) ++ strN (pi hi) := by
              unfold itm
              rw [if_neg (by simp only; omega), if_pos (by simp only; omega), List.append_nil, strN_app]
            rw [this] <;> first | rfl | simp only [ByteArray.append_assoc]
          replace hval := Lib.hid hval
          have d1 : decide ((lo : Int) + 1 < hi) = false := by simp; omega
          have d2 : decide (lo < hi) = true := by simp; omega
          clear hsk
          generalize strN (pi lo) = SA at *
          generalize strN (pi hi) = SB at *
          generalize strN ([91] ++ itms (ps.take k)) = S0 at *
          go_wp2
          go_quiet (fail)
          go_wp2_with (go_at_call 41; first | ((with_reducible refine (cA.out _).mono ?_); rintro e w5 ⟨rfl, h1⟩; have hd : Bel wr w5 := (below_drewN (Below.refl wr.heap.size wr) _).trans (h1.mono (below_drewN (Below.refl wr.heap.size wr) _).size); replace hB := Lib.hid (hB.out.trans (hd.mono hB.out.size)); replace hI := Lib.hid (hI.out.bel hd); clear h1 hd) | ((with_reducible refine (cZ.out _).mono ?_); rintro e w5 ⟨rfl, h1⟩; replace hB := Lib.hid (hB.out.trans (h1.mono hB.out.size)); replace hI := Lib.hid (hI.out.bel h1); clear h1))
          go_roundw
          case rel => exact ⟨k + 1, m + 2, by omega, Lib.hid (by have := hm.out; omega), by go_num, by rw [hval.out], hB, hI⟩
          case measure => have := hm.out; have := hN9.out; simp [intOf]; omega
        · have hval : strN ([91] ++ itms (ps.take (k + 1))) = strN ([91] ++ itms (ps.take k)) ++ strN (pi lo) := by
            rw [hsk.out, ← List.append_assoc, strN_app]
            have : strN (itm (lo, hi)) = strN (pi lo) := by
              unfold itm
              rw [if_neg (by simp only; omega), if_neg (by simp only; omega), List.append_nil, List.append_nil]
            rw [this] <;> first | rfl | simp only [ByteArray.append_assoc]
          replace hval := Lib.hid hval
          have d1 : decide ((lo : Int) + 1 < hi) = false := by simp; omega
          have d2 : decide (lo < hi) = false := by simp; omega
          clear hsk
          generalize strN (pi lo) = SA at *
          generalize strN (pi hi) = SB at *
          generalize strN ([91] ++ itms (ps.take k)) = S0 at *
          go_wp2
          go_quiet (fail)
          go_wp2_with (go_at_call 41; first | ((with_reducible refine (cA.out _).mono ?_); rintro e w5 ⟨rfl, h1⟩; have hd : Bel wr w5 := (below_drewN (Below.refl wr.heap.size wr) _).trans (h1.mono (below_drewN (Below.refl wr.heap.size wr) _).size); replace hB := Lib.hid (hB.out.trans (hd.mono hB.out.size)); replace hI := Lib.hid (hI.out.bel hd); clear h1 hd) | ((with_reducible refine (cZ.out _).mono ?_); rintro e w5 ⟨rfl, h1⟩; replace hB := Lib.hid (hB.out.trans (h1.mono hB.out.size)); replace hI := Lib.hid (hI.out.bel h1); clear h1))
          go_roundw
          case rel => exact ⟨k + 1, m + 2, by omega, Lib.hid (by have := hm.out; omega), by go_num, by rw [hval.out], hB, hI⟩
          case measure => have := hm.out; have := hN9.out; simp [intOf]; omega
    · obtain rfl : k = ps.length := by omega
      have hmN : m = N := by have := hm.out; have := hN9.out; omega
      subst hmN
      have hall : ps.take ps.length = ps := List.take_of_length_le (Nat.le_refl _)
      rw [hall]
      clear hall
      have hres2 := hres
      have sz0 : (strN ([91] ++ itms ps)).size ≤ 2310 := by rw [strN_size]; have := itms_len hok.out; simp; omega
      generalize strN ([91] ++ itms ps) = S0 at *
      go_wp2
      go_ret
      exact ⟨congrArg (fun x => Ending.returned (.string x)) hres2.out, hB.out⟩

theorem rtext_in (f : Nat → Bool) (w : World) :
    Calls Tryd.prog 29 #[(.agg #[.int .u64 (S1.wd (f) 0), .int .u64 (S1.wd (f) 1), .int .u64 (S1.wd (f) 2), .int .u64 (S1.wd (f) 3)])] w fun e w' => e = .returned (.string (strN (txtB f))) ∧ Below w.heap.size w w' := by
  generalize hn : (el f 256).length = n
  rcases Nat.eq_zero_or_pos n with h | h
  · exact rtext_neg0 f hn h w
  · rcases Nat.lt_or_ge 128 n with h1 | h1
    · rcases Nat.lt_or_ge n 256 with h2 | h2
      · exact rtext_neg1 f hn ⟨h1, h2⟩ w
      · exact rtext_pos1 f hn h2 w
    · exact rtext_pos0 f hn ⟨h, h1⟩ w
end Go.Proofs.YtbkmoaollooomaaDoor.S6
