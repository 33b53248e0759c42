/- The reference's Void and Null. -/

import Derived.Test.YtaebhbcamhmhoaaDoorMB
import Derived.Test.YtaebhbcamhmhoaaDoorEA
import Derived.Test.YtaebhbcamhmhoaaDoorS7C
import Derived.Test.YtaebhbcamhmhoaaDoorS7K
import Derived.Test.YtaebhbcamhmhoaaDoorS1D
namespace Go.Proofs.YtaebhbcamhmhoaaDoor
open Go.RowKit
open Go.Tree7
open S7
open S5 (nl nl_length nl_small at_nl nl_at Gives idx idx_at ix ix_no ix_yes)
theorem ret_bool9 {a b : Bool} (h : a = b) : Ending.returned (.bool a) = .returned (.bool b) := by rw [h]
/-- How many of the first j kids are so. -/
theorem count_of (g : T → Bool) (ks : List T) : ∃ c : Nat → Nat, c 0 = 0 ∧ (∀ j (hj : j < ks.length), c (j + 1) = c j + if g ks[j] = true then 1 else 0) ∧ (∀ j, j ≤ ks.length → c j ≤ j) ∧ c ks.length = ks.countP g := by
  refine ⟨fun j => (ks.take j).countP g, rfl, fun j hj => ?_, fun j hj => ?_, ?_⟩
  · simp only
    rw [List.take_succ_eq_append_getElem hj, List.countP_append, List.countP_cons, List.countP_nil, Nat.zero_add]
  · have := List.countP_le_length (p := g) (l := ks.take j)
    rw [List.length_take] at this
    simp only
    omega
  · simp only [List.take_length]
theorem any_count {g : T → Bool} {ks : List T} {n : Nat} (h : n = ks.countP g) : ks.any g = decide (0 < n) := by
  rw [h, Bool.eq_iff_iff, List.any_eq_true, decide_eq_true_eq, List.countP_pos_iff]
theorem all_count {g : T → Bool} {ks : List T} {n : Nat} (h : n = ks.countP g) : ks.all g = decide (n = ks.length) := by
  rw [h, Bool.eq_iff_iff, List.all_eq_true, decide_eq_true_eq, List.countP_eq_length]
set_option maxRecDepth 10000 in
set_option maxHeartbeats 4000000 in
theorem rvoid_in {w0 : World} {B0 : Nat} (hn0 : B0 ≤ w0.heap.size) : ∀ t : T, T.All (fun t => T.ok t = true) t → T.In w0 B0 t → ∀ w, Below B0 w0 w → Calls Tryd.prog 9 #[.agg t.cells.toArray] w fun e w' => e = .returned (.bool (voidT t)) ∧ Below w.heap.size w w' := by
  refine T.ind fun k u0 u1 u2 u3 p cap mn mx tx ks ih => ?_
  intro hA hT w hB0
  have hks : ks.length ≤ 9223372036854775807 := by cases hT with | mk h1 h2 => unfold maxLen at h2; omega
  have hfit : fits k u0 u1 u2 u3 mn mx tx := by cases hT with | mk h1 h2 h3 => exact h3
  have hB0w : B0 ≤ w.heap.size := Nat.le_trans hn0 hB0.size
  obtain ⟨ho, hAk⟩ : T.ok (.mk k u0 u1 u2 u3 p cap mn mx tx ks) = true ∧ ∀ t ∈ ks, T.All (fun t => T.ok t = true) t := by cases hA with | mk h1 h2 => exact ⟨h1, h2⟩
  have hok := okn_of ho
  have hval := voidT_mk k u0 u1 u2 u3 p cap mn mx tx ks
  replace hT := Lib.hid hT
  replace hB0 := Lib.hid hB0
  replace ih := Lib.hid ih
  replace hAk := Lib.hid hAk
  replace hfit := Lib.hid hfit
  clear hA ho
  generalize voidT (.mk k u0 u1 u2 u3 p cap mn mx tx ks) = V at *
  simp only [T.cells]
  have hbn := Lib.hid (World.alloc_heap_new w (.cells #[.int .i64 k, .int .u64 u0, .int .u64 u1, .int .u64 u2, .int .u64 u3, .slice p ks.length cap, .int .i64 mn, .int .i64 mx, .string tx] 31))
  cases hok with
  | bytes hk hk2 =>
    subst hk
    rw [if_pos (rfl)] at hval
    have hw4 := hfit.out.2.1
    obtain ⟨e0, e1, e2, e3⟩ := wd_f hw4
    have hz := el_zero (S1.mem4 u0.toNat u1.toNat u2.toNat u3.toNat)
    rw [eqB_zero hw4] at hz
    have cL := fun w => S1.reflist_in (S1.mem4 u0.toNat u1.toNat u2.toNat u3.toNat) w
    rw [e0, e1, e2, e3] at cL
    have hV : V = decide ((S1.el (S1.mem4 u0.toNat u1.toNat u2.toNat u3.toNat) 256).length = 0) := by rw [hval, hz]; rfl
    have hlen := S1.el_len (S1.mem4 u0.toNat u1.toNat u2.toNat u3.toNat) 256
    clear hval hz hw4 e0 e1 e2 e3
    generalize S1.el (S1.mem4 u0.toNat u1.toNat u2.toNat u3.toNat) 256 = L at *
    unfold S1.GivesBytes at cL
    have hV2 : ((L.length : Int) == 0) = V := by rw [hV, Bool.eq_iff_iff, beq_iff_eq, decide_eq_true_eq]; omega
    clear hV
    replace cL := Lib.hid cL
    replace hk2 := Lib.hid hk2
    go_enter Tryd.func9, Tryd.ntmps9
    go_wp2_with (go_at_call 26; (with_reducible refine (cL.out _).mono ?_); rintro e w1 ⟨v, rfl, hrow, hb⟩; obtain ⟨pv, cv, rfl, -⟩ := row_form hrow; replace hrow := Lib.hid hrow; replace hb := Lib.hid hb)
    go_ret
    exact ⟨rfl, ((Below.refl _ _).alloc (Nat.le_refl _) _).trans (hb.out.mono (by simp))⟩
  | name hk hk2 =>
    subst hk
    have hv : V = true := by rw [hval]; simp
    clear hval
    subst hv
    replace hk2 := Lib.hid hk2
    go_enter Tryd.func9, Tryd.ntmps9
    go_wp2
    go_ret
    exact ⟨rfl, (Below.refl _ _).alloc (Nat.le_refl _) _⟩
  | rep hk t hk2 h3 h4 =>
    subst hk
    obtain rfl := hk2
    have hlt : 0 < [t].length := by simp
    obtain ⟨b, o, hkid, hp, hb, hc⟩ := T.kid hT.out hlt
    have hcl : ∀ q, q < 9 → w.cell? ⟨b, o + q, none⟩ = (t.cells)[q]? := fun q hq => by
      have h0 := hc q hq
      rw [Nat.zero_mul, Nat.add_zero] at h0
      rw [← show ([t][0]'hlt).cells[q]? = t.cells[q]? from rfl, ← h0]
      exact (hB0.out.cell (p := ⟨b, o + q, none⟩) hb)
    have cK := ih.out t (by simp) (hAk.out t (by simp)) hkid (w.alloc (.cells #[.int .i64 4, .int .u64 u0, .int .u64 u1, .int .u64 u2, .int .u64 u3, .slice p 1 cap, .int .i64 mn, .int .i64 mx, .string tx] 31)) (hB0.out.alloc hB0w _)
    subst hp
    clear hc hkid
    have hb2 : b < w.heap.size := by omega
    rw [if_neg (by omega), if_pos rfl, List.map_cons, List.headD_cons] at hval
    generalize voidT t = r at *
    cases t with
    | mk k' u0' u1' u2' u3' p' cap' mn' mx' tx' ks' =>
      simp only [T.cells] at hcl cK
      obtain ⟨c0, c1, c2, c3, c4, c5, c6, c7, c8⟩ := nine_of hcl
      clear hcl
      replace cK := Lib.hid cK
      replace hval := Lib.hid hval
      replace h4 := Lib.hid h4
      by_cases h0 : mn = 0
      · subst h0
        go_enter Tryd.func9, Tryd.ntmps9
        go_wp2_with (go_at_call 9; (with_reducible refine (cK.out).mono ?_); rintro e w1 ⟨rfl, hb1⟩)
        go_ret
        exact ⟨by rw [hval.out]; rfl, (Below.refl _ _).alloc (Nat.le_refl _) _⟩
      · have g0 : decide (mn > 0) = true := by rw [decide_eq_true_eq]; omega
        go_enter Tryd.func9, Tryd.ntmps9
        go_wp2_with (go_at_call 9; (with_reducible refine (cK.out).mono ?_); rintro e w1 ⟨rfl, hb1⟩; replace hb1 := Lib.hid hb1)
        go_ret
        exact ⟨by rw [hval.out]; rw [show decide (0 < mn) = true by rw [decide_eq_true_eq]; omega]; rfl, ((Below.refl _ _).alloc (Nat.le_refl _) _).trans (hb1.out.mono (by simp))⟩
  | cat hk =>
    subst hk
    rw [if_neg (by omega), if_neg (by omega), if_neg (by omega), if_pos rfl] at hval
    obtain ⟨c, hc0, hcs, hcl0, hcall⟩ := count_of voidT ks
    rw [any_count hcall] at hval
    replace hval := Lib.hid hval
    replace hcs := Lib.hid hcs
    replace hcl0 := Lib.hid hcl0
    clear hcall
    go_enter Tryd.func9, Tryd.ntmps9
    go_wp2
    have h0 : Hid (Below w.heap.size w (w.alloc (.cells #[.int .i64 2, .int .u64 u0, .int .u64 u1, .int .u64 u2, .int .u64 u3, .slice p ks.length cap, .int .i64 mn, .int .i64 mx, .string tx] 31))) := Lib.hid ((Below.refl _ _).alloc (Nat.le_refl _) _)
    have hgl : w.heap.size < (w.alloc (.cells #[.int .i64 2, .int .u64 u0, .int .u64 u1, .int .u64 u2, .int .u64 u3, .slice p ks.length cap, .int .i64 mn, .int .i64 mx, .string tx] 31)).heap.size := by simp
    go_loopw [3, 33] (fun m i wr => ∃ j : Nat, j ≤ ks.length ∧ m = .int .i64 (c j) ∧ i = .int .i64 j ∧ Hid (Below w.heap.size w wr) ∧ Hid (wr.heap[w.heap.size]? = some (.cells #[.int .i64 2, .int .u64 u0, .int .u64 u1, .int .u64 u2, .int .u64 u3, .slice p ks.length cap, .int .i64 mn, .int .i64 mx, .string tx] 31))) (fun _ i _ => ks.length - (intOf i).toNat)
    case atStart => exact ⟨0, Nat.zero_le _, by rw [hc0]; rfl, rfl, h0, hbn⟩
    case round =>
      clear h0 hbn hgl
      obtain ⟨j, hj, rfl, rfl, hbel, hbx⟩ := hrel
      have hcj := (hcl0.out j hj)
      have hsz := lt_box hbx.out
      obtain ⟨z0, -⟩ := cells_of hbx.out 0 _ rfl
      obtain ⟨z5, -⟩ := cells_of hbx.out 5 _ rfl
      by_cases hlt : j < ks.length
      · obtain ⟨b, o, hkid, hp, hb, hc⟩ := T.kid hT.out hlt
        have hBw : Below B0 w0 wr := hB0.out.trans (hbel.out.mono hB0w)
        have hcl : ∀ q, q < 9 → wr.cell? ⟨b, o + j * 9 + q, none⟩ = (ks[j].cells)[q]? := fun q hq => by
          rw [← hc q hq]
          exact hBw.cell (p := ⟨b, o + j * 9 + q, none⟩) hb
        have cK := fun bx => ih.out ks[j] (List.getElem_mem hlt) (hAk.out _ (List.getElem_mem hlt)) hkid (wr.alloc bx) (hBw.alloc (Nat.le_trans hB0w (by omega)) bx)
        have hs := hcs.out j hlt
        clear hc hkid hBw
        subst hp
        generalize ks[j] = kd at *
        generalize voidT kd = r at *
        cases kd with
        | mk k' u0' u1' u2' u3' p' cap' mn' mx' tx' ks' =>
          simp only [T.cells] at hcl cK
          obtain ⟨c0, c1, c2, c3, c4, c5, c6, c7, c8⟩ := nine_of hcl
          clear hcl
          replace cK := Lib.hid (cK (.cells #[.int .i64 k', .int .u64 u0', .int .u64 u1', .int .u64 u2', .int .u64 u3', .slice p' ks'.length cap', .int .i64 mn', .int .i64 mx', .string tx'] 31))
          have hbx2 := Lib.hid (kept_alloc9 hbx.out (.cells #[.int .i64 k', .int .u64 u0', .int .u64 u1', .int .u64 u2', .int .u64 u3', .slice p' ks'.length cap', .int .i64 mn', .int .i64 mx', .string tx'] 31))
          have hbel2 := Lib.hid (hbel.out.alloc (Nat.le_of_lt hsz) (.cells #[.int .i64 k', .int .u64 u0', .int .u64 u1', .int .u64 u2', .int .u64 u3', .slice p' ks'.length cap', .int .i64 mn', .int .i64 mx', .string tx'] 31))
          cases r with
          | true =>
            simp only [if_true] at hs
            have hs2 := Lib.hid (show (c j : Int) + 1 = (c (j + 1) : Nat) by rw [hs]; rfl)
            clear hs
            go_wp2_with (go_at_call 9; (with_reducible refine (cK.out).mono ?_); rintro e w1 ⟨rfl, hb1⟩; replace hbx2 := Lib.hid (kept_row hbx2.out hb1); replace hbel2 := Lib.hid (hbel2.out.trans (hb1.mono (by simp; omega))); clear hb1)
            go_roundw
            case rel => exact ⟨j + 1, by omega, by rw [← hs2.out], by go_num, hbel2, hbx2⟩
            case measure => simp [intOf]; omega
          | false =>
            simp only [Bool.false_eq_true, if_false, Nat.add_zero] at hs
            replace hs := Lib.hid hs
            go_wp2_with (go_at_call 9; (with_reducible refine (cK.out).mono ?_); rintro e w1 ⟨rfl, hb1⟩; replace hbx2 := Lib.hid (kept_row hbx2.out hb1); replace hbel2 := Lib.hid (hbel2.out.trans (hb1.mono (by simp; omega))); clear hb1)
            go_roundw
            case rel => exact ⟨j + 1, by omega, by rw [hs.out], by go_num, hbel2, hbx2⟩
            case measure => simp [intOf]; omega
      · obtain rfl : j = ks.length := by omega
        have hfin : decide (0 < c ks.length) = V := by rw [hval.out] <;> (rw [Bool.eq_iff_iff]; simp <;> omega)
        go_wp2
        go_ret
        first | exact ⟨rfl, hbel.out⟩ | exact ⟨ret_bool9 hfin, hbel.out⟩
  | alt hk hk2 =>
    subst hk
    rw [if_neg (by omega), if_neg (by omega), if_neg (by omega), if_neg (by omega)] at hval
    obtain ⟨c, hc0, hcs, hcl0, hcall⟩ := count_of voidT ks
    rw [all_count hcall] at hval
    replace hval := Lib.hid hval
    replace hcs := Lib.hid hcs
    replace hcl0 := Lib.hid hcl0
    clear hcall hk2
    go_enter Tryd.func9, Tryd.ntmps9
    go_wp2
    have h0 : Hid (Below w.heap.size w (w.alloc (.cells #[.int .i64 3, .int .u64 u0, .int .u64 u1, .int .u64 u2, .int .u64 u3, .slice p ks.length cap, .int .i64 mn, .int .i64 mx, .string tx] 31))) := Lib.hid ((Below.refl _ _).alloc (Nat.le_refl _) _)
    have hgl : w.heap.size < (w.alloc (.cells #[.int .i64 3, .int .u64 u0, .int .u64 u1, .int .u64 u2, .int .u64 u3, .slice p ks.length cap, .int .i64 mn, .int .i64 mx, .string tx] 31)).heap.size := by simp
    go_loopw [3, 33] (fun m i wr => ∃ j : Nat, j ≤ ks.length ∧ m = .int .i64 (c j) ∧ i = .int .i64 j ∧ Hid (Below w.heap.size w wr) ∧ Hid (wr.heap[w.heap.size]? = some (.cells #[.int .i64 3, .int .u64 u0, .int .u64 u1, .int .u64 u2, .int .u64 u3, .slice p ks.length cap, .int .i64 mn, .int .i64 mx, .string tx] 31))) (fun _ i _ => ks.length - (intOf i).toNat)
    case atStart => exact ⟨0, Nat.zero_le _, by rw [hc0]; rfl, rfl, h0, hbn⟩
    case round =>
      clear h0 hbn hgl
      obtain ⟨j, hj, rfl, rfl, hbel, hbx⟩ := hrel
      have hcj := (hcl0.out j hj)
      have hsz := lt_box hbx.out
      obtain ⟨z0, -⟩ := cells_of hbx.out 0 _ rfl
      obtain ⟨z5, -⟩ := cells_of hbx.out 5 _ rfl
      by_cases hlt : j < ks.length
      · obtain ⟨b, o, hkid, hp, hb, hc⟩ := T.kid hT.out hlt
        have hBw : Below B0 w0 wr := hB0.out.trans (hbel.out.mono hB0w)
        have hcl : ∀ q, q < 9 → wr.cell? ⟨b, o + j * 9 + q, none⟩ = (ks[j].cells)[q]? := fun q hq => by
          rw [← hc q hq]
          exact hBw.cell (p := ⟨b, o + j * 9 + q, none⟩) hb
        have cK := fun bx => ih.out ks[j] (List.getElem_mem hlt) (hAk.out _ (List.getElem_mem hlt)) hkid (wr.alloc bx) (hBw.alloc (Nat.le_trans hB0w (by omega)) bx)
        have hs := hcs.out j hlt
        clear hc hkid hBw
        subst hp
        generalize ks[j] = kd at *
        generalize voidT kd = r at *
        cases kd with
        | mk k' u0' u1' u2' u3' p' cap' mn' mx' tx' ks' =>
          simp only [T.cells] at hcl cK
          obtain ⟨c0, c1, c2, c3, c4, c5, c6, c7, c8⟩ := nine_of hcl
          clear hcl
          replace cK := Lib.hid (cK (.cells #[.int .i64 k', .int .u64 u0', .int .u64 u1', .int .u64 u2', .int .u64 u3', .slice p' ks'.length cap', .int .i64 mn', .int .i64 mx', .string tx'] 31))
          have hbx2 := Lib.hid (kept_alloc9 hbx.out (.cells #[.int .i64 k', .int .u64 u0', .int .u64 u1', .int .u64 u2', .int .u64 u3', .slice p' ks'.length cap', .int .i64 mn', .int .i64 mx', .string tx'] 31))
          have hbel2 := Lib.hid (hbel.out.alloc (Nat.le_of_lt hsz) (.cells #[.int .i64 k', .int .u64 u0', .int .u64 u1', .int .u64 u2', .int .u64 u3', .slice p' ks'.length cap', .int .i64 mn', .int .i64 mx', .string tx'] 31))
          cases r with
          | true =>
            simp only [if_true] at hs
            have hs2 := Lib.hid (show (c j : Int) + 1 = (c (j + 1) : Nat) by rw [hs]; rfl)
            clear hs
            go_wp2_with (go_at_call 9; (with_reducible refine (cK.out).mono ?_); rintro e w1 ⟨rfl, hb1⟩; replace hbx2 := Lib.hid (kept_row hbx2.out hb1); replace hbel2 := Lib.hid (hbel2.out.trans (hb1.mono (by simp; omega))); clear hb1)
            go_roundw
            case rel => exact ⟨j + 1, by omega, by rw [← hs2.out], by go_num, hbel2, hbx2⟩
            case measure => simp [intOf]; omega
          | false =>
            simp only [Bool.false_eq_true, if_false, Nat.add_zero] at hs
            replace hs := Lib.hid hs
            go_wp2_with (go_at_call 9; (with_reducible refine (cK.out).mono ?_); rintro e w1 ⟨rfl, hb1⟩; replace hbx2 := Lib.hid (kept_row hbx2.out hb1); replace hbel2 := Lib.hid (hbel2.out.trans (hb1.mono (by simp; omega))); clear hb1)
            go_roundw
            case rel => exact ⟨j + 1, by omega, by rw [hs.out], by go_num, hbel2, hbx2⟩
            case measure => simp [intOf]; omega
      · obtain rfl : j = ks.length := by omega
        have hfin : ((c ks.length : Int) == (ks.length : Int)) = V := by rw [hval.out] <;> (rw [Bool.eq_iff_iff]; simp <;> omega)
        go_wp2
        go_ret
        first | exact ⟨rfl, hbel.out⟩ | exact ⟨ret_bool9 hfin, hbel.out⟩
set_option maxRecDepth 10000 in
set_option maxHeartbeats 4000000 in
theorem rnull_in {w0 : World} {B0 : Nat} (hn0 : B0 ≤ w0.heap.size) : ∀ t : T, T.All (fun t => T.ok t = true) t → T.In w0 B0 t → ∀ w, Below B0 w0 w → Calls Tryd.prog 28 #[.agg t.cells.toArray] w fun e w' => e = .returned (.bool (nullT t)) ∧ Below w.heap.size w w' := by
  refine T.ind fun k u0 u1 u2 u3 p cap mn mx tx ks ih => ?_
  intro hA hT w hB0
  have hks : ks.length ≤ 9223372036854775807 := by cases hT with | mk h1 h2 => unfold maxLen at h2; omega
  have hfit : fits k u0 u1 u2 u3 mn mx tx := by cases hT with | mk h1 h2 h3 => exact h3
  have hB0w : B0 ≤ w.heap.size := Nat.le_trans hn0 hB0.size
  obtain ⟨ho, hAk⟩ : T.ok (.mk k u0 u1 u2 u3 p cap mn mx tx ks) = true ∧ ∀ t ∈ ks, T.All (fun t => T.ok t = true) t := by cases hA with | mk h1 h2 => exact ⟨h1, h2⟩
  have hok := okn_of ho
  have hval := nullT_mk k u0 u1 u2 u3 p cap mn mx tx ks
  replace hT := Lib.hid hT
  replace hB0 := Lib.hid hB0
  replace ih := Lib.hid ih
  replace hAk := Lib.hid hAk
  replace hfit := Lib.hid hfit
  clear hA ho
  generalize nullT (.mk k u0 u1 u2 u3 p cap mn mx tx ks) = V at *
  simp only [T.cells]
  have hbn := Lib.hid (World.alloc_heap_new w (.cells #[.int .i64 k, .int .u64 u0, .int .u64 u1, .int .u64 u2, .int .u64 u3, .slice p ks.length cap, .int .i64 mn, .int .i64 mx, .string tx] 31))
  cases hok with
  | bytes hk hk2 =>
    subst hk
    rw [if_pos (Or.inl rfl)] at hval
    subst hval
    replace hk2 := Lib.hid hk2
    go_enter Tryd.func28, Tryd.ntmps28
    go_wp2
    go_ret
    exact ⟨rfl, (Below.refl _ _).alloc (Nat.le_refl _) _⟩
  | name hk hk2 =>
    subst hk
    have hv : V = false := by rw [hval]; simp
    clear hval
    subst hv
    replace hk2 := Lib.hid hk2
    go_enter Tryd.func28, Tryd.ntmps28
    go_wp2
    go_ret
    exact ⟨rfl, (Below.refl _ _).alloc (Nat.le_refl _) _⟩
  | rep hk t hk2 h3 h4 =>
    subst hk
    obtain rfl := hk2
    have hlt : 0 < [t].length := by simp
    obtain ⟨b, o, hkid, hp, hb, hc⟩ := T.kid hT.out hlt
    have hcl : ∀ q, q < 9 → w.cell? ⟨b, o + q, none⟩ = (t.cells)[q]? := fun q hq => by
      have h0 := hc q hq
      rw [Nat.zero_mul, Nat.add_zero] at h0
      rw [← show ([t][0]'hlt).cells[q]? = t.cells[q]? from rfl, ← h0]
      exact (hB0.out.cell (p := ⟨b, o + q, none⟩) hb)
    have cK := ih.out t (by simp) (hAk.out t (by simp)) hkid (w.alloc (.cells #[.int .i64 4, .int .u64 u0, .int .u64 u1, .int .u64 u2, .int .u64 u3, .slice p 1 cap, .int .i64 mn, .int .i64 mx, .string tx] 31)) (hB0.out.alloc hB0w _)
    subst hp
    clear hc hkid
    have hb2 : b < w.heap.size := by omega
    rw [if_neg (by omega), if_pos rfl, List.map_cons, List.headD_cons] at hval
    generalize nullT t = r at *
    cases t with
    | mk k' u0' u1' u2' u3' p' cap' mn' mx' tx' ks' =>
      simp only [T.cells] at hcl cK
      obtain ⟨c0, c1, c2, c3, c4, c5, c6, c7, c8⟩ := nine_of hcl
      clear hcl
      replace cK := Lib.hid cK
      replace hval := Lib.hid hval
      replace h4 := Lib.hid h4
      by_cases h0 : mn = 0
      · subst h0
        go_enter Tryd.func28, Tryd.ntmps28
        go_wp2_with (go_at_call 28; (with_reducible refine (cK.out).mono ?_); rintro e w1 ⟨rfl, hb1⟩)
        go_ret
        exact ⟨by rw [hval.out]; rfl, (Below.refl _ _).alloc (Nat.le_refl _) _⟩
      · have g0 : (mn == 0) = false := by rw [beq_eq_false_iff_ne]; exact h0
        go_enter Tryd.func28, Tryd.ntmps28
        go_wp2_with (go_at_call 28; (with_reducible refine (cK.out).mono ?_); rintro e w1 ⟨rfl, hb1⟩; replace hb1 := Lib.hid hb1)
        go_ret
        exact ⟨by rw [hval.out]; rw [show decide (mn = 0) = false by rw [decide_eq_false_iff_not]; exact h0]; rfl, ((Below.refl _ _).alloc (Nat.le_refl _) _).trans (hb1.out.mono (by simp))⟩
  | cat hk =>
    subst hk
    rw [if_neg (by omega), if_neg (by omega), if_pos rfl] at hval
    obtain ⟨c, hc0, hcs, hcl0, hcall⟩ := count_of nullT ks
    rw [all_count hcall] at hval
    replace hval := Lib.hid hval
    replace hcs := Lib.hid hcs
    replace hcl0 := Lib.hid hcl0
    clear hcall
    go_enter Tryd.func28, Tryd.ntmps28
    go_wp2
    have h0 : Hid (Below w.heap.size w (w.alloc (.cells #[.int .i64 2, .int .u64 u0, .int .u64 u1, .int .u64 u2, .int .u64 u3, .slice p ks.length cap, .int .i64 mn, .int .i64 mx, .string tx] 31))) := Lib.hid ((Below.refl _ _).alloc (Nat.le_refl _) _)
    have hgl : w.heap.size < (w.alloc (.cells #[.int .i64 2, .int .u64 u0, .int .u64 u1, .int .u64 u2, .int .u64 u3, .slice p ks.length cap, .int .i64 mn, .int .i64 mx, .string tx] 31)).heap.size := by simp
    go_loopw [3, 30] (fun m i wr => ∃ j : Nat, j ≤ ks.length ∧ m = .int .i64 (c j) ∧ i = .int .i64 j ∧ Hid (Below w.heap.size w wr) ∧ Hid (wr.heap[w.heap.size]? = some (.cells #[.int .i64 2, .int .u64 u0, .int .u64 u1, .int .u64 u2, .int .u64 u3, .slice p ks.length cap, .int .i64 mn, .int .i64 mx, .string tx] 31))) (fun _ i _ => ks.length - (intOf i).toNat)
    case atStart => exact ⟨0, Nat.zero_le _, by rw [hc0]; rfl, rfl, h0, hbn⟩
    case round =>
      clear h0 hbn hgl
      obtain ⟨j, hj, rfl, rfl, hbel, hbx⟩ := hrel
      have hcj := (hcl0.out j hj)
      have hsz := lt_box hbx.out
      obtain ⟨z0, -⟩ := cells_of hbx.out 0 _ rfl
      obtain ⟨z5, -⟩ := cells_of hbx.out 5 _ rfl
      by_cases hlt : j < ks.length
      · obtain ⟨b, o, hkid, hp, hb, hc⟩ := T.kid hT.out hlt
        have hBw : Below B0 w0 wr := hB0.out.trans (hbel.out.mono hB0w)
        have hcl : ∀ q, q < 9 → wr.cell? ⟨b, o + j * 9 + q, none⟩ = (ks[j].cells)[q]? := fun q hq => by
          rw [← hc q hq]
          exact hBw.cell (p := ⟨b, o + j * 9 + q, none⟩) hb
        have cK := fun bx => ih.out ks[j] (List.getElem_mem hlt) (hAk.out _ (List.getElem_mem hlt)) hkid (wr.alloc bx) (hBw.alloc (Nat.le_trans hB0w (by omega)) bx)
        have hs := hcs.out j hlt
        clear hc hkid hBw
        subst hp
        generalize ks[j] = kd at *
        generalize nullT kd = r at *
        cases kd with
        | mk k' u0' u1' u2' u3' p' cap' mn' mx' tx' ks' =>
          simp only [T.cells] at hcl cK
          obtain ⟨c0, c1, c2, c3, c4, c5, c6, c7, c8⟩ := nine_of hcl
          clear hcl
          replace cK := Lib.hid (cK (.cells #[.int .i64 k', .int .u64 u0', .int .u64 u1', .int .u64 u2', .int .u64 u3', .slice p' ks'.length cap', .int .i64 mn', .int .i64 mx', .string tx'] 31))
          have hbx2 := Lib.hid (kept_alloc9 hbx.out (.cells #[.int .i64 k', .int .u64 u0', .int .u64 u1', .int .u64 u2', .int .u64 u3', .slice p' ks'.length cap', .int .i64 mn', .int .i64 mx', .string tx'] 31))
          have hbel2 := Lib.hid (hbel.out.alloc (Nat.le_of_lt hsz) (.cells #[.int .i64 k', .int .u64 u0', .int .u64 u1', .int .u64 u2', .int .u64 u3', .slice p' ks'.length cap', .int .i64 mn', .int .i64 mx', .string tx'] 31))
          cases r with
          | true =>
            simp only [if_true] at hs
            have hs2 := Lib.hid (show (c j : Int) + 1 = (c (j + 1) : Nat) by rw [hs]; rfl)
            clear hs
            go_wp2_with (go_at_call 28; (with_reducible refine (cK.out).mono ?_); rintro e w1 ⟨rfl, hb1⟩; replace hbx2 := Lib.hid (kept_row hbx2.out hb1); replace hbel2 := Lib.hid (hbel2.out.trans (hb1.mono (by simp; omega))); clear hb1)
            go_roundw
            case rel => exact ⟨j + 1, by omega, by rw [← hs2.out], by go_num, hbel2, hbx2⟩
            case measure => simp [intOf]; omega
          | false =>
            simp only [Bool.false_eq_true, if_false, Nat.add_zero] at hs
            replace hs := Lib.hid hs
            go_wp2_with (go_at_call 28; (with_reducible refine (cK.out).mono ?_); rintro e w1 ⟨rfl, hb1⟩; replace hbx2 := Lib.hid (kept_row hbx2.out hb1); replace hbel2 := Lib.hid (hbel2.out.trans (hb1.mono (by simp; omega))); clear hb1)
            go_roundw
            case rel => exact ⟨j + 1, by omega, by rw [hs.out], by go_num, hbel2, hbx2⟩
            case measure => simp [intOf]; omega
      · obtain rfl : j = ks.length := by omega
        have hfin : ((c ks.length : Int) == (ks.length : Int)) = V := by rw [hval.out] <;> (rw [Bool.eq_iff_iff]; simp <;> omega)
        go_wp2
        go_ret
        first | exact ⟨rfl, hbel.out⟩ | exact ⟨ret_bool9 hfin, hbel.out⟩
  | alt hk hk2 =>
    subst hk
    rw [if_neg (by omega), if_neg (by omega), if_neg (by omega)] at hval
    obtain ⟨c, hc0, hcs, hcl0, hcall⟩ := count_of nullT ks
    rw [any_count hcall] at hval
    replace hval := Lib.hid hval
    replace hcs := Lib.hid hcs
    replace hcl0 := Lib.hid hcl0
    clear hcall hk2
    go_enter Tryd.func28, Tryd.ntmps28
    go_wp2
    have h0 : Hid (Below w.heap.size w (w.alloc (.cells #[.int .i64 3, .int .u64 u0, .int .u64 u1, .int .u64 u2, .int .u64 u3, .slice p ks.length cap, .int .i64 mn, .int .i64 mx, .string tx] 31))) := Lib.hid ((Below.refl _ _).alloc (Nat.le_refl _) _)
    have hgl : w.heap.size < (w.alloc (.cells #[.int .i64 3, .int .u64 u0, .int .u64 u1, .int .u64 u2, .int .u64 u3, .slice p ks.length cap, .int .i64 mn, .int .i64 mx, .string tx] 31)).heap.size := by simp
    go_loopw [3, 30] (fun m i wr => ∃ j : Nat, j ≤ ks.length ∧ m = .int .i64 (c j) ∧ i = .int .i64 j ∧ Hid (Below w.heap.size w wr) ∧ Hid (wr.heap[w.heap.size]? = some (.cells #[.int .i64 3, .int .u64 u0, .int .u64 u1, .int .u64 u2, .int .u64 u3, .slice p ks.length cap, .int .i64 mn, .int .i64 mx, .string tx] 31))) (fun _ i _ => ks.length - (intOf i).toNat)
    case atStart => exact ⟨0, Nat.zero_le _, by rw [hc0]; rfl, rfl, h0, hbn⟩
    case round =>
      clear h0 hbn hgl
      obtain ⟨j, hj, rfl, rfl, hbel, hbx⟩ := hrel
      have hcj := (hcl0.out j hj)
      have hsz := lt_box hbx.out
      obtain ⟨z0, -⟩ := cells_of hbx.out 0 _ rfl
      obtain ⟨z5, -⟩ := cells_of hbx.out 5 _ rfl
      by_cases hlt : j < ks.length
      · obtain ⟨b, o, hkid, hp, hb, hc⟩ := T.kid hT.out hlt
        have hBw : Below B0 w0 wr := hB0.out.trans (hbel.out.mono hB0w)
        have hcl : ∀ q, q < 9 → wr.cell? ⟨b, o + j * 9 + q, none⟩ = (ks[j].cells)[q]? := fun q hq => by
          rw [← hc q hq]
          exact hBw.cell (p := ⟨b, o + j * 9 + q, none⟩) hb
        have cK := fun bx => ih.out ks[j] (List.getElem_mem hlt) (hAk.out _ (List.getElem_mem hlt)) hkid (wr.alloc bx) (hBw.alloc (Nat.le_trans hB0w (by omega)) bx)
        have hs := hcs.out j hlt
        clear hc hkid hBw
        subst hp
        generalize ks[j] = kd at *
        generalize nullT kd = r at *
        cases kd with
        | mk k' u0' u1' u2' u3' p' cap' mn' mx' tx' ks' =>
          simp only [T.cells] at hcl cK
          obtain ⟨c0, c1, c2, c3, c4, c5, c6, c7, c8⟩ := nine_of hcl
          clear hcl
          replace cK := Lib.hid (cK (.cells #[.int .i64 k', .int .u64 u0', .int .u64 u1', .int .u64 u2', .int .u64 u3', .slice p' ks'.length cap', .int .i64 mn', .int .i64 mx', .string tx'] 31))
          have hbx2 := Lib.hid (kept_alloc9 hbx.out (.cells #[.int .i64 k', .int .u64 u0', .int .u64 u1', .int .u64 u2', .int .u64 u3', .slice p' ks'.length cap', .int .i64 mn', .int .i64 mx', .string tx'] 31))
          have hbel2 := Lib.hid (hbel.out.alloc (Nat.le_of_lt hsz) (.cells #[.int .i64 k', .int .u64 u0', .int .u64 u1', .int .u64 u2', .int .u64 u3', .slice p' ks'.length cap', .int .i64 mn', .int .i64 mx', .string tx'] 31))
          cases r with
          | true =>
            simp only [if_true] at hs
            have hs2 := Lib.hid (show (c j : Int) + 1 = (c (j + 1) : Nat) by rw [hs]; rfl)
            clear hs
            go_wp2_with (go_at_call 28; (with_reducible refine (cK.out).mono ?_); rintro e w1 ⟨rfl, hb1⟩; replace hbx2 := Lib.hid (kept_row hbx2.out hb1); replace hbel2 := Lib.hid (hbel2.out.trans (hb1.mono (by simp; omega))); clear hb1)
            go_roundw
            case rel => exact ⟨j + 1, by omega, by rw [← hs2.out], by go_num, hbel2, hbx2⟩
            case measure => simp [intOf]; omega
          | false =>
            simp only [Bool.false_eq_true, if_false, Nat.add_zero] at hs
            replace hs := Lib.hid hs
            go_wp2_with (go_at_call 28; (with_reducible refine (cK.out).mono ?_); rintro e w1 ⟨rfl, hb1⟩; replace hbx2 := Lib.hid (kept_row hbx2.out hb1); replace hbel2 := Lib.hid (hbel2.out.trans (hb1.mono (by simp; omega))); clear hb1)
            go_roundw
            case rel => exact ⟨j + 1, by omega, by rw [hs.out], by go_num, hbel2, hbx2⟩
            case measure => simp [intOf]; omega
      · obtain rfl : j = ks.length := by omega
        have hfin : decide (0 < c ks.length) = V := by rw [hval.out] <;> (rw [Bool.eq_iff_iff]; simp <;> omega)
        go_wp2
        go_ret
        first | exact ⟨rfl, hbel.out⟩ | exact ⟨ret_bool9 hfin, hbel.out⟩
end Go.Proofs.YtaebhbcamhmhoaaDoor
