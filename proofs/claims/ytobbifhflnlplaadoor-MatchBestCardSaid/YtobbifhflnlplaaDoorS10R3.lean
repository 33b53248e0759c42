/- The reference's Null, of any tree whose shapes are those of derivatives; its null. -/

import Derived.Test.YtobbifhflnlplaaDoorS10R2
import Derived.Test.YtobbifhflnlplaaDoorMB
namespace Go.Proofs.YtobbifhflnlplaaDoor
open Lib (hid)
open Go.RowKit
open Go.Tree7
open S7
open S5 (nl nl_length nl_small at_nl nl_at Gives idx idx_at ix ix_no ix_yes)
inductive Onk (k mn mx : Int) (ks : List T) : Prop
 | none (h : k = 0) (h2 : ks = [])
 | bytes (h : k = 1) (h2 : True)
 | cat (h : k = 2)
 | alt (h : k = 3) (h2 : True)
 | rep (h : k = 4) (t : T) (h2 : ks = [t]) (h3 : 0 ≤ mn) (h4 : True)
 | name (h : k = 5) (h2 : True)
theorem onk_of {k u0 u1 u2 u3 : Int} {p : Option Addr} {cap : Nat} {mn mx : Int} {tx : ByteArray} {ks : List T} (h : okd (.mk k u0 u1 u2 u3 p cap mn mx tx ks)) : Onk k mn mx ks := by
 rcases h with ⟨h1, h2⟩ | h | h | h | ⟨h1, h2, h3, -⟩ | h
 ·exact .none h1 h2
 ·exact .bytes h trivial
 ·exact .cat h
 ·exact .alt h trivial
 ·obtain ⟨t, e⟩ := List.length_eq_one_iff.1 h2
  exact .rep h1 t e h3 trivial
 ·exact .name h trivial
set_option maxRecDepth 10000 in
set_option maxHeartbeats 4000000 in
theorem onull_in {w0 : World} {B0 : Nat} (hn0 : B0 ≤ w0.heap.size) : ∀ t : T, T.All okd t → T.In w0 B0 t → ∀ w, Below B0 w0 w → Calls Tryd.prog 42 #[.agg t.cells.toArray] w fun e w' => e = .returned (.bool (nullT t)) ∧ Below w.heap.size w w' := by
 refine T.ind fun k u0 u1 u2 u3 p cap mn mx tx ks ih => ?_
 intro hA hT w hB0
 have hks : ks.length ≤ 9223372036854775807 := by cases hT with | mk h1 h2 => unfold maxLen at h2; omega
 have hfit : fits k u0 u1 u2 u3 mn mx tx := by cases hT with | mk h1 h2 h3 => exact h3
 have hB0w : B0 ≤ w.heap.size := Nat.le_trans hn0 hB0.size
 obtain ⟨ho, hAk⟩ : okd (.mk k u0 u1 u2 u3 p cap mn mx tx ks) ∧ ∀ t ∈ ks, T.All okd t := by cases hA with | mk h1 h2 => exact ⟨h1, h2⟩
 have hok := onk_of ho
 have hval := nullT_mk k u0 u1 u2 u3 p cap mn mx tx ks
 replace hT := hid hT
 replace hB0 := hid hB0
 replace ih := hid ih
 replace hAk := hid hAk
 replace hfit := hid hfit
 clear hA ho
 generalize nullT (.mk k u0 u1 u2 u3 p cap mn mx tx ks) = V at *
 simp only [T.cells]
 have hbn := hid (World.alloc_heap_new w (.cells #[.int .i64 k, .int .u64 u0, .int .u64 u1, .int .u64 u2, .int .u64 u3, .slice p ks.length cap, .int .i64 mn, .int .i64 mx, .string tx] 32))
 cases hok with
 | bytes hk hk2 =>
  subst hk
  rw [if_pos (Or.inl rfl)] at hval
  subst hval
  replace hk2 := hid hk2
  go_enter Tryd.func42, Tryd.ntmps42
  go_wp2
  go_ret
  exact ⟨rfl, (Below.refl _ _).alloc (Nat.le_refl _) _⟩
 | name hk hk2 =>
  subst hk
  have hv : V = false := by rw [hval]; simp
  clear hval
  subst hv
  replace hk2 := hid hk2
  go_enter Tryd.func42, Tryd.ntmps42
  go_wp2
  go_ret
  exact ⟨rfl, (Below.refl _ _).alloc (Nat.le_refl _) _⟩
 | rep hk t hk2 h3 h4 =>
  subst hk
  obtain rfl := hk2
  have hlt : 0 < [t].length := by simp
  obtain ⟨b, o, hkid, hp, hb, hc⟩ := T.kid hT.out hlt
  have hcl : ∀ q, q < 9 → w.cell? ⟨b, o + q, none⟩ = (t.cells)[q]? := fun q hq => by
   have h0 := hc q hq
   rw [Nat.zero_mul, Nat.add_zero] at h0
   rw [← show ([t][0]'hlt).cells[q]? = t.cells[q]? from rfl, ← h0]
   exact (hB0.out.cell (p := ⟨b, o + q, none⟩) hb)
  have cK := ih.out t (by simp) (hAk.out t (by simp)) hkid (w.alloc (.cells #[.int .i64 4, .int .u64 u0, .int .u64 u1, .int .u64 u2, .int .u64 u3, .slice p 1 cap, .int .i64 mn, .int .i64 mx, .string tx] 32)) (hB0.out.alloc hB0w _)
  subst hp
  clear hc hkid
  have hb2 : b < w.heap.size := by omega
  rw [if_neg (by omega), if_pos rfl, List.map_cons, List.headD_cons] at hval
  generalize nullT t = r at *
  cases t with
  | mk k' u0' u1' u2' u3' p' cap' mn' mx' tx' ks' =>
   simp only [T.cells] at hcl cK
   obtain ⟨c0, c1, c2, c3, c4, c5, c6, c7, c8⟩ := nine_of hcl
   clear hcl
   replace cK := hid cK
   replace hval := hid hval
   replace h4 := hid h4
   by_cases h0 : mn = 0
   ·subst h0
    go_enter Tryd.func42, Tryd.ntmps42
    go_wp2_with (go_at_call 42; (with_reducible refine (cK.out).mono ?_); rintro e w1 ⟨rfl, hb1⟩)
    go_ret
    exact ⟨by rw [hval.out]; rfl, (Below.refl _ _).alloc (Nat.le_refl _) _⟩
   ·have g0 : (mn == 0) = false := by rw [beq_eq_false_iff_ne]; exact h0
    go_enter Tryd.func42, Tryd.ntmps42
    go_wp2_with (go_at_call 42; (with_reducible refine (cK.out).mono ?_); rintro e w1 ⟨rfl, hb1⟩; replace hb1 := hid hb1)
    go_ret
    exact ⟨by rw [hval.out]; rw [show decide (mn = 0) = false by rw [decide_eq_false_iff_not]; exact h0]; rfl, ((Below.refl _ _).alloc (Nat.le_refl _) _).trans (hb1.out.mono (by simp))⟩
 | cat hk =>
  subst hk
  rw [if_neg (by omega), if_neg (by omega), if_pos rfl] at hval
  obtain ⟨c, hc0, hcs, hcl0, hcall⟩ := count_of nullT ks
  rw [all_count hcall] at hval
  replace hval := hid hval
  replace hcs := hid hcs
  replace hcl0 := hid hcl0
  clear hcall
  go_enter Tryd.func42, Tryd.ntmps42
  go_wp2
  have h0 : Hid (Below w.heap.size w (w.alloc (.cells #[.int .i64 2, .int .u64 u0, .int .u64 u1, .int .u64 u2, .int .u64 u3, .slice p ks.length cap, .int .i64 mn, .int .i64 mx, .string tx] 32))) := hid ((Below.refl _ _).alloc (Nat.le_refl _) _)
  have hgl : w.heap.size < (w.alloc (.cells #[.int .i64 2, .int .u64 u0, .int .u64 u1, .int .u64 u2, .int .u64 u3, .slice p ks.length cap, .int .i64 mn, .int .i64 mx, .string tx] 32)).heap.size := by simp
  go_loopw [3, 30] (fun m i wr => ∃ j : Nat, j ≤ ks.length ∧ m = .int .i64 (c j) ∧ i = .int .i64 j ∧ Hid (Below w.heap.size w wr) ∧ Hid (wr.heap[w.heap.size]? = some (.cells #[.int .i64 2, .int .u64 u0, .int .u64 u1, .int .u64 u2, .int .u64 u3, .slice p ks.length cap, .int .i64 mn, .int .i64 mx, .string tx] 32))) (fun _ i _ => ks.length - (intOf i).toNat)
  case atStart => exact ⟨0, Nat.zero_le _, by rw [hc0]; rfl, rfl, h0, hbn⟩
  case round =>
   clear h0 hbn hgl
   obtain ⟨j, hj, rfl, rfl, hbel, hbx⟩ := hrel
   have hcj := (hcl0.out j hj)
   have hsz := lt_box hbx.out
   obtain ⟨z0, -⟩ := cells_of hbx.out 0 _ rfl
   obtain ⟨z5, -⟩ := cells_of hbx.out 5 _ rfl
   by_cases hlt : j < ks.length
   ·obtain ⟨b, o, hkid, hp, hb, hc⟩ := T.kid hT.out hlt
    have hBw : Below B0 w0 wr := hB0.out.trans (hbel.out.mono hB0w)
    have hcl : ∀ q, q < 9 → wr.cell? ⟨b, o + j * 9 + q, none⟩ = (ks[j].cells)[q]? := fun q hq => by
     rw [← hc q hq]
     exact hBw.cell (p := ⟨b, o + j * 9 + q, none⟩) hb
    have cK := fun bx => ih.out ks[j] (List.getElem_mem hlt) (hAk.out _ (List.getElem_mem hlt)) hkid (wr.alloc bx) (hBw.alloc (Nat.le_trans hB0w (by omega)) bx)
    have hs := hcs.out j hlt
    clear hc hkid hBw
    subst hp
    generalize ks[j] = kd at *
    generalize nullT kd = r at *
    cases kd with
    | mk k' u0' u1' u2' u3' p' cap' mn' mx' tx' ks' =>
     simp only [T.cells] at hcl cK
     obtain ⟨c0, c1, c2, c3, c4, c5, c6, c7, c8⟩ := nine_of hcl
     clear hcl
     replace cK := hid (cK (.cells #[.int .i64 k', .int .u64 u0', .int .u64 u1', .int .u64 u2', .int .u64 u3', .slice p' ks'.length cap', .int .i64 mn', .int .i64 mx', .string tx'] 32))
     have hbx2 := hid (kept_alloc9 hbx.out (.cells #[.int .i64 k', .int .u64 u0', .int .u64 u1', .int .u64 u2', .int .u64 u3', .slice p' ks'.length cap', .int .i64 mn', .int .i64 mx', .string tx'] 32))
     have hbel2 := hid (hbel.out.alloc (Nat.le_of_lt hsz) (.cells #[.int .i64 k', .int .u64 u0', .int .u64 u1', .int .u64 u2', .int .u64 u3', .slice p' ks'.length cap', .int .i64 mn', .int .i64 mx', .string tx'] 32))
     cases r with
     | true =>
      simp only [if_true] at hs
      have hs2 := hid (show (c j : Int) + 1 = (c (j + 1) : Nat) by rw [hs]; rfl)
      clear hs
      go_wp2_with (go_at_call 42; (with_reducible refine (cK.out).mono ?_); rintro e w1 ⟨rfl, hb1⟩; replace hbx2 := hid (kept_row hbx2.out hb1); replace hbel2 := hid (hbel2.out.trans (hb1.mono (by simp; omega))); clear hb1)
      go_roundw
      case rel => exact ⟨j + 1, by omega, by rw [← hs2.out], by go_num, hbel2, hbx2⟩
      case measure => simp [intOf]; omega
     | false =>
      simp only [Bool.false_eq_true, if_false, Nat.add_zero] at hs
      replace hs := hid hs
      go_wp2_with (go_at_call 42; (with_reducible refine (cK.out).mono ?_); rintro e w1 ⟨rfl, hb1⟩; replace hbx2 := hid (kept_row hbx2.out hb1); replace hbel2 := hid (hbel2.out.trans (hb1.mono (by simp; omega))); clear hb1)
      go_roundw
      case rel => exact ⟨j + 1, by omega, by rw [hs.out], by go_num, hbel2, hbx2⟩
      case measure => simp [intOf]; omega
   ·obtain rfl : j = ks.length := by omega
    have hfin : ((c ks.length : Int) == (ks.length : Int)) = V := by rw [hval.out] <;> (rw [Bool.eq_iff_iff]; simp <;> omega)
    go_wp2
    go_ret
    first | exact ⟨rfl, hbel.out⟩ | exact ⟨ret_bool9 hfin, hbel.out⟩
 | alt hk hk2 =>
  subst hk
  rw [if_neg (by omega), if_neg (by omega), if_neg (by omega)] at hval
  obtain ⟨c, hc0, hcs, hcl0, hcall⟩ := count_of nullT ks
  rw [any_count hcall] at hval
  replace hval := hid hval
  replace hcs := hid hcs
  replace hcl0 := hid hcl0
  clear hcall hk2
  go_enter Tryd.func42, Tryd.ntmps42
  go_wp2
  have h0 : Hid (Below w.heap.size w (w.alloc (.cells #[.int .i64 3, .int .u64 u0, .int .u64 u1, .int .u64 u2, .int .u64 u3, .slice p ks.length cap, .int .i64 mn, .int .i64 mx, .string tx] 32))) := hid ((Below.refl _ _).alloc (Nat.le_refl _) _)
  have hgl : w.heap.size < (w.alloc (.cells #[.int .i64 3, .int .u64 u0, .int .u64 u1, .int .u64 u2, .int .u64 u3, .slice p ks.length cap, .int .i64 mn, .int .i64 mx, .string tx] 32)).heap.size := by simp
  go_loopw [3, 30] (fun m i wr => ∃ j : Nat, j ≤ ks.length ∧ m = .int .i64 (c j) ∧ i = .int .i64 j ∧ Hid (Below w.heap.size w wr) ∧ Hid (wr.heap[w.heap.size]? = some (.cells #[.int .i64 3, .int .u64 u0, .int .u64 u1, .int .u64 u2, .int .u64 u3, .slice p ks.length cap, .int .i64 mn, .int .i64 mx, .string tx] 32))) (fun _ i _ => ks.length - (intOf i).toNat)
  case atStart => exact ⟨0, Nat.zero_le _, by rw [hc0]; rfl, rfl, h0, hbn⟩
  case round =>
   clear h0 hbn hgl
   obtain ⟨j, hj, rfl, rfl, hbel, hbx⟩ := hrel
   have hcj := (hcl0.out j hj)
   have hsz := lt_box hbx.out
   obtain ⟨z0, -⟩ := cells_of hbx.out 0 _ rfl
   obtain ⟨z5, -⟩ := cells_of hbx.out 5 _ rfl
   by_cases hlt : j < ks.length
   ·obtain ⟨b, o, hkid, hp, hb, hc⟩ := T.kid hT.out hlt
    have hBw : Below B0 w0 wr := hB0.out.trans (hbel.out.mono hB0w)
    have hcl : ∀ q, q < 9 → wr.cell? ⟨b, o + j * 9 + q, none⟩ = (ks[j].cells)[q]? := fun q hq => by
     rw [← hc q hq]
     exact hBw.cell (p := ⟨b, o + j * 9 + q, none⟩) hb
    have cK := fun bx => ih.out ks[j] (List.getElem_mem hlt) (hAk.out _ (List.getElem_mem hlt)) hkid (wr.alloc bx) (hBw.alloc (Nat.le_trans hB0w (by omega)) bx)
    have hs := hcs.out j hlt
    clear hc hkid hBw
    subst hp
    generalize ks[j] = kd at *
    generalize nullT kd = r at *
    cases kd with
    | mk k' u0' u1' u2' u3' p' cap' mn' mx' tx' ks' =>
     simp only [T.cells] at hcl cK
     obtain ⟨c0, c1, c2, c3, c4, c5, c6, c7, c8⟩ := nine_of hcl
     clear hcl
     replace cK := hid (cK (.cells #[.int .i64 k', .int .u64 u0', .int .u64 u1', .int .u64 u2', .int .u64 u3', .slice p' ks'.length cap', .int .i64 mn', .int .i64 mx', .string tx'] 32))
     have hbx2 := hid (kept_alloc9 hbx.out (.cells #[.int .i64 k', .int .u64 u0', .int .u64 u1', .int .u64 u2', .int .u64 u3', .slice p' ks'.length cap', .int .i64 mn', .int .i64 mx', .string tx'] 32))
     have hbel2 := hid (hbel.out.alloc (Nat.le_of_lt hsz) (.cells #[.int .i64 k', .int .u64 u0', .int .u64 u1', .int .u64 u2', .int .u64 u3', .slice p' ks'.length cap', .int .i64 mn', .int .i64 mx', .string tx'] 32))
     cases r with
     | true =>
      simp only [if_true] at hs
      have hs2 := hid (show (c j : Int) + 1 = (c (j + 1) : Nat) by rw [hs]; rfl)
      clear hs
      go_wp2_with (go_at_call 42; (with_reducible refine (cK.out).mono ?_); rintro e w1 ⟨rfl, hb1⟩; replace hbx2 := hid (kept_row hbx2.out hb1); replace hbel2 := hid (hbel2.out.trans (hb1.mono (by simp; omega))); clear hb1)
      go_roundw
      case rel => exact ⟨j + 1, by omega, by rw [← hs2.out], by go_num, hbel2, hbx2⟩
      case measure => simp [intOf]; omega
     | false =>
      simp only [Bool.false_eq_true, if_false, Nat.add_zero] at hs
      replace hs := hid hs
      go_wp2_with (go_at_call 42; (with_reducible refine (cK.out).mono ?_); rintro e w1 ⟨rfl, hb1⟩; replace hbx2 := hid (kept_row hbx2.out hb1); replace hbel2 := hid (hbel2.out.trans (hb1.mono (by simp; omega))); clear hb1)
      go_roundw
      case rel => exact ⟨j + 1, by omega, by rw [hs.out], by go_num, hbel2, hbx2⟩
      case measure => simp [intOf]; omega
   ·obtain rfl : j = ks.length := by omega
    have hfin : decide (0 < c ks.length) = V := by rw [hval.out] <;> (rw [Bool.eq_iff_iff]; simp <;> omega)
    go_wp2
    go_ret
    first | exact ⟨rfl, hbel.out⟩ | exact ⟨ret_bool9 hfin, hbel.out⟩
 | none hk hk2 =>
  subst hk
  rw [if_neg (by omega), if_neg (by omega), if_neg (by omega)] at hval
  obtain ⟨c, hc0, hcs, hcl0, hcall⟩ := count_of nullT ks
  rw [any_count hcall] at hval
  replace hval := hid hval
  replace hcs := hid hcs
  replace hcl0 := hid hcl0
  clear hcall hk2
  go_enter Tryd.func42, Tryd.ntmps42
  go_wp2
  have h0 : Hid (Below w.heap.size w (w.alloc (.cells #[.int .i64 0, .int .u64 u0, .int .u64 u1, .int .u64 u2, .int .u64 u3, .slice p ks.length cap, .int .i64 mn, .int .i64 mx, .string tx] 32))) := hid ((Below.refl _ _).alloc (Nat.le_refl _) _)
  have hgl : w.heap.size < (w.alloc (.cells #[.int .i64 0, .int .u64 u0, .int .u64 u1, .int .u64 u2, .int .u64 u3, .slice p ks.length cap, .int .i64 mn, .int .i64 mx, .string tx] 32)).heap.size := by simp
  go_loopw [3, 30] (fun m i wr => ∃ j : Nat, j ≤ ks.length ∧ m = .int .i64 (c j) ∧ i = .int .i64 j ∧ Hid (Below w.heap.size w wr) ∧ Hid (wr.heap[w.heap.size]? = some (.cells #[.int .i64 0, .int .u64 u0, .int .u64 u1, .int .u64 u2, .int .u64 u3, .slice p ks.length cap, .int .i64 mn, .int .i64 mx, .string tx] 32))) (fun _ i _ => ks.length - (intOf i).toNat)
  case atStart => exact ⟨0, Nat.zero_le _, by rw [hc0]; rfl, rfl, h0, hbn⟩
  case round =>
   clear h0 hbn hgl
   obtain ⟨j, hj, rfl, rfl, hbel, hbx⟩ := hrel
   have hcj := (hcl0.out j hj)
   have hsz := lt_box hbx.out
   obtain ⟨z0, -⟩ := cells_of hbx.out 0 _ rfl
   obtain ⟨z5, -⟩ := cells_of hbx.out 5 _ rfl
   by_cases hlt : j < ks.length
   ·obtain ⟨b, o, hkid, hp, hb, hc⟩ := T.kid hT.out hlt
    have hBw : Below B0 w0 wr := hB0.out.trans (hbel.out.mono hB0w)
    have hcl : ∀ q, q < 9 → wr.cell? ⟨b, o + j * 9 + q, none⟩ = (ks[j].cells)[q]? := fun q hq => by
     rw [← hc q hq]
     exact hBw.cell (p := ⟨b, o + j * 9 + q, none⟩) hb
    have cK := fun bx => ih.out ks[j] (List.getElem_mem hlt) (hAk.out _ (List.getElem_mem hlt)) hkid (wr.alloc bx) (hBw.alloc (Nat.le_trans hB0w (by omega)) bx)
    have hs := hcs.out j hlt
    clear hc hkid hBw
    subst hp
    generalize ks[j] = kd at *
    generalize nullT kd = r at *
    cases kd with
    | mk k' u0' u1' u2' u3' p' cap' mn' mx' tx' ks' =>
     simp only [T.cells] at hcl cK
     obtain ⟨c0, c1, c2, c3, c4, c5, c6, c7, c8⟩ := nine_of hcl
     clear hcl
     replace cK := hid (cK (.cells #[.int .i64 k', .int .u64 u0', .int .u64 u1', .int .u64 u2', .int .u64 u3', .slice p' ks'.length cap', .int .i64 mn', .int .i64 mx', .string tx'] 32))
     have hbx2 := hid (kept_alloc9 hbx.out (.cells #[.int .i64 k', .int .u64 u0', .int .u64 u1', .int .u64 u2', .int .u64 u3', .slice p' ks'.length cap', .int .i64 mn', .int .i64 mx', .string tx'] 32))
     have hbel2 := hid (hbel.out.alloc (Nat.le_of_lt hsz) (.cells #[.int .i64 k', .int .u64 u0', .int .u64 u1', .int .u64 u2', .int .u64 u3', .slice p' ks'.length cap', .int .i64 mn', .int .i64 mx', .string tx'] 32))
     cases r with
     | true =>
      simp only [if_true] at hs
      have hs2 := hid (show (c j : Int) + 1 = (c (j + 1) : Nat) by rw [hs]; rfl)
      clear hs
      go_wp2_with (go_at_call 42; (with_reducible refine (cK.out).mono ?_); rintro e w1 ⟨rfl, hb1⟩; replace hbx2 := hid (kept_row hbx2.out hb1); replace hbel2 := hid (hbel2.out.trans (hb1.mono (by simp; omega))); clear hb1)
      go_roundw
      case rel => exact ⟨j + 1, by omega, by rw [← hs2.out], by go_num, hbel2, hbx2⟩
      case measure => simp [intOf]; omega
     | false =>
      simp only [Bool.false_eq_true, if_false, Nat.add_zero] at hs
      replace hs := hid hs
      go_wp2_with (go_at_call 42; (with_reducible refine (cK.out).mono ?_); rintro e w1 ⟨rfl, hb1⟩; replace hbx2 := hid (kept_row hbx2.out hb1); replace hbel2 := hid (hbel2.out.trans (hb1.mono (by simp; omega))); clear hb1)
      go_roundw
      case rel => exact ⟨j + 1, by omega, by rw [hs.out], by go_num, hbel2, hbx2⟩
      case measure => simp [intOf]; omega
   ·obtain rfl : j = ks.length := by omega
    have hfin : decide (0 < c ks.length) = V := by rw [hval.out] <;> (rw [Bool.eq_iff_iff]; simp <;> omega)
    go_wp2
    go_ret
    first | exact ⟨rfl, hbel.out⟩ | exact ⟨ret_bool9 hfin, hbel.out⟩
theorem null10_in {w : World} {t : T} (hA : T.All okd t) (hT : T.In w w.heap.size t) : Calls Tryd.prog 27 #[.agg t.cells.toArray] w fun e w' => e = .returned (.bool (nullT t)) ∧ Below w.heap.size w w' := by
 have hz := zero_null hA
 have hb0 := Bel.new w (.cells t.cells.toArray 32)
 have hbx := World.alloc_heap_new w (.cells t.cells.toArray 32)
 have cN := onull_in (Nat.le_refl _) t hA (in_bel hT hb0) _ (Below.refl _ _)
 generalize nullT t = V at *
 clear hA hT
 obtain ⟨k, s0, s1, s2, s3, p, cap, mn, mx, tx, ks⟩ := t
 simp only [T.cells] at hb0 hbx cN ⊢
 replace hz : k = 0 → V = false := hz
 obtain ⟨y0, y1, y2, y3, y4, y5, y6, y7, y8⟩ := c9 hbx
 replace hb0 := hid hb0
 replace cN := hid cN
 by_cases hk : k = 0
 ·have hv := hz hk
  have g : (k != 0) = false := by rw [bne_eq_false_iff_eq]; exact hk
  subst hv
  clear hz hk
  go_enter Tryd.func27, Tryd.ntmps27
  go_wp2
  go_ret
  exact ⟨rfl, hb0.out⟩
 ·have g : (k != 0) = true := by rw [bne_iff_ne]; exact hk
  clear hz hk
  go_enter Tryd.func27, Tryd.ntmps27
  go_wp2_with (go_at_call 42; (with_reducible refine cN.out.mono ?_); rintro e w1 ⟨rfl, hb⟩; replace hb := hid hb)
  go_ret
  exact ⟨rfl, Bel.step hb0.out hb.out⟩
end Go.Proofs.YtobbifhflnlplaaDoor
