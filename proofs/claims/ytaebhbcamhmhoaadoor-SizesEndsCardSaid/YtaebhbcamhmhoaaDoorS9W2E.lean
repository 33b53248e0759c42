/- The reference's Alphabet. -/

import Derived.Test.YtaebhbcamhmhoaaDoorMB
import Derived.Test.YtaebhbcamhmhoaaDoorS9W1E
import Derived.Test.YtaebhbcamhmhoaaDoorEA
import Derived.Test.YtaebhbcamhmhoaaDoorS7C
import Derived.Test.YtaebhbcamhmhoaaDoorLL
namespace Go.Proofs.YtaebhbcamhmhoaaDoor
open Go.RowKit
open Go.Tree7
open S7
open S5 (nl nl_length nl_small at_nl nl_at Gives idx idx_at ix ix_no ix_yes)
/-- The union of the first kids' sets, the void ones left out. -/
theorem union_of (g : T → Nat → Bool) (ks : List T) : ∃ U : Nat → Nat → Bool, U 0 = S1.noS ∧ (∀ j (hj : j < ks.length), U (j + 1) = if voidT ks[j] = true then U j else S1.orS (U j) (g ks[j])) ∧ U ks.length = unionS ((alives ks).map g) := by
  refine ⟨fun j => unionS ((alives (ks.take j)).map g), ?_, fun j hj => ?_, ?_⟩
  · funext c; simp [unionS, alives, S1.noS]
  · funext c
    simp only
    rw [List.take_succ_eq_append_getElem hj]
    unfold alives unionS S1.orS
    rw [List.filter_append, List.map_append, List.any_append]
    cases hv : voidT ks[j] <;> simp [hv]
  · simp only [List.take_length]
set_option maxRecDepth 10000 in
set_option maxHeartbeats 8000000 in
theorem ralpha_in {w0 : World} {B0 : Nat} (hn0 : B0 ≤ w0.heap.size) : ∀ t : T, T.All (fun t => T.ok t = true) t → T.In w0 B0 t → ∀ w, Below B0 w0 w → Calls Tryd.prog 11 #[.agg t.cells.toArray] w fun e w' => e = .returned (.agg #[.int .u64 (S1.wd (alphaT t) 0), .int .u64 (S1.wd (alphaT t) 1), .int .u64 (S1.wd (alphaT t) 2), .int .u64 (S1.wd (alphaT t) 3)]) ∧ Below w.heap.size w w' := by
  refine T.ind fun k u0 u1 u2 u3 p cap mn mx tx ks ih => ?_
  intro hA hT w hB0
  have hks : ks.length ≤ 9223372036854775807 := by cases hT with | mk h1 h2 => unfold maxLen at h2; omega
  have hfit : fits k u0 u1 u2 u3 mn mx tx := by cases hT with | mk h1 h2 h3 => exact h3
  have hB0w : B0 ≤ w.heap.size := Nat.le_trans hn0 hB0.size
  obtain ⟨ho, hAk⟩ : T.ok (.mk k u0 u1 u2 u3 p cap mn mx tx ks) = true ∧ ∀ t ∈ ks, T.All (fun t => T.ok t = true) t := by cases hA with | mk h1 h2 => exact ⟨h1, h2⟩
  replace hT := Lib.hid hT
  replace hB0 := Lib.hid hB0
  replace ih := Lib.hid ih
  replace hAk := Lib.hid hAk
  replace hfit := Lib.hid hfit
  clear hA ho
  by_cases hk : k = 1
  · subst hk
    obtain ⟨e0, e1, e2, e3⟩ := wd_f hfit.out.2.1
    rw [alphaT_mk, if_pos rfl, e0, e1, e2, e3]
    simp only [T.cells]
    have hbel9 := Lib.hid (show Below w.heap.size w (((w.alloc (.cells #[.int .i64 1, .int .u64 u0, .int .u64 u1, .int .u64 u2, .int .u64 u3, .slice p ks.length cap, .int .i64 mn, .int .i64 mx, .string tx] 31)).alloc (.cells #[.int .u64 0, .int .u64 0, .int .u64 0, .int .u64 0] 23)).alloc (.cells #[.int .u64 0, .int .u64 0, .int .u64 0, .int .u64 0] 23)) from (((Below.refl _ _).alloc (Nat.le_refl _) _).alloc (by simp) _).alloc (by simp; omega) _)
    have hx9 := Lib.hid (show (((w.alloc (.cells #[.int .i64 1, .int .u64 u0, .int .u64 u1, .int .u64 u2, .int .u64 u3, .slice p ks.length cap, .int .i64 mn, .int .i64 mx, .string tx] 31)).alloc (.cells #[.int .u64 0, .int .u64 0, .int .u64 0, .int .u64 0] 23)).alloc (.cells #[.int .u64 0, .int .u64 0, .int .u64 0, .int .u64 0] 23)).heap[w.heap.size]? = some (.cells #[.int .i64 1, .int .u64 u0, .int .u64 u1, .int .u64 u2, .int .u64 u3, .slice p ks.length cap, .int .i64 mn, .int .i64 mx, .string tx] 31) from kept_alloc9 (kept_alloc9 (World.alloc_heap_new w _) _) _)
    have hr9 := Lib.hid (show (((w.alloc (.cells #[.int .i64 1, .int .u64 u0, .int .u64 u1, .int .u64 u2, .int .u64 u3, .slice p ks.length cap, .int .i64 mn, .int .i64 mx, .string tx] 31)).alloc (.cells #[.int .u64 0, .int .u64 0, .int .u64 0, .int .u64 0] 23)).alloc (.cells #[.int .u64 0, .int .u64 0, .int .u64 0, .int .u64 0] 23)).heap[w.heap.size + 1]? = some (.cells #[.int .u64 0, .int .u64 0, .int .u64 0, .int .u64 0] 23) from kept_alloc9 (by have := World.alloc_heap_new (w.alloc (.cells #[.int .i64 1, .int .u64 u0, .int .u64 u1, .int .u64 u2, .int .u64 u3, .slice p ks.length cap, .int .i64 mn, .int .i64 mx, .string tx] 31)) (.cells #[.int .u64 0, .int .u64 0, .int .u64 0, .int .u64 0] 23); simpa using this) _)
    have ho9 := Lib.hid (show (((w.alloc (.cells #[.int .i64 1, .int .u64 u0, .int .u64 u1, .int .u64 u2, .int .u64 u3, .slice p ks.length cap, .int .i64 mn, .int .i64 mx, .string tx] 31)).alloc (.cells #[.int .u64 0, .int .u64 0, .int .u64 0, .int .u64 0] 23)).alloc (.cells #[.int .u64 0, .int .u64 0, .int .u64 0, .int .u64 0] 23)).heap[w.heap.size + 1 + 1]? = some (.cells #[.int .u64 (S1.wd (S1.noS) 0), .int .u64 (S1.wd (S1.noS) 1), .int .u64 (S1.wd (S1.noS) 2), .int .u64 (S1.wd (S1.noS) 3)] 23) by have := World.alloc_heap_new ((w.alloc (.cells #[.int .i64 1, .int .u64 u0, .int .u64 u1, .int .u64 u2, .int .u64 u3, .slice p ks.length cap, .int .i64 mn, .int .i64 mx, .string tx] 31)).alloc (.cells #[.int .u64 0, .int .u64 0, .int .u64 0, .int .u64 0] 23)) (.cells #[.int .u64 0, .int .u64 0, .int .u64 0, .int .u64 0] 23); rw [S1.no_wd, S1.no_wd, S1.no_wd, S1.no_wd]; simpa using this)

    clear ho9 hr9 hx9 hbel9
    have q1 := Lib.hid (show (((w.alloc (.cells #[.int .i64 1, .int .u64 u0, .int .u64 u1, .int .u64 u2, .int .u64 u3, .slice p ks.length cap, .int .i64 mn, .int .i64 mx, .string tx] 31)).alloc (.cells #[.int .u64 u0, .int .u64 u1, .int .u64 u2, .int .u64 u3] 23)).alloc (.cells #[.int .u64 0, .int .u64 0, .int .u64 0, .int .u64 0] 23)).heap[w.heap.size + 1]? = some (.cells #[.int .u64 u0, .int .u64 u1, .int .u64 u2, .int .u64 u3] 23 (0, 0)) from kept_alloc9 (by have := World.alloc_heap_new (w.alloc (.cells #[.int .i64 1, .int .u64 u0, .int .u64 u1, .int .u64 u2, .int .u64 u3, .slice p ks.length cap, .int .i64 mn, .int .i64 mx, .string tx] 31)) (.cells #[.int .u64 u0, .int .u64 u1, .int .u64 u2, .int .u64 u3] 23); simpa using this) _)
    go_enter Tryd.func11, Tryd.ntmps11
    go_wp2
    have hk9 := cells_of q1.out
    obtain ⟨z0, -⟩ := hk9 0 _ rfl
    obtain ⟨z1, -⟩ := hk9 1 _ rfl
    obtain ⟨z2, -⟩ := hk9 2 _ rfl
    obtain ⟨z3, -⟩ := hk9 3 _ rfl
    clear hk9
    refine bodyPost_ret (v := .agg #[.int .u64 u0, .int .u64 u1, .int .u64 u2, .int .u64 u3]) (by simp [results, Tryd.results11, go_sem, z0, z1, z2, z3]) rfl ?_
    exact ⟨rfl, (((Below.refl _ _).alloc (Nat.le_refl _) _).alloc (by simp) _).alloc (by simp; omega) _⟩

  · rw [alphaT_mk, if_neg hk]
    obtain ⟨U, hU0, hUs, hUe⟩ := union_of alphaT ks
    rw [← hUe]
    have g1 : (k == 1) = false := by rw [beq_eq_false_iff_ne]; exact hk
    replace hUs := Lib.hid hUs
    clear hUe
    simp only [T.cells]
    have hbel9 := Lib.hid (show Below w.heap.size w (((w.alloc (.cells #[.int .i64 k, .int .u64 u0, .int .u64 u1, .int .u64 u2, .int .u64 u3, .slice p ks.length cap, .int .i64 mn, .int .i64 mx, .string tx] 31)).alloc (.cells #[.int .u64 0, .int .u64 0, .int .u64 0, .int .u64 0] 23)).alloc (.cells #[.int .u64 0, .int .u64 0, .int .u64 0, .int .u64 0] 23)) from (((Below.refl _ _).alloc (Nat.le_refl _) _).alloc (by simp) _).alloc (by simp; omega) _)
    have hx9 := Lib.hid (show (((w.alloc (.cells #[.int .i64 k, .int .u64 u0, .int .u64 u1, .int .u64 u2, .int .u64 u3, .slice p ks.length cap, .int .i64 mn, .int .i64 mx, .string tx] 31)).alloc (.cells #[.int .u64 0, .int .u64 0, .int .u64 0, .int .u64 0] 23)).alloc (.cells #[.int .u64 0, .int .u64 0, .int .u64 0, .int .u64 0] 23)).heap[w.heap.size]? = some (.cells #[.int .i64 k, .int .u64 u0, .int .u64 u1, .int .u64 u2, .int .u64 u3, .slice p ks.length cap, .int .i64 mn, .int .i64 mx, .string tx] 31) from kept_alloc9 (kept_alloc9 (World.alloc_heap_new w _) _) _)
    have hr9 := Lib.hid (show (((w.alloc (.cells #[.int .i64 k, .int .u64 u0, .int .u64 u1, .int .u64 u2, .int .u64 u3, .slice p ks.length cap, .int .i64 mn, .int .i64 mx, .string tx] 31)).alloc (.cells #[.int .u64 0, .int .u64 0, .int .u64 0, .int .u64 0] 23)).alloc (.cells #[.int .u64 0, .int .u64 0, .int .u64 0, .int .u64 0] 23)).heap[w.heap.size + 1]? = some (.cells #[.int .u64 0, .int .u64 0, .int .u64 0, .int .u64 0] 23) from kept_alloc9 (by have := World.alloc_heap_new (w.alloc (.cells #[.int .i64 k, .int .u64 u0, .int .u64 u1, .int .u64 u2, .int .u64 u3, .slice p ks.length cap, .int .i64 mn, .int .i64 mx, .string tx] 31)) (.cells #[.int .u64 0, .int .u64 0, .int .u64 0, .int .u64 0] 23); simpa using this) _)
    have ho9 := Lib.hid (show (((w.alloc (.cells #[.int .i64 k, .int .u64 u0, .int .u64 u1, .int .u64 u2, .int .u64 u3, .slice p ks.length cap, .int .i64 mn, .int .i64 mx, .string tx] 31)).alloc (.cells #[.int .u64 0, .int .u64 0, .int .u64 0, .int .u64 0] 23)).alloc (.cells #[.int .u64 0, .int .u64 0, .int .u64 0, .int .u64 0] 23)).heap[w.heap.size + 1 + 1]? = some (.cells #[.int .u64 (S1.wd (S1.noS) 0), .int .u64 (S1.wd (S1.noS) 1), .int .u64 (S1.wd (S1.noS) 2), .int .u64 (S1.wd (S1.noS) 3)] 23) by have := World.alloc_heap_new ((w.alloc (.cells #[.int .i64 k, .int .u64 u0, .int .u64 u1, .int .u64 u2, .int .u64 u3, .slice p ks.length cap, .int .i64 mn, .int .i64 mx, .string tx] 31)).alloc (.cells #[.int .u64 0, .int .u64 0, .int .u64 0, .int .u64 0] 23)) (.cells #[.int .u64 0, .int .u64 0, .int .u64 0, .int .u64 0] 23); rw [S1.no_wd, S1.no_wd, S1.no_wd, S1.no_wd]; simpa using this)

    clear hk
    go_enter Tryd.func11, Tryd.ntmps11
    go_wp2
    go_loopw [15] (fun i wr => ∃ j : Nat, j ≤ ks.length ∧ i = .int .i64 j ∧ Hid (Below w.heap.size w wr) ∧ Hid (wr.heap[w.heap.size]? = some (.cells #[.int .i64 k, .int .u64 u0, .int .u64 u1, .int .u64 u2, .int .u64 u3, .slice p ks.length cap, .int .i64 mn, .int .i64 mx, .string tx] 31)) ∧ Hid (wr.heap[w.heap.size + 1]? = some (.cells #[.int .u64 0, .int .u64 0, .int .u64 0, .int .u64 0] 23)) ∧ Hid (wr.heap[w.heap.size + 1 + 1]? = some (.cells #[.int .u64 (S1.wd (U j) 0), .int .u64 (S1.wd (U j) 1), .int .u64 (S1.wd (U j) 2), .int .u64 (S1.wd (U j) 3)] 23))) (fun i _ => ks.length - (intOf i).toNat)
    case atStart => exact ⟨0, Nat.zero_le _, rfl, hbel9, hx9, hr9, by rw [hU0]; exact ho9⟩
    case round =>
      clear hbel9 hx9 hr9 ho9 hU0
      obtain ⟨j, hj, rfl, hbel, hbx, hbr, hbo⟩ := hrel
      have hsz := lt_box hbo.out
      have hsz1 : w.heap.size + 1 < wr.heap.size := by omega
      have hsz0 : w.heap.size < wr.heap.size := by omega
      by_cases hlt : j < ks.length
      · obtain ⟨b, o, hkid, hp, hb, hc⟩ := T.kid hT.out hlt
        have hBw : Below B0 w0 wr := hB0.out.trans (hbel.out.mono hB0w)
        have hcl : ∀ q, q < 9 → wr.cell? ⟨b, o + j * 9 + q, none⟩ = (ks[j].cells)[q]? := fun q hq => by
          rw [← hc q hq]
          exact hBw.cell (p := ⟨b, o + j * 9 + q, none⟩) hb
        have hs := hUs.out j hlt
        have cV := fun bx => rvoid_in hn0 ks[j] (hAk.out _ (List.getElem_mem hlt)) hkid (wr.alloc bx) (hBw.alloc (Nat.le_trans hB0w (by omega)) bx)
        have cK := ih.out ks[j] (List.getElem_mem hlt) (hAk.out _ (List.getElem_mem hlt)) hkid
        have cO := fun W => S1.both0_in (U j) (alphaT ks[j]) W
        clear hc hkid
        subst hp
        generalize ks[j] = kd at *
        generalize voidT kd = r at *
        generalize alphaT kd = F at *
        cases kd with
        | mk k' u0' u1' u2' u3' p' cap' mn' mx' tx' ks' =>
          simp only [T.cells] at hcl cK cV
          obtain ⟨c0, c1, c2, c3, c4, c5, c6, c7, c8⟩ := nine_of hcl
          clear hcl
          replace cV := Lib.hid (cV (.cells #[.int .i64 k', .int .u64 u0', .int .u64 u1', .int .u64 u2', .int .u64 u3', .slice p' ks'.length cap', .int .i64 mn', .int .i64 mx', .string tx'] 31))
          have hB2 := Lib.hid (hBw.alloc (Nat.le_trans hB0w (by omega)) (.cells #[.int .i64 k', .int .u64 u0', .int .u64 u1', .int .u64 u2', .int .u64 u3', .slice p' ks'.length cap', .int .i64 mn', .int .i64 mx', .string tx'] 31))
          have hbk := Lib.hid (World.alloc_heap_new wr (.cells #[.int .i64 k', .int .u64 u0', .int .u64 u1', .int .u64 u2', .int .u64 u3', .slice p' ks'.length cap', .int .i64 mn', .int .i64 mx', .string tx'] 31))
          have hbx2 := Lib.hid (kept_alloc9 hbx.out (.cells #[.int .i64 k', .int .u64 u0', .int .u64 u1', .int .u64 u2', .int .u64 u3', .slice p' ks'.length cap', .int .i64 mn', .int .i64 mx', .string tx'] 31))
          have hbr2 := Lib.hid (kept_alloc9 hbr.out (.cells #[.int .i64 k', .int .u64 u0', .int .u64 u1', .int .u64 u2', .int .u64 u3', .slice p' ks'.length cap', .int .i64 mn', .int .i64 mx', .string tx'] 31))
          have hbo2 := Lib.hid (kept_alloc9 hbo.out (.cells #[.int .i64 k', .int .u64 u0', .int .u64 u1', .int .u64 u2', .int .u64 u3', .slice p' ks'.length cap', .int .i64 mn', .int .i64 mx', .string tx'] 31))
          have hbel2 := Lib.hid (hbel.out.alloc (Nat.le_of_lt hsz0) (.cells #[.int .i64 k', .int .u64 u0', .int .u64 u1', .int .u64 u2', .int .u64 u3', .slice p' ks'.length cap', .int .i64 mn', .int .i64 mx', .string tx'] 31))
          replace cK := Lib.hid cK
          replace cO := Lib.hid cO
          clear hBw
          cases r with
          | true =>
            simp only [if_true] at hs
            replace hs := Lib.hid hs
            go_wp2_with (go_at_call 9; (with_reducible refine (cV.out).mono ?_); rintro e w1 ⟨rfl, hb1⟩; replace hbx2 := Lib.hid (kept_row hbx2.out hb1); replace hbr2 := Lib.hid (kept_row hbr2.out hb1); replace hbo2 := Lib.hid (kept_row hbo2.out hb1); replace hbel2 := Lib.hid (hbel2.out.trans (hb1.mono (by simp; omega))); clear hb1)
            go_roundw
            case rel => exact ⟨j + 1, by omega, by go_num, hbel2, hbx2, hbr2, by rw [hs.out]; exact hbo2⟩
            case measure => simp [intOf]; omega
          | false =>
            simp only [Bool.false_eq_true, if_false] at hs
            replace hs := Lib.hid hs
            go_wp2_with (go_at_call 9; (with_reducible refine (cV.out).mono ?_); rintro e w1 ⟨rfl, hb1⟩; replace hbk := Lib.hid (kept_row hbk.out hb1); replace hbx2 := Lib.hid (kept_row hbx2.out hb1); replace hbr2 := Lib.hid (kept_row hbr2.out hb1); replace hbo2 := Lib.hid (kept_row hbo2.out hb1); replace hB2 := Lib.hid (hB2.out.trans (hb1.mono (by simp; omega))); replace hbel2 := Lib.hid (hbel2.out.trans (hb1.mono (by simp; omega))); clear hb1)
            have hx3 := Lib.hid (show w1.drew.heap[w.heap.size]? = some (.cells #[.int .i64 k, .int .u64 u0, .int .u64 u1, .int .u64 u2, .int .u64 u3, .slice (some ⟨b, o, none⟩) ks.length cap, .int .i64 mn, .int .i64 mx, .string tx] 31) from hbx2.out)
            have hr3 := Lib.hid (show w1.drew.heap[w.heap.size + 1]? = some (.cells #[.int .u64 0, .int .u64 0, .int .u64 0, .int .u64 0] 23) from hbr2.out)
            have hB3 := Lib.hid (show Below B0 w0 w1.drew from hB2.out.trans (Below.refl _ _).drew)
            have hbel3 := Lib.hid (show Below w.heap.size w w1.drew from hbel2.out.trans (Below.refl _ _).drew)
            have hS3 : w1.drew.heap[w.heap.size + 1 + 1]? = some (.cells #[.int .u64 (S1.wd (U j) 0), .int .u64 (S1.wd (U j) 1), .int .u64 (S1.wd (U j) 2), .int .u64 (S1.wd (U j) 3)] 23) ∧ w1.drew.heap[wr.heap.size]? = some (.cells #[.int .i64 k', .int .u64 u0', .int .u64 u1', .int .u64 u2', .int .u64 u3', .slice p' ks'.length cap', .int .i64 mn', .int .i64 mx', .string tx'] 31) := ⟨hbo2.out, hbk.out⟩
            clear hB2 hbx2 hbr2 hbo2 hbk hbel2 c0 c1 c2 c3 c4 c5 c6 c7 c8
            refine Go.Last.start (S := fun W => W.heap[w.heap.size + 1 + 1]? = some (.cells #[.int .u64 (S1.wd (U j) 0), .int .u64 (S1.wd (U j) 1), .int .u64 (S1.wd (U j) 2), .int .u64 (S1.wd (U j) 3)] 23) ∧ W.heap[wr.heap.size]? = some (.cells #[.int .i64 k', .int .u64 u0', .int .u64 u1', .int .u64 u2', .int .u64 u3', .slice p' ks'.length cap', .int .i64 mn', .int .i64 mx', .string tx'] 31)) (z := 4) (by decide +kernel) hS3 (fun hHeld => ?_)
            clear hS3
            generalize w1.drew = wd at *
            refine Go.Last.take (i := 0) (v := ?v0u1) rfl (by decide +kernel) (by decide +kernel) (by decide +kernel) (fun _ _ _ h => h) (by decide +kernel) (Or.inl ⟨by rfl, ?h0u1⟩) hHeld ?r0u1
            case h0u1 => (intro wq9 hSw; obtain ⟨y0, y1, y2, y3⟩ := c4 hSw.1; go_simp <;> with_reducible rfl)
            try simp only [Go.Last.pt]
            refine Go.Last.take (i := 1) (v := ?v1u2) rfl (by decide +kernel) (by decide +kernel) (by decide +kernel) (fun _ _ _ h => h) (by decide +kernel) (Or.inl ⟨by rfl, ?h1u2⟩) hHeld ?r1u2
            case h1u2 => (intro wq9 hSw; obtain ⟨x0, x1, x2, x3, x4, x5, x6, x7, x8⟩ := c9 hSw.2; go_simp <;> with_reducible rfl)
            try simp only [Go.Last.pt]
            refine Go.Last.one 2 (by decide +kernel) rfl (fun K hK => ?_)
            go_simp
            (go_at_call 11; (with_reducible refine (cK.out _ hB3.out).mono ?_); rintro e w2 ⟨rfl, hb2⟩)
            try dsimp only
            refine hK.out _ _ (.of (⟨kept_row hHeld.1 hb2, kept_row hHeld.2 hb2⟩)) (fun hHeld2 => ?_)
            clear hK K hHeld
            have hHeld := hHeld2.resolve_left (by decide)
            clear hHeld2
            try simp only [Go.Last.pt]
            refine Go.Last.one 3 (by decide +kernel) rfl (fun K hK => ?_)
            go_simp
            (go_at_call 27; (with_reducible refine (cO.out _).mono ?_); rintro e w3 ⟨rfl, hb3⟩; have h9 := kept_row hHeld.1 hb3; have k9 := cells_of h9; obtain ⟨y0, f0⟩ := k9 0 _ rfl; obtain ⟨y1, f1⟩ := k9 1 _ rfl; obtain ⟨y2, f2⟩ := k9 2 _ rfl; obtain ⟨y3, f3⟩ := k9 3 _ rfl; clear k9; replace h9 := Lib.hid h9)
            try dsimp only
            refine hK.out _ _ (.of (⟨kept_row hHeld.1 hb3, kept_row hHeld.2 hb3⟩)) (fun hHeld2 => ?_)
            clear hK K hHeld
            have hHeld := hHeld2.resolve_left (by decide)
            clear hHeld2
            try simp only [Go.Last.pt]
            refine Go.Last.one 4 (by decide +kernel) rfl (fun K hK => ?_)
            go_simp
            try dsimp only
            refine hK.out _ _ .last (fun _ => ?_)
            clear hK K hHeld
            try simp only [Go.Last.pt]
            refine Go.Last.done (by decide +kernel) ?_ _
            obtain ⟨q1, q2, q3, q4⟩ := set4 (d0 := .int .u64 (S1.wd (S1.orS (U j) F) 0)) (d1 := .int .u64 (S1.wd (S1.orS (U j) F) 1)) (d2 := .int .u64 (S1.wd (S1.orS (U j) F) 2)) (d3 := .int .u64 (S1.wd (S1.orS (U j) F) 3)) h9.out _ rfl
            generalize hW : World.setCell _ (⟨w.heap.size + 1 + 1, 3, none⟩ : Addr) _ = W9 at *
            clear hW y0 y1 y2 y3 f0 f1 f2 f3
            have hb23 := Lib.hid (hb2.trans (hb3.mono hb2.size))
            go_wp2
            go_roundw
            case rel =>
              have hz3 := hb23.out.size
              have hzd := lt_box hr3.out
              refine ⟨j + 1, by omega, by go_num, Lib.hid ((hbel3.out.trans (hb23.out.mono (by omega))).trans (q4 _ (by omega))), Lib.hid ?_, Lib.hid ?_, Lib.hid ?_⟩
              · exact (q3 _ (by omega)).trans (kept_row hx3.out hb23.out)
              · exact (q3 _ (by omega)).trans (kept_row hr3.out hb23.out)
              · rw [hs.out]; exact q1
            case measure => simp [intOf]; omega

      · obtain rfl : j = ks.length := by omega
        obtain ⟨z0, z1, z2, z3⟩ := c4 hbo.out
        obtain ⟨y0, f0, y1, f1, y2, f2, y3, f3⟩ := d4 hbr.out
        go_wp2
        obtain ⟨q1, q2, q3, q4⟩ := set4 (d0 := .int .u64 (S1.wd (U ks.length) 0)) (d1 := .int .u64 (S1.wd (U ks.length) 1)) (d2 := .int .u64 (S1.wd (U ks.length) 2)) (d3 := .int .u64 (S1.wd (U ks.length) 3)) hbr.out _ rfl
        generalize hW : World.setCell _ (⟨w.heap.size + 1, 3, none⟩ : Addr) _ = W9 at *
        clear hW
        clear z0 z1 z2 z3 y0 y1 y2 y3 f0 f1 f2 f3
        have hk9 := cells_of q1
        obtain ⟨z0, -⟩ := hk9 0 _ rfl
        obtain ⟨z1, -⟩ := hk9 1 _ rfl
        obtain ⟨z2, -⟩ := hk9 2 _ rfl
        obtain ⟨z3, -⟩ := hk9 3 _ rfl
        clear hk9
        refine bodyPost_ret (v := .agg #[.int .u64 (S1.wd (U ks.length) 0), .int .u64 (S1.wd (U ks.length) 1), .int .u64 (S1.wd (U ks.length) 2), .int .u64 (S1.wd (U ks.length) 3)]) (by simp [results, Tryd.results11, go_sem, z0, z1, z2, z3]) rfl ?_
        exact ⟨rfl, hbel.out.trans (q4 _ (by omega))⟩

end Go.Proofs.YtaebhbcamhmhoaaDoor
