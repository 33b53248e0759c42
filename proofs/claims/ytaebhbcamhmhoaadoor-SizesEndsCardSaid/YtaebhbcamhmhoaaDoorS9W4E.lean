/- The reference's Ends, backwards. -/

import Derived.Test.YtaebhbcamhmhoaaDoorS9W3E
namespace Go.Proofs.YtaebhbcamhmhoaaDoor
open Go.RowKit
open Go.Tree7
open S7
open S5 (nl nl_length nl_small at_nl nl_at Gives idx idx_at ix ix_no ix_yes)
set_option maxRecDepth 10000 in
set_option maxHeartbeats 8000000 in
theorem rends_true {w0 : World} {B0 : Nat} (hn0 : B0 ≤ w0.heap.size) : ∀ t : T, T.All (fun t => T.ok t = true) t → T.In w0 B0 t → ∀ w, Below B0 w0 w → Calls Tryd.prog 10 #[.agg t.cells.toArray, .bool true] w fun e w' => e = .returned (.agg #[.int .u64 (S1.wd (endsT true t) 0), .int .u64 (S1.wd (endsT true t) 1), .int .u64 (S1.wd (endsT true t) 2), .int .u64 (S1.wd (endsT true t) 3)]) ∧ Below w.heap.size w w' := by
  refine T.ind fun k u0 u1 u2 u3 p cap mn mx tx ks ih => ?_
  intro hA hT w hB0
  have hks : ks.length ≤ 9223372036854775807 := by cases hT with | mk h1 h2 => unfold maxLen at h2; omega
  have hfit : fits k u0 u1 u2 u3 mn mx tx := by cases hT with | mk h1 h2 h3 => exact h3
  have hB0w : B0 ≤ w.heap.size := Nat.le_trans hn0 hB0.size
  obtain ⟨ho, hAk⟩ : T.ok (.mk k u0 u1 u2 u3 p cap mn mx tx ks) = true ∧ ∀ t ∈ ks, T.All (fun t => T.ok t = true) t := by cases hA with | mk h1 h2 => exact ⟨h1, h2⟩
  replace hT := Lib.hid hT
  replace hB0 := Lib.hid hB0
  replace ih := Lib.hid ih
  replace hAk := Lib.hid hAk
  replace hfit := Lib.hid hfit
  clear hA ho
  by_cases hk : k = 1
  · subst hk
    obtain ⟨e0, e1, e2, e3⟩ := wd_f hfit.out.2.1
    rw [endsT_mk, if_pos rfl, e0, e1, e2, e3]
    simp only [T.cells]
    have q1 := Lib.hid (show (((w.alloc (.cells #[.int .i64 1, .int .u64 u0, .int .u64 u1, .int .u64 u2, .int .u64 u3, .slice p ks.length cap, .int .i64 mn, .int .i64 mx, .string tx] 31)).alloc (.cells #[.int .u64 u0, .int .u64 u1, .int .u64 u2, .int .u64 u3] 23)).alloc (.cells #[.int .u64 0, .int .u64 0, .int .u64 0, .int .u64 0] 23)).heap[w.heap.size + 1]? = some (.cells #[.int .u64 u0, .int .u64 u1, .int .u64 u2, .int .u64 u3] 23 (0, 0)) from kept_alloc9 (by have := World.alloc_heap_new (w.alloc (.cells #[.int .i64 1, .int .u64 u0, .int .u64 u1, .int .u64 u2, .int .u64 u3, .slice p ks.length cap, .int .i64 mn, .int .i64 mx, .string tx] 31)) (.cells #[.int .u64 u0, .int .u64 u1, .int .u64 u2, .int .u64 u3] 23); simpa using this) _)
    go_enter Tryd.func10, Tryd.ntmps10
    go_wp2
    have hk9 := cells_of q1.out
    obtain ⟨z0, -⟩ := hk9 0 _ rfl
    obtain ⟨z1, -⟩ := hk9 1 _ rfl
    obtain ⟨z2, -⟩ := hk9 2 _ rfl
    obtain ⟨z3, -⟩ := hk9 3 _ rfl
    clear hk9
    refine bodyPost_ret (v := .agg #[.int .u64 u0, .int .u64 u1, .int .u64 u2, .int .u64 u3]) (by simp [results, Tryd.results10, go_sem, z0, z1, z2, z3]) rfl ?_
    exact ⟨rfl, (((Below.refl _ _).alloc (Nat.le_refl _) _).alloc (by simp) _).alloc (by simp; omega) _⟩

  · rw [endsT_mk, if_neg hk]
    have g1 : (k == 1) = false := by rw [beq_eq_false_iff_ne]; exact hk
    by_cases hk2 : k = 2
    · subst hk2
      rw [if_pos rfl]
      clear hk g1
      obtain ⟨R, hR0, hRs, hRe⟩ := rest_cat true ks
      have hT0 : unionS ((ahead voidT nullT (turned true ks)).map (endsT true)) = R 0 := funext hR0
      rw [hT0]
      clear hR0 hT0
      obtain ⟨Tot, hTot⟩ : ∃ Tot, Tot = R 0 := ⟨_, rfl⟩
      rw [← hTot]
      have hu0 : Hid (∀ c, (S1.noS c || R 0 c) = Tot c) := Lib.hid fun c => by rw [hTot]; simp [S1.noS]
      clear hTot
      replace hRs := Lib.hid hRs
      replace hRe := Lib.hid hRe
      simp only [T.cells]
      have hbel9 := Lib.hid (show Below w.heap.size w (((w.alloc (.cells #[.int .i64 2, .int .u64 u0, .int .u64 u1, .int .u64 u2, .int .u64 u3, .slice p ks.length cap, .int .i64 mn, .int .i64 mx, .string tx] 31)).alloc (.cells #[.int .u64 0, .int .u64 0, .int .u64 0, .int .u64 0] 23)).alloc (.cells #[.int .u64 0, .int .u64 0, .int .u64 0, .int .u64 0] 23)) from (((Below.refl _ _).alloc (Nat.le_refl _) _).alloc (by simp) _).alloc (by simp; omega) _)
      have hx9 := Lib.hid (show (((w.alloc (.cells #[.int .i64 2, .int .u64 u0, .int .u64 u1, .int .u64 u2, .int .u64 u3, .slice p ks.length cap, .int .i64 mn, .int .i64 mx, .string tx] 31)).alloc (.cells #[.int .u64 0, .int .u64 0, .int .u64 0, .int .u64 0] 23)).alloc (.cells #[.int .u64 0, .int .u64 0, .int .u64 0, .int .u64 0] 23)).heap[w.heap.size]? = some (.cells #[.int .i64 2, .int .u64 u0, .int .u64 u1, .int .u64 u2, .int .u64 u3, .slice p ks.length cap, .int .i64 mn, .int .i64 mx, .string tx] 31) from kept_alloc9 (kept_alloc9 (World.alloc_heap_new w _) _) _)
      have hr9 := Lib.hid (show (((w.alloc (.cells #[.int .i64 2, .int .u64 u0, .int .u64 u1, .int .u64 u2, .int .u64 u3, .slice p ks.length cap, .int .i64 mn, .int .i64 mx, .string tx] 31)).alloc (.cells #[.int .u64 0, .int .u64 0, .int .u64 0, .int .u64 0] 23)).alloc (.cells #[.int .u64 0, .int .u64 0, .int .u64 0, .int .u64 0] 23)).heap[w.heap.size + 1]? = some (.cells #[.int .u64 0, .int .u64 0, .int .u64 0, .int .u64 0] 23) from kept_alloc9 (by have := World.alloc_heap_new (w.alloc (.cells #[.int .i64 2, .int .u64 u0, .int .u64 u1, .int .u64 u2, .int .u64 u3, .slice p ks.length cap, .int .i64 mn, .int .i64 mx, .string tx] 31)) (.cells #[.int .u64 0, .int .u64 0, .int .u64 0, .int .u64 0] 23); simpa using this) _)
      have ho9 := Lib.hid (show (((w.alloc (.cells #[.int .i64 2, .int .u64 u0, .int .u64 u1, .int .u64 u2, .int .u64 u3, .slice p ks.length cap, .int .i64 mn, .int .i64 mx, .string tx] 31)).alloc (.cells #[.int .u64 0, .int .u64 0, .int .u64 0, .int .u64 0] 23)).alloc (.cells #[.int .u64 0, .int .u64 0, .int .u64 0, .int .u64 0] 23)).heap[w.heap.size + 1 + 1]? = some (.cells #[.int .u64 (S1.wd (S1.noS) 0), .int .u64 (S1.wd (S1.noS) 1), .int .u64 (S1.wd (S1.noS) 2), .int .u64 (S1.wd (S1.noS) 3)] 23) by have := World.alloc_heap_new ((w.alloc (.cells #[.int .i64 2, .int .u64 u0, .int .u64 u1, .int .u64 u2, .int .u64 u3, .slice p ks.length cap, .int .i64 mn, .int .i64 mx, .string tx] 31)).alloc (.cells #[.int .u64 0, .int .u64 0, .int .u64 0, .int .u64 0] 23)) (.cells #[.int .u64 0, .int .u64 0, .int .u64 0, .int .u64 0] 23); rw [S1.no_wd, S1.no_wd, S1.no_wd, S1.no_wd]; simpa using this)

      go_enter Tryd.func10, Tryd.ntmps10
      go_wp2
      go_loopw [17] (fun i wr => ∃ (j : Nat) (U : Nat → Bool), j ≤ ks.length ∧ i = .int .i64 j ∧ Hid (Below w.heap.size w wr) ∧ Hid (wr.heap[w.heap.size]? = some (.cells #[.int .i64 2, .int .u64 u0, .int .u64 u1, .int .u64 u2, .int .u64 u3, .slice p ks.length cap, .int .i64 mn, .int .i64 mx, .string tx] 31)) ∧ Hid (wr.heap[w.heap.size + 1]? = some (.cells #[.int .u64 0, .int .u64 0, .int .u64 0, .int .u64 0] 23)) ∧ Hid (wr.heap[w.heap.size + 1 + 1]? = some (.cells #[.int .u64 (S1.wd (U) 0), .int .u64 (S1.wd (U) 1), .int .u64 (S1.wd (U) 2), .int .u64 (S1.wd (U) 3)] 23)) ∧ Hid (∀ c, (U c || R j c) = Tot c)) (fun i _ => ks.length - (intOf i).toNat)
      case atStart => exact ⟨0, _, Nat.zero_le _, rfl, hbel9, hx9, hr9, ho9, hu0⟩
      case round =>
        clear hbel9 hx9 hr9 ho9 hu0
        obtain ⟨j, U, hj, rfl, hbel, hbx, hbr, hbo, hu⟩ := hrel
        have hsz := lt_box hbo.out
        have hsz1 : w.heap.size + 1 < wr.heap.size := by omega
        have hsz0 : w.heap.size < wr.heap.size := by omega
        obtain ⟨n0, -⟩ := cells_of hbx.out 0 _ rfl
        obtain ⟨n5, -⟩ := cells_of hbx.out 5 _ rfl
        by_cases hlt : j < ks.length
        · skip
          obtain ⟨b, o, hkid, hp, hb, hc⟩ := T.kid hT.out hlt
          have hBw : Below B0 w0 wr := hB0.out.trans (hbel.out.mono hB0w)
          have hcl : ∀ q, q < 9 → wr.cell? ⟨b, o + j * 9 + q, none⟩ = (ks[j].cells)[q]? := fun q hq => by
            rw [← hc q hq]
            exact hBw.cell (p := ⟨b, o + j * 9 + q, none⟩) hb
          have hs := hRs.out j hlt
          obtain ⟨m, hm⟩ : ∃ m, m = ks.length - 1 - j := ⟨_, rfl⟩
          have hmlt : m < ks.length := by omega
          have hidx : (ks.length : Int) - 1 - (j : Int) = (m : Int) := by omega
          have hidx2 : decide ((m : Int) < (ks.length : Int)) = true := by rw [decide_eq_true_eq]; omega
          have e1 : (turned true ks)[j]'(by rw [turned_length]; exact hlt) = ks[m] := by
            unfold turned
            simp only [if_true, List.getElem_reverse, hm]
          rw [e1] at hs
          obtain ⟨b2, o2, hkid2, hp2, hb2, hc2⟩ := T.kid hT.out hmlt
          obtain ⟨rfl, rfl⟩ : b = b2 ∧ o = o2 := by rw [hp] at hp2; simpa using hp2
          have hcl2 : ∀ q, q < 9 → wr.cell? ⟨b, o + m * 9 + q, none⟩ = (ks[m].cells)[q]? := fun q hq => by
            rw [← hc2 q hq]
            exact hBw.cell (p := ⟨b, o + m * 9 + q, none⟩) hb
          have cV := fun W (h : Below B0 w0 W) => rvoid_in hn0 ks[m] (hAk.out _ (List.getElem_mem hmlt)) hkid2 W h
          have cN := fun W (h : Below B0 w0 W) => rnull_in hn0 ks[m] (hAk.out _ (List.getElem_mem hmlt)) hkid2 W h
          have cK := fun W (h : Below B0 w0 W) => ih.out ks[m] (List.getElem_mem hmlt) (hAk.out _ (List.getElem_mem hmlt)) hkid2 W h
          clear hc hkid hc2 hkid2 hp2 hb2 hm e1
          generalize ks[m] = kd at *
          generalize ks[j] = kq at *
          have hd1 : decide ((0 : Int) ≤ (m : Int)) = true := by rw [decide_eq_true_eq]; omega
          have hbw : b < wr.heap.size := by have := hBw.size; omega
          have cO := fun W => S1.both0_in U (endsT true kd) W
          generalize voidT kd = r at *
          generalize nullT kd = rn at *
          generalize endsT true kd = F at *
          subst hp
          cases kq with
          | mk kq u0q u1q u2q u3q pq capq mnq mxq txq ksq =>
          simp only [T.cells] at hcl
          obtain ⟨a0, a1, a2, a3, a4, a5, a6, a7, a8⟩ := nine_of hcl
          replace hcl := hcl2
          clear hcl2
          cases kd with
          | mk k' u0' u1' u2' u3' p' cap' mn' mx' tx' ks' =>
          simp only [T.cells] at hcl cK cV cN
          obtain ⟨c0, c1, c2, c3, c4, c5, c6, c7, c8⟩ := nine_of hcl
          clear hcl
          replace cV := Lib.hid cV
          replace cN := Lib.hid cN
          replace cK := Lib.hid cK
          replace cO := Lib.hid cO
          have hB2 := Lib.hid (hBw.alloc (Nat.le_trans hB0w (by omega)) (.cells #[.int .i64 k', .int .u64 u0', .int .u64 u1', .int .u64 u2', .int .u64 u3', .slice p' ks'.length cap', .int .i64 mn', .int .i64 mx', .string tx'] 31))
          have hbk := Lib.hid (World.alloc_heap_new wr (.cells #[.int .i64 k', .int .u64 u0', .int .u64 u1', .int .u64 u2', .int .u64 u3', .slice p' ks'.length cap', .int .i64 mn', .int .i64 mx', .string tx'] 31))
          have hbx2 := Lib.hid (kept_alloc9 hbx.out (.cells #[.int .i64 k', .int .u64 u0', .int .u64 u1', .int .u64 u2', .int .u64 u3', .slice p' ks'.length cap', .int .i64 mn', .int .i64 mx', .string tx'] 31))
          have hbr2 := Lib.hid (kept_alloc9 hbr.out (.cells #[.int .i64 k', .int .u64 u0', .int .u64 u1', .int .u64 u2', .int .u64 u3', .slice p' ks'.length cap', .int .i64 mn', .int .i64 mx', .string tx'] 31))
          have hbo2 := Lib.hid (kept_alloc9 hbo.out (.cells #[.int .i64 k', .int .u64 u0', .int .u64 u1', .int .u64 u2', .int .u64 u3', .slice p' ks'.length cap', .int .i64 mn', .int .i64 mx', .string tx'] 31))
          have hbel2 := Lib.hid (hbel.out.alloc (Nat.le_of_lt hsz0) (.cells #[.int .i64 k', .int .u64 u0', .int .u64 u1', .int .u64 u2', .int .u64 u3', .slice p' ks'.length cap', .int .i64 mn', .int .i64 mx', .string tx'] 31))
          clear hBw
          cases r with
          | true =>
            simp only [if_true] at hs
            replace hs := Lib.hid hs
            go_wp2_with (go_at_call 9; (with_reducible refine (cV.out _ hB2.out).mono ?_); rintro e w1 ⟨rfl, hb1⟩; have hsz9 := lt_box hbk.out; replace hbk := Lib.hid (kept_row hbk.out hb1); replace hbx2 := Lib.hid (kept_row hbx2.out hb1); replace hbr2 := Lib.hid (kept_row hbr2.out hb1); replace hbo2 := Lib.hid (kept_row hbo2.out hb1); replace hB2 := Lib.hid (hB2.out.trans (hb1.mono (by omega))); replace hbel2 := Lib.hid (hbel2.out.trans (hb1.mono (by omega))); clear hb1 hsz9)
            go_roundw
            case rel => exact ⟨j + 1, _, by omega, by go_num, hbel2, hbx2, hbr2, hbo2, Lib.hid (fun c => by rw [← hu.out c, hs.out])⟩
            case measure => simp [intOf]; omega
          | false =>
            simp only [Bool.false_eq_true, if_false] at hs
            go_wp2_with (go_at_call 9; (with_reducible refine (cV.out _ hB2.out).mono ?_); rintro e w1 ⟨rfl, hb1⟩; have hsz9 := lt_box hbk.out; replace hbk := Lib.hid (kept_row hbk.out hb1); replace hbx2 := Lib.hid (kept_row hbx2.out hb1); replace hbr2 := Lib.hid (kept_row hbr2.out hb1); replace hbo2 := Lib.hid (kept_row hbo2.out hb1); replace hB2 := Lib.hid (hB2.out.trans (hb1.mono (by omega))); replace hbel2 := Lib.hid (hbel2.out.trans (hb1.mono (by omega))); clear hb1 hsz9)
            have hx3 := Lib.hid (show w1.drew.heap[w.heap.size]? = some (.cells #[.int .i64 2, .int .u64 u0, .int .u64 u1, .int .u64 u2, .int .u64 u3, .slice (some ⟨b, o, none⟩) ks.length cap, .int .i64 mn, .int .i64 mx, .string tx] 31) from hbx2.out)
            have hr3 := Lib.hid (show w1.drew.heap[w.heap.size + 1]? = some (.cells #[.int .u64 0, .int .u64 0, .int .u64 0, .int .u64 0] 23) from hbr2.out)
            have hk3 := Lib.hid (show w1.drew.heap[wr.heap.size]? = some (.cells #[.int .i64 k', .int .u64 u0', .int .u64 u1', .int .u64 u2', .int .u64 u3', .slice p' ks'.length cap', .int .i64 mn', .int .i64 mx', .string tx'] 31) from hbk.out)
            have hB3 := Lib.hid (show Below B0 w0 w1.drew from hB2.out.trans (Below.refl _ _).drew)
            have hbel3 := Lib.hid (show Below w.heap.size w w1.drew from hbel2.out.trans (Below.refl _ _).drew)
            have hS3 : w1.drew.heap[w.heap.size + 1 + 1]? = some (.cells #[.int .u64 (S1.wd (U) 0), .int .u64 (S1.wd (U) 1), .int .u64 (S1.wd (U) 2), .int .u64 (S1.wd (U) 3)] 23) ∧ w1.drew.heap[wr.heap.size]? = some (.cells #[.int .i64 k', .int .u64 u0', .int .u64 u1', .int .u64 u2', .int .u64 u3', .slice p' ks'.length cap', .int .i64 mn', .int .i64 mx', .string tx'] 31) := ⟨hbo2.out, hbk.out⟩
            clear hB2 hbx2 hbr2 hbo2 hbk hbel2
            refine Go.Last.start (S := fun W => W.heap[w.heap.size + 1 + 1]? = some (.cells #[.int .u64 (S1.wd (U) 0), .int .u64 (S1.wd (U) 1), .int .u64 (S1.wd (U) 2), .int .u64 (S1.wd (U) 3)] 23) ∧ W.heap[wr.heap.size]? = some (.cells #[.int .i64 k', .int .u64 u0', .int .u64 u1', .int .u64 u2', .int .u64 u3', .slice p' ks'.length cap', .int .i64 mn', .int .i64 mx', .string tx'] 31)) (z := 5) (by decide +kernel) hS3 (fun hHeld => ?_)
            clear hS3
            generalize w1.drew = wd at *
            refine Go.Last.take (i := 0) (v := ?v0u13) rfl (by decide +kernel) (by decide +kernel) (by decide +kernel) (fun _ _ _ h => h) (by decide +kernel) (Or.inl ⟨by rfl, ?h0u13⟩) hHeld ?r0u13
            case h0u13 => (intro wq9 hSw; obtain ⟨y0, y1, y2, y3⟩ := YtaebhbcamhmhoaaDoor.c4 hSw.1; go_simp <;> with_reducible rfl)
            try simp only [Go.Last.pt]
            refine Go.Last.take (i := 1) (v := ?v1u14) rfl (by decide +kernel) (by decide +kernel) (by decide +kernel) (fun _ _ _ h => h) (by decide +kernel) (Or.inl ⟨by rfl, ?h1u14⟩) hHeld ?r1u14
            case h1u14 => (intro wq9 hSw; obtain ⟨x0, x1, x2, x3, x4, x5, x6, x7, x8⟩ := c9 hSw.2; go_simp <;> with_reducible rfl)
            try simp only [Go.Last.pt]
            refine Go.Last.take (i := 2) (v := ?v2u15) rfl (by decide +kernel) (by decide +kernel) (by decide +kernel) (fun _ _ _ h => h) (by decide +kernel) (Or.inl ⟨by rfl, ?h2u15⟩) hHeld ?r2u15
            case h2u15 => (intro wq9 hSw; go_simp <;> with_reducible rfl)
            try simp only [Go.Last.pt]
            refine Go.Last.one 3 (by decide +kernel) rfl (fun K hK => ?_)
            go_simp
            (go_at_call 10; (with_reducible refine (cK.out _ hB3.out).mono ?_); rintro e w2 ⟨rfl, hb2⟩)
            try dsimp only
            refine hK.out _ _ (.of (⟨kept_row hHeld.1 hb2, kept_row hHeld.2 hb2⟩)) (fun hHeld2 => ?_)
            clear hK K hHeld
            have hHeld := hHeld2.resolve_left (by decide)
            clear hHeld2
            try simp only [Go.Last.pt]
            refine Go.Last.one 4 (by decide +kernel) rfl (fun K hK => ?_)
            go_simp
            (go_at_call 27; (with_reducible refine (cO.out _).mono ?_); rintro e w3 ⟨rfl, hb3⟩; have h9 := kept_row hHeld.1 hb3; have k9 := cells_of h9; obtain ⟨y0, f0⟩ := k9 0 _ rfl; obtain ⟨y1, f1⟩ := k9 1 _ rfl; obtain ⟨y2, f2⟩ := k9 2 _ rfl; obtain ⟨y3, f3⟩ := k9 3 _ rfl; clear k9; replace h9 := Lib.hid h9)
            try dsimp only
            refine hK.out _ _ (.of (⟨kept_row hHeld.1 hb3, kept_row hHeld.2 hb3⟩)) (fun hHeld2 => ?_)
            clear hK K hHeld
            have hHeld := hHeld2.resolve_left (by decide)
            clear hHeld2
            try simp only [Go.Last.pt]
            refine Go.Last.one 5 (by decide +kernel) rfl (fun K hK => ?_)
            go_simp
            try dsimp only
            refine hK.out _ _ .last (fun _ => ?_)
            clear hK K hHeld
            try simp only [Go.Last.pt]
            refine Go.Last.done (by decide +kernel) ?_ _
            obtain ⟨q1, q2, q3, q4⟩ := set4 (d0 := .int .u64 (S1.wd (S1.orS U F) 0)) (d1 := .int .u64 (S1.wd (S1.orS U F) 1)) (d2 := .int .u64 (S1.wd (S1.orS U F) 2)) (d3 := .int .u64 (S1.wd (S1.orS U F) 3)) h9.out _ rfl
            generalize hW : World.setCell _ (⟨w.heap.size + 1 + 1, 3, none⟩ : Addr) _ = W9 at *
            clear hW y0 y1 y2 y3 f0 f1 f2 f3
            have hb23 := hb2.trans (hb3.mono hb2.size)
            have hz3 := hb23.size
            have hzd := lt_box hr3.out
            have hzk := lt_box hk3.out
            have hx4 := Lib.hid ((q3 w.heap.size (by omega)).trans (kept_row hx3.out hb23))
            have hr4 := Lib.hid ((q3 (w.heap.size + 1) (by omega)).trans (kept_row hr3.out hb23))
            have hk4 := Lib.hid ((q3 wr.heap.size (by omega)).trans (kept_row hk3.out hb23))
            have ho4 := Lib.hid q1
            have hB4 := Lib.hid ((hB3.out.trans (hb23.mono (by omega))).trans (q4 B0 (by omega)))
            have hbel4 := Lib.hid ((hbel3.out.trans (hb23.mono (by omega))).trans (q4 _ (by omega)))
            have hz4 : w.heap.size + 1 + 1 < W9.heap.size := lt_box ho4.out
            clear q1 q3 q4 hb2 hb3 hb23 h9
            obtain ⟨z0, -⟩ := cells_of hx4.out 0 _ rfl
            obtain ⟨x0, x1, x2, x3, x4, x5, x6, x7, x8⟩ := c9 hk4.out
            cases rn with
            | true =>
              simp only [Bool.true_eq_false, if_false] at hs
              replace hs := Lib.hid hs
              go_wp2_with (go_at_call 28; (with_reducible refine (cN.out _ hB4.out).mono ?_); rintro e w5 ⟨rfl, hb5⟩; replace hx4 := Lib.hid (kept_row hx4.out hb5); replace hr4 := Lib.hid (kept_row hr4.out hb5); replace ho4 := Lib.hid (kept_row ho4.out hb5); replace hbel4 := Lib.hid (hbel4.out.trans (hb5.mono (by omega))); clear hb5)
              go_roundw
              case rel => exact ⟨j + 1, _, by omega, by go_num, hbel4, hx4, hr4, ho4, Lib.hid (fun c => by rw [← hu.out c, hs.out]; simp [S1.orS, Bool.or_assoc])⟩
              case measure => simp [intOf]; omega
            | false =>
              simp only [if_true] at hs
              replace hs := Lib.hid hs
              go_wp2_with (go_at_call 28; (with_reducible refine (cN.out _ hB4.out).mono ?_); rintro e w5 ⟨rfl, hb5⟩; replace hx4 := Lib.hid (kept_row hx4.out hb5); replace hr4 := Lib.hid (kept_row hr4.out hb5); replace ho4 := Lib.hid (kept_row ho4.out hb5); replace hbel4 := Lib.hid (hbel4.out.trans (hb5.mono (by omega))); clear hb5; obtain ⟨v0, v1, v2, v3⟩ := YtaebhbcamhmhoaaDoor.c4 ho4.out; obtain ⟨y0, f0, y1, f1, y2, f2, y3, f3⟩ := YtaebhbcamhmhoaaDoor.d4 hr4.out)
              obtain ⟨q1, q2, q3, q4⟩ := set4 (d0 := .int .u64 (S1.wd (S1.orS U F) 0)) (d1 := .int .u64 (S1.wd (S1.orS U F) 1)) (d2 := .int .u64 (S1.wd (S1.orS U F) 2)) (d3 := .int .u64 (S1.wd (S1.orS U F) 3)) hr4.out _ rfl
              generalize hW : World.setCell _ (⟨w.heap.size + 1, 3, none⟩ : Addr) _ = W8 at *
              clear hW v0 v1 v2 v3 y0 y1 y2 y3 f0 f1 f2 f3
              have hk9 := cells_of q1
              obtain ⟨z0, -⟩ := hk9 0 _ rfl
              obtain ⟨z1, -⟩ := hk9 1 _ rfl
              obtain ⟨z2, -⟩ := hk9 2 _ rfl
              obtain ⟨z3, -⟩ := hk9 3 _ rfl
              clear hk9
              refine bodyPost_ret (v := .agg #[.int .u64 (S1.wd (S1.orS U F) 0), .int .u64 (S1.wd (S1.orS U F) 1), .int .u64 (S1.wd (S1.orS U F) 2), .int .u64 (S1.wd (S1.orS U F) 3)]) (by simp [results, Tryd.results10, go_sem, z0, z1, z2, z3]) rfl ?_
              exact ⟨by rw [show S1.orS U F = Tot from funext fun c => by rw [← hu.out c, hs.out]; rfl], hbel4.out.trans (q4 _ (by omega))⟩


        · obtain rfl : j = ks.length := by omega
          obtain ⟨v0, v1, v2, v3⟩ := YtaebhbcamhmhoaaDoor.c4 hbo.out
          obtain ⟨y0, f0, y1, f1, y2, f2, y3, f3⟩ := YtaebhbcamhmhoaaDoor.d4 hbr.out
          go_wp2
          obtain ⟨q1, q2, q3, q4⟩ := set4 (d0 := .int .u64 (S1.wd (U) 0)) (d1 := .int .u64 (S1.wd (U) 1)) (d2 := .int .u64 (S1.wd (U) 2)) (d3 := .int .u64 (S1.wd (U) 3)) hbr.out _ rfl
          generalize hW : World.setCell _ (⟨w.heap.size + 1, 3, none⟩ : Addr) _ = W8 at *
          clear hW v0 v1 v2 v3 y0 y1 y2 y3 f0 f1 f2 f3
          have hk9 := cells_of q1
          obtain ⟨z0, -⟩ := hk9 0 _ rfl
          obtain ⟨z1, -⟩ := hk9 1 _ rfl
          obtain ⟨z2, -⟩ := hk9 2 _ rfl
          obtain ⟨z3, -⟩ := hk9 3 _ rfl
          clear hk9
          refine bodyPost_ret (v := .agg #[.int .u64 (S1.wd (U) 0), .int .u64 (S1.wd (U) 1), .int .u64 (S1.wd (U) 2), .int .u64 (S1.wd (U) 3)]) (by simp [results, Tryd.results10, go_sem, z0, z1, z2, z3]) rfl ?_
          exact ⟨by rw [show U = Tot from funext fun c => by rw [← hu.out c, hRe.out]; simp [S1.noS]], hbel.out.trans (q4 _ (by omega))⟩


    · rw [if_neg hk2]
      have g2 : (k == 2) = false := by rw [beq_eq_false_iff_ne]; exact hk2
      clear hk hk2
      obtain ⟨R, hR0, hRs, hRe⟩ := rest_other true ks
      have hT0 : unionS ((alives (turned true ks)).map (endsT true)) = R 0 := funext hR0
      rw [hT0]
      clear hR0 hT0
      obtain ⟨Tot, hTot⟩ : ∃ Tot, Tot = R 0 := ⟨_, rfl⟩
      rw [← hTot]
      have hu0 : Hid (∀ c, (S1.noS c || R 0 c) = Tot c) := Lib.hid fun c => by rw [hTot]; simp [S1.noS]
      clear hTot
      replace hRs := Lib.hid hRs
      replace hRe := Lib.hid hRe
      simp only [T.cells]
      have hbel9 := Lib.hid (show Below w.heap.size w (((w.alloc (.cells #[.int .i64 k, .int .u64 u0, .int .u64 u1, .int .u64 u2, .int .u64 u3, .slice p ks.length cap, .int .i64 mn, .int .i64 mx, .string tx] 31)).alloc (.cells #[.int .u64 0, .int .u64 0, .int .u64 0, .int .u64 0] 23)).alloc (.cells #[.int .u64 0, .int .u64 0, .int .u64 0, .int .u64 0] 23)) from (((Below.refl _ _).alloc (Nat.le_refl _) _).alloc (by simp) _).alloc (by simp; omega) _)
      have hx9 := Lib.hid (show (((w.alloc (.cells #[.int .i64 k, .int .u64 u0, .int .u64 u1, .int .u64 u2, .int .u64 u3, .slice p ks.length cap, .int .i64 mn, .int .i64 mx, .string tx] 31)).alloc (.cells #[.int .u64 0, .int .u64 0, .int .u64 0, .int .u64 0] 23)).alloc (.cells #[.int .u64 0, .int .u64 0, .int .u64 0, .int .u64 0] 23)).heap[w.heap.size]? = some (.cells #[.int .i64 k, .int .u64 u0, .int .u64 u1, .int .u64 u2, .int .u64 u3, .slice p ks.length cap, .int .i64 mn, .int .i64 mx, .string tx] 31) from kept_alloc9 (kept_alloc9 (World.alloc_heap_new w _) _) _)
      have hr9 := Lib.hid (show (((w.alloc (.cells #[.int .i64 k, .int .u64 u0, .int .u64 u1, .int .u64 u2, .int .u64 u3, .slice p ks.length cap, .int .i64 mn, .int .i64 mx, .string tx] 31)).alloc (.cells #[.int .u64 0, .int .u64 0, .int .u64 0, .int .u64 0] 23)).alloc (.cells #[.int .u64 0, .int .u64 0, .int .u64 0, .int .u64 0] 23)).heap[w.heap.size + 1]? = some (.cells #[.int .u64 0, .int .u64 0, .int .u64 0, .int .u64 0] 23) from kept_alloc9 (by have := World.alloc_heap_new (w.alloc (.cells #[.int .i64 k, .int .u64 u0, .int .u64 u1, .int .u64 u2, .int .u64 u3, .slice p ks.length cap, .int .i64 mn, .int .i64 mx, .string tx] 31)) (.cells #[.int .u64 0, .int .u64 0, .int .u64 0, .int .u64 0] 23); simpa using this) _)
      have ho9 := Lib.hid (show (((w.alloc (.cells #[.int .i64 k, .int .u64 u0, .int .u64 u1, .int .u64 u2, .int .u64 u3, .slice p ks.length cap, .int .i64 mn, .int .i64 mx, .string tx] 31)).alloc (.cells #[.int .u64 0, .int .u64 0, .int .u64 0, .int .u64 0] 23)).alloc (.cells #[.int .u64 0, .int .u64 0, .int .u64 0, .int .u64 0] 23)).heap[w.heap.size + 1 + 1]? = some (.cells #[.int .u64 (S1.wd (S1.noS) 0), .int .u64 (S1.wd (S1.noS) 1), .int .u64 (S1.wd (S1.noS) 2), .int .u64 (S1.wd (S1.noS) 3)] 23) by have := World.alloc_heap_new ((w.alloc (.cells #[.int .i64 k, .int .u64 u0, .int .u64 u1, .int .u64 u2, .int .u64 u3, .slice p ks.length cap, .int .i64 mn, .int .i64 mx, .string tx] 31)).alloc (.cells #[.int .u64 0, .int .u64 0, .int .u64 0, .int .u64 0] 23)) (.cells #[.int .u64 0, .int .u64 0, .int .u64 0, .int .u64 0] 23); rw [S1.no_wd, S1.no_wd, S1.no_wd, S1.no_wd]; simpa using this)

      go_enter Tryd.func10, Tryd.ntmps10
      go_wp2
      go_loopw [17] (fun i wr => ∃ (j : Nat) (U : Nat → Bool), j ≤ ks.length ∧ i = .int .i64 j ∧ Hid (Below w.heap.size w wr) ∧ Hid (wr.heap[w.heap.size]? = some (.cells #[.int .i64 k, .int .u64 u0, .int .u64 u1, .int .u64 u2, .int .u64 u3, .slice p ks.length cap, .int .i64 mn, .int .i64 mx, .string tx] 31)) ∧ Hid (wr.heap[w.heap.size + 1]? = some (.cells #[.int .u64 0, .int .u64 0, .int .u64 0, .int .u64 0] 23)) ∧ Hid (wr.heap[w.heap.size + 1 + 1]? = some (.cells #[.int .u64 (S1.wd (U) 0), .int .u64 (S1.wd (U) 1), .int .u64 (S1.wd (U) 2), .int .u64 (S1.wd (U) 3)] 23)) ∧ Hid (∀ c, (U c || R j c) = Tot c)) (fun i _ => ks.length - (intOf i).toNat)
      case atStart => exact ⟨0, _, Nat.zero_le _, rfl, hbel9, hx9, hr9, ho9, hu0⟩
      case round =>
        clear hbel9 hx9 hr9 ho9 hu0
        obtain ⟨j, U, hj, rfl, hbel, hbx, hbr, hbo, hu⟩ := hrel
        have hsz := lt_box hbo.out
        have hsz1 : w.heap.size + 1 < wr.heap.size := by omega
        have hsz0 : w.heap.size < wr.heap.size := by omega
        obtain ⟨n0, -⟩ := cells_of hbx.out 0 _ rfl
        obtain ⟨n5, -⟩ := cells_of hbx.out 5 _ rfl
        by_cases hlt : j < ks.length
        · skip
          obtain ⟨b, o, hkid, hp, hb, hc⟩ := T.kid hT.out hlt
          have hBw : Below B0 w0 wr := hB0.out.trans (hbel.out.mono hB0w)
          have hcl : ∀ q, q < 9 → wr.cell? ⟨b, o + j * 9 + q, none⟩ = (ks[j].cells)[q]? := fun q hq => by
            rw [← hc q hq]
            exact hBw.cell (p := ⟨b, o + j * 9 + q, none⟩) hb
          have hs := hRs.out j hlt
          obtain ⟨m, hm⟩ : ∃ m, m = ks.length - 1 - j := ⟨_, rfl⟩
          have hmlt : m < ks.length := by omega
          have hidx : (ks.length : Int) - 1 - (j : Int) = (m : Int) := by omega
          have hidx2 : decide ((m : Int) < (ks.length : Int)) = true := by rw [decide_eq_true_eq]; omega
          have e1 : (turned true ks)[j]'(by rw [turned_length]; exact hlt) = ks[m] := by
            unfold turned
            simp only [if_true, List.getElem_reverse, hm]
          rw [e1] at hs
          obtain ⟨b2, o2, hkid2, hp2, hb2, hc2⟩ := T.kid hT.out hmlt
          obtain ⟨rfl, rfl⟩ : b = b2 ∧ o = o2 := by rw [hp] at hp2; simpa using hp2
          have hcl2 : ∀ q, q < 9 → wr.cell? ⟨b, o + m * 9 + q, none⟩ = (ks[m].cells)[q]? := fun q hq => by
            rw [← hc2 q hq]
            exact hBw.cell (p := ⟨b, o + m * 9 + q, none⟩) hb
          have cV := fun W (h : Below B0 w0 W) => rvoid_in hn0 ks[m] (hAk.out _ (List.getElem_mem hmlt)) hkid2 W h
          have cN := fun W (h : Below B0 w0 W) => rnull_in hn0 ks[m] (hAk.out _ (List.getElem_mem hmlt)) hkid2 W h
          have cK := fun W (h : Below B0 w0 W) => ih.out ks[m] (List.getElem_mem hmlt) (hAk.out _ (List.getElem_mem hmlt)) hkid2 W h
          clear hc hkid hc2 hkid2 hp2 hb2 hm e1
          generalize ks[m] = kd at *
          generalize ks[j] = kq at *
          have hd1 : decide ((0 : Int) ≤ (m : Int)) = true := by rw [decide_eq_true_eq]; omega
          have hbw : b < wr.heap.size := by have := hBw.size; omega
          have cO := fun W => S1.both0_in U (endsT true kd) W
          generalize voidT kd = r at *
          generalize nullT kd = rn at *
          generalize endsT true kd = F at *
          subst hp
          cases kq with
          | mk kq u0q u1q u2q u3q pq capq mnq mxq txq ksq =>
          simp only [T.cells] at hcl
          obtain ⟨a0, a1, a2, a3, a4, a5, a6, a7, a8⟩ := nine_of hcl
          replace hcl := hcl2
          clear hcl2
          cases kd with
          | mk k' u0' u1' u2' u3' p' cap' mn' mx' tx' ks' =>
          simp only [T.cells] at hcl cK cV cN
          obtain ⟨c0, c1, c2, c3, c4, c5, c6, c7, c8⟩ := nine_of hcl
          clear hcl
          replace cV := Lib.hid cV
          replace cN := Lib.hid cN
          replace cK := Lib.hid cK
          replace cO := Lib.hid cO
          have hB2 := Lib.hid (hBw.alloc (Nat.le_trans hB0w (by omega)) (.cells #[.int .i64 k', .int .u64 u0', .int .u64 u1', .int .u64 u2', .int .u64 u3', .slice p' ks'.length cap', .int .i64 mn', .int .i64 mx', .string tx'] 31))
          have hbk := Lib.hid (World.alloc_heap_new wr (.cells #[.int .i64 k', .int .u64 u0', .int .u64 u1', .int .u64 u2', .int .u64 u3', .slice p' ks'.length cap', .int .i64 mn', .int .i64 mx', .string tx'] 31))
          have hbx2 := Lib.hid (kept_alloc9 hbx.out (.cells #[.int .i64 k', .int .u64 u0', .int .u64 u1', .int .u64 u2', .int .u64 u3', .slice p' ks'.length cap', .int .i64 mn', .int .i64 mx', .string tx'] 31))
          have hbr2 := Lib.hid (kept_alloc9 hbr.out (.cells #[.int .i64 k', .int .u64 u0', .int .u64 u1', .int .u64 u2', .int .u64 u3', .slice p' ks'.length cap', .int .i64 mn', .int .i64 mx', .string tx'] 31))
          have hbo2 := Lib.hid (kept_alloc9 hbo.out (.cells #[.int .i64 k', .int .u64 u0', .int .u64 u1', .int .u64 u2', .int .u64 u3', .slice p' ks'.length cap', .int .i64 mn', .int .i64 mx', .string tx'] 31))
          have hbel2 := Lib.hid (hbel.out.alloc (Nat.le_of_lt hsz0) (.cells #[.int .i64 k', .int .u64 u0', .int .u64 u1', .int .u64 u2', .int .u64 u3', .slice p' ks'.length cap', .int .i64 mn', .int .i64 mx', .string tx'] 31))
          clear hBw
          cases r with
          | true =>
            simp only [if_true] at hs
            replace hs := Lib.hid hs
            go_wp2_with (go_at_call 9; (with_reducible refine (cV.out _ hB2.out).mono ?_); rintro e w1 ⟨rfl, hb1⟩; have hsz9 := lt_box hbk.out; replace hbk := Lib.hid (kept_row hbk.out hb1); replace hbx2 := Lib.hid (kept_row hbx2.out hb1); replace hbr2 := Lib.hid (kept_row hbr2.out hb1); replace hbo2 := Lib.hid (kept_row hbo2.out hb1); replace hB2 := Lib.hid (hB2.out.trans (hb1.mono (by omega))); replace hbel2 := Lib.hid (hbel2.out.trans (hb1.mono (by omega))); clear hb1 hsz9)
            go_roundw
            case rel => exact ⟨j + 1, _, by omega, by go_num, hbel2, hbx2, hbr2, hbo2, Lib.hid (fun c => by rw [← hu.out c, hs.out])⟩
            case measure => simp [intOf]; omega
          | false =>
            simp only [Bool.false_eq_true, if_false] at hs
            replace hs := Lib.hid hs
            go_wp2_with (go_at_call 9; (with_reducible refine (cV.out _ hB2.out).mono ?_); rintro e w1 ⟨rfl, hb1⟩; have hsz9 := lt_box hbk.out; replace hbk := Lib.hid (kept_row hbk.out hb1); replace hbx2 := Lib.hid (kept_row hbx2.out hb1); replace hbr2 := Lib.hid (kept_row hbr2.out hb1); replace hbo2 := Lib.hid (kept_row hbo2.out hb1); replace hB2 := Lib.hid (hB2.out.trans (hb1.mono (by omega))); replace hbel2 := Lib.hid (hbel2.out.trans (hb1.mono (by omega))); clear hb1 hsz9)
            have hx3 := Lib.hid (show w1.drew.heap[w.heap.size]? = some (.cells #[.int .i64 k, .int .u64 u0, .int .u64 u1, .int .u64 u2, .int .u64 u3, .slice (some ⟨b, o, none⟩) ks.length cap, .int .i64 mn, .int .i64 mx, .string tx] 31) from hbx2.out)
            have hr3 := Lib.hid (show w1.drew.heap[w.heap.size + 1]? = some (.cells #[.int .u64 0, .int .u64 0, .int .u64 0, .int .u64 0] 23) from hbr2.out)
            have hk3 := Lib.hid (show w1.drew.heap[wr.heap.size]? = some (.cells #[.int .i64 k', .int .u64 u0', .int .u64 u1', .int .u64 u2', .int .u64 u3', .slice p' ks'.length cap', .int .i64 mn', .int .i64 mx', .string tx'] 31) from hbk.out)
            have hB3 := Lib.hid (show Below B0 w0 w1.drew from hB2.out.trans (Below.refl _ _).drew)
            have hbel3 := Lib.hid (show Below w.heap.size w w1.drew from hbel2.out.trans (Below.refl _ _).drew)
            have hS3 : w1.drew.heap[w.heap.size + 1 + 1]? = some (.cells #[.int .u64 (S1.wd (U) 0), .int .u64 (S1.wd (U) 1), .int .u64 (S1.wd (U) 2), .int .u64 (S1.wd (U) 3)] 23) ∧ w1.drew.heap[wr.heap.size]? = some (.cells #[.int .i64 k', .int .u64 u0', .int .u64 u1', .int .u64 u2', .int .u64 u3', .slice p' ks'.length cap', .int .i64 mn', .int .i64 mx', .string tx'] 31) := ⟨hbo2.out, hbk.out⟩
            clear hB2 hbx2 hbr2 hbo2 hbk hbel2
            refine Go.Last.start (S := fun W => W.heap[w.heap.size + 1 + 1]? = some (.cells #[.int .u64 (S1.wd (U) 0), .int .u64 (S1.wd (U) 1), .int .u64 (S1.wd (U) 2), .int .u64 (S1.wd (U) 3)] 23) ∧ W.heap[wr.heap.size]? = some (.cells #[.int .i64 k', .int .u64 u0', .int .u64 u1', .int .u64 u2', .int .u64 u3', .slice p' ks'.length cap', .int .i64 mn', .int .i64 mx', .string tx'] 31)) (z := 5) (by decide +kernel) hS3 (fun hHeld => ?_)
            clear hS3
            generalize w1.drew = wd at *
            refine Go.Last.take (i := 0) (v := ?v0u16) rfl (by decide +kernel) (by decide +kernel) (by decide +kernel) (fun _ _ _ h => h) (by decide +kernel) (Or.inl ⟨by rfl, ?h0u16⟩) hHeld ?r0u16
            case h0u16 => (intro wq9 hSw; obtain ⟨y0, y1, y2, y3⟩ := YtaebhbcamhmhoaaDoor.c4 hSw.1; go_simp <;> with_reducible rfl)
            try simp only [Go.Last.pt]
            refine Go.Last.take (i := 1) (v := ?v1u17) rfl (by decide +kernel) (by decide +kernel) (by decide +kernel) (fun _ _ _ h => h) (by decide +kernel) (Or.inl ⟨by rfl, ?h1u17⟩) hHeld ?r1u17
            case h1u17 => (intro wq9 hSw; obtain ⟨x0, x1, x2, x3, x4, x5, x6, x7, x8⟩ := c9 hSw.2; go_simp <;> with_reducible rfl)
            try simp only [Go.Last.pt]
            refine Go.Last.take (i := 2) (v := ?v2u18) rfl (by decide +kernel) (by decide +kernel) (by decide +kernel) (fun _ _ _ h => h) (by decide +kernel) (Or.inl ⟨by rfl, ?h2u18⟩) hHeld ?r2u18
            case h2u18 => (intro wq9 hSw; go_simp <;> with_reducible rfl)
            try simp only [Go.Last.pt]
            refine Go.Last.one 3 (by decide +kernel) rfl (fun K hK => ?_)
            go_simp
            (go_at_call 10; (with_reducible refine (cK.out _ hB3.out).mono ?_); rintro e w2 ⟨rfl, hb2⟩)
            try dsimp only
            refine hK.out _ _ (.of (⟨kept_row hHeld.1 hb2, kept_row hHeld.2 hb2⟩)) (fun hHeld2 => ?_)
            clear hK K hHeld
            have hHeld := hHeld2.resolve_left (by decide)
            clear hHeld2
            try simp only [Go.Last.pt]
            refine Go.Last.one 4 (by decide +kernel) rfl (fun K hK => ?_)
            go_simp
            (go_at_call 27; (with_reducible refine (cO.out _).mono ?_); rintro e w3 ⟨rfl, hb3⟩; have h9 := kept_row hHeld.1 hb3; have k9 := cells_of h9; obtain ⟨y0, f0⟩ := k9 0 _ rfl; obtain ⟨y1, f1⟩ := k9 1 _ rfl; obtain ⟨y2, f2⟩ := k9 2 _ rfl; obtain ⟨y3, f3⟩ := k9 3 _ rfl; clear k9; replace h9 := Lib.hid h9)
            try dsimp only
            refine hK.out _ _ (.of (⟨kept_row hHeld.1 hb3, kept_row hHeld.2 hb3⟩)) (fun hHeld2 => ?_)
            clear hK K hHeld
            have hHeld := hHeld2.resolve_left (by decide)
            clear hHeld2
            try simp only [Go.Last.pt]
            refine Go.Last.one 5 (by decide +kernel) rfl (fun K hK => ?_)
            go_simp
            try dsimp only
            refine hK.out _ _ .last (fun _ => ?_)
            clear hK K hHeld
            try simp only [Go.Last.pt]
            refine Go.Last.done (by decide +kernel) ?_ _
            obtain ⟨q1, q2, q3, q4⟩ := set4 (d0 := .int .u64 (S1.wd (S1.orS U F) 0)) (d1 := .int .u64 (S1.wd (S1.orS U F) 1)) (d2 := .int .u64 (S1.wd (S1.orS U F) 2)) (d3 := .int .u64 (S1.wd (S1.orS U F) 3)) h9.out _ rfl
            generalize hW : World.setCell _ (⟨w.heap.size + 1 + 1, 3, none⟩ : Addr) _ = W9 at *
            clear hW y0 y1 y2 y3 f0 f1 f2 f3
            have hb23 := hb2.trans (hb3.mono hb2.size)
            have hz3 := hb23.size
            have hzd := lt_box hr3.out
            have hzk := lt_box hk3.out
            have hx4 := Lib.hid ((q3 w.heap.size (by omega)).trans (kept_row hx3.out hb23))
            have hr4 := Lib.hid ((q3 (w.heap.size + 1) (by omega)).trans (kept_row hr3.out hb23))
            have hk4 := Lib.hid ((q3 wr.heap.size (by omega)).trans (kept_row hk3.out hb23))
            have ho4 := Lib.hid q1
            have hB4 := Lib.hid ((hB3.out.trans (hb23.mono (by omega))).trans (q4 B0 (by omega)))
            have hbel4 := Lib.hid ((hbel3.out.trans (hb23.mono (by omega))).trans (q4 _ (by omega)))
            have hz4 : w.heap.size + 1 + 1 < W9.heap.size := lt_box ho4.out
            clear q1 q3 q4 hb2 hb3 hb23 h9
            obtain ⟨z0, -⟩ := cells_of hx4.out 0 _ rfl
            go_wp2
            go_roundw
            case rel => exact ⟨j + 1, _, by omega, by go_num, hbel4, hx4, hr4, ho4, Lib.hid (fun c => by rw [← hu.out c, hs.out]; simp [S1.orS, Bool.or_assoc])⟩
            case measure => simp [intOf]; omega


        · obtain rfl : j = ks.length := by omega
          obtain ⟨v0, v1, v2, v3⟩ := YtaebhbcamhmhoaaDoor.c4 hbo.out
          obtain ⟨y0, f0, y1, f1, y2, f2, y3, f3⟩ := YtaebhbcamhmhoaaDoor.d4 hbr.out
          go_wp2
          obtain ⟨q1, q2, q3, q4⟩ := set4 (d0 := .int .u64 (S1.wd (U) 0)) (d1 := .int .u64 (S1.wd (U) 1)) (d2 := .int .u64 (S1.wd (U) 2)) (d3 := .int .u64 (S1.wd (U) 3)) hbr.out _ rfl
          generalize hW : World.setCell _ (⟨w.heap.size + 1, 3, none⟩ : Addr) _ = W8 at *
          clear hW v0 v1 v2 v3 y0 y1 y2 y3 f0 f1 f2 f3
          have hk9 := cells_of q1
          obtain ⟨z0, -⟩ := hk9 0 _ rfl
          obtain ⟨z1, -⟩ := hk9 1 _ rfl
          obtain ⟨z2, -⟩ := hk9 2 _ rfl
          obtain ⟨z3, -⟩ := hk9 3 _ rfl
          clear hk9
          refine bodyPost_ret (v := .agg #[.int .u64 (S1.wd (U) 0), .int .u64 (S1.wd (U) 1), .int .u64 (S1.wd (U) 2), .int .u64 (S1.wd (U) 3)]) (by simp [results, Tryd.results10, go_sem, z0, z1, z2, z3]) rfl ?_
          exact ⟨by rw [show U = Tot from funext fun c => by rw [← hu.out c, hRe.out]; simp [S1.noS]], hbel.out.trans (q4 _ (by omega))⟩


end Go.Proofs.YtaebhbcamhmhoaaDoor
