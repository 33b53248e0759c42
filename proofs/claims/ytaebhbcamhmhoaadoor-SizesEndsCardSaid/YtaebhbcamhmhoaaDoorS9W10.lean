/- SizesEnds, walked. -/

import Derived.Test.YtaebhbcamhmhoaaDoorWS
import Derived.Test.YtaebhbcamhmhoaaDoorS9W5E
import Derived.Test.YtaebhbcamhmhoaaDoorLL
namespace Go.Proofs.YtaebhbcamhmhoaaDoor
open Go.RowKit
open Go.Tree7
open S7
open S5 (nl nl_length nl_small at_nl nl_at Gives idx idx_at ix ix_no ix_yes)
set_option maxRecDepth 100000 in
set_option maxHeartbeats 8000000 in
theorem sizesEnds_in {n : T} (w : World) (hT : T.In w w.heap.size n) (cA9 : ∀ w', Bel w w' → Calls Tryd.prog 6 #[] w' fun e w'' => e = .returned (.bool true) ∧ Below w'.heap.size w' w'') (hF : first_holds) (hL : last_holds) (hA : alphabet_holds) :
    Calls Tryd.prog 3 #[.agg n.cells.toArray] w fun e w' => e = .returned (.bool true) ∧ Below w.heap.size w w' := by
  have hq0 : Bel w (w.alloc (.cells n.cells.toArray 27)) := Bel.new _ _
  have cA := Lib.hid (cA9 _ hq0)
  have hbn := Lib.hid (World.alloc_heap_new w (.cells n.cells.toArray 27))
  have cF := fun w' (hb : Bel w w') => hF n w' (in_bel hT hb)
  have cL := fun w' (hb : Bel w w') => hL n w' (in_bel hT hb)
  have cH := fun w' (hb : Bel w w') => hA n w' (in_bel hT hb)
  replace hq0 := Lib.hid hq0
  clear cA9 hF hL hA
  by_cases h7 : 700 ≤ n.size
  · have cO := Lib.hid (of_full hT (n := 700) (c := 700) (by decide) (by decide) rfl h7)
    clear cF cL cH hT h7
    obtain ⟨k, u0, u1, u2, u3, p, cap, mn, mx, tx, ks⟩ := n
    simp only [T.cells] at *
    go_enter Tryd.func3, Tryd.ntmps3
    go_wp2_with (first | (go_at_call 6; (with_reducible refine cA.out.mono ?_); rintro e w1 ⟨rfl, hb⟩; replace hbn := Lib.hid (kept_row hbn.out hb); have hln := lt_box hbn.out; obtain ⟨n0, n1, n2, n3, n4, n5, n6, n7, n8⟩ := c9 hbn.out; have hq1 := Lib.hid (Bel.step hq0.out hb); clear hb) | (go_at_call 7; (with_reducible refine (cO.out _ hq1.out).mono ?_); rintro e w2 ⟨⟨km, u0m, u1m, u2m, u3m, pm, capm, mnm, mxm, txm, ksm⟩, rfl, hb⟩; simp only; have hq2 := Lib.hid (Bel.alloc (Bel.step hq1.out hb) (.cells #[.int .i64 km, .int .u64 u0m, .int .u64 u1m, .int .u64 u2m, .int .u64 u3m, .slice pm ksm.length capm, .int .i64 mnm, .int .i64 mxm, .string txm] 31)); clear hb hq1))
    go_ret
    exact ⟨rfl, hq2.out⟩
  have cO := Lib.hid (of_room hT (n := 700) (c := 700) (by decide) rfl (by omega))
  obtain ⟨N, hN⟩ : ∃ N, N = n := ⟨_, rfl⟩
  cases hRb : rightB n with
  | false =>
    have hR : Hid (rightB N = false) := Lib.hid (by rw [hN]; exact hRb)
    have e1 : firstR false n = S1.noS := by unfold firstR voidR; rw [hRb]; rfl
    have e2 : firstR true n = S1.noS := by unfold firstR voidR; rw [hRb]; rfl
    have e3 : alphaR n = S1.noS := by unfold alphaR voidR; rw [hRb]; rfl
    rw [e1] at cF
    rw [e2] at cL
    rw [e3] at cH
    simp only [no_wd'] at cF cL cH
    have cC := fun (W : World) (m : T) (h1 : T.In W W.heap.size m) (h2 : m.strip = n.strip) => rright_not h1 h2 hRb
    have he0 := fun w => same4 0 0 0 0 w
    replace cC := Lib.hid cC
    replace cF := Lib.hid cF
    replace cL := Lib.hid cL
    replace cH := Lib.hid cH
    obtain ⟨ns, hns⟩ : ∃ ns, n.strip = ns := ⟨_, rfl⟩
    rw [hns] at cC cO
    clear e1 e2 e3 hRb h7 hT hN hR N hns
    obtain ⟨k, u0, u1, u2, u3, p, cap, mn, mx, tx, ks⟩ := n
    simp only [T.cells] at *
    go_enter Tryd.func3, Tryd.ntmps3
    go_wp2_with (first | (go_at_call 6; (with_reducible refine cA.out.mono ?_); rintro e w1 ⟨rfl, hb⟩; replace hbn := Lib.hid (kept_row hbn.out hb); have hln := lt_box hbn.out; obtain ⟨n0, n1, n2, n3, n4, n5, n6, n7, n8⟩ := c9 hbn.out; have hq1 := Lib.hid (Bel.step hq0.out hb); clear hb) | (go_at_call 7; (with_reducible refine (cO.out _ hq1.out).mono ?_); rintro e w2 ⟨⟨km, u0m, u1m, u2m, u3m, pm, capm, mnm, mxm, txm, ksm⟩, d, hd, rfl, hb, hmi, hms⟩; simp only; clear n0 n1 n2 n3 n4 n5 n6 n7 n8; replace hbn := Lib.hid (kept_row hbn.out hb); have hln2 := lt_box hbn.out; have gd : decide (d ≤ 0) = false := (by rw [decide_eq_false_iff_not]; omega); obtain ⟨WQ, hWQ, hbm, hb1, hb2, hb3, hbl⟩ := four_new w2 #[.int .i64 km, .int .u64 u0m, .int .u64 u1m, .int .u64 u2m, .int .u64 u3m, .slice pm ksm.length capm, .int .i64 mnm, .int .i64 mxm, .string txm] #[.int .u64 0, .int .u64 0, .int .u64 0, .int .u64 0] #[.int .u64 0, .int .u64 0, .int .u64 0, .int .u64 0] #[.int .u64 0, .int .u64 0, .int .u64 0, .int .u64 0] 31 24 24 24; replace hbn := Lib.hid (kept_row hbn.out hbl); have cR := fun W (hW : Bel WQ W) => cC.out _ _ (in_bel (box_in9 hmi) hbl) hms W hW; have hqW := Lib.hid (Bel.step (Bel.step hq1.out hb) hbl); simp only at cR; replace cR := Lib.hid cR; replace hbm := Lib.hid hbm; replace hb1 := Lib.hid hb1; replace hb2 := Lib.hid hb2; replace hb3 := Lib.hid hb3; replace hWQ := Lib.hid hWQ; clear hb hbl hmi hd hq1) | (go_at_call 8; rw [hWQ.out]; clear hWQ; (with_reducible refine (cR.out _ (Bel.refl _)).mono ?_); rintro e w4 ⟨rfl, hb⟩; replace hbn := Lib.hid (kept_row hbn.out hb); replace hbm := Lib.hid (kept_row hbm.out hb); replace hb1 := Lib.hid (kept_row hb1.out hb); replace hb2 := Lib.hid (kept_row hb2.out hb); replace hb3 := Lib.hid (kept_row hb3.out hb); have hq4 := Lib.hid (Bel.step hqW.out hb); clear hb hqW))
    clear hbm
    have hS9 : (fun W : World => W.heap[w.heap.size]? = some (.cells #[.int .i64 k, .int .u64 u0, .int .u64 u1, .int .u64 u2, .int .u64 u3, .slice p ks.length cap, .int .i64 mn, .int .i64 mx, .string tx] 27) ∧ W.heap[w2.heap.size + 1]? = some (.cells #[.int .u64 0, .int .u64 0, .int .u64 0, .int .u64 0] 24) ∧ W.heap[w2.heap.size + 1 + 1]? = some (.cells #[.int .u64 0, .int .u64 0, .int .u64 0, .int .u64 0] 24) ∧ W.heap[w2.heap.size + 1 + 1 + 1]? = some (.cells #[.int .u64 0, .int .u64 0, .int .u64 0, .int .u64 0] 24)) w4.drew := ⟨hbn.out, hb1.out, hb2.out, hb3.out⟩
    replace hq4 := Lib.hid (show Bel w w4.drew from Below.trans hq4.out (Below.refl _ _).drew)
    clear hbn hb1 hb2 hb3
    refine Go.Last.start (S := fun W => W.heap[w.heap.size]? = some (.cells #[.int .i64 k, .int .u64 u0, .int .u64 u1, .int .u64 u2, .int .u64 u3, .slice p ks.length cap, .int .i64 mn, .int .i64 mx, .string tx] 27) ∧ W.heap[w2.heap.size + 1]? = some (.cells #[.int .u64 0, .int .u64 0, .int .u64 0, .int .u64 0] 24) ∧ W.heap[w2.heap.size + 1 + 1]? = some (.cells #[.int .u64 0, .int .u64 0, .int .u64 0, .int .u64 0] 24) ∧ W.heap[w2.heap.size + 1 + 1 + 1]? = some (.cells #[.int .u64 0, .int .u64 0, .int .u64 0, .int .u64 0] 24)) (z := 16) (by decide +kernel) hS9 (fun hHeld => ?_)
    clear hS9
    generalize w4.drew = wd9 at *
    refine Go.Last.take (i := 0) (v := ?v0u27) rfl (by decide +kernel) (by decide +kernel) (by decide +kernel) (fun _ _ _ h => h) (by decide +kernel) (Or.inl ⟨by rfl, ?h0u27⟩) hHeld ?r0u27
    case h0u27 => (intro wq9 hSw; obtain ⟨x0, x1, x2, x3, x4, x5, x6, x7, x8⟩ := c9 hSw.1; go_simp <;> with_reducible rfl)
    try simp only [Go.Last.pt]
    refine Go.Last.take (i := 2) (v := ?v2u28) rfl (by decide +kernel) (by decide +kernel) (by decide +kernel) (fun _ _ _ h => h) (by decide +kernel) (Or.inl ⟨by rfl, ?h2u28⟩) hHeld ?r2u28
    case h2u28 => (intro wq9 hSw; obtain ⟨y0, y1, y2, y3⟩ := c4 hSw.2.1; go_simp <;> with_reducible rfl)
    try simp only [Go.Last.pt]
    refine Go.Last.one 1 (by decide +kernel) rfl (fun K hK => ?_)
    go_simp
    (go_at_call 12; (with_reducible refine (cF.out _ hq4.out).mono ?_); rintro e w9 ⟨rfl, hb⟩; replace hq4 := Lib.hid (Bel.step hq4.out hb))
    try dsimp only
    refine hK.out _ _ (.of (⟨kept_row hHeld.1 hb, kept_row hHeld.2.1 hb, kept_row hHeld.2.2.1 hb, kept_row hHeld.2.2.2 hb⟩)) (fun hHeld2 => ?_)
    clear hK K hHeld
    have hHeld := hHeld2.resolve_left (by decide)
    clear hHeld2
    try simp only [Go.Last.pt]
    refine Go.Last.one 3 (by decide +kernel) rfl (fun K hK => ?_)
    go_simp
    try dsimp only
    refine hK.out _ _ (.of (hHeld)) (fun hHeld2 => ?_)
    clear hK K hHeld
    have hHeld := hHeld2.resolve_left (by decide)
    clear hHeld2
    try simp only [Go.Last.pt]
    refine Go.Last.one 4 (by decide +kernel) rfl (fun K hK => ?_)
    go_simp
    try dsimp only
    refine hK.out _ _ (.of (hHeld)) (fun hHeld2 => ?_)
    clear hK K hHeld
    have hHeld := hHeld2.resolve_left (by decide)
    clear hHeld2
    try simp only [Go.Last.pt]
    refine Go.Last.take (i := 5) (v := ?v5u29) rfl (by decide +kernel) (by decide +kernel) (by decide +kernel) (fun _ _ _ h => h) (by decide +kernel) (Or.inl ⟨by rfl, ?h5u29⟩) hHeld ?r5u29
    case h5u29 => (intro wq9 hSw; obtain ⟨x0, x1, x2, x3, x4, x5, x6, x7, x8⟩ := c9 hSw.1; go_simp <;> with_reducible rfl)
    try simp only [Go.Last.pt]
    refine Go.Last.take (i := 7) (v := ?v7u30) rfl (by decide +kernel) (by decide +kernel) (by decide +kernel) (fun _ _ _ h => h) (by decide +kernel) (Or.inl ⟨by rfl, ?h7u30⟩) hHeld ?r7u30
    case h7u30 => (intro wq9 hSw; obtain ⟨y0, y1, y2, y3⟩ := c4 hSw.2.2.1; go_simp <;> with_reducible rfl)
    try simp only [Go.Last.pt]
    refine Go.Last.one 6 (by decide +kernel) rfl (fun K hK => ?_)
    go_simp
    (go_at_call 13; (with_reducible refine (cL.out _ hq4.out).mono ?_); rintro e w9 ⟨rfl, hb⟩; replace hq4 := Lib.hid (Bel.step hq4.out hb))
    try dsimp only
    refine hK.out _ _ (.of (⟨kept_row hHeld.1 hb, kept_row hHeld.2.1 hb, kept_row hHeld.2.2.1 hb, kept_row hHeld.2.2.2 hb⟩)) (fun hHeld2 => ?_)
    clear hK K hHeld
    have hHeld := hHeld2.resolve_left (by decide)
    clear hHeld2
    try simp only [Go.Last.pt]
    refine Go.Last.one 8 (by decide +kernel) rfl (fun K hK => ?_)
    go_simp
    try dsimp only
    refine hK.out _ _ (.of (hHeld)) (fun hHeld2 => ?_)
    clear hK K hHeld
    have hHeld := hHeld2.resolve_left (by decide)
    clear hHeld2
    try simp only [Go.Last.pt]
    refine Go.Last.one 9 (by decide +kernel) rfl (fun K hK => ?_)
    go_simp
    try dsimp only
    refine hK.out _ _ (.of (hHeld)) (fun hHeld2 => ?_)
    clear hK K hHeld
    have hHeld := hHeld2.resolve_left (by decide)
    clear hHeld2
    try simp only [Go.Last.pt]
    refine Go.Last.one 10 (by decide +kernel) rfl (fun K hK => ?_)
    go_simp
    try dsimp only
    refine hK.out _ _ (.of (hHeld)) (fun hHeld2 => ?_)
    clear hK K hHeld
    have hHeld := hHeld2.resolve_left (by decide)
    clear hHeld2
    try simp only [Go.Last.pt]
    refine Go.Last.take (i := 11) (v := ?v11u31) rfl (by decide +kernel) (by decide +kernel) (by decide +kernel) (fun _ _ _ h => h) (by decide +kernel) (Or.inl ⟨by rfl, ?h11u31⟩) hHeld ?r11u31
    case h11u31 => (intro wq9 hSw; obtain ⟨x0, x1, x2, x3, x4, x5, x6, x7, x8⟩ := c9 hSw.1; go_simp <;> with_reducible rfl)
    try simp only [Go.Last.pt]
    refine Go.Last.take (i := 13) (v := ?v13u32) rfl (by decide +kernel) (by decide +kernel) (by decide +kernel) (fun _ _ _ h => h) (by decide +kernel) (Or.inl ⟨by rfl, ?h13u32⟩) hHeld ?r13u32
    case h13u32 => (intro wq9 hSw; obtain ⟨y0, y1, y2, y3⟩ := c4 hSw.2.2.2; go_simp <;> with_reducible rfl)
    try simp only [Go.Last.pt]
    refine Go.Last.one 12 (by decide +kernel) rfl (fun K hK => ?_)
    go_simp
    (go_at_call 14; (with_reducible refine (cH.out _ hq4.out).mono ?_); rintro e w9 ⟨rfl, hb⟩; replace hq4 := Lib.hid (Bel.step hq4.out hb))
    try dsimp only
    refine hK.out _ _ (.of (⟨kept_row hHeld.1 hb, kept_row hHeld.2.1 hb, kept_row hHeld.2.2.1 hb, kept_row hHeld.2.2.2 hb⟩)) (fun hHeld2 => ?_)
    clear hK K hHeld
    have hHeld := hHeld2.resolve_left (by decide)
    clear hHeld2
    try simp only [Go.Last.pt]
    refine Go.Last.one 14 (by decide +kernel) rfl (fun K hK => ?_)
    go_simp
    try dsimp only
    refine hK.out _ _ (.of (hHeld)) (fun hHeld2 => ?_)
    clear hK K hHeld
    have hHeld := hHeld2.resolve_left (by decide)
    clear hHeld2
    try simp only [Go.Last.pt]
    refine Go.Last.one 15 (by decide +kernel) rfl (fun K hK => ?_)
    go_simp
    try dsimp only
    refine hK.out _ _ (.of (hHeld)) (fun hHeld2 => ?_)
    clear hK K hHeld
    have hHeld := hHeld2.resolve_left (by decide)
    clear hHeld2
    try simp only [Go.Last.pt]
    refine Go.Last.one 16 (by decide +kernel) rfl (fun K hK => ?_)
    go_simp
    try dsimp only
    refine hK.out _ _ .last (fun _ => ?_)
    clear hK K hHeld
    try simp only [Go.Last.pt]
    refine Go.Last.done (by decide +kernel) ?_ _
    go_wp2
    go_ret
    exact ⟨rfl, hq4.out⟩

  | true =>
    have hR : Hid (rightB N = true) := Lib.hid (by rw [hN]; exact hRb)
    cases hVb : voidT n with
    | true =>
      have e1 : firstR false n = S1.noS := by unfold firstR voidR; rw [hRb, hVb]; rfl
      have e2 : firstR true n = S1.noS := by unfold firstR voidR; rw [hRb, hVb]; rfl
      have e3 : alphaR n = S1.noS := by unfold alphaR voidR; rw [hRb, hVb]; rfl
      rw [e1] at cF
      rw [e2] at cL
      rw [e3] at cH
      simp only [no_wd'] at cF cL cH
      have cC := fun (W : World) (m : T) (h1 : T.In W W.heap.size m) (h2 : m.strip = n.strip) => ref_of h1 h2 hRb
      rw [hVb] at cC
      generalize endsT false n = F0 at *
      generalize endsT true n = F1 at *
      generalize alphaT n = F2 at *
      have he0 := fun w => same4 0 0 0 0 w
      replace cC := Lib.hid cC
      replace cF := Lib.hid cF
      replace cL := Lib.hid cL
      replace cH := Lib.hid cH
      obtain ⟨ns, hns⟩ : ∃ ns, n.strip = ns := ⟨_, rfl⟩
      rw [hns] at cC cO
      clear e1 e2 e3 hRb h7 hT hVb hN hR N hns
      obtain ⟨k, u0, u1, u2, u3, p, cap, mn, mx, tx, ks⟩ := n
      simp only [T.cells] at *
      go_enter Tryd.func3, Tryd.ntmps3
      go_wp2_with (first | (go_at_call 6; (with_reducible refine cA.out.mono ?_); rintro e w1 ⟨rfl, hb⟩; replace hbn := Lib.hid (kept_row hbn.out hb); have hln := lt_box hbn.out; obtain ⟨n0, n1, n2, n3, n4, n5, n6, n7, n8⟩ := c9 hbn.out; have hq1 := Lib.hid (Bel.step hq0.out hb); clear hb) | (go_at_call 7; (with_reducible refine (cO.out _ hq1.out).mono ?_); rintro e w2 ⟨⟨km, u0m, u1m, u2m, u3m, pm, capm, mnm, mxm, txm, ksm⟩, d, hd, rfl, hb, hmi, hms⟩; simp only; clear n0 n1 n2 n3 n4 n5 n6 n7 n8; replace hbn := Lib.hid (kept_row hbn.out hb); have hln2 := lt_box hbn.out; have gd : decide (d ≤ 0) = false := (by rw [decide_eq_false_iff_not]; omega); obtain ⟨WQ, hWQ, hbm, hb1, hb2, hb3, hbl⟩ := four_new w2 #[.int .i64 km, .int .u64 u0m, .int .u64 u1m, .int .u64 u2m, .int .u64 u3m, .slice pm ksm.length capm, .int .i64 mnm, .int .i64 mxm, .string txm] #[.int .u64 0, .int .u64 0, .int .u64 0, .int .u64 0] #[.int .u64 0, .int .u64 0, .int .u64 0, .int .u64 0] #[.int .u64 0, .int .u64 0, .int .u64 0, .int .u64 0] 31 24 24 24; replace hbn := Lib.hid (kept_row hbn.out hbl); have cR := fun W (hW : Bel WQ W) => cC.out _ _ (in_bel (box_in9 hmi) hbl) hms W hW; have hqW := Lib.hid (Bel.step (Bel.step hq1.out hb) hbl); simp only at cR; replace cR := Lib.hid cR; replace hbm := Lib.hid hbm; replace hb1 := Lib.hid hb1; replace hb2 := Lib.hid hb2; replace hb3 := Lib.hid hb3; replace hWQ := Lib.hid hWQ; clear hb hbl hmi hd hq1) | (go_at_call 8; rw [hWQ.out]; clear hWQ; (with_reducible refine (cR.out _ (Bel.refl _)).1.mono ?_); rintro e w3 ⟨rfl, hb⟩; replace hbn := Lib.hid (kept_row hbn.out hb); replace hbm := Lib.hid (kept_row hbm.out hb); replace hb1 := Lib.hid (kept_row hb1.out hb); replace hb2 := Lib.hid (kept_row hb2.out hb); replace hb3 := Lib.hid (kept_row hb3.out hb); obtain ⟨x0, x1, x2, x3, x4, x5, x6, x7, x8⟩ := c9 hbm.out; have hqm := Lib.hid (show Bel WQ w3 from hb); have hq3 := Lib.hid (Bel.step hqW.out hb); clear hb hqW) | (go_at_call 9; (with_reducible refine (cR.out _ hqm.out).2.1.mono ?_); rintro e w4 ⟨rfl, hb⟩; clear x0 x1 x2 x3 x4 x5 x6 x7 x8; replace hbn := Lib.hid (kept_row hbn.out hb); replace hbm := Lib.hid (kept_row hbm.out hb); replace hb1 := Lib.hid (kept_row hb1.out hb); replace hb2 := Lib.hid (kept_row hb2.out hb); replace hb3 := Lib.hid (kept_row hb3.out hb); replace hqm := Lib.hid (Bel.step hqm.out hb); have hq4 := Lib.hid (Bel.step hq3.out hb); clear hb hq3))
      clear hbm hqm
      have hS9 : (fun W : World => W.heap[w.heap.size]? = some (.cells #[.int .i64 k, .int .u64 u0, .int .u64 u1, .int .u64 u2, .int .u64 u3, .slice p ks.length cap, .int .i64 mn, .int .i64 mx, .string tx] 27) ∧ W.heap[w2.heap.size + 1]? = some (.cells #[.int .u64 0, .int .u64 0, .int .u64 0, .int .u64 0] 24) ∧ W.heap[w2.heap.size + 1 + 1]? = some (.cells #[.int .u64 0, .int .u64 0, .int .u64 0, .int .u64 0] 24) ∧ W.heap[w2.heap.size + 1 + 1 + 1]? = some (.cells #[.int .u64 0, .int .u64 0, .int .u64 0, .int .u64 0] 24)) w4.drew := ⟨hbn.out, hb1.out, hb2.out, hb3.out⟩
      replace hq4 := Lib.hid (show Bel w w4.drew from Below.trans hq4.out (Below.refl _ _).drew)
      clear hbn hb1 hb2 hb3
      refine Go.Last.start (S := fun W => W.heap[w.heap.size]? = some (.cells #[.int .i64 k, .int .u64 u0, .int .u64 u1, .int .u64 u2, .int .u64 u3, .slice p ks.length cap, .int .i64 mn, .int .i64 mx, .string tx] 27) ∧ W.heap[w2.heap.size + 1]? = some (.cells #[.int .u64 0, .int .u64 0, .int .u64 0, .int .u64 0] 24) ∧ W.heap[w2.heap.size + 1 + 1]? = some (.cells #[.int .u64 0, .int .u64 0, .int .u64 0, .int .u64 0] 24) ∧ W.heap[w2.heap.size + 1 + 1 + 1]? = some (.cells #[.int .u64 0, .int .u64 0, .int .u64 0, .int .u64 0] 24)) (z := 16) (by decide +kernel) hS9 (fun hHeld => ?_)
      clear hS9
      generalize w4.drew = wd9 at *
      refine Go.Last.take (i := 0) (v := ?v0u33) rfl (by decide +kernel) (by decide +kernel) (by decide +kernel) (fun _ _ _ h => h) (by decide +kernel) (Or.inl ⟨by rfl, ?h0u33⟩) hHeld ?r0u33
      case h0u33 => (intro wq9 hSw; obtain ⟨x0, x1, x2, x3, x4, x5, x6, x7, x8⟩ := c9 hSw.1; go_simp <;> with_reducible rfl)
      try simp only [Go.Last.pt]
      refine Go.Last.take (i := 2) (v := ?v2u34) rfl (by decide +kernel) (by decide +kernel) (by decide +kernel) (fun _ _ _ h => h) (by decide +kernel) (Or.inl ⟨by rfl, ?h2u34⟩) hHeld ?r2u34
      case h2u34 => (intro wq9 hSw; obtain ⟨y0, y1, y2, y3⟩ := c4 hSw.2.1; go_simp <;> with_reducible rfl)
      try simp only [Go.Last.pt]
      refine Go.Last.one 1 (by decide +kernel) rfl (fun K hK => ?_)
      go_simp
      (go_at_call 12; (with_reducible refine (cF.out _ hq4.out).mono ?_); rintro e w9 ⟨rfl, hb⟩; replace hq4 := Lib.hid (Bel.step hq4.out hb))
      try dsimp only
      refine hK.out _ _ (.of (⟨kept_row hHeld.1 hb, kept_row hHeld.2.1 hb, kept_row hHeld.2.2.1 hb, kept_row hHeld.2.2.2 hb⟩)) (fun hHeld2 => ?_)
      clear hK K hHeld
      have hHeld := hHeld2.resolve_left (by decide)
      clear hHeld2
      try simp only [Go.Last.pt]
      refine Go.Last.one 3 (by decide +kernel) rfl (fun K hK => ?_)
      go_simp
      try dsimp only
      refine hK.out _ _ (.of (hHeld)) (fun hHeld2 => ?_)
      clear hK K hHeld
      have hHeld := hHeld2.resolve_left (by decide)
      clear hHeld2
      try simp only [Go.Last.pt]
      refine Go.Last.one 4 (by decide +kernel) rfl (fun K hK => ?_)
      go_simp
      try dsimp only
      refine hK.out _ _ (.of (hHeld)) (fun hHeld2 => ?_)
      clear hK K hHeld
      have hHeld := hHeld2.resolve_left (by decide)
      clear hHeld2
      try simp only [Go.Last.pt]
      refine Go.Last.take (i := 5) (v := ?v5u35) rfl (by decide +kernel) (by decide +kernel) (by decide +kernel) (fun _ _ _ h => h) (by decide +kernel) (Or.inl ⟨by rfl, ?h5u35⟩) hHeld ?r5u35
      case h5u35 => (intro wq9 hSw; obtain ⟨x0, x1, x2, x3, x4, x5, x6, x7, x8⟩ := c9 hSw.1; go_simp <;> with_reducible rfl)
      try simp only [Go.Last.pt]
      refine Go.Last.take (i := 7) (v := ?v7u36) rfl (by decide +kernel) (by decide +kernel) (by decide +kernel) (fun _ _ _ h => h) (by decide +kernel) (Or.inl ⟨by rfl, ?h7u36⟩) hHeld ?r7u36
      case h7u36 => (intro wq9 hSw; obtain ⟨y0, y1, y2, y3⟩ := c4 hSw.2.2.1; go_simp <;> with_reducible rfl)
      try simp only [Go.Last.pt]
      refine Go.Last.one 6 (by decide +kernel) rfl (fun K hK => ?_)
      go_simp
      (go_at_call 13; (with_reducible refine (cL.out _ hq4.out).mono ?_); rintro e w9 ⟨rfl, hb⟩; replace hq4 := Lib.hid (Bel.step hq4.out hb))
      try dsimp only
      refine hK.out _ _ (.of (⟨kept_row hHeld.1 hb, kept_row hHeld.2.1 hb, kept_row hHeld.2.2.1 hb, kept_row hHeld.2.2.2 hb⟩)) (fun hHeld2 => ?_)
      clear hK K hHeld
      have hHeld := hHeld2.resolve_left (by decide)
      clear hHeld2
      try simp only [Go.Last.pt]
      refine Go.Last.one 8 (by decide +kernel) rfl (fun K hK => ?_)
      go_simp
      try dsimp only
      refine hK.out _ _ (.of (hHeld)) (fun hHeld2 => ?_)
      clear hK K hHeld
      have hHeld := hHeld2.resolve_left (by decide)
      clear hHeld2
      try simp only [Go.Last.pt]
      refine Go.Last.one 9 (by decide +kernel) rfl (fun K hK => ?_)
      go_simp
      try dsimp only
      refine hK.out _ _ (.of (hHeld)) (fun hHeld2 => ?_)
      clear hK K hHeld
      have hHeld := hHeld2.resolve_left (by decide)
      clear hHeld2
      try simp only [Go.Last.pt]
      refine Go.Last.one 10 (by decide +kernel) rfl (fun K hK => ?_)
      go_simp
      try dsimp only
      refine hK.out _ _ (.of (hHeld)) (fun hHeld2 => ?_)
      clear hK K hHeld
      have hHeld := hHeld2.resolve_left (by decide)
      clear hHeld2
      try simp only [Go.Last.pt]
      refine Go.Last.take (i := 11) (v := ?v11u37) rfl (by decide +kernel) (by decide +kernel) (by decide +kernel) (fun _ _ _ h => h) (by decide +kernel) (Or.inl ⟨by rfl, ?h11u37⟩) hHeld ?r11u37
      case h11u37 => (intro wq9 hSw; obtain ⟨x0, x1, x2, x3, x4, x5, x6, x7, x8⟩ := c9 hSw.1; go_simp <;> with_reducible rfl)
      try simp only [Go.Last.pt]
      refine Go.Last.take (i := 13) (v := ?v13u38) rfl (by decide +kernel) (by decide +kernel) (by decide +kernel) (fun _ _ _ h => h) (by decide +kernel) (Or.inl ⟨by rfl, ?h13u38⟩) hHeld ?r13u38
      case h13u38 => (intro wq9 hSw; obtain ⟨y0, y1, y2, y3⟩ := c4 hSw.2.2.2; go_simp <;> with_reducible rfl)
      try simp only [Go.Last.pt]
      refine Go.Last.one 12 (by decide +kernel) rfl (fun K hK => ?_)
      go_simp
      (go_at_call 14; (with_reducible refine (cH.out _ hq4.out).mono ?_); rintro e w9 ⟨rfl, hb⟩; replace hq4 := Lib.hid (Bel.step hq4.out hb))
      try dsimp only
      refine hK.out _ _ (.of (⟨kept_row hHeld.1 hb, kept_row hHeld.2.1 hb, kept_row hHeld.2.2.1 hb, kept_row hHeld.2.2.2 hb⟩)) (fun hHeld2 => ?_)
      clear hK K hHeld
      have hHeld := hHeld2.resolve_left (by decide)
      clear hHeld2
      try simp only [Go.Last.pt]
      refine Go.Last.one 14 (by decide +kernel) rfl (fun K hK => ?_)
      go_simp
      try dsimp only
      refine hK.out _ _ (.of (hHeld)) (fun hHeld2 => ?_)
      clear hK K hHeld
      have hHeld := hHeld2.resolve_left (by decide)
      clear hHeld2
      try simp only [Go.Last.pt]
      refine Go.Last.one 15 (by decide +kernel) rfl (fun K hK => ?_)
      go_simp
      try dsimp only
      refine hK.out _ _ (.of (hHeld)) (fun hHeld2 => ?_)
      clear hK K hHeld
      have hHeld := hHeld2.resolve_left (by decide)
      clear hHeld2
      try simp only [Go.Last.pt]
      refine Go.Last.one 16 (by decide +kernel) rfl (fun K hK => ?_)
      go_simp
      try dsimp only
      refine hK.out _ _ .last (fun _ => ?_)
      clear hK K hHeld
      try simp only [Go.Last.pt]
      refine Go.Last.done (by decide +kernel) ?_ _
      go_wp2
      go_ret
      exact ⟨rfl, hq4.out⟩

    | false =>
      have e1 : firstR false n = endsT false n := by unfold firstR voidR; rw [hRb, hVb]; rfl
      have e2 : firstR true n = endsT true n := by unfold firstR voidR; rw [hRb, hVb]; rfl
      have e3 : alphaR n = alphaT n := by unfold alphaR voidR; rw [hRb, hVb]; rfl
      rw [e1] at cF
      rw [e2] at cL
      rw [e3] at cH
      have cC := fun (W : World) (m : T) (h1 : T.In W W.heap.size m) (h2 : m.strip = n.strip) => ref_of h1 h2 hRb
      rw [hVb] at cC
      generalize endsT false n = F0 at *
      generalize endsT true n = F1 at *
      generalize alphaT n = F2 at *
      have he0 := fun w => same4 (S1.wd F0 0) (S1.wd F0 1) (S1.wd F0 2) (S1.wd F0 3) w
      have he1 := fun w => same4 (S1.wd F1 0) (S1.wd F1 1) (S1.wd F1 2) (S1.wd F1 3) w
      have he2 := fun w => same4 (S1.wd F2 0) (S1.wd F2 1) (S1.wd F2 2) (S1.wd F2 3) w
      replace cC := Lib.hid cC
      replace cF := Lib.hid cF
      replace cL := Lib.hid cL
      replace cH := Lib.hid cH
      obtain ⟨ns, hns⟩ : ∃ ns, n.strip = ns := ⟨_, rfl⟩
      rw [hns] at cC cO
      clear e1 e2 e3 hRb h7 hT hVb hN hR N hns
      obtain ⟨k, u0, u1, u2, u3, p, cap, mn, mx, tx, ks⟩ := n
      simp only [T.cells] at *
      go_enter Tryd.func3, Tryd.ntmps3
      go_wp2_with (first | (go_at_call 6; (with_reducible refine cA.out.mono ?_); rintro e w1 ⟨rfl, hb⟩; replace hbn := Lib.hid (kept_row hbn.out hb); have hln := lt_box hbn.out; obtain ⟨n0, n1, n2, n3, n4, n5, n6, n7, n8⟩ := c9 hbn.out; have hq1 := Lib.hid (Bel.step hq0.out hb); clear hb) | (go_at_call 7; (with_reducible refine (cO.out _ hq1.out).mono ?_); rintro e w2 ⟨⟨km, u0m, u1m, u2m, u3m, pm, capm, mnm, mxm, txm, ksm⟩, d, hd, rfl, hb, hmi, hms⟩; simp only; clear n0 n1 n2 n3 n4 n5 n6 n7 n8; replace hbn := Lib.hid (kept_row hbn.out hb); have hln2 := lt_box hbn.out; have gd : decide (d ≤ 0) = false := (by rw [decide_eq_false_iff_not]; omega); obtain ⟨WQ, hWQ, hbm, hb1, hb2, hb3, hbl⟩ := four_new w2 #[.int .i64 km, .int .u64 u0m, .int .u64 u1m, .int .u64 u2m, .int .u64 u3m, .slice pm ksm.length capm, .int .i64 mnm, .int .i64 mxm, .string txm] #[.int .u64 0, .int .u64 0, .int .u64 0, .int .u64 0] #[.int .u64 0, .int .u64 0, .int .u64 0, .int .u64 0] #[.int .u64 0, .int .u64 0, .int .u64 0, .int .u64 0] 31 24 24 24; replace hbn := Lib.hid (kept_row hbn.out hbl); have cR := fun W (hW : Bel WQ W) => cC.out _ _ (in_bel (box_in9 hmi) hbl) hms W hW; have hqW := Lib.hid (Bel.step (Bel.step hq1.out hb) hbl); simp only at cR; replace cR := Lib.hid cR; replace hbm := Lib.hid hbm; replace hb1 := Lib.hid hb1; replace hb2 := Lib.hid hb2; replace hb3 := Lib.hid hb3; replace hWQ := Lib.hid hWQ; clear hb hbl hmi hd hq1) | (go_at_call 8; rw [hWQ.out]; clear hWQ; (with_reducible refine (cR.out _ (Bel.refl _)).1.mono ?_); rintro e w3 ⟨rfl, hb⟩; replace hbn := Lib.hid (kept_row hbn.out hb); replace hbm := Lib.hid (kept_row hbm.out hb); replace hb1 := Lib.hid (kept_row hb1.out hb); replace hb2 := Lib.hid (kept_row hb2.out hb); replace hb3 := Lib.hid (kept_row hb3.out hb); obtain ⟨x0, x1, x2, x3, x4, x5, x6, x7, x8⟩ := c9 hbm.out; have hqm := Lib.hid (show Bel WQ w3 from hb); have hq3 := Lib.hid (Bel.step hqW.out hb); clear hb hqW) | (go_at_call 9; (with_reducible refine (cR.out _ hqm.out).2.1.mono ?_); rintro e w4 ⟨rfl, hb⟩; clear x0 x1 x2 x3 x4 x5 x6 x7 x8; replace hbn := Lib.hid (kept_row hbn.out hb); replace hbm := Lib.hid (kept_row hbm.out hb); replace hb1 := Lib.hid (kept_row hb1.out hb); replace hb2 := Lib.hid (kept_row hb2.out hb); replace hb3 := Lib.hid (kept_row hb3.out hb); replace hqm := Lib.hid (Bel.step hqm.out hb); have hq4 := Lib.hid (Bel.step hq3.out hb); clear hb hq3))
      have hS8 : w4.drew.heap[w2.heap.size]? = some (.cells #[.int .i64 km, .int .u64 u0m, .int .u64 u1m, .int .u64 u2m, .int .u64 u3m, .slice pm ksm.length capm, .int .i64 mnm, .int .i64 mxm, .string txm] 31) := hbm.out
      replace hq4 := Lib.hid (show Bel w w4.drew from Below.trans hq4.out (Below.refl _ _).drew)
      replace hqm := Lib.hid (show Bel WQ w4.drew from Below.trans hqm.out (Below.refl _ _).drew)
      replace hbn := Lib.hid (show w4.drew.heap[w.heap.size]? = _ from hbn.out)
      replace hb1 := Lib.hid (show w4.drew.heap[w2.heap.size + 1]? = _ from hb1.out)
      replace hb2 := Lib.hid (show w4.drew.heap[w2.heap.size + 1 + 1]? = _ from hb2.out)
      replace hb3 := Lib.hid (show w4.drew.heap[w2.heap.size + 1 + 1 + 1]? = _ from hb3.out)
      clear hbm
      refine Go.Last.start (S := fun W => W.heap[w2.heap.size]? = some (.cells #[.int .i64 km, .int .u64 u0m, .int .u64 u1m, .int .u64 u2m, .int .u64 u3m, .slice pm ksm.length capm, .int .i64 mnm, .int .i64 mxm, .string txm] 31)) (z := 8) (by decide +kernel) hS8 (fun hHeld => ?_)
      clear hS8
      generalize w4.drew = wd at *
      refine Go.Last.take (i := 0) (v := ?v0u45) rfl (by decide +kernel) (by decide +kernel) (by decide +kernel) (fun _ _ _ h => h) (by decide +kernel) (Or.inl ⟨by rfl, ?h0u45⟩) hHeld ?r0u45
      case h0u45 => (intro wq9 hSw; obtain ⟨x0, x1, x2, x3, x4, x5, x6, x7, x8⟩ := c9 hSw; go_simp <;> with_reducible rfl)
      try simp only [Go.Last.pt]
      refine Go.Last.take (i := 2) (v := ?v2u46) rfl (by decide +kernel) (by decide +kernel) (by decide +kernel) (fun _ _ _ h => h) (by decide +kernel) (Or.inl ⟨by rfl, ?h2u46⟩) hHeld ?r2u46
      case h2u46 => (intro wq9 hSw; obtain ⟨x0, x1, x2, x3, x4, x5, x6, x7, x8⟩ := c9 hSw; go_simp <;> with_reducible rfl)
      try simp only [Go.Last.pt]
      refine Go.Last.take (i := 4) (v := ?v4u47) rfl (by decide +kernel) (by decide +kernel) (by decide +kernel) (fun _ _ _ h => h) (by decide +kernel) (Or.inl ⟨by rfl, ?h4u47⟩) hHeld ?r4u47
      case h4u47 => (intro wq9 hSw; obtain ⟨x0, x1, x2, x3, x4, x5, x6, x7, x8⟩ := c9 hSw; go_simp <;> with_reducible rfl)
      try simp only [Go.Last.pt]
      refine Go.Last.one 1 (by decide +kernel) rfl (fun K hK => ?_)
      go_simp
      (go_at_call 10; (with_reducible refine (cR.out _ hqm.out).2.2.1.mono ?_); rintro e w5 ⟨rfl, hb⟩; replace hqm := Lib.hid (Bel.step hqm.out hb); replace hq4 := Lib.hid (Bel.step hq4.out hb); replace hbn := Lib.hid (kept_row hbn.out hb); replace hb1 := Lib.hid (kept_row hb1.out hb); replace hb2 := Lib.hid (kept_row hb2.out hb); replace hb3 := Lib.hid (kept_row hb3.out hb))
      try dsimp only
      refine hK.out _ _ (.of (kept_row hHeld hb)) (fun hHeld2 => ?_)
      clear hK K hHeld
      have hHeld := hHeld2.resolve_left (by decide)
      clear hHeld2
      try simp only [Go.Last.pt]
      refine Go.Last.one 3 (by decide +kernel) rfl (fun K hK => ?_)
      go_simp
      (go_at_call 10; (with_reducible refine (cR.out _ hqm.out).2.2.2.1.mono ?_); rintro e w6 ⟨rfl, hb⟩; replace hqm := Lib.hid (Bel.step hqm.out hb); replace hq4 := Lib.hid (Bel.step hq4.out hb); replace hbn := Lib.hid (kept_row hbn.out hb); replace hb1 := Lib.hid (kept_row hb1.out hb); replace hb2 := Lib.hid (kept_row hb2.out hb); replace hb3 := Lib.hid (kept_row hb3.out hb))
      try dsimp only
      refine hK.out _ _ (.of (kept_row hHeld hb)) (fun hHeld2 => ?_)
      clear hK K hHeld
      have hHeld := hHeld2.resolve_left (by decide)
      clear hHeld2
      try simp only [Go.Last.pt]
      refine Go.Last.one 5 (by decide +kernel) rfl (fun K hK => ?_)
      go_simp
      (go_at_call 11; (with_reducible refine (cR.out _ hqm.out).2.2.2.2.mono ?_); rintro e w7 ⟨rfl, hb⟩; replace hqm := Lib.hid (Bel.step hqm.out hb); replace hq4 := Lib.hid (Bel.step hq4.out hb); replace hbn := Lib.hid (kept_row hbn.out hb); replace hb1 := Lib.hid (kept_row hb1.out hb); replace hb2 := Lib.hid (kept_row hb2.out hb); replace hb3 := Lib.hid (kept_row hb3.out hb); obtain ⟨y0, f0, y1, f1, y2, f2, y3, f3⟩ := d4 hb1.out)
      try dsimp only
      refine hK.out _ _ (.of (kept_row hHeld hb)) (fun hHeld2 => ?_)
      clear hK K hHeld
      have hHeld := hHeld2.resolve_left (by decide)
      clear hHeld2
      try simp only [Go.Last.pt]
      refine Go.Last.one 6 (by decide +kernel) rfl (fun K hK => ?_)
      go_simp
      obtain ⟨q1, q2, q3, q4⟩ := set4 (d0 := .int .u64 (S1.wd F0 0)) (d1 := .int .u64 (S1.wd F0 1)) (d2 := .int .u64 (S1.wd F0 2)) (d3 := .int .u64 (S1.wd F0 3)) hb1.out _ rfl
      generalize hW : World.setCell _ (⟨w2.heap.size + 1, 3, none⟩ : Addr) _ = V1 at *
      clear hW
      clear y0 f0 y1 f1 y2 f2 y3 f3
      replace hb1 := Lib.hid q1
      replace hbn := Lib.hid ((q3 _ (by omega)).trans hbn.out)
      replace hb2 := Lib.hid ((q3 _ (by omega)).trans hb2.out)
      replace hb3 := Lib.hid ((q3 _ (by omega)).trans hb3.out)
      replace hq4 := Lib.hid (show Bel w V1 from Below.trans hq4.out (q4 _ (by omega)))
      have hkm := (q3 w2.heap.size (by omega)).trans hHeld
      clear q1 q2 q3 q4
      obtain ⟨y0, f0, y1, f1, y2, f2, y3, f3⟩ := d4 hb2.out
      try dsimp only
      refine hK.out _ _ (.of (hkm)) (fun hHeld2 => ?_)
      clear hK K hHeld
      have hHeld := hHeld2.resolve_left (by decide)
      clear hHeld2
      try simp only [Go.Last.pt]
      refine Go.Last.one 7 (by decide +kernel) rfl (fun K hK => ?_)
      go_simp
      obtain ⟨q1, q2, q3, q4⟩ := set4 (d0 := .int .u64 (S1.wd F1 0)) (d1 := .int .u64 (S1.wd F1 1)) (d2 := .int .u64 (S1.wd F1 2)) (d3 := .int .u64 (S1.wd F1 3)) hb2.out _ rfl
      generalize hW : World.setCell _ (⟨w2.heap.size + 1 + 1, 3, none⟩ : Addr) _ = V2 at *
      clear hW
      clear y0 f0 y1 f1 y2 f2 y3 f3
      replace hb2 := Lib.hid q1
      replace hbn := Lib.hid ((q3 _ (by omega)).trans hbn.out)
      replace hb1 := Lib.hid ((q3 _ (by omega)).trans hb1.out)
      replace hb3 := Lib.hid ((q3 _ (by omega)).trans hb3.out)
      replace hq4 := Lib.hid (show Bel w V2 from Below.trans hq4.out (q4 _ (by omega)))
      have hkm := (q3 w2.heap.size (by omega)).trans hHeld
      clear q1 q2 q3 q4
      obtain ⟨y0, f0, y1, f1, y2, f2, y3, f3⟩ := d4 hb3.out
      try dsimp only
      refine hK.out _ _ (.of (hkm)) (fun hHeld2 => ?_)
      clear hK K hHeld
      have hHeld := hHeld2.resolve_left (by decide)
      clear hHeld2
      try simp only [Go.Last.pt]
      refine Go.Last.one 8 (by decide +kernel) rfl (fun K hK => ?_)
      go_simp
      obtain ⟨q1, q2, q3, q4⟩ := set4 (d0 := .int .u64 (S1.wd F2 0)) (d1 := .int .u64 (S1.wd F2 1)) (d2 := .int .u64 (S1.wd F2 2)) (d3 := .int .u64 (S1.wd F2 3)) hb3.out _ rfl
      generalize hW : World.setCell _ (⟨w2.heap.size + 1 + 1 + 1, 3, none⟩ : Addr) _ = V3 at *
      clear hW
      clear y0 f0 y1 f1 y2 f2 y3 f3
      replace hb3 := Lib.hid q1
      replace hbn := Lib.hid ((q3 _ (by omega)).trans hbn.out)
      replace hb1 := Lib.hid ((q3 _ (by omega)).trans hb1.out)
      replace hb2 := Lib.hid ((q3 _ (by omega)).trans hb2.out)
      replace hq4 := Lib.hid (show Bel w V3 from Below.trans hq4.out (q4 _ (by omega)))
      have hkm := (q3 w2.heap.size (by omega)).trans hHeld
      clear q1 q2 q3 q4
      skip
      try dsimp only
      refine hK.out _ _ .last (fun _ => ?_)
      clear hK K hHeld
      try simp only [Go.Last.pt]
      refine Go.Last.done (by decide +kernel) ?_ _
      go_wp2
      have hS9 : (fun W : World => W.heap[w.heap.size]? = some (.cells #[.int .i64 k, .int .u64 u0, .int .u64 u1, .int .u64 u2, .int .u64 u3, .slice p ks.length cap, .int .i64 mn, .int .i64 mx, .string tx] 27) ∧ W.heap[w2.heap.size + 1]? = some (.cells #[.int .u64 (S1.wd (F0) 0), .int .u64 (S1.wd (F0) 1), .int .u64 (S1.wd (F0) 2), .int .u64 (S1.wd (F0) 3)] 24) ∧ W.heap[w2.heap.size + 1 + 1]? = some (.cells #[.int .u64 (S1.wd (F1) 0), .int .u64 (S1.wd (F1) 1), .int .u64 (S1.wd (F1) 2), .int .u64 (S1.wd (F1) 3)] 24) ∧ W.heap[w2.heap.size + 1 + 1 + 1]? = some (.cells #[.int .u64 (S1.wd (F2) 0), .int .u64 (S1.wd (F2) 1), .int .u64 (S1.wd (F2) 2), .int .u64 (S1.wd (F2) 3)] 24)) V3.drew := ⟨hbn.out, hb1.out, hb2.out, hb3.out⟩
      replace hq4 := Lib.hid (show Bel w V3.drew from Below.trans hq4.out (Below.refl _ _).drew)
      clear hbn hb1 hb2 hb3
      refine Go.Last.start (S := fun W => W.heap[w.heap.size]? = some (.cells #[.int .i64 k, .int .u64 u0, .int .u64 u1, .int .u64 u2, .int .u64 u3, .slice p ks.length cap, .int .i64 mn, .int .i64 mx, .string tx] 27) ∧ W.heap[w2.heap.size + 1]? = some (.cells #[.int .u64 (S1.wd (F0) 0), .int .u64 (S1.wd (F0) 1), .int .u64 (S1.wd (F0) 2), .int .u64 (S1.wd (F0) 3)] 24) ∧ W.heap[w2.heap.size + 1 + 1]? = some (.cells #[.int .u64 (S1.wd (F1) 0), .int .u64 (S1.wd (F1) 1), .int .u64 (S1.wd (F1) 2), .int .u64 (S1.wd (F1) 3)] 24) ∧ W.heap[w2.heap.size + 1 + 1 + 1]? = some (.cells #[.int .u64 (S1.wd (F2) 0), .int .u64 (S1.wd (F2) 1), .int .u64 (S1.wd (F2) 2), .int .u64 (S1.wd (F2) 3)] 24)) (z := 16) (by decide +kernel) hS9 (fun hHeld => ?_)
      clear hS9
      generalize V3.drew = wd9 at *
      refine Go.Last.take (i := 0) (v := ?v0u39) rfl (by decide +kernel) (by decide +kernel) (by decide +kernel) (fun _ _ _ h => h) (by decide +kernel) (Or.inl ⟨by rfl, ?h0u39⟩) hHeld ?r0u39
      case h0u39 => (intro wq9 hSw; obtain ⟨x0, x1, x2, x3, x4, x5, x6, x7, x8⟩ := c9 hSw.1; go_simp <;> with_reducible rfl)
      try simp only [Go.Last.pt]
      refine Go.Last.take (i := 2) (v := ?v2u40) rfl (by decide +kernel) (by decide +kernel) (by decide +kernel) (fun _ _ _ h => h) (by decide +kernel) (Or.inl ⟨by rfl, ?h2u40⟩) hHeld ?r2u40
      case h2u40 => (intro wq9 hSw; obtain ⟨y0, y1, y2, y3⟩ := c4 hSw.2.1; go_simp <;> with_reducible rfl)
      try simp only [Go.Last.pt]
      refine Go.Last.one 1 (by decide +kernel) rfl (fun K hK => ?_)
      go_simp
      (go_at_call 12; (with_reducible refine (cF.out _ hq4.out).mono ?_); rintro e w9 ⟨rfl, hb⟩; replace hq4 := Lib.hid (Bel.step hq4.out hb))
      try dsimp only
      refine hK.out _ _ (.of (⟨kept_row hHeld.1 hb, kept_row hHeld.2.1 hb, kept_row hHeld.2.2.1 hb, kept_row hHeld.2.2.2 hb⟩)) (fun hHeld2 => ?_)
      clear hK K hHeld
      have hHeld := hHeld2.resolve_left (by decide)
      clear hHeld2
      try simp only [Go.Last.pt]
      refine Go.Last.one 3 (by decide +kernel) rfl (fun K hK => ?_)
      go_simp
      try dsimp only
      refine hK.out _ _ (.of (hHeld)) (fun hHeld2 => ?_)
      clear hK K hHeld
      have hHeld := hHeld2.resolve_left (by decide)
      clear hHeld2
      try simp only [Go.Last.pt]
      refine Go.Last.one 4 (by decide +kernel) rfl (fun K hK => ?_)
      go_simp
      try dsimp only
      refine hK.out _ _ (.of (hHeld)) (fun hHeld2 => ?_)
      clear hK K hHeld
      have hHeld := hHeld2.resolve_left (by decide)
      clear hHeld2
      try simp only [Go.Last.pt]
      refine Go.Last.take (i := 5) (v := ?v5u41) rfl (by decide +kernel) (by decide +kernel) (by decide +kernel) (fun _ _ _ h => h) (by decide +kernel) (Or.inl ⟨by rfl, ?h5u41⟩) hHeld ?r5u41
      case h5u41 => (intro wq9 hSw; obtain ⟨x0, x1, x2, x3, x4, x5, x6, x7, x8⟩ := c9 hSw.1; go_simp <;> with_reducible rfl)
      try simp only [Go.Last.pt]
      refine Go.Last.take (i := 7) (v := ?v7u42) rfl (by decide +kernel) (by decide +kernel) (by decide +kernel) (fun _ _ _ h => h) (by decide +kernel) (Or.inl ⟨by rfl, ?h7u42⟩) hHeld ?r7u42
      case h7u42 => (intro wq9 hSw; obtain ⟨y0, y1, y2, y3⟩ := c4 hSw.2.2.1; go_simp <;> with_reducible rfl)
      try simp only [Go.Last.pt]
      refine Go.Last.one 6 (by decide +kernel) rfl (fun K hK => ?_)
      go_simp
      (go_at_call 13; (with_reducible refine (cL.out _ hq4.out).mono ?_); rintro e w9 ⟨rfl, hb⟩; replace hq4 := Lib.hid (Bel.step hq4.out hb))
      try dsimp only
      refine hK.out _ _ (.of (⟨kept_row hHeld.1 hb, kept_row hHeld.2.1 hb, kept_row hHeld.2.2.1 hb, kept_row hHeld.2.2.2 hb⟩)) (fun hHeld2 => ?_)
      clear hK K hHeld
      have hHeld := hHeld2.resolve_left (by decide)
      clear hHeld2
      try simp only [Go.Last.pt]
      refine Go.Last.one 8 (by decide +kernel) rfl (fun K hK => ?_)
      go_simp
      try dsimp only
      refine hK.out _ _ (.of (hHeld)) (fun hHeld2 => ?_)
      clear hK K hHeld
      have hHeld := hHeld2.resolve_left (by decide)
      clear hHeld2
      try simp only [Go.Last.pt]
      refine Go.Last.one 9 (by decide +kernel) rfl (fun K hK => ?_)
      go_simp
      try dsimp only
      refine hK.out _ _ (.of (hHeld)) (fun hHeld2 => ?_)
      clear hK K hHeld
      have hHeld := hHeld2.resolve_left (by decide)
      clear hHeld2
      try simp only [Go.Last.pt]
      refine Go.Last.one 10 (by decide +kernel) rfl (fun K hK => ?_)
      go_simp
      try dsimp only
      refine hK.out _ _ (.of (hHeld)) (fun hHeld2 => ?_)
      clear hK K hHeld
      have hHeld := hHeld2.resolve_left (by decide)
      clear hHeld2
      try simp only [Go.Last.pt]
      refine Go.Last.take (i := 11) (v := ?v11u43) rfl (by decide +kernel) (by decide +kernel) (by decide +kernel) (fun _ _ _ h => h) (by decide +kernel) (Or.inl ⟨by rfl, ?h11u43⟩) hHeld ?r11u43
      case h11u43 => (intro wq9 hSw; obtain ⟨x0, x1, x2, x3, x4, x5, x6, x7, x8⟩ := c9 hSw.1; go_simp <;> with_reducible rfl)
      try simp only [Go.Last.pt]
      refine Go.Last.take (i := 13) (v := ?v13u44) rfl (by decide +kernel) (by decide +kernel) (by decide +kernel) (fun _ _ _ h => h) (by decide +kernel) (Or.inl ⟨by rfl, ?h13u44⟩) hHeld ?r13u44
      case h13u44 => (intro wq9 hSw; obtain ⟨y0, y1, y2, y3⟩ := c4 hSw.2.2.2; go_simp <;> with_reducible rfl)
      try simp only [Go.Last.pt]
      refine Go.Last.one 12 (by decide +kernel) rfl (fun K hK => ?_)
      go_simp
      (go_at_call 14; (with_reducible refine (cH.out _ hq4.out).mono ?_); rintro e w9 ⟨rfl, hb⟩; replace hq4 := Lib.hid (Bel.step hq4.out hb))
      try dsimp only
      refine hK.out _ _ (.of (⟨kept_row hHeld.1 hb, kept_row hHeld.2.1 hb, kept_row hHeld.2.2.1 hb, kept_row hHeld.2.2.2 hb⟩)) (fun hHeld2 => ?_)
      clear hK K hHeld
      have hHeld := hHeld2.resolve_left (by decide)
      clear hHeld2
      try simp only [Go.Last.pt]
      refine Go.Last.one 14 (by decide +kernel) rfl (fun K hK => ?_)
      go_simp
      try dsimp only
      refine hK.out _ _ (.of (hHeld)) (fun hHeld2 => ?_)
      clear hK K hHeld
      have hHeld := hHeld2.resolve_left (by decide)
      clear hHeld2
      try simp only [Go.Last.pt]
      refine Go.Last.one 15 (by decide +kernel) rfl (fun K hK => ?_)
      go_simp
      try dsimp only
      refine hK.out _ _ (.of (hHeld)) (fun hHeld2 => ?_)
      clear hK K hHeld
      have hHeld := hHeld2.resolve_left (by decide)
      clear hHeld2
      try simp only [Go.Last.pt]
      refine Go.Last.one 16 (by decide +kernel) rfl (fun K hK => ?_)
      go_simp
      try dsimp only
      refine hK.out _ _ .last (fun _ => ?_)
      clear hK K hHeld
      try simp only [Go.Last.pt]
      refine Go.Last.done (by decide +kernel) ?_ _
      go_wp2
      go_ret
      exact ⟨rfl, hq4.out⟩


end Go.Proofs.YtaebhbcamhmhoaaDoor
