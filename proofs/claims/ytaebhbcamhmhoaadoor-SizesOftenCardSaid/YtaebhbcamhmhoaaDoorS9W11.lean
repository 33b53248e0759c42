/- SizesOften, walked. -/
import Derived.WalkLawsBesides
import Derived.Deep.RegionHeld3
import Derived.Deep.RegionLaw
import Derived.Test.YtaebhbcamhmhoaaDoorWS
import Derived.Test.YtaebhbcamhmhoaaDoorLL
namespace Go.Proofs.YtaebhbcamhmhoaaDoor
open Go.RowKit
open Go.Tree7
open S7
open S5 (nl nl_length nl_small at_nl nl_at Gives idx idx_at ix ix_no ix_yes)
theorem three_new (w : World) (c0 c1 c2 : Array Value) (t0 t1 t2 : TypeId) : ∃ W, ((w.alloc (.cells c0 t0)).alloc (.cells c1 t1)).alloc (.cells c2 t2) = W ∧ W.heap[w.heap.size]? = some (.cells c0 t0 (0, 0)) ∧ W.heap[w.heap.size + 1]? = some (.cells c1 t1 (0, 0)) ∧
    W.heap[w.heap.size + 1 + 1]? = some (.cells c2 t2 (0, 0)) ∧ Below w.heap.size w W := by
  have h0 := World.alloc_heap_new w (.cells c0 t0)
  have h1 := World.alloc_heap_new (w.alloc (.cells c0 t0)) (.cells c1 t1)
  have h2 := World.alloc_heap_new ((w.alloc (.cells c0 t0)).alloc (.cells c1 t1)) (.cells c2 t2)
  rw [World.size_alloc] at h1
  rw [World.size_alloc, World.size_alloc] at h2
  exact ⟨_, rfl, kept_alloc9 (kept_alloc9 h0 _) _, kept_alloc9 h1 _, h2, (((Below.refl _ _).alloc (Nat.le_refl _) _).alloc (by simp) _).alloc (by simp; omega) _⟩
set_option maxRecDepth 100000 in
set_option maxHeartbeats 8000000 in
theorem often_full {n : T} {l b : Int} (_hl : (Lit.int .i64 l).wf = true) (_hbw : (Lit.int .i64 b).wf = true) (w : World) (hT : T.In w w.heap.size n) (cA9 : ∀ w', Bel w w' → Calls Tryd.prog 6 #[] w' fun e w'' => e = .returned (.bool true) ∧ Below w'.heap.size w' w'')
    (_hV : void_holds) (_hN : nullable_holds) (_hW : weight_holds) (_hLe : least_holds) (_hMo : most_holds) (_hF : first_holds) (_hA : alphabet_holds) (h3 : 300 ≤ n.size) :
    Calls Tryd.prog 5 #[.agg n.cells.toArray, .int .i64 l, .int .i64 b] w fun e w' => e = .returned (.bool true) ∧ Below w.heap.size w w' := by
  have hq0 : Bel w (w.alloc (.cells n.cells.toArray 27)) := Bel.new _ _
  have cA := Lib.hid (cA9 _ hq0)
  have hbn := Lib.hid (World.alloc_heap_new w (.cells n.cells.toArray 27))
  replace hq0 := Lib.hid hq0
  clear cA9
  have cO := Lib.hid (of_full hT (n := 300) (c := 300) (by decide) (by decide) rfl h3)
  clear hT h3 _hV _hN _hW _hLe _hMo _hF _hA _hl _hbw
  obtain ⟨k, u0, u1, u2, u3, p, cap, mn, mx, tx, ks⟩ := n
  simp only [T.cells] at *
  go_enter Tryd.func5, Tryd.ntmps5
  go_wp2_with (first | (go_at_call 6; (with_reducible refine cA.out.mono ?_); rintro e w1 ⟨rfl, hb⟩; replace hbn := Lib.hid (kept_row hbn.out hb); have hln := lt_box hbn.out; obtain ⟨n0, n1, n2, n3, n4, n5, n6, n7, n8⟩ := c9 hbn.out; have hq1 := Lib.hid (Bel.step hq0.out hb); clear hb) | (go_at_call 7; (with_reducible refine (cO.out _ hq1.out).mono ?_); rintro e w2 ⟨⟨km, u0m, u1m, u2m, u3m, pm, capm, mnm, mxm, txm, ksm⟩, rfl, hb⟩; simp only; have hq2 := Lib.hid (Bel.alloc (Bel.step hq1.out hb) (.cells #[.int .i64 km, .int .u64 u0m, .int .u64 u1m, .int .u64 u2m, .int .u64 u3m, .slice pm ksm.length capm, .int .i64 mnm, .int .i64 mxm, .string txm] 31)); clear hb hq1))
  go_ret
  exact ⟨rfl, hq2.out⟩
set_option maxRecDepth 100000 in
set_option maxHeartbeats 8000000 in
theorem often_wrong {n : T} {l b : Int} (hl : (Lit.int .i64 l).wf = true) (hbw : (Lit.int .i64 b).wf = true) (w : World) (hT : T.In w w.heap.size n) (cA9 : ∀ w', Bel w w' → Calls Tryd.prog 6 #[] w' fun e w'' => e = .returned (.bool true) ∧ Below w'.heap.size w' w'')
    (hV : void_holds) (_hN : nullable_holds) (hW : weight_holds) (_hLe : least_holds) (_hMo : most_holds) (_hF : first_holds) (_hA : alphabet_holds) (h3 : ¬ 300 ≤ n.size) (hRb : ¬ rightB (.mk 4 0 0 0 0 none 0 l b ⟨#[]⟩ [n.strip]) = true) :
    Calls Tryd.prog 5 #[.agg n.cells.toArray, .int .i64 l, .int .i64 b] w fun e w' => e = .returned (.bool true) ∧ Below w.heap.size w w' := by
  have hq0 : Bel w (w.alloc (.cells n.cells.toArray 27)) := Bel.new _ _
  have cA := Lib.hid (cA9 _ hq0)
  have hbn := Lib.hid (World.alloc_heap_new w (.cells n.cells.toArray 27))
  replace hq0 := Lib.hid hq0
  clear cA9
  have cO := Lib.hid (of_room hT (n := 300) (c := 300) (by decide) rfl (by omega))
  have hRI : ∀ (W : World) (rb : Nat), Bel w W → W.heap[rb]? = some (.cells (n.cells).toArray 27 (0, 0)) → T.In W W.heap.size (.mk 4 0 0 0 0 (some ⟨rb, 0, none⟩) 1 l b ⟨#[]⟩ [n]) := fun W rb h1 h2 =>
    node_in (k := 4) (ks := [n]) (fun t ht => by simp only [List.mem_cons, List.not_mem_nil, or_false] at ht; subst ht; exact hT) h1 (by simpa using h2) (by simp [maxLen]) ⟨by decide, hl, hbw⟩
  have hTn := fun (W : World) (h : Bel w W) => in_bel hT h
  rw [Bool.not_eq_true] at hRb
  have hRR : ∀ rb : Nat, rightB (.mk 4 0 0 0 0 (some ⟨rb, 0, none⟩) 1 l b ⟨#[]⟩ [n]) = false := fun rb => by rw [← right_strip, T.strip_mk]; exact hRb
  have cC := fun (W : World) (rb : Nat) (h1 : Bel w W) (h2 : W.heap[rb]? = some (.cells (n.cells).toArray 27 (0, 0))) => often_not hV hW (hRI W rb h1 h2) (hRR rb)
  clear hRb hRR hRI hTn hT h3 hV _hN hW _hLe _hMo _hF _hA hl hbw
  replace cC := Lib.hid cC
  obtain ⟨ns, hns⟩ : ∃ ns, n.strip = ns := ⟨_, rfl⟩
  rw [hns] at cO
  clear hns
  obtain ⟨k, u0, u1, u2, u3, p, cap, mn, mx, tx, ks⟩ := n
  simp only [T.cells, List.length_cons, List.length_nil, Nat.zero_add] at *
  go_enter Tryd.func5, Tryd.ntmps5
  go_wp2_with (first | (go_at_call 6; (with_reducible refine cA.out.mono ?_); rintro e w1 ⟨rfl, hb⟩; replace hbn := Lib.hid (kept_row hbn.out hb); have hln := lt_box hbn.out; obtain ⟨n0, n1, n2, n3, n4, n5, n6, n7, n8⟩ := c9 hbn.out; have hq1 := Lib.hid (Bel.step hq0.out hb); clear hb) | (go_at_call 7; (with_reducible refine (cO.out _ hq1.out).mono ?_); rintro e w2 ⟨⟨km, u0m, u1m, u2m, u3m, pm, capm, mnm, mxm, txm, ksm⟩, d, hd, rfl, hb, hmi, hms⟩; simp only; clear n0 n1 n2 n3 n4 n5 n6 n7 n8; replace hbn := Lib.hid (kept_row hbn.out hb); have hln2 := lt_box hbn.out; obtain ⟨n0, n1, n2, n3, n4, n5, n6, n7, n8⟩ := c9 hbn.out; have gd : decide (d ≤ 0) = false := (by rw [decide_eq_false_iff_not]; omega); obtain ⟨WQ, hWQ, hbm, hb1, hb2, hbl⟩ := three_new w2 #[.int .i64 km, .int .u64 u0m, .int .u64 u1m, .int .u64 u2m, .int .u64 u3m, .slice pm ksm.length capm, .int .i64 mnm, .int .i64 mxm, .string txm] #[.int .i64 k, .int .u64 u0, .int .u64 u1, .int .u64 u2, .int .u64 u3, .slice p ks.length cap, .int .i64 mn, .int .i64 mx, .string tx] #[.int .i64 4, .int .u64 0, .int .u64 0, .int .u64 0, .int .u64 0, .slice (some ⟨w2.heap.size + 1, 0, none⟩) 1 1, .int .i64 l, .int .i64 b, .string ⟨#[]⟩] 31 27 27; replace hbn := Lib.hid (kept_row hbn.out hbl); have cR := fun W (hW : Bel WQ W) => cC.out WQ (w2.heap.size + 1) (Bel.step (Bel.step hq1.out hb) hbl) hb1 W hW; have hqW := Lib.hid (Bel.step (Bel.step hq1.out hb) hbl); (try simp only [T.cells] at cR); replace cR := Lib.hid cR; replace hbm := Lib.hid hbm; replace hb1 := Lib.hid hb1; replace hb2 := Lib.hid hb2; replace hWQ := Lib.hid hWQ; obtain ⟨x0, x1, x2, x3, x4, x5, x6, x7, x8⟩ := c9 hb2.out; clear hb hbl hmi hd hq1 hms hbm) | (go_at_call 15; (try rw [hWQ.out]); clear hWQ; clear n0 n1 n2 n3 n4 n5 n6 n7 n8; clear x0 x1 x2 x3 x4 x5 x6 x7 x8; (with_reducible refine (cR.out _ (Bel.refl _)).1.mono ?_); rintro e w3 ⟨rfl, hb⟩; replace hbn := Lib.hid (kept_row hbn.out hb); replace hb2 := Lib.hid (kept_row hb2.out hb); obtain ⟨x0, x1, x2, x3, x4, x5, x6, x7, x8⟩ := c9 hb2.out; have hqr := Lib.hid (show Bel WQ w3 from hb); have hq4 := Lib.hid (Bel.step hqW.out hb); clear hb hqW) | (go_at_call 16; clear x0 x1 x2 x3 x4 x5 x6 x7 x8; (with_reducible refine (cR.out _ hqr.out).2.1.mono ?_); rintro e w4 ⟨rfl, hb⟩; replace hbn := Lib.hid (kept_row hbn.out hb); replace hb2 := Lib.hid (kept_row hb2.out hb); obtain ⟨x0, x1, x2, x3, x4, x5, x6, x7, x8⟩ := c9 hb2.out; replace hqr := Lib.hid (Bel.step hqr.out hb); have hq5 := Lib.hid (Bel.step hq4.out hb); clear hb hq4) | (go_at_call 19; clear x0 x1 x2 x3 x4 x5 x6 x7 x8; (with_reducible refine (cR.out _ hqr.out).2.2.mono ?_); rintro e w5 ⟨rfl, hb⟩; have hq6 := Lib.hid (Bel.step hq5.out hb); clear hb hq5))
  go_ret
  exact ⟨rfl, hq6.out⟩
end Go.Proofs.YtaebhbcamhmhoaaDoor
