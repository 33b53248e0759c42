/- SizesJoin, one way. -/
import Derived.Deep.RegionHeld3
import Derived.Deep.RegionLaw
import Derived.Test.YtaebhbcamhmhoaaDoorS9W15
namespace Go.Proofs.YtaebhbcamhmhoaaDoor
open Go.RowKit
open Go.Tree7
open S7
open S5 (nl nl_length nl_small at_nl nl_at Gives idx idx_at ix ix_no ix_yes)
set_option maxRecDepth 100000 in
set_option maxHeartbeats 8000000 in
theorem join_lnv {a b : T} (w : World) (hTa : T.In w w.heap.size a) (hTb : T.In w w.heap.size b) (cA9 : ∀ w', Bel w w' → Calls Tryd.prog 6 #[] w' fun e w'' => e = .returned (.bool true) ∧ Below w'.heap.size w' w'')
    (hV : void_holds) (hN : nullable_holds) (hW : weight_holds) (hLe : least_holds) (hMo : most_holds) (hF : first_holds) (h2 : ¬ 200 ≤ a.size) (h3 : ¬ 200 ≤ b.size) (hR : rightB (.mk 2 0 0 0 0 none 0 0 0 ⟨#[]⟩ [a.strip, b.strip]) = true) (hR' : rightB (.mk 3 0 0 0 0 none 0 0 0 ⟨#[]⟩ [a.strip, b.strip]) = true)
    (hva : voidT a = false) (hna : nullT a = true) (hvb : voidT b = true) :
    Calls Tryd.prog 4 #[.agg a.cells.toArray, .agg b.cells.toArray] w fun e w' => e = .returned (.bool true) ∧ Below w.heap.size w w' := by
  have hq0 : Bel w ((w.alloc (.cells a.cells.toArray 27)).alloc (.cells b.cells.toArray 27)) := Bel.alloc (Bel.new _ _) _
  have cA := Lib.hid (cA9 _ hq0)
  have hba := Lib.hid (kept_alloc9 (World.alloc_heap_new w (.cells a.cells.toArray 27)) (.cells b.cells.toArray 27))
  have hbb := Lib.hid (show ((w.alloc (.cells a.cells.toArray 27)).alloc (.cells b.cells.toArray 27)).heap[w.heap.size + 1]? = some (.cells b.cells.toArray 27 (0, 0)) by have := World.alloc_heap_new (w.alloc (.cells a.cells.toArray 27)) (.cells b.cells.toArray 27); rwa [World.size_alloc] at this)
  replace hq0 := Lib.hid hq0
  clear cA9
  have cOa := Lib.hid (of_room hTa (n := 200) (c := 200) (by decide) rfl (by omega))
  have cOb := Lib.hid (of_room hTb (n := 200) (c := 200) (by decide) rfl (by omega))
  have hRc : ∀ rb : Nat, rightB (.mk 2 0 0 0 0 (some ⟨rb, 0, none⟩) 2 0 0 ⟨#[]⟩ [a, b]) = true := fun rb => by rw [← right_strip, T.strip_mk]; exact hR
  have hRd : ∀ rb : Nat, rightB (.mk 3 0 0 0 0 (some ⟨rb, 0, none⟩) 2 0 0 ⟨#[]⟩ [a, b]) = true := fun rb => by rw [← right_strip, T.strip_mk]; exact hR'
  have h1a : rightB a = true := right_kid (hRc 0) (by simp)
  have h1b : rightB b = true := right_kid (hRc 0) (by simp)
  have ala := (right_all ((rightB_iff _).1 h1a)).1
  have alb := (right_all ((rightB_iff _).1 h1b)).1
  have b1 := weight_within ala
  have b2 := weight_within alb
  have b3 := most_within ala
  have b4 := most_within alb
  have cC := fun (W : World) (r1 r2 : Nat) (h : Bel w W) (h1 : W.heap[r1]? = some (.cells (a.cells ++ b.cells).toArray 27 (0, 0))) (h2 : W.heap[r2]? = some (.cells (a.cells ++ b.cells).toArray 27 (0, 0))) => join_calls hV hN hW hLe hMo hF (two_in (k := 2) hTa hTb h h1 (by decide)) (two_in (k := 3) hTa hTb h h2 (by decide)) (in_bel hTa h) (in_bel hTb h) (hRc r1) (hRd r2) rfl rfl
  have cOr := fun w => S1.or_in (firstR false a) (firstR false b) w
  rw [hva, hna, hvb] at cC
  simp only [Bool.true_or, Bool.false_or, Bool.true_and, Bool.false_and] at cC
  generalize firstR false a = F at *
  generalize firstR false b = G at *
  generalize nullT b = nb at *
  generalize weightT a = Wa at *
  generalize weightT b = Wb at *
  generalize leastT a = La at *
  generalize leastT b = Lb at *
  generalize mostT a = Ma at *
  generalize mostT b = Mb at *
  have he0 := fun w => same4 (S1.wd (S1.orS F G) 0) (S1.wd (S1.orS F G) 1) (S1.wd (S1.orS F G) 2) (S1.wd (S1.orS F G) 3) w
  have k1 : IntKind.i64.wrap (1 + Wa) = 1 + Wa := IntWalk.i64_in _ ⟨by omega, by omega⟩
  have k2 : IntKind.i64.wrap (1 + Wa + Wb) = 1 + Wa + Wb := IntWalk.i64_in _ ⟨by omega, by omega⟩
  obtain ⟨Q, hQ⟩ : ∃ Q, (if 1048576 < 1 + Wa + Wb then 1048576 else 1 + Wa + Wb) = Q := ⟨_, rfl⟩
  have mQ : min (1 + Wa + Wb) 1048576 = Q := by rw [← hQ]; split <;> omega
  obtain ⟨Q2, hQ2⟩ : ∃ Q2, (if 1048576 < La + Lb then 1048576 else La + Lb) = Q2 := ⟨_, rfl⟩
  have mQ2 : min (La + Lb) 1048576 = Q2 := by rw [← hQ2]; split <;> omega
  obtain ⟨Q3, hQ3⟩ : ∃ Q3, (if Lb < La then Lb else La) = Q3 := ⟨_, rfl⟩
  have mQ3 : min La Lb = Q3 := by rw [← hQ3]; split <;> omega
  obtain ⟨Q4, hQ4⟩ : ∃ Q4, (if Ma < Mb then Mb else Ma) = Q4 := ⟨_, rfl⟩
  have mQ4 : max Ma Mb = Q4 := by rw [← hQ4]; split <;> omega
  rw [mQ, mQ2, mQ3, mQ4] at cC
  clear mQ mQ2 mQ3 mQ4
  replace cC := Lib.hid cC
  replace cOr := Lib.hid cOr
  have b3' := b3.1
  have b3'' := b3.2
  have b4' := b4.1
  have b4'' := b4.2
  generalize a.strip = sa at *
  generalize b.strip = sb at *
  clear hTa hTb h2 h3 hRc hRd hR hR' h1a h1b ala alb b3 b4 hva hna hvb hV hN hW hLe hMo hF
  obtain ⟨k, u0, u1, u2, u3, p, cap, mn, mx, tx, ks⟩ := a
  obtain ⟨kb, u0b, u1b, u2b, u3b, pb, capb, mnb, mxb, txb, ksb⟩ := b
  simp only [T.cells, List.cons_append, List.nil_append] at *
  go_enter Tryd.func4, Tryd.ntmps4
  go_wp2_with (first | (go_at_call 6; (with_reducible refine cA.out.mono ?_); rintro e w1 ⟨rfl, hb⟩; replace hba := Lib.hid (kept_row hba.out hb); replace hbb := Lib.hid (kept_row hbb.out hb); have hl1 := lt_box hbb.out; have hl0 : w.heap.size < w1.heap.size := (by omega); obtain ⟨n0, n1, n2, n3, n4, n5, n6, n7, n8⟩ := c9 hba.out; obtain ⟨x0, x1, x2, x3, x4, x5, x6, x7, x8⟩ := c9 hbb.out; have hq1 := Lib.hid (Bel.step hq0.out hb); clear hb) | (go_at_call 7; (with_reducible refine (cOb.out _ hq2.out).mono ?_); rintro e w3 ⟨⟨kk, u0k, u1k, u2k, u3k, pk, capk, mnk, mxk, txk, ksk⟩, d2, hd2, rfl, hb, -, -⟩; simp only; clear n0 x0 n1 x1 n2 x2 n3 x3 n4 x4 n5 x5 n6 x6 n7 x7 n8 x8; replace hba := Lib.hid (kept_row hba.out hb); replace hbb := Lib.hid (kept_row hbb.out hb); have hl1'' := lt_box hbb.out; have hl0'' : w.heap.size < w3.heap.size := (by omega); have hl0a : w.heap.size < w3.heap.size + 1 := (by omega); have hl0b : w.heap.size < w3.heap.size + 1 + 1 := (by omega); have hl1a : w.heap.size + 1 < w3.heap.size + 1 := (by omega); have hl1b : w.heap.size + 1 < w3.heap.size + 1 + 1 := (by omega); obtain ⟨n0, n1, n2, n3, n4, n5, n6, n7, n8⟩ := c9 hba.out; obtain ⟨x0, x1, x2, x3, x4, x5, x6, x7, x8⟩ := c9 hbb.out; have gd2 : decide (d2 ≤ 0) = false := (by rw [decide_eq_false_iff_not]; omega); obtain ⟨WQ, hWQ, h1r, hbc, h2r, hbd, hbl⟩ := five_new w3 #[.int .i64 kk, .int .u64 u0k, .int .u64 u1k, .int .u64 u2k, .int .u64 u3k, .slice pk ksk.length capk, .int .i64 mnk, .int .i64 mxk, .string txk] #[.int .i64 k, .int .u64 u0, .int .u64 u1, .int .u64 u2, .int .u64 u3, .slice p ks.length cap, .int .i64 mn, .int .i64 mx, .string tx, .int .i64 kb, .int .u64 u0b, .int .u64 u1b, .int .u64 u2b, .int .u64 u3b, .slice pb ksb.length capb, .int .i64 mnb, .int .i64 mxb, .string txb] #[.int .i64 2, .int .u64 0, .int .u64 0, .int .u64 0, .int .u64 0, .slice (some ⟨w3.heap.size + 1, 0, none⟩) 2 2, .int .i64 0, .int .i64 0, .string ⟨#[]⟩] #[.int .i64 k, .int .u64 u0, .int .u64 u1, .int .u64 u2, .int .u64 u3, .slice p ks.length cap, .int .i64 mn, .int .i64 mx, .string tx, .int .i64 kb, .int .u64 u0b, .int .u64 u1b, .int .u64 u2b, .int .u64 u3b, .slice pb ksb.length capb, .int .i64 mnb, .int .i64 mxb, .string txb] #[.int .i64 3, .int .u64 0, .int .u64 0, .int .u64 0, .int .u64 0, .slice (some ⟨w3.heap.size + 1 + 1 + 1, 0, none⟩) 2 2, .int .i64 0, .int .i64 0, .string ⟨#[]⟩] 31 27 27 27 27; replace hba := Lib.hid (kept_row hba.out hbl); replace hbb := Lib.hid (kept_row hbb.out hbl); have hqW := Lib.hid (Bel.step (Bel.step hq2.out hb) hbl); have cR := cC.out WQ (w3.heap.size + 1) (w3.heap.size + 1 + 1 + 1) (Bel.step (Bel.step hq2.out hb) hbl) h1r h2r; (try simp only [List.length_cons, List.length_nil, Nat.zero_add, Nat.reduceAdd] at cR); replace cR := Lib.hid cR; replace hbc := Lib.hid hbc; replace hbd := Lib.hid hbd; replace hWQ := Lib.hid hWQ; clear hb hbl hd2 hq2 h1r h2r) | (go_at_call 7; (with_reducible refine (cOa.out _ hq1.out).mono ?_); rintro e w2 ⟨⟨km, u0m, u1m, u2m, u3m, pm, capm, mnm, mxm, txm, ksm⟩, d, hd, rfl, hb, -, -⟩; simp only; clear n0 x0 n1 x1 n2 x2 n3 x3 n4 x4 n5 x5 n6 x6 n7 x7 n8 x8; replace hba := Lib.hid (kept_row hba.out hb); replace hbb := Lib.hid (kept_row hbb.out hb); have hl1' := lt_box hbb.out; have hl0' : w.heap.size < w2.heap.size := (by omega); obtain ⟨n0, n1, n2, n3, n4, n5, n6, n7, n8⟩ := c9 hba.out; obtain ⟨x0, x1, x2, x3, x4, x5, x6, x7, x8⟩ := c9 hbb.out; have gd : decide (d ≤ 0) = false := (by rw [decide_eq_false_iff_not]; omega); have hq2 := Lib.hid (Bel.alloc (Bel.step hq1.out hb) (.cells #[.int .i64 km, .int .u64 u0m, .int .u64 u1m, .int .u64 u2m, .int .u64 u3m, .slice pm ksm.length capm, .int .i64 mnm, .int .i64 mxm, .string txm] 31)); replace hba := Lib.hid (kept_alloc9 hba.out (.cells #[.int .i64 km, .int .u64 u0m, .int .u64 u1m, .int .u64 u2m, .int .u64 u3m, .slice pm ksm.length capm, .int .i64 mnm, .int .i64 mxm, .string txm] 31)); replace hbb := Lib.hid (kept_alloc9 hbb.out (.cells #[.int .i64 km, .int .u64 u0m, .int .u64 u1m, .int .u64 u2m, .int .u64 u3m, .slice pm ksm.length capm, .int .i64 mnm, .int .i64 mxm, .string txm] 31)); clear hb hq1 hd) | (go_at_call 15; clear n0 x0 y0 z0 n1 x1 y1 z1 n2 x2 y2 z2 n3 x3 y3 z3 n4 x4 y4 z4 n5 x5 y5 z5 n6 x6 y6 z6 n7 x7 y7 z7 n8 x8 y8 z8; (with_reducible refine (cR.out _ hqr.out).2.1.mono ?_); rintro e w9 ⟨rfl, hb⟩; replace hba := Lib.hid (kept_row hba.out hb); replace hbb := Lib.hid (kept_row hbb.out hb); replace hbc := Lib.hid (kept_row hbc.out hb); replace hbd := Lib.hid (kept_row hbd.out hb); obtain ⟨n0, n1, n2, n3, n4, n5, n6, n7, n8⟩ := c9 hba.out; obtain ⟨x0, x1, x2, x3, x4, x5, x6, x7, x8⟩ := c9 hbb.out; obtain ⟨y0, y1, y2, y3, y4, y5, y6, y7, y8⟩ := c9 hbc.out; obtain ⟨z0, z1, z2, z3, z4, z5, z6, z7, z8⟩ := c9 hbd.out; replace hqr := Lib.hid (Bel.step hqr.out hb); replace hq4 := Lib.hid (Bel.step hq4.out hb); clear hb) | (go_at_call 15; (try rw [hWQ.out]); (try clear hWQ); (first | clear n0 n1 n2 n3 n4 n5 n6 n7 n8 x0 x1 x2 x3 x4 x5 x6 x7 x8 | skip); (with_reducible refine (cR.out _ (Bel.refl _)).1.mono ?_); rintro e w4 ⟨rfl, hb⟩; replace hba := Lib.hid (kept_row hba.out hb); replace hbb := Lib.hid (kept_row hbb.out hb); replace hbc := Lib.hid (kept_row hbc.out hb); replace hbd := Lib.hid (kept_row hbd.out hb); obtain ⟨n0, n1, n2, n3, n4, n5, n6, n7, n8⟩ := c9 hba.out; obtain ⟨x0, x1, x2, x3, x4, x5, x6, x7, x8⟩ := c9 hbb.out; obtain ⟨y0, y1, y2, y3, y4, y5, y6, y7, y8⟩ := c9 hbc.out; obtain ⟨z0, z1, z2, z3, z4, z5, z6, z7, z8⟩ := c9 hbd.out; have hqr := Lib.hid (show Bel WQ w4 from hb); have hq4 := Lib.hid (Bel.step hqW.out hb); clear hb hqW))
  have hS9 : (fun W : World => W.heap[w.heap.size]? = some (.cells #[.int .i64 k, .int .u64 u0, .int .u64 u1, .int .u64 u2, .int .u64 u3, .slice p ks.length cap, .int .i64 mn, .int .i64 mx, .string tx] 27) ∧ W.heap[w.heap.size + 1]? = some (.cells #[.int .i64 kb, .int .u64 u0b, .int .u64 u1b, .int .u64 u2b, .int .u64 u3b, .slice pb ksb.length capb, .int .i64 mnb, .int .i64 mxb, .string txb] 27) ∧ W.heap[w3.heap.size + 1 + 1]? = some (.cells #[.int .i64 2, .int .u64 0, .int .u64 0, .int .u64 0, .int .u64 0, .slice (some ⟨w3.heap.size + 1, 0, none⟩) 2 2, .int .i64 0, .int .i64 0, .string ⟨#[]⟩] 27) ∧ W.heap[w3.heap.size + 1 + 1 + 1 + 1]? = some (.cells #[.int .i64 3, .int .u64 0, .int .u64 0, .int .u64 0, .int .u64 0, .slice (some ⟨w3.heap.size + 1 + 1 + 1, 0, none⟩) 2 2, .int .i64 0, .int .i64 0, .string ⟨#[]⟩] 27)) w9.drew := ⟨hba.out, hbb.out, hbc.out, hbd.out⟩
  replace hqr := Lib.hid (show Bel WQ w9.drew from Below.trans hqr.out (Below.refl _ _).drew)
  replace hq4 := Lib.hid (show Bel w w9.drew from Below.trans hq4.out (Below.refl _ _).drew)
  clear hba hbb hbc hbd
  clear n0 x0 y0 z0 n1 x1 y1 z1 n2 x2 y2 z2 n3 x3 y3 z3 n4 x4 y4 z4 n5 x5 y5 z5 n6 x6 y6 z6 n7 x7 y7 z7 n8 x8 y8 z8
  refine wp_region_held_drew (S := fun W => W.heap[w.heap.size]? = some (.cells #[.int .i64 k, .int .u64 u0, .int .u64 u1, .int .u64 u2, .int .u64 u3, .slice p ks.length cap, .int .i64 mn, .int .i64 mx, .string tx] 27) ∧ W.heap[w.heap.size + 1]? = some (.cells #[.int .i64 kb, .int .u64 u0b, .int .u64 u1b, .int .u64 u2b, .int .u64 u3b, .slice pb ksb.length capb, .int .i64 mnb, .int .i64 mxb, .string txb] 27) ∧ W.heap[w3.heap.size + 1 + 1]? = some (.cells #[.int .i64 2, .int .u64 0, .int .u64 0, .int .u64 0, .int .u64 0, .slice (some ⟨w3.heap.size + 1, 0, none⟩) 2 2, .int .i64 0, .int .i64 0, .string ⟨#[]⟩] 27) ∧ W.heap[w3.heap.size + 1 + 1 + 1 + 1]? = some (.cells #[.int .i64 3, .int .u64 0, .int .u64 0, .int .u64 0, .int .u64 0, .slice (some ⟨w3.heap.size + 1 + 1 + 1, 0, none⟩) 2 2, .int .i64 0, .int .i64 0, .string ⟨#[]⟩] 27)) (by kernel_rfl) hS9 (fun hHeld => ?_)
  clear hS9
  generalize w9.drew = wd at *
  refine wpAnyH_take (i := 0) (v := ?v0u213) rfl (by kernel_rfl) (by kernel_rfl) (by kernel_rfl) (fun _ _ _ h => h) (Or.inl ⟨by rfl, ?h0u213⟩) hHeld ?r0u213
  case h0u213 => (intro wq hSw; obtain ⟨q0, q1, q2, q3, q4, q5, q6, q7, q8⟩ := c9 hSw.2.2.1; go_simp <;> with_reducible rfl)
  try simp only [Go.Last.pt]
  refine wpAnyH_take (i := 2) (v := ?v2u214) rfl (by kernel_rfl) (by kernel_rfl) (by kernel_rfl) (fun _ _ _ h => h) (Or.inl ⟨by rfl, ?h2u214⟩) hHeld ?r2u214
  case h2u214 => (intro wq hSw; obtain ⟨q0, q1, q2, q3, q4, q5, q6, q7, q8⟩ := c9 hSw.1; go_simp <;> with_reducible rfl)
  try simp only [Go.Last.pt]
  refine Go.Last.held 1 (by kernel_rfl) rfl (fun K hK => ?_)
  go_simp
  (first | (go_at_call 16; (first | (with_reducible refine (cR.out _ hqr.out).2.2.1.mono ?_) | (with_reducible refine (cR.out _ hqr.out).2.2.2.1.mono ?_) | (with_reducible refine (cR.out _ hqr.out).2.2.2.2.1.mono ?_) | (with_reducible refine (cR.out _ hqr.out).2.2.2.2.2.1.mono ?_)); rintro e w9 ⟨rfl, hb⟩; replace hqr := Lib.hid (Bel.step hqr.out hb); replace hq4 := Lib.hid (Bel.step hq4.out hb)) | skip)
  try dsimp only
  refine hK.out _ _ (by first | exact ⟨kept_row hHeld.1 hb, kept_row hHeld.2.1 hb, kept_row hHeld.2.2.1 hb, kept_row hHeld.2.2.2 hb⟩ | exact hHeld) (fun hHeld2 => ?_)
  clear hK K hHeld
  have hHeld := hHeld2
  clear hHeld2
  try simp only [Go.Last.pt]
  refine Go.Last.held 3 (by kernel_rfl) rfl (fun K hK => ?_)
  go_simp
  (first | (go_at_call 16; (first | (with_reducible refine (cR.out _ hqr.out).2.2.1.mono ?_) | (with_reducible refine (cR.out _ hqr.out).2.2.2.1.mono ?_) | (with_reducible refine (cR.out _ hqr.out).2.2.2.2.1.mono ?_) | (with_reducible refine (cR.out _ hqr.out).2.2.2.2.2.1.mono ?_)); rintro e w9 ⟨rfl, hb⟩; replace hqr := Lib.hid (Bel.step hqr.out hb); replace hq4 := Lib.hid (Bel.step hq4.out hb)) | skip)
  try dsimp only
  refine hK.out _ _ (by first | exact ⟨kept_row hHeld.1 hb, kept_row hHeld.2.1 hb, kept_row hHeld.2.2.1 hb, kept_row hHeld.2.2.2 hb⟩ | exact hHeld) (fun hHeld2 => ?_)
  clear hK K hHeld
  have hHeld := hHeld2
  clear hHeld2
  try simp only [Go.Last.pt]
  refine Go.Last.held 4 (by kernel_rfl) rfl (fun K hK => ?_)
  go_simp
  try dsimp only
  refine hK.out _ _ (hHeld) (fun hHeld2 => ?_)
  clear hK K hHeld
  have hHeld := hHeld2
  clear hHeld2
  try simp only [Go.Last.pt]
  refine wpAnyH_take (i := 5) (v := ?v5u215) rfl (by kernel_rfl) (by kernel_rfl) (by kernel_rfl) (fun _ _ _ h => h) (Or.inl ⟨by rfl, ?h5u215⟩) hHeld ?r5u215
  case h5u215 => (intro wq hSw; obtain ⟨q0, q1, q2, q3, q4, q5, q6, q7, q8⟩ := c9 hSw.2.1; go_simp <;> with_reducible rfl)
  try simp only [Go.Last.pt]
  refine Go.Last.held 6 (by kernel_rfl) rfl (fun K hK => ?_)
  go_simp
  (first | (go_at_call 16; (first | (with_reducible refine (cR.out _ hqr.out).2.2.1.mono ?_) | (with_reducible refine (cR.out _ hqr.out).2.2.2.1.mono ?_) | (with_reducible refine (cR.out _ hqr.out).2.2.2.2.1.mono ?_) | (with_reducible refine (cR.out _ hqr.out).2.2.2.2.2.1.mono ?_)); rintro e w9 ⟨rfl, hb⟩; replace hqr := Lib.hid (Bel.step hqr.out hb); replace hq4 := Lib.hid (Bel.step hq4.out hb)) | skip)
  try dsimp only
  refine hK.out _ _ (by first | exact ⟨kept_row hHeld.1 hb, kept_row hHeld.2.1 hb, kept_row hHeld.2.2.1 hb, kept_row hHeld.2.2.2 hb⟩ | exact hHeld) (fun hHeld2 => ?_)
  clear hK K hHeld
  have hHeld := hHeld2
  clear hHeld2
  try simp only [Go.Last.pt]
  refine Go.Last.held 7 (by kernel_rfl) rfl (fun K hK => ?_)
  go_simp
  try dsimp only
  refine hK.out _ _ (hHeld) (fun hHeld2 => ?_)
  clear hK K hHeld
  have hHeld := hHeld2
  clear hHeld2
  try simp only [Go.Last.pt]
  refine Go.Last.held 8 (by kernel_rfl) rfl (fun K hK => ?_)
  go_simp
  try dsimp only
  refine hK.out _ _ (hHeld) (fun hHeld2 => ?_)
  clear hK K hHeld
  have hHeld := hHeld2
  clear hHeld2
  try simp only [Go.Last.pt]
  refine Go.Last.held 9 (by kernel_rfl) rfl (fun K hK => ?_)
  go_simp
  try dsimp only
  refine hK.out _ _ (hHeld) (fun hHeld2 => ?_)
  clear hK K hHeld
  have hHeld := hHeld2
  clear hHeld2
  try simp only [Go.Last.pt]
  refine wpAnyH_take (i := 10) (v := ?v10u216) rfl (by kernel_rfl) (by kernel_rfl) (by kernel_rfl) (fun _ _ _ h => h) (Or.inl ⟨by rfl, ?h10u216⟩) hHeld ?r10u216
  case h10u216 => (intro wq hSw; obtain ⟨q0, q1, q2, q3, q4, q5, q6, q7, q8⟩ := c9 hSw.2.2.2; go_simp <;> with_reducible rfl)
  try simp only [Go.Last.pt]
  refine wpAnyH_take (i := 12) (v := ?v12u217) rfl (by kernel_rfl) (by kernel_rfl) (by kernel_rfl) (fun _ _ _ h => h) (Or.inl ⟨by rfl, ?h12u217⟩) hHeld ?r12u217
  case h12u217 => (intro wq hSw; obtain ⟨q0, q1, q2, q3, q4, q5, q6, q7, q8⟩ := c9 hSw.1; go_simp <;> with_reducible rfl)
  try simp only [Go.Last.pt]
  refine Go.Last.held 11 (by kernel_rfl) rfl (fun K hK => ?_)
  go_simp
  (first | (go_at_call 16; (first | (with_reducible refine (cR.out _ hqr.out).2.2.1.mono ?_) | (with_reducible refine (cR.out _ hqr.out).2.2.2.1.mono ?_) | (with_reducible refine (cR.out _ hqr.out).2.2.2.2.1.mono ?_) | (with_reducible refine (cR.out _ hqr.out).2.2.2.2.2.1.mono ?_)); rintro e w9 ⟨rfl, hb⟩; replace hqr := Lib.hid (Bel.step hqr.out hb); replace hq4 := Lib.hid (Bel.step hq4.out hb)) | skip)
  try dsimp only
  refine hK.out _ _ (by first | exact ⟨kept_row hHeld.1 hb, kept_row hHeld.2.1 hb, kept_row hHeld.2.2.1 hb, kept_row hHeld.2.2.2 hb⟩ | exact hHeld) (fun hHeld2 => ?_)
  clear hK K hHeld
  have hHeld := hHeld2
  clear hHeld2
  try simp only [Go.Last.pt]
  refine Go.Last.held 13 (by kernel_rfl) rfl (fun K hK => ?_)
  go_simp
  (first | (go_at_call 16; (first | (with_reducible refine (cR.out _ hqr.out).2.2.1.mono ?_) | (with_reducible refine (cR.out _ hqr.out).2.2.2.1.mono ?_) | (with_reducible refine (cR.out _ hqr.out).2.2.2.2.1.mono ?_) | (with_reducible refine (cR.out _ hqr.out).2.2.2.2.2.1.mono ?_)); rintro e w9 ⟨rfl, hb⟩; replace hqr := Lib.hid (Bel.step hqr.out hb); replace hq4 := Lib.hid (Bel.step hq4.out hb)) | skip)
  try dsimp only
  refine hK.out _ _ (by first | exact ⟨kept_row hHeld.1 hb, kept_row hHeld.2.1 hb, kept_row hHeld.2.2.1 hb, kept_row hHeld.2.2.2 hb⟩ | exact hHeld) (fun hHeld2 => ?_)
  clear hK K hHeld
  have hHeld := hHeld2
  clear hHeld2
  try simp only [Go.Last.pt]
  refine Go.Last.held 14 (by kernel_rfl) rfl (fun K hK => ?_)
  go_simp
  try dsimp only
  refine hK.out _ _ (hHeld) (fun hHeld2 => ?_)
  clear hK K hHeld
  have hHeld := hHeld2
  clear hHeld2
  try simp only [Go.Last.pt]
  refine Go.Last.held 15 (by kernel_rfl) rfl (fun K hK => ?_)
  go_simp
  try dsimp only
  refine hK.out _ _ (hHeld) (fun hHeld2 => ?_)
  clear hK K hHeld
  have hHeld := hHeld2
  clear hHeld2
  try simp only [Go.Last.pt]
  refine Go.Last.held 16 (by kernel_rfl) rfl (fun K hK => ?_)
  go_simp
  (first | (go_at_call 16; (first | (with_reducible refine (cR.out _ hqr.out).2.2.1.mono ?_) | (with_reducible refine (cR.out _ hqr.out).2.2.2.1.mono ?_) | (with_reducible refine (cR.out _ hqr.out).2.2.2.2.1.mono ?_) | (with_reducible refine (cR.out _ hqr.out).2.2.2.2.2.1.mono ?_)); rintro e w9 ⟨rfl, hb⟩; replace hqr := Lib.hid (Bel.step hqr.out hb); replace hq4 := Lib.hid (Bel.step hq4.out hb)) | skip)
  try dsimp only
  refine hK.out _ _ (by first | exact ⟨kept_row hHeld.1 hb, kept_row hHeld.2.1 hb, kept_row hHeld.2.2.1 hb, kept_row hHeld.2.2.2 hb⟩ | exact hHeld) (fun hHeld2 => ?_)
  clear hK K hHeld
  have hHeld := hHeld2
  clear hHeld2
  try simp only [Go.Last.pt]
  refine Go.Last.held 17 (by kernel_rfl) rfl (fun K hK => ?_)
  go_simp
  try dsimp only
  refine hK.out _ _ (hHeld) (fun hHeld2 => ?_)
  clear hK K hHeld
  have hHeld := hHeld2
  clear hHeld2
  try simp only [Go.Last.pt]
  refine Go.Last.held 18 (by kernel_rfl) rfl (fun K hK => ?_)
  go_simp
  try dsimp only
  refine hK.out _ _ (hHeld) (fun hHeld2 => ?_)
  clear hK K hHeld
  have hHeld := hHeld2
  clear hHeld2
  try simp only [Go.Last.pt]
  refine Go.Last.held 19 (by kernel_rfl) rfl (fun K hK => ?_)
  go_simp
  try dsimp only
  refine hK.out _ _ (hHeld) (fun hHeld2 => ?_)
  clear hK K hHeld
  have hHeld := hHeld2
  clear hHeld2
  try simp only [Go.Last.pt]
  refine Go.Last.held 20 (by kernel_rfl) rfl (fun K hK => ?_)
  go_simp
  try dsimp only
  refine hK.out _ _ (hHeld) (fun hHeld2 => ?_)
  clear hK K hHeld
  have hHeld := hHeld2
  clear hHeld2
  try simp only [Go.Last.pt]
  refine wpAnyH_take (i := 21) (v := ?v21u218) rfl (by kernel_rfl) (by kernel_rfl) (by kernel_rfl) (fun _ _ _ h => h) (Or.inl ⟨by rfl, ?h21u218⟩) hHeld ?r21u218
  case h21u218 => (intro wq hSw; obtain ⟨q0, q1, q2, q3, q4, q5, q6, q7, q8⟩ := c9 hSw.2.2.1; go_simp <;> with_reducible rfl)
  try simp only [Go.Last.pt]
  refine wpAnyH_take (i := 23) (v := ?v23u219) rfl (by kernel_rfl) (by kernel_rfl) (by kernel_rfl) (fun _ _ _ h => h) (Or.inl ⟨by rfl, ?h23u219⟩) hHeld ?r23u219
  case h23u219 => (intro wq hSw; obtain ⟨q0, q1, q2, q3, q4, q5, q6, q7, q8⟩ := c9 hSw.1; go_simp <;> with_reducible rfl)
  try simp only [Go.Last.pt]
  refine Go.Last.held 22 (by kernel_rfl) rfl (fun K hK => ?_)
  go_simp
  (first | (go_at_call 17; (first | (with_reducible refine (cR.out _ hqr.out).2.2.2.2.2.2.1.mono ?_) | (with_reducible refine (cR.out _ hqr.out).2.2.2.2.2.2.2.1.mono ?_) | (with_reducible refine (cR.out _ hqr.out).2.2.2.2.2.2.2.2.1.mono ?_) | (with_reducible refine (cR.out _ hqr.out).2.2.2.2.2.2.2.2.2.1.mono ?_)); rintro e w9 ⟨rfl, hb⟩; replace hqr := Lib.hid (Bel.step hqr.out hb); replace hq4 := Lib.hid (Bel.step hq4.out hb)) | skip)
  try dsimp only
  refine hK.out _ _ (by first | exact ⟨kept_row hHeld.1 hb, kept_row hHeld.2.1 hb, kept_row hHeld.2.2.1 hb, kept_row hHeld.2.2.2 hb⟩ | exact hHeld) (fun hHeld2 => ?_)
  clear hK K hHeld
  have hHeld := hHeld2
  clear hHeld2
  try simp only [Go.Last.pt]
  refine Go.Last.held 24 (by kernel_rfl) rfl (fun K hK => ?_)
  go_simp
  (first | (go_at_call 17; (first | (with_reducible refine (cR.out _ hqr.out).2.2.2.2.2.2.1.mono ?_) | (with_reducible refine (cR.out _ hqr.out).2.2.2.2.2.2.2.1.mono ?_) | (with_reducible refine (cR.out _ hqr.out).2.2.2.2.2.2.2.2.1.mono ?_) | (with_reducible refine (cR.out _ hqr.out).2.2.2.2.2.2.2.2.2.1.mono ?_)); rintro e w9 ⟨rfl, hb⟩; replace hqr := Lib.hid (Bel.step hqr.out hb); replace hq4 := Lib.hid (Bel.step hq4.out hb)) | skip)
  try dsimp only
  refine hK.out _ _ (by first | exact ⟨kept_row hHeld.1 hb, kept_row hHeld.2.1 hb, kept_row hHeld.2.2.1 hb, kept_row hHeld.2.2.2 hb⟩ | exact hHeld) (fun hHeld2 => ?_)
  clear hK K hHeld
  have hHeld := hHeld2
  clear hHeld2
  try simp only [Go.Last.pt]
  refine Go.Last.held 25 (by kernel_rfl) rfl (fun K hK => ?_)
  go_simp
  try dsimp only
  refine hK.out _ _ (hHeld) (fun hHeld2 => ?_)
  clear hK K hHeld
  have hHeld := hHeld2
  clear hHeld2
  try simp only [Go.Last.pt]
  refine wpAnyH_take (i := 26) (v := ?v26u220) rfl (by kernel_rfl) (by kernel_rfl) (by kernel_rfl) (fun _ _ _ h => h) (Or.inl ⟨by rfl, ?h26u220⟩) hHeld ?r26u220
  case h26u220 => (intro wq hSw; obtain ⟨q0, q1, q2, q3, q4, q5, q6, q7, q8⟩ := c9 hSw.2.1; go_simp <;> with_reducible rfl)
  try simp only [Go.Last.pt]
  refine Go.Last.held 27 (by kernel_rfl) rfl (fun K hK => ?_)
  go_simp
  (first | (go_at_call 17; (first | (with_reducible refine (cR.out _ hqr.out).2.2.2.2.2.2.1.mono ?_) | (with_reducible refine (cR.out _ hqr.out).2.2.2.2.2.2.2.1.mono ?_) | (with_reducible refine (cR.out _ hqr.out).2.2.2.2.2.2.2.2.1.mono ?_) | (with_reducible refine (cR.out _ hqr.out).2.2.2.2.2.2.2.2.2.1.mono ?_)); rintro e w9 ⟨rfl, hb⟩; replace hqr := Lib.hid (Bel.step hqr.out hb); replace hq4 := Lib.hid (Bel.step hq4.out hb)) | skip)
  try dsimp only
  refine hK.out _ _ (by first | exact ⟨kept_row hHeld.1 hb, kept_row hHeld.2.1 hb, kept_row hHeld.2.2.1 hb, kept_row hHeld.2.2.2 hb⟩ | exact hHeld) (fun hHeld2 => ?_)
  clear hK K hHeld
  have hHeld := hHeld2
  clear hHeld2
  try simp only [Go.Last.pt]
  refine Go.Last.held 28 (by kernel_rfl) rfl (fun K hK => ?_)
  go_simp
  try dsimp only
  refine hK.out _ _ (hHeld) (fun hHeld2 => ?_)
  clear hK K hHeld
  have hHeld := hHeld2
  clear hHeld2
  try simp only [Go.Last.pt]
  refine Go.Last.held 29 (by kernel_rfl) rfl (fun K hK => ?_)
  go_simp
  try dsimp only
  refine hK.out _ _ (hHeld) (fun hHeld2 => ?_)
  clear hK K hHeld
  have hHeld := hHeld2
  clear hHeld2
  try simp only [Go.Last.pt]
  refine Go.Last.held 30 (by kernel_rfl) rfl (fun K hK => ?_)
  go_simp
  try dsimp only
  refine hK.out _ _ (hHeld) (fun hHeld2 => ?_)
  clear hK K hHeld
  have hHeld := hHeld2
  clear hHeld2
  try simp only [Go.Last.pt]
  refine Go.Last.held 31 (by kernel_rfl) rfl (fun K hK => ?_)
  go_simp
  try dsimp only
  refine hK.out _ _ (hHeld) (fun hHeld2 => ?_)
  clear hK K hHeld
  have hHeld := hHeld2
  clear hHeld2
  try simp only [Go.Last.pt]
  refine wpAnyH_take (i := 32) (v := ?v32u221) rfl (by kernel_rfl) (by kernel_rfl) (by kernel_rfl) (fun _ _ _ h => h) (Or.inl ⟨by rfl, ?h32u221⟩) hHeld ?r32u221
  case h32u221 => (intro wq hSw; obtain ⟨q0, q1, q2, q3, q4, q5, q6, q7, q8⟩ := c9 hSw.2.2.2; go_simp <;> with_reducible rfl)
  try simp only [Go.Last.pt]
  refine wpAnyH_take (i := 34) (v := ?v34u222) rfl (by kernel_rfl) (by kernel_rfl) (by kernel_rfl) (fun _ _ _ h => h) (Or.inl ⟨by rfl, ?h34u222⟩) hHeld ?r34u222
  case h34u222 => (intro wq hSw; obtain ⟨q0, q1, q2, q3, q4, q5, q6, q7, q8⟩ := c9 hSw.1; go_simp <;> with_reducible rfl)
  try simp only [Go.Last.pt]
  refine Go.Last.held 33 (by kernel_rfl) rfl (fun K hK => ?_)
  go_simp
  (first | (go_at_call 17; (first | (with_reducible refine (cR.out _ hqr.out).2.2.2.2.2.2.1.mono ?_) | (with_reducible refine (cR.out _ hqr.out).2.2.2.2.2.2.2.1.mono ?_) | (with_reducible refine (cR.out _ hqr.out).2.2.2.2.2.2.2.2.1.mono ?_) | (with_reducible refine (cR.out _ hqr.out).2.2.2.2.2.2.2.2.2.1.mono ?_)); rintro e w9 ⟨rfl, hb⟩; replace hqr := Lib.hid (Bel.step hqr.out hb); replace hq4 := Lib.hid (Bel.step hq4.out hb)) | skip)
  try dsimp only
  refine hK.out _ _ (by first | exact ⟨kept_row hHeld.1 hb, kept_row hHeld.2.1 hb, kept_row hHeld.2.2.1 hb, kept_row hHeld.2.2.2 hb⟩ | exact hHeld) (fun hHeld2 => ?_)
  clear hK K hHeld
  have hHeld := hHeld2
  clear hHeld2
  try simp only [Go.Last.pt]
  refine Go.Last.held 35 (by kernel_rfl) rfl (fun K hK => ?_)
  go_simp
  (first | (go_at_call 17; (first | (with_reducible refine (cR.out _ hqr.out).2.2.2.2.2.2.1.mono ?_) | (with_reducible refine (cR.out _ hqr.out).2.2.2.2.2.2.2.1.mono ?_) | (with_reducible refine (cR.out _ hqr.out).2.2.2.2.2.2.2.2.1.mono ?_) | (with_reducible refine (cR.out _ hqr.out).2.2.2.2.2.2.2.2.2.1.mono ?_)); rintro e w9 ⟨rfl, hb⟩; replace hqr := Lib.hid (Bel.step hqr.out hb); replace hq4 := Lib.hid (Bel.step hq4.out hb)) | skip)
  try dsimp only
  refine hK.out _ _ (by first | exact ⟨kept_row hHeld.1 hb, kept_row hHeld.2.1 hb, kept_row hHeld.2.2.1 hb, kept_row hHeld.2.2.2 hb⟩ | exact hHeld) (fun hHeld2 => ?_)
  clear hK K hHeld
  have hHeld := hHeld2
  clear hHeld2
  try simp only [Go.Last.pt]
  refine Go.Last.held 36 (by kernel_rfl) rfl (fun K hK => ?_)
  go_simp
  try dsimp only
  refine hK.out _ _ (hHeld) (fun hHeld2 => ?_)
  clear hK K hHeld
  have hHeld := hHeld2
  clear hHeld2
  try simp only [Go.Last.pt]
  refine Go.Last.held 37 (by kernel_rfl) rfl (fun K hK => ?_)
  go_simp
  try dsimp only
  refine hK.out _ _ (hHeld) (fun hHeld2 => ?_)
  clear hK K hHeld
  have hHeld := hHeld2
  clear hHeld2
  try simp only [Go.Last.pt]
  refine Go.Last.held 38 (by kernel_rfl) rfl (fun K hK => ?_)
  go_simp
  (first | (go_at_call 17; (first | (with_reducible refine (cR.out _ hqr.out).2.2.2.2.2.2.1.mono ?_) | (with_reducible refine (cR.out _ hqr.out).2.2.2.2.2.2.2.1.mono ?_) | (with_reducible refine (cR.out _ hqr.out).2.2.2.2.2.2.2.2.1.mono ?_) | (with_reducible refine (cR.out _ hqr.out).2.2.2.2.2.2.2.2.2.1.mono ?_)); rintro e w9 ⟨rfl, hb⟩; replace hqr := Lib.hid (Bel.step hqr.out hb); replace hq4 := Lib.hid (Bel.step hq4.out hb)) | skip)
  try dsimp only
  refine hK.out _ _ (by first | exact ⟨kept_row hHeld.1 hb, kept_row hHeld.2.1 hb, kept_row hHeld.2.2.1 hb, kept_row hHeld.2.2.2 hb⟩ | exact hHeld) (fun hHeld2 => ?_)
  clear hK K hHeld
  have hHeld := hHeld2
  clear hHeld2
  try simp only [Go.Last.pt]
  refine Go.Last.held 39 (by kernel_rfl) rfl (fun K hK => ?_)
  go_simp
  try dsimp only
  refine hK.out _ _ (hHeld) (fun hHeld2 => ?_)
  clear hK K hHeld
  have hHeld := hHeld2
  clear hHeld2
  try simp only [Go.Last.pt]
  refine Go.Last.held 40 (by kernel_rfl) rfl (fun K hK => ?_)
  go_simp
  try dsimp only
  refine hK.out _ _ (hHeld) (fun hHeld2 => ?_)
  clear hK K hHeld
  have hHeld := hHeld2
  clear hHeld2
  try simp only [Go.Last.pt]
  refine Go.Last.held 41 (by kernel_rfl) rfl (fun K hK => ?_)
  go_simp
  try dsimp only
  refine hK.out _ _ (hHeld) (fun hHeld2 => ?_)
  clear hK K hHeld
  have hHeld := hHeld2
  clear hHeld2
  try simp only [Go.Last.pt]
  refine wpAnyH_done (by kernel_rfl) ?_ _
  have hba := Lib.hid hHeld.1
  have hbb := Lib.hid hHeld.2.1
  have hbc := Lib.hid hHeld.2.2.1
  have hbd := Lib.hid hHeld.2.2.2
  obtain ⟨n0, n1, n2, n3, n4, n5, n6, n7, n8⟩ := c9 hba.out; obtain ⟨x0, x1, x2, x3, x4, x5, x6, x7, x8⟩ := c9 hbb.out; obtain ⟨y0, y1, y2, y3, y4, y5, y6, y7, y8⟩ := c9 hbc.out; obtain ⟨z0, z1, z2, z3, z4, z5, z6, z7, z8⟩ := c9 hbd.out
  go_wp2
  have hS9 : (fun W : World => W.heap[w.heap.size]? = some (.cells #[.int .i64 k, .int .u64 u0, .int .u64 u1, .int .u64 u2, .int .u64 u3, .slice p ks.length cap, .int .i64 mn, .int .i64 mx, .string tx] 27) ∧ W.heap[w.heap.size + 1]? = some (.cells #[.int .i64 kb, .int .u64 u0b, .int .u64 u1b, .int .u64 u2b, .int .u64 u3b, .slice pb ksb.length capb, .int .i64 mnb, .int .i64 mxb, .string txb] 27) ∧ W.heap[w3.heap.size + 1 + 1]? = some (.cells #[.int .i64 2, .int .u64 0, .int .u64 0, .int .u64 0, .int .u64 0, .slice (some ⟨w3.heap.size + 1, 0, none⟩) 2 2, .int .i64 0, .int .i64 0, .string ⟨#[]⟩] 27) ∧ W.heap[w3.heap.size + 1 + 1 + 1 + 1]? = some (.cells #[.int .i64 3, .int .u64 0, .int .u64 0, .int .u64 0, .int .u64 0, .slice (some ⟨w3.heap.size + 1 + 1 + 1, 0, none⟩) 2 2, .int .i64 0, .int .i64 0, .string ⟨#[]⟩] 27)) w9.drew := ⟨hba.out, hbb.out, hbc.out, hbd.out⟩
  replace hqr := Lib.hid (show Bel WQ w9.drew from Below.trans hqr.out (Below.refl _ _).drew)
  replace hq4 := Lib.hid (show Bel w w9.drew from Below.trans hq4.out (Below.refl _ _).drew)
  clear hba hbb hbc hbd
  clear n0 x0 y0 z0 n1 x1 y1 z1 n2 x2 y2 z2 n3 x3 y3 z3 n4 x4 y4 z4 n5 x5 y5 z5 n6 x6 y6 z6 n7 x7 y7 z7 n8 x8 y8 z8
  refine wp_region_held_drew (S := fun W => W.heap[w.heap.size]? = some (.cells #[.int .i64 k, .int .u64 u0, .int .u64 u1, .int .u64 u2, .int .u64 u3, .slice p ks.length cap, .int .i64 mn, .int .i64 mx, .string tx] 27) ∧ W.heap[w.heap.size + 1]? = some (.cells #[.int .i64 kb, .int .u64 u0b, .int .u64 u1b, .int .u64 u2b, .int .u64 u3b, .slice pb ksb.length capb, .int .i64 mnb, .int .i64 mxb, .string txb] 27) ∧ W.heap[w3.heap.size + 1 + 1]? = some (.cells #[.int .i64 2, .int .u64 0, .int .u64 0, .int .u64 0, .int .u64 0, .slice (some ⟨w3.heap.size + 1, 0, none⟩) 2 2, .int .i64 0, .int .i64 0, .string ⟨#[]⟩] 27) ∧ W.heap[w3.heap.size + 1 + 1 + 1 + 1]? = some (.cells #[.int .i64 3, .int .u64 0, .int .u64 0, .int .u64 0, .int .u64 0, .slice (some ⟨w3.heap.size + 1 + 1 + 1, 0, none⟩) 2 2, .int .i64 0, .int .i64 0, .string ⟨#[]⟩] 27)) (by kernel_rfl) hS9 (fun hHeld => ?_)
  clear hS9
  generalize w9.drew = we at *
  refine wpAnyH_take (i := 0) (v := ?v0u223) rfl (by kernel_rfl) (by kernel_rfl) (by kernel_rfl) (fun _ _ _ h => h) (Or.inl ⟨by rfl, ?h0u223⟩) hHeld ?r0u223
  case h0u223 => (intro wq hSw; obtain ⟨q0, q1, q2, q3, q4, q5, q6, q7, q8⟩ := c9 hSw.2.2.2; go_simp <;> with_reducible rfl)
  try simp only [Go.Last.pt]
  refine wpAnyH_take (i := 2) (v := ?v2u224) rfl (by kernel_rfl) (by kernel_rfl) (by kernel_rfl) (fun _ _ _ h => h) (Or.inl ⟨by rfl, ?h2u224⟩) hHeld ?r2u224
  case h2u224 => (intro wq hSw; obtain ⟨q0, q1, q2, q3, q4, q5, q6, q7, q8⟩ := c9 hSw.1; go_simp <;> with_reducible rfl)
  try simp only [Go.Last.pt]
  refine wpAnyH_take (i := 4) (v := ?v4u225) rfl (by kernel_rfl) (by kernel_rfl) (by kernel_rfl) (fun _ _ _ h => h) (Or.inl ⟨by rfl, ?h4u225⟩) hHeld ?r4u225
  case h4u225 => (intro wq hSw; obtain ⟨q0, q1, q2, q3, q4, q5, q6, q7, q8⟩ := c9 hSw.2.1; go_simp <;> with_reducible rfl)
  try simp only [Go.Last.pt]
  refine Go.Last.held 1 (by kernel_rfl) rfl (fun K hK => ?_)
  go_simp
  (first | (go_at_call 12; (first | (with_reducible refine (cR.out _ hqr.out).2.2.2.2.2.2.2.2.2.2.1.mono ?_) | (with_reducible refine (cR.out _ hqr.out).2.2.2.2.2.2.2.2.2.2.2.1.mono ?_) | (with_reducible refine (cR.out _ hqr.out).2.2.2.2.2.2.2.2.2.2.2.2.1.mono ?_)); rintro e w9 ⟨rfl, hb⟩; replace hqr := Lib.hid (Bel.step hqr.out hb); replace hq4 := Lib.hid (Bel.step hq4.out hb)) | skip)
  try dsimp only
  refine hK.out _ _ (by first | exact ⟨kept_row hHeld.1 hb, kept_row hHeld.2.1 hb, kept_row hHeld.2.2.1 hb, kept_row hHeld.2.2.2 hb⟩ | exact hHeld) (fun hHeld2 => ?_)
  clear hK K hHeld
  have hHeld := hHeld2
  clear hHeld2
  try simp only [Go.Last.pt]
  refine Go.Last.held 3 (by kernel_rfl) rfl (fun K hK => ?_)
  go_simp
  (first | (go_at_call 12; (first | (with_reducible refine (cR.out _ hqr.out).2.2.2.2.2.2.2.2.2.2.1.mono ?_) | (with_reducible refine (cR.out _ hqr.out).2.2.2.2.2.2.2.2.2.2.2.1.mono ?_) | (with_reducible refine (cR.out _ hqr.out).2.2.2.2.2.2.2.2.2.2.2.2.1.mono ?_)); rintro e w9 ⟨rfl, hb⟩; replace hqr := Lib.hid (Bel.step hqr.out hb); replace hq4 := Lib.hid (Bel.step hq4.out hb)) | skip)
  try dsimp only
  refine hK.out _ _ (by first | exact ⟨kept_row hHeld.1 hb, kept_row hHeld.2.1 hb, kept_row hHeld.2.2.1 hb, kept_row hHeld.2.2.2 hb⟩ | exact hHeld) (fun hHeld2 => ?_)
  clear hK K hHeld
  have hHeld := hHeld2
  clear hHeld2
  try simp only [Go.Last.pt]
  refine Go.Last.held 5 (by kernel_rfl) rfl (fun K hK => ?_)
  go_simp
  (first | (go_at_call 12; (first | (with_reducible refine (cR.out _ hqr.out).2.2.2.2.2.2.2.2.2.2.1.mono ?_) | (with_reducible refine (cR.out _ hqr.out).2.2.2.2.2.2.2.2.2.2.2.1.mono ?_) | (with_reducible refine (cR.out _ hqr.out).2.2.2.2.2.2.2.2.2.2.2.2.1.mono ?_)); rintro e w9 ⟨rfl, hb⟩; replace hqr := Lib.hid (Bel.step hqr.out hb); replace hq4 := Lib.hid (Bel.step hq4.out hb)) | skip)
  try dsimp only
  refine hK.out _ _ (by first | exact ⟨kept_row hHeld.1 hb, kept_row hHeld.2.1 hb, kept_row hHeld.2.2.1 hb, kept_row hHeld.2.2.2 hb⟩ | exact hHeld) (fun hHeld2 => ?_)
  clear hK K hHeld
  have hHeld := hHeld2
  clear hHeld2
  try simp only [Go.Last.pt]
  refine Go.Last.held 6 (by kernel_rfl) rfl (fun K hK => ?_)
  go_simp
  (first | (go_at_call 18; (with_reducible refine (cOr.out _).mono ?_); rintro e w9 ⟨rfl, hb⟩; replace hqr := Lib.hid (Bel.step hqr.out hb); replace hq4 := Lib.hid (Bel.step hq4.out hb)) | skip)
  try dsimp only
  refine hK.out _ _ (by first | exact ⟨kept_row hHeld.1 hb, kept_row hHeld.2.1 hb, kept_row hHeld.2.2.1 hb, kept_row hHeld.2.2.2 hb⟩ | exact hHeld) (fun hHeld2 => ?_)
  clear hK K hHeld
  have hHeld := hHeld2
  clear hHeld2
  try simp only [Go.Last.pt]
  refine Go.Last.held 7 (by kernel_rfl) rfl (fun K hK => ?_)
  go_simp
  try dsimp only
  refine hK.out _ _ (hHeld) (fun hHeld2 => ?_)
  clear hK K hHeld
  have hHeld := hHeld2
  clear hHeld2
  try simp only [Go.Last.pt]
  refine Go.Last.held 8 (by kernel_rfl) rfl (fun K hK => ?_)
  go_simp
  try dsimp only
  refine hK.out _ _ (hHeld) (fun hHeld2 => ?_)
  clear hK K hHeld
  have hHeld := hHeld2
  clear hHeld2
  try simp only [Go.Last.pt]
  refine wpAnyH_take (i := 9) (v := ?v9u226) rfl (by kernel_rfl) (by kernel_rfl) (by kernel_rfl) (fun _ _ _ h => h) (Or.inl ⟨by rfl, ?h9u226⟩) hHeld ?r9u226
  case h9u226 => (intro wq hSw; obtain ⟨q0, q1, q2, q3, q4, q5, q6, q7, q8⟩ := c9 hSw.2.2.1; go_simp <;> with_reducible rfl)
  try simp only [Go.Last.pt]
  refine wpAnyH_take (i := 11) (v := ?v11u227) rfl (by kernel_rfl) (by kernel_rfl) (by kernel_rfl) (fun _ _ _ h => h) (Or.inl ⟨by rfl, ?h11u227⟩) hHeld ?r11u227
  case h11u227 => (intro wq hSw; obtain ⟨q0, q1, q2, q3, q4, q5, q6, q7, q8⟩ := c9 hSw.1; go_simp <;> with_reducible rfl)
  try simp only [Go.Last.pt]
  refine wpAnyH_take (i := 14) (v := ?v14u228) rfl (by kernel_rfl) (by kernel_rfl) (by kernel_rfl) (fun _ _ _ h => h) (Or.inl ⟨by rfl, ?h14u228⟩) hHeld ?r14u228
  case h14u228 => (intro wq hSw; obtain ⟨q0, q1, q2, q3, q4, q5, q6, q7, q8⟩ := c9 hSw.2.1; go_simp <;> with_reducible rfl)
  try simp only [Go.Last.pt]
  refine Go.Last.held 10 (by kernel_rfl) rfl (fun K hK => ?_)
  go_simp
  (first | (go_at_call 19; (first | (with_reducible refine (cR.out _ hqr.out).2.2.2.2.2.2.2.2.2.2.2.2.2.1.mono ?_) | (with_reducible refine (cR.out _ hqr.out).2.2.2.2.2.2.2.2.2.2.2.2.2.2.1.mono ?_) | (with_reducible refine (cR.out _ hqr.out).2.2.2.2.2.2.2.2.2.2.2.2.2.2.2.1.mono ?_)); rintro e w9 ⟨rfl, hb⟩; replace hqr := Lib.hid (Bel.step hqr.out hb); replace hq4 := Lib.hid (Bel.step hq4.out hb)) | skip)
  try dsimp only
  refine hK.out _ _ (by first | exact ⟨kept_row hHeld.1 hb, kept_row hHeld.2.1 hb, kept_row hHeld.2.2.1 hb, kept_row hHeld.2.2.2 hb⟩ | exact hHeld) (fun hHeld2 => ?_)
  clear hK K hHeld
  have hHeld := hHeld2
  clear hHeld2
  try simp only [Go.Last.pt]
  refine Go.Last.held 12 (by kernel_rfl) rfl (fun K hK => ?_)
  go_simp
  (first | (go_at_call 19; (first | (with_reducible refine (cR.out _ hqr.out).2.2.2.2.2.2.2.2.2.2.2.2.2.1.mono ?_) | (with_reducible refine (cR.out _ hqr.out).2.2.2.2.2.2.2.2.2.2.2.2.2.2.1.mono ?_) | (with_reducible refine (cR.out _ hqr.out).2.2.2.2.2.2.2.2.2.2.2.2.2.2.2.1.mono ?_)); rintro e w9 ⟨rfl, hb⟩; replace hqr := Lib.hid (Bel.step hqr.out hb); replace hq4 := Lib.hid (Bel.step hq4.out hb)) | skip)
  try dsimp only
  refine hK.out _ _ (by first | exact ⟨kept_row hHeld.1 hb, kept_row hHeld.2.1 hb, kept_row hHeld.2.2.1 hb, kept_row hHeld.2.2.2 hb⟩ | exact hHeld) (fun hHeld2 => ?_)
  clear hK K hHeld
  have hHeld := hHeld2
  clear hHeld2
  try simp only [Go.Last.pt]
  refine wpAnyH_ready (rs := [13, 15]) (by kernel_rfl) (by simp) ?_
  refine (AllReadyH.cons (o := _) rfl (fun K hK => ?_) (AllReadyH.cons (o := _) rfl (fun K hK => ?_) AllReadyH.nil))
  · go_simp
    try dsimp only
    refine hK.out _ _ (hHeld) (fun hHeld2 => ?_)
    clear hK K hHeld
    have hHeld := hHeld2
    clear hHeld2
    try simp only [Go.Last.pt]
    refine Go.Last.held 15 (by kernel_rfl) rfl (fun K hK => ?_)
    go_simp
    (first | (go_at_call 19; (first | (with_reducible refine (cR.out _ hqr.out).2.2.2.2.2.2.2.2.2.2.2.2.2.1.mono ?_) | (with_reducible refine (cR.out _ hqr.out).2.2.2.2.2.2.2.2.2.2.2.2.2.2.1.mono ?_) | (with_reducible refine (cR.out _ hqr.out).2.2.2.2.2.2.2.2.2.2.2.2.2.2.2.1.mono ?_)); rintro e w9 ⟨rfl, hb⟩; replace hqr := Lib.hid (Bel.step hqr.out hb); replace hq4 := Lib.hid (Bel.step hq4.out hb)) | skip)
    try dsimp only
    refine hK.out _ _ (by first | exact ⟨kept_row hHeld.1 hb, kept_row hHeld.2.1 hb, kept_row hHeld.2.2.1 hb, kept_row hHeld.2.2.2 hb⟩ | exact hHeld) (fun hHeld2 => ?_)
    clear hK K hHeld
    have hHeld := hHeld2
    clear hHeld2
    try simp only [Go.Last.pt]
    refine Go.Last.held 16 (by kernel_rfl) rfl (fun K hK => ?_)
    go_simp
    try dsimp only
    refine hK.out _ _ (hHeld) (fun hHeld2 => ?_)
    clear hK K hHeld
    have hHeld := hHeld2
    clear hHeld2
    try simp only [Go.Last.pt]
    refine Go.Last.held 17 (by kernel_rfl) rfl (fun K hK => ?_)
    go_simp
    try dsimp only
    refine hK.out _ _ (hHeld) (fun hHeld2 => ?_)
    clear hK K hHeld
    have hHeld := hHeld2
    clear hHeld2
    try simp only [Go.Last.pt]
    refine Go.Last.held 18 (by kernel_rfl) rfl (fun K hK => ?_)
    go_simp
    try dsimp only
    refine hK.out _ _ (hHeld) (fun hHeld2 => ?_)
    clear hK K hHeld
    have hHeld := hHeld2
    clear hHeld2
    try simp only [Go.Last.pt]
    refine Go.Last.held 19 (by kernel_rfl) rfl (fun K hK => ?_)
    go_simp
    try dsimp only
    refine hK.out _ _ (hHeld) (fun hHeld2 => ?_)
    clear hK K hHeld
    have hHeld := hHeld2
    clear hHeld2
    try simp only [Go.Last.pt]
    refine wpAnyH_done (by kernel_rfl) ?_ _
    have hba := Lib.hid hHeld.1
    have hbb := Lib.hid hHeld.2.1
    have hbc := Lib.hid hHeld.2.2.1
    have hbd := Lib.hid hHeld.2.2.2
    obtain ⟨n0, n1, n2, n3, n4, n5, n6, n7, n8⟩ := c9 hba.out; obtain ⟨x0, x1, x2, x3, x4, x5, x6, x7, x8⟩ := c9 hbb.out; obtain ⟨y0, y1, y2, y3, y4, y5, y6, y7, y8⟩ := c9 hbc.out; obtain ⟨z0, z1, z2, z3, z4, z5, z6, z7, z8⟩ := c9 hbd.out
    go_wp2_with (go_at_call 16; clear n0 x0 y0 z0 n1 x1 y1 z1 n2 x2 y2 z2 n3 x3 y3 z3 n4 x4 y4 z4 n5 x5 y5 z5 n6 x6 y6 z6 n7 x7 y7 z7 n8 x8 y8 z8; (first | (with_reducible refine (cR.out _ hqr.out).2.2.1.mono ?_) | (with_reducible refine (cR.out _ hqr.out).2.2.2.1.mono ?_) | (with_reducible refine (cR.out _ hqr.out).2.2.2.2.1.mono ?_) | (with_reducible refine (cR.out _ hqr.out).2.2.2.2.2.1.mono ?_)); rintro e w9 ⟨rfl, hb⟩; replace hba := Lib.hid (kept_row hba.out hb); replace hbb := Lib.hid (kept_row hbb.out hb); replace hbc := Lib.hid (kept_row hbc.out hb); replace hbd := Lib.hid (kept_row hbd.out hb); obtain ⟨n0, n1, n2, n3, n4, n5, n6, n7, n8⟩ := c9 hba.out; obtain ⟨x0, x1, x2, x3, x4, x5, x6, x7, x8⟩ := c9 hbb.out; obtain ⟨y0, y1, y2, y3, y4, y5, y6, y7, y8⟩ := c9 hbc.out; obtain ⟨z0, z1, z2, z3, z4, z5, z6, z7, z8⟩ := c9 hbd.out; replace hqr := Lib.hid (Bel.step hqr.out hb); replace hq4 := Lib.hid (Bel.step hq4.out hb); clear hb)
    go_ret
    exact ⟨rfl, hq4.out⟩
  · go_simp
    (first | (go_at_call 19; (first | (with_reducible refine (cR.out _ hqr.out).2.2.2.2.2.2.2.2.2.2.2.2.2.1.mono ?_) | (with_reducible refine (cR.out _ hqr.out).2.2.2.2.2.2.2.2.2.2.2.2.2.2.1.mono ?_) | (with_reducible refine (cR.out _ hqr.out).2.2.2.2.2.2.2.2.2.2.2.2.2.2.2.1.mono ?_)); rintro e w9 ⟨rfl, hb⟩; replace hqr := Lib.hid (Bel.step hqr.out hb); replace hq4 := Lib.hid (Bel.step hq4.out hb)) | skip)
    try dsimp only
    refine hK.out _ _ (by first | exact ⟨kept_row hHeld.1 hb, kept_row hHeld.2.1 hb, kept_row hHeld.2.2.1 hb, kept_row hHeld.2.2.2 hb⟩ | exact hHeld) (fun hHeld2 => ?_)
    clear hK K hHeld
    have hHeld := hHeld2
    clear hHeld2
    try simp only [Go.Last.pt]
    refine Go.Last.held 13 (by kernel_rfl) rfl (fun K hK => ?_)
    go_simp
    try dsimp only
    refine hK.out _ _ (hHeld) (fun hHeld2 => ?_)
    clear hK K hHeld
    have hHeld := hHeld2
    clear hHeld2
    try simp only [Go.Last.pt]
    refine Go.Last.held 16 (by kernel_rfl) rfl (fun K hK => ?_)
    go_simp
    try dsimp only
    refine hK.out _ _ (hHeld) (fun hHeld2 => ?_)
    clear hK K hHeld
    have hHeld := hHeld2
    clear hHeld2
    try simp only [Go.Last.pt]
    refine Go.Last.held 17 (by kernel_rfl) rfl (fun K hK => ?_)
    go_simp
    try dsimp only
    refine hK.out _ _ (hHeld) (fun hHeld2 => ?_)
    clear hK K hHeld
    have hHeld := hHeld2
    clear hHeld2
    try simp only [Go.Last.pt]
    refine Go.Last.held 18 (by kernel_rfl) rfl (fun K hK => ?_)
    go_simp
    try dsimp only
    refine hK.out _ _ (hHeld) (fun hHeld2 => ?_)
    clear hK K hHeld
    have hHeld := hHeld2
    clear hHeld2
    try simp only [Go.Last.pt]
    refine Go.Last.held 19 (by kernel_rfl) rfl (fun K hK => ?_)
    go_simp
    try dsimp only
    refine hK.out _ _ (hHeld) (fun hHeld2 => ?_)
    clear hK K hHeld
    have hHeld := hHeld2
    clear hHeld2
    try simp only [Go.Last.pt]
    refine wpAnyH_done (by kernel_rfl) ?_ _
    have hba := Lib.hid hHeld.1
    have hbb := Lib.hid hHeld.2.1
    have hbc := Lib.hid hHeld.2.2.1
    have hbd := Lib.hid hHeld.2.2.2
    obtain ⟨n0, n1, n2, n3, n4, n5, n6, n7, n8⟩ := c9 hba.out; obtain ⟨x0, x1, x2, x3, x4, x5, x6, x7, x8⟩ := c9 hbb.out; obtain ⟨y0, y1, y2, y3, y4, y5, y6, y7, y8⟩ := c9 hbc.out; obtain ⟨z0, z1, z2, z3, z4, z5, z6, z7, z8⟩ := c9 hbd.out
    go_wp2_with (go_at_call 16; clear n0 x0 y0 z0 n1 x1 y1 z1 n2 x2 y2 z2 n3 x3 y3 z3 n4 x4 y4 z4 n5 x5 y5 z5 n6 x6 y6 z6 n7 x7 y7 z7 n8 x8 y8 z8; (first | (with_reducible refine (cR.out _ hqr.out).2.2.1.mono ?_) | (with_reducible refine (cR.out _ hqr.out).2.2.2.1.mono ?_) | (with_reducible refine (cR.out _ hqr.out).2.2.2.2.1.mono ?_) | (with_reducible refine (cR.out _ hqr.out).2.2.2.2.2.1.mono ?_)); rintro e w9 ⟨rfl, hb⟩; replace hba := Lib.hid (kept_row hba.out hb); replace hbb := Lib.hid (kept_row hbb.out hb); replace hbc := Lib.hid (kept_row hbc.out hb); replace hbd := Lib.hid (kept_row hbd.out hb); obtain ⟨n0, n1, n2, n3, n4, n5, n6, n7, n8⟩ := c9 hba.out; obtain ⟨x0, x1, x2, x3, x4, x5, x6, x7, x8⟩ := c9 hbb.out; obtain ⟨y0, y1, y2, y3, y4, y5, y6, y7, y8⟩ := c9 hbc.out; obtain ⟨z0, z1, z2, z3, z4, z5, z6, z7, z8⟩ := c9 hbd.out; replace hqr := Lib.hid (Bel.step hqr.out hb); replace hq4 := Lib.hid (Bel.step hq4.out hb); clear hb)
    go_ret
    exact ⟨rfl, hq4.out⟩


end Go.Proofs.YtaebhbcamhmhoaaDoor
