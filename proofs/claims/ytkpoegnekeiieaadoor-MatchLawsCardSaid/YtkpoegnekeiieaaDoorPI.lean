/- Texts merged: S10W19, S10W20. -/

import Derived.Test.YtkpoegnekeiieaaDoorS10W18
namespace Go.Proofs.YtkpoegnekeiieaaDoor
open Go.RowKit
open Go.Tree7
open S7
open S5 (nl nl_length nl_small at_nl nl_at Gives idx idx_at ix ix_no ix_yes)
theorem bel_bel {a b c : World} (h : Bel a b) (h' : Bel b c) : Bel a c := Bel.step h h'
theorem three_new (w : World) (c0 c1 c2 : Array Value) (t0 t1 t2 : TypeId) : ∃ W, ((w.alloc (.cells c0 t0)).alloc (.cells c1 t1)).alloc (.cells c2 t2) = W ∧ W.heap[w.heap.size + 1]? = some (.cells c1 t1 (0, 0)) ∧ W.heap[w.heap.size + 1 + 1]? = some (.cells c2 t2 (0, 0)) ∧ Below w.heap.size w W := by
  refine ⟨_, rfl, ?_, ?_, (((Below.refl _ _).alloc (Nat.le_refl _) _).alloc (by simp) _).alloc (by simp <;> omega) _⟩
  · refine (Below.heap_alloc _ _ _ (by simp)).trans ?_
    have := World.alloc_heap_new (w.alloc (.cells c0 t0)) (.cells c1 t1)
    rw [World.size_alloc] at this
    exact this
  · have := World.alloc_heap_new ((w.alloc (.cells c0 t0)).alloc (.cells c1 t1)) (.cells c2 t2)
    rw [World.size_alloc, World.size_alloc] at this
    exact this
set_option maxRecDepth 100000 in
set_option maxHeartbeats 8000000 in
theorem empty_main {w : World} {t : T} (hT : T.In w w.heap.size t) {a : Option Addr} {m c : Nat} {l : List Nat} (hs : Src w a m c l) (hz : t.size < 60) (hm : m ≤ 12) (cA' : ∀ w', Bel w w' → Calls Tryd.prog 7 #[] w' fun e w'' => e = .returned (.bool true) ∧ Below w'.heap.size w' w'') :
    Calls Tryd.prog 6 #[.agg t.cells.toArray, .slice a m c] w fun e w' => e = .returned (.bool true) ∧ Below w.heap.size w w' := by
  have hlm := hs.len
  have hq0 := Bel.new w (.cells t.cells.toArray 27)
  have hba := World.alloc_heap_new w (.cells t.cells.toArray 27)
  have cO : Hid (∀ w', Bel w w' → Calls Tryd.prog 20 #[.agg t.cells.toArray, .int .i64 60] w' fun e w'' => ∃ (m : T) (d : Int), 0 < d ∧ e = .returned (.tuple #[.agg m.cells.toArray, .int .i64 d]) ∧ Below w'.heap.size w' w'') := Lib.hid fun w' hb => (of_room hT (by decide : 60 ≤ 2000) (rfl : (60 : Int) = _) hz w' hb).mono fun e w'' h => by
    obtain ⟨m, d, h1, h2, h3, -⟩ := h
    exact ⟨m, d, h1, h2, h3⟩
  have cA := Lib.hid (cA' _ hq0)
  have cE2 : Hid (∀ w', Bel w w' → Calls Tryd.prog 12 #[.agg #[.int .i64 2, .int .u64 0, .int .u64 0, .int .u64 0, .int .u64 0, .slice none 0 0, .int .i64 0, .int .i64 0, .string ⟨#[]⟩], .slice a m c] w' fun e w'' => e = .returned (.bool (decide ((m : Int) = 0))) ∧ Below w'.heap.size w' w'') := Lib.hid fun w' hb => by
    have := is_in (flat_in w' 2 (by decide)) (hs.bel hb) (by omega)
    rw [is_two (by omega), hlm, show decide (m = 0) = decide ((m : Int) = 0) by rw [Bool.eq_iff_iff, decide_eq_true_eq, decide_eq_true_eq]; omega] at this
    exact this
  have cE1 : Hid (∀ w', Bel w w' → Calls Tryd.prog 12 #[.agg #[.int .i64 1, .int .u64 0, .int .u64 0, .int .u64 0, .int .u64 0, .slice none 0 0, .int .i64 0, .int .i64 0, .string ⟨#[]⟩], .slice a m c] w' fun e w'' => e = .returned (.bool false) ∧ Below w'.heap.size w' w'') := Lib.hid fun w' hb => by
    have := is_in (flat_in w' 1 (by decide)) (hs.bel hb) (by omega)
    rw [is_one (by omega)] at this
    exact this
  have cI : Hid (∀ w', Bel w w' → Calls Tryd.prog 12 #[.agg t.cells.toArray, .slice a m c] w' fun e w'' => e = .returned (.bool (isB t l)) ∧ Below w'.heap.size w' w'') := Lib.hid fun w' hb => is_in (in_bel hT hb) (hs.bel hb) (by omega)
  have hone : Hid (∀ w2 W : World, Bel w W → W.heap[w2.heap.size + 1]? = some (.cells t.cells.toArray 27 (0, 0)) → T.In W W.heap.size (.mk 2 0 0 0 0 (some ⟨w2.heap.size + 1, 0, none⟩) 1 0 0 ⟨#[]⟩ [t])) := Lib.hid fun w2 W hb hr => node_in (ks := [t]) (fun x hx => by rw [List.mem_singleton.1 hx]; exact hT) hb (by simpa using hr) (by simp [maxLen]) ⟨by decide, by decide, by decide⟩
  have hsz : Hid (∀ p, (T.mk 2 0 0 0 0 p 1 0 0 ⟨#[]⟩ [t]).size < 80) := Lib.hid fun p => by rw [T.size_mk]; simp; omega
  have hsi : Hid (∀ p, worksB (.mk 2 0 0 0 0 p 1 0 0 ⟨#[]⟩ [t]) = true → isB (.mk 2 0 0 0 0 p 1 0 0 ⟨#[]⟩ [t]) l = isB t l) := Lib.hid fun p h => is_single h (by omega)
  obtain ⟨D, hD⟩ : ∃ D, decide ((m : Int) = 0) = D := ⟨_, rfl⟩
  have gD : ((m : Int) == 0) = D := by rw [← hD, Bool.eq_iff_iff, beq_iff_eq, decide_eq_true_eq]
  rw [hD] at cE2
  clear hD
  replace hs := Lib.hid hs
  replace hlm := Lib.hid hlm
  clear hT hz cA'
  obtain ⟨t', ht'⟩ : ∃ t', t' = t := ⟨_, rfl⟩
  rw [← ht'] at hone hsz hsi
  have cI : Hid (∀ w', Bel w w' → Calls Tryd.prog 12 #[.agg t.cells.toArray, .slice a m c] w' fun e w'' => e = .returned (.bool (isB t' l)) ∧ Below w'.heap.size w' w'') := by rw [ht']; exact cI
  replace ht' := Lib.hid (congrArg T.cells ht')
  cases t with
  | mk k s0 s1 s2 s3 p cap mn mx tx ks =>
  simp only [T.cells] at hq0 hba cO cA cI ⊢
  obtain ⟨n0, n1, n2, n3, n4, n5, n6, n7, n8⟩ := c9 hba
  replace hq0 := Lib.hid hq0
  replace hba := Lib.hid hba
  go_enter Tryd.func6, Tryd.ntmps6
  go_upto_region 7 with (first | (go_at_call 7; (with_reducible refine cA.out.mono ?_); rintro e w1 ⟨rfl, hb⟩; have hba1 := kept_row hba.out hb; have hl1 := lt_box hba1; clear n0 n1 n2 n3 n4 n5 n6 n7 n8; obtain ⟨n0, n1, n2, n3, n4, n5, n6, n7, n8⟩ := c9 hba1; replace hba1 := Lib.hid hba1; have hq1 := Lib.hid (Bel.step hq0.out hb); clear hb) | (go_at_call 20; (with_reducible refine (cO.out _ hq1.out).mono ?_); rintro e w2 ⟨⟨km, m0, m1, m2, m3, pm, capm, mnm, mxm, txm, ksm⟩, d, hd, rfl, hb⟩; simp only; have hba2 := kept_row hba1.out hb; have hl2 := lt_box hba2; have gd : decide (d ≤ 0) = false := (by rw [decide_eq_false_iff_not]; omega); clear n0 n1 n2 n3 n4 n5 n6 n7 n8; obtain ⟨n0, n1, n2, n3, n4, n5, n6, n7, n8⟩ := c9 hba2; replace hba2 := Lib.hid hba2; have hq2 := Lib.hid (Bel.step hq1.out hb); clear hb hd))
  obtain ⟨WQ, hWQ, hbr, hbo, hbl⟩ := three_new w2 #[.int .i64 km, .int .u64 m0, .int .u64 m1, .int .u64 m2, .int .u64 m3, .slice pm ksm.length capm, .int .i64 mnm, .int .i64 mxm, .string txm] #[.int .i64 k, .int .u64 s0, .int .u64 s1, .int .u64 s2, .int .u64 s3, .slice p ks.length cap, .int .i64 mn, .int .i64 mx, .string tx] #[.int .i64 2, .int .u64 0, .int .u64 0, .int .u64 0, .int .u64 0, .slice (some ⟨w2.heap.size + 1, 0, none⟩) 1 1, .int .i64 0, .int .i64 0, .string ⟨#[]⟩] 32 27 27
  rw [hWQ]
  have hqQ : Bel w WQ := Bel.step hq2.out hbl
  have hTo := hone.out w2 WQ hqQ (by rw [hbr]; exact congrArg (fun x => some (Obj.cells (List.toArray x) 27 (0, 0))) ht'.out.symm)
  have cM : Hid (∀ w', Bel WQ w' → Calls Tryd.prog 8 #[.agg #[.int .i64 2, .int .u64 0, .int .u64 0, .int .u64 0, .int .u64 0, .slice (some ⟨w2.heap.size + 1, 0, none⟩) 1 1, .int .i64 0, .int .i64 0, .string ⟨#[]⟩], .int .i64 80] w' fun e w'' => ∃ m : T, e = .returned (.tuple #[.agg m.cells.toArray, .bool true]) ∧ Below w'.heap.size w' w'' ∧ T.In w'' w''.heap.size m ∧ m.strip = (T.mk 2 0 0 0 0 (some ⟨w2.heap.size + 1, 0, none⟩) 1 0 0 ⟨#[]⟩ [t']).strip) := Lib.hid fun w' hb => small_room (in_bel hTo hb) (by decide : 80 ≤ 2000) (hsz.out _)
  have cIO : Hid (∀ w', Bel WQ w' → Calls Tryd.prog 12 #[.agg #[.int .i64 2, .int .u64 0, .int .u64 0, .int .u64 0, .int .u64 0, .slice (some ⟨w2.heap.size + 1, 0, none⟩) 1 1, .int .i64 0, .int .i64 0, .string ⟨#[]⟩], .slice a m c] w' fun e w'' => e = .returned (.bool (isB (.mk 2 0 0 0 0 (some ⟨w2.heap.size + 1, 0, none⟩) 1 0 0 ⟨#[]⟩ [t']) l)) ∧ Below w'.heap.size w' w'') := Lib.hid fun w' hb => is_in (in_bel hTo hb) (hs.out.bel (Bel.step hqQ hb)) (by omega)
  have hsi2 := Lib.hid (hsi.out (some ⟨w2.heap.size + 1, 0, none⟩))
  have hba3 := Lib.hid (kept_row hba2.out hbl)
  generalize (T.mk 2 0 0 0 0 (some ⟨w2.heap.size + 1, 0, none⟩) 1 0 0 ⟨#[]⟩ [t']) = To at *
  replace hqQ := Lib.hid hqQ
  have hqa0 := Lib.hid (Bel.refl WQ)
  replace hbo := Lib.hid hbo
  clear hTo hbr hWQ hbl hba2 hba hsi hsz hone n0 n1 n2 n3 n4 n5 n6 n7 n8
  go_upto_region 10 with (first | (go_at_call 12; (with_reducible refine (cE2.out _ hqQ.out).mono ?_); rintro e w3 ⟨rfl, hb⟩; have hqa := Lib.hid hb; have hq3 := Lib.hid (Bel.step hqQ.out hb); clear hb) | (go_at_call 12; (with_reducible refine (cE1.out _ hq3.out).mono ?_); rintro e w4 ⟨rfl, hb⟩; have hqb := Lib.hid (Bel.step hqa.out hb); have hq4 := Lib.hid (Bel.step hq3.out hb); obtain ⟨x0, x1, x2, x3, x4, x5, x6, x7, x8⟩ := c9 (kept_row hbo.out hqb.out); clear hb) | (go_at_call 8; (with_reducible refine (cM.out _ hqb.out).mono ?_); rintro e w5 ⟨⟨kg, g0, g1, g2, g3, pg, capg, mng, mxg, txg, ksg⟩, rfl, hb, hTg, hms⟩; simp only [T.cells]; have hqc := Lib.hid (Bel.step hqb.out hb); have hTg := Lib.hid hTg; replace hms := Lib.hid hms; clear hb))
  have hq5 : Bel w (w5.alloc (.cells #[.int .i64 kg, .int .u64 g0, .int .u64 g1, .int .u64 g2, .int .u64 g3, .slice pg ksg.length capg, .int .i64 mng, .int .i64 mxg, .string txg] 32)).drew := (Bel.alloc (Bel.step hqQ.out hqc.out) _).drew
  have hqd : Bel WQ (w5.alloc (.cells #[.int .i64 kg, .int .u64 g0, .int .u64 g1, .int .u64 g2, .int .u64 g3, .slice pg ksg.length capg, .int .i64 mng, .int .i64 mxg, .string txg] 32)).drew := (Bel.alloc hqc.out _).drew
  have hbg : (w5.alloc (.cells #[.int .i64 kg, .int .u64 g0, .int .u64 g1, .int .u64 g2, .int .u64 g3, .slice pg ksg.length capg, .int .i64 mng, .int .i64 mxg, .string txg] 32)).drew.heap[w5.heap.size]? = some (.cells #[.int .i64 kg, .int .u64 g0, .int .u64 g1, .int .u64 g2, .int .u64 g3, .slice pg ksg.length capg, .int .i64 mng, .int .i64 mxg, .string txg] 32 (0, 0)) := World.alloc_heap_new w5 (.cells #[.int .i64 kg, .int .u64 g0, .int .u64 g1, .int .u64 g2, .int .u64 g3, .slice pg ksg.length capg, .int .i64 mng, .int .i64 mxg, .string txg] 32)
  have hTg2 : T.In (w5.alloc (.cells #[.int .i64 kg, .int .u64 g0, .int .u64 g1, .int .u64 g2, .int .u64 g3, .slice pg ksg.length capg, .int .i64 mng, .int .i64 mxg, .string txg] 32)).drew (w5.alloc (.cells #[.int .i64 kg, .int .u64 g0, .int .u64 g1, .int .u64 g2, .int .u64 g3, .slice pg ksg.length capg, .int .i64 mng, .int .i64 mxg, .string txg] 32)).drew.heap.size (.mk kg g0 g1 g2 g3 pg capg mng mxg txg ksg) := in_bel hTg.out ((Bel.new w5 _).drew)
  have cK : Hid (∀ w', Bel (w5.alloc (.cells #[.int .i64 kg, .int .u64 g0, .int .u64 g1, .int .u64 g2, .int .u64 g3, .slice pg ksg.length capg, .int .i64 mng, .int .i64 mxg, .string txg] 32)).drew w' → Calls Tryd.prog 11 #[.agg #[.int .i64 kg, .int .u64 g0, .int .u64 g1, .int .u64 g2, .int .u64 g3, .slice pg ksg.length capg, .int .i64 mng, .int .i64 mxg, .string txg]] w' fun e w'' => e = .returned (.bool (worksB To)) ∧ Below w'.heap.size w' w'') := Lib.hid fun w' hb => by
    have := works_in (in_bel hTg2 hb)
    rw [← works_strip, hms.out, works_strip] at this
    exact this
  obtain ⟨x0, x1, x2, x3, x4, x5, x6, x7, x8⟩ := c9 (kept_row hbo.out hqd)
  obtain ⟨n0, n1, n2, n3, n4, n5, n6, n7, n8⟩ := c9 (kept_row hba3.out hqd)
  obtain ⟨z0, z1, z2, z3, z4, z5, z6, z7, z8⟩ := c9 hbg
  have hbo2 := Lib.hid (kept_row hbo.out hqd)
  have hba4 := Lib.hid (kept_row hba3.out hqd)
  have hqd0 := Lib.hid (Bel.refl (w5.alloc (.cells #[.int .i64 kg, .int .u64 g0, .int .u64 g1, .int .u64 g2, .int .u64 g3, .slice pg ksg.length capg, .int .i64 mng, .int .i64 mxg, .string txg] 32)).drew)
  replace hqd := Lib.hid hqd
  replace hq5 := Lib.hid hq5
  clear hbg hTg2 hTg hqc hqb hqa hms hba3 hbo
  cases hW : worksB To
  · rw [hW] at cK
    clear hsi2
    clear x0 x1 x2 x3 x4 x5 x6 x7 x8 n0 n1 n2 n3 n4 n5 n6 n7 n8 z0 z1 z2 z3 z4 z5 z6 z7 z8
    have hbg2 : (w5.alloc (.cells #[.int .i64 kg, .int .u64 g0, .int .u64 g1, .int .u64 g2, .int .u64 g3, .slice pg ksg.length capg, .int .i64 mng, .int .i64 mxg, .string txg] 32)).drew.heap[w5.heap.size]? = some (.cells #[.int .i64 kg, .int .u64 g0, .int .u64 g1, .int .u64 g2, .int .u64 g3, .slice pg ksg.length capg, .int .i64 mng, .int .i64 mxg, .string txg] 32 (0, 0)) := World.alloc_heap_new w5 (.cells #[.int .i64 kg, .int .u64 g0, .int .u64 g1, .int .u64 g2, .int .u64 g3, .slice pg ksg.length capg, .int .i64 mng, .int .i64 mxg, .string txg] 32)
    replace hbg2 := Lib.hid hbg2
    refine wp_region_held_drew (S := fun W => Bel (w5.alloc (.cells #[.int .i64 kg, .int .u64 g0, .int .u64 g1, .int .u64 g2, .int .u64 g3, .slice pg ksg.length capg, .int .i64 mng, .int .i64 mxg, .string txg] 32)).drew W) (by kernel_rfl) hqd0.out (fun hHeld => ?_)
    clear hqd0
    generalize (w5.alloc (.cells #[.int .i64 kg, .int .u64 g0, .int .u64 g1, .int .u64 g2, .int .u64 g3, .slice pg ksg.length capg, .int .i64 mng, .int .i64 mxg, .string txg] 32)).drew = wd at *
    refine wpAnyH_take (i := 0) (v := ?v0u1) rfl (by kernel_rfl) (by kernel_rfl) (by kernel_rfl) (fun _ _ _ h => h) (Or.inl ⟨by rfl, ?h0u1⟩) hHeld ?r0u1
    case h0u1 => (intro wq hSw; go_simp <;> with_reducible rfl)
    try simp only [Go.Last.pt]
    refine wpAnyH_take (i := 1) (v := ?v1u2) rfl (by kernel_rfl) (by kernel_rfl) (by kernel_rfl) (fun _ _ _ h => h) (Or.inl ⟨by rfl, ?h1u2⟩) hHeld ?r1u2
    case h1u2 => (intro wq hSw; go_simp <;> with_reducible rfl)
    try simp only [Go.Last.pt]
    refine wpAnyH_take (i := 2) (v := ?v2u3) rfl (by kernel_rfl) (by kernel_rfl) (by kernel_rfl) (fun _ _ _ h => h) (Or.inl ⟨by rfl, ?h2u3⟩) hHeld ?r2u3
    case h2u3 => (intro wq hSw; go_simp <;> with_reducible rfl)
    try simp only [Go.Last.pt]
    refine wpAnyH_take (i := 3) (v := ?v3u4) rfl (by kernel_rfl) (by kernel_rfl) (by kernel_rfl) (fun _ _ _ h => h) (Or.inl ⟨by rfl, ?h3u4⟩) hHeld ?r3u4
    case h3u4 => (intro wq hSw; obtain ⟨z0, z1, z2, z3, z4, z5, z6, z7, z8⟩ := c9 (kept_row hbg2.out hSw); go_simp <;> with_reducible rfl)
    try simp only [Go.Last.pt]
    refine Go.Last.held 4 (by kernel_rfl) rfl (fun K hK => ?_)
    go_simp
    (go_at_call 11; (with_reducible refine (cK.out _ hHeld).mono ?_); rintro e w6 ⟨rfl, hb6⟩)
    try dsimp only
    refine hK.out _ _ (Bel.step hHeld hb6) (fun hHeld2 => ?_)
    clear hK K hHeld
    have hHeld := hHeld2
    clear hHeld2
    try simp only [Go.Last.pt]
    refine Go.Last.held 5 (by kernel_rfl) rfl (fun K hK => ?_)
    go_simp
    try dsimp only
    refine hK.out _ _ (hHeld) (fun hHeld2 => ?_)
    clear hK K hHeld
    have hHeld := hHeld2
    clear hHeld2
    try simp only [Go.Last.pt]
    refine Go.Last.held 6 (by kernel_rfl) rfl (fun K hK => ?_)
    go_simp
    try dsimp only
    refine hK.out _ _ (hHeld) (fun hHeld2 => ?_)
    clear hK K hHeld
    have hHeld := hHeld2
    clear hHeld2
    try simp only [Go.Last.pt]
    refine Go.Last.held 7 (by kernel_rfl) rfl (fun K hK => ?_)
    go_simp
    try dsimp only
    refine hK.out _ _ (hHeld) (fun hHeld2 => ?_)
    clear hK K hHeld
    have hHeld := hHeld2
    clear hHeld2
    try simp only [Go.Last.pt]
    refine wpAnyH_take (i := 8) (v := undef) rfl (by kernel_rfl) (by kernel_rfl) (by kernel_rfl) (fun _ _ _ h => h) (Or.inr ⟨by rfl, rfl⟩) hHeld ?_
    try simp only [Go.Last.pt]
    refine wpAnyH_take (i := 9) (v := undef) rfl (by kernel_rfl) (by kernel_rfl) (by kernel_rfl) (fun _ _ _ h => h) (Or.inr ⟨by rfl, rfl⟩) hHeld ?_
    try simp only [Go.Last.pt]
    refine wpAnyH_take (i := 10) (v := undef) rfl (by kernel_rfl) (by kernel_rfl) (by kernel_rfl) (fun _ _ _ h => h) (Or.inr ⟨by rfl, rfl⟩) hHeld ?_
    try simp only [Go.Last.pt]
    refine wpAnyH_take (i := 11) (v := undef) rfl (by kernel_rfl) (by kernel_rfl) (by kernel_rfl) (fun _ _ _ h => h) (Or.inr ⟨by rfl, rfl⟩) hHeld ?_
    try simp only [Go.Last.pt]
    refine wpAnyH_take (i := 12) (v := undef) rfl (by kernel_rfl) (by kernel_rfl) (by kernel_rfl) (fun _ _ _ h => h) (Or.inr ⟨by rfl, rfl⟩) hHeld ?_
    try simp only [Go.Last.pt]
    refine wpAnyH_take (i := 13) (v := undef) rfl (by kernel_rfl) (by kernel_rfl) (by kernel_rfl) (fun _ _ _ h => h) (Or.inr ⟨by rfl, rfl⟩) hHeld ?_
    try simp only [Go.Last.pt]
    refine wpAnyH_take (i := 14) (v := undef) rfl (by kernel_rfl) (by kernel_rfl) (by kernel_rfl) (fun _ _ _ h => h) (Or.inr ⟨by rfl, rfl⟩) hHeld ?_
    try simp only [Go.Last.pt]
    refine Go.Last.held 15 (by kernel_rfl) rfl (fun K hK => ?_)
    go_simp
    try dsimp only
    refine hK.out _ _ (hHeld) (fun hHeld2 => ?_)
    clear hK K hHeld
    have hHeld := hHeld2
    clear hHeld2
    try simp only [Go.Last.pt]
    refine Go.Last.held 16 (by kernel_rfl) rfl (fun K hK => ?_)
    go_simp
    try dsimp only
    refine hK.out _ _ (hHeld) (fun hHeld2 => ?_)
    clear hK K hHeld
    have hHeld := hHeld2
    clear hHeld2
    try simp only [Go.Last.pt]
    refine wpAnyH_done (by kernel_rfl) ?_ _
    go_wp2
    go_ret
    exact ⟨rfl, bel_bel hq5.out hHeld⟩

  · rw [hW] at cK
    have he := hsi2.out hW
    rw [he] at cIO
    clear hsi2 he
    generalize isB t' l = R at *
    clear x0 x1 x2 x3 x4 x5 x6 x7 x8 n0 n1 n2 n3 n4 n5 n6 n7 n8 z0 z1 z2 z3 z4 z5 z6 z7 z8
    have hbg2 : (w5.alloc (.cells #[.int .i64 kg, .int .u64 g0, .int .u64 g1, .int .u64 g2, .int .u64 g3, .slice pg ksg.length capg, .int .i64 mng, .int .i64 mxg, .string txg] 32)).drew.heap[w5.heap.size]? = some (.cells #[.int .i64 kg, .int .u64 g0, .int .u64 g1, .int .u64 g2, .int .u64 g3, .slice pg ksg.length capg, .int .i64 mng, .int .i64 mxg, .string txg] 32 (0, 0)) := World.alloc_heap_new w5 (.cells #[.int .i64 kg, .int .u64 g0, .int .u64 g1, .int .u64 g2, .int .u64 g3, .slice pg ksg.length capg, .int .i64 mng, .int .i64 mxg, .string txg] 32)
    replace hbg2 := Lib.hid hbg2
    refine wp_region_held_drew (S := fun W => Bel (w5.alloc (.cells #[.int .i64 kg, .int .u64 g0, .int .u64 g1, .int .u64 g2, .int .u64 g3, .slice pg ksg.length capg, .int .i64 mng, .int .i64 mxg, .string txg] 32)).drew W) (by kernel_rfl) hqd0.out (fun hHeld => ?_)
    clear hqd0
    generalize (w5.alloc (.cells #[.int .i64 kg, .int .u64 g0, .int .u64 g1, .int .u64 g2, .int .u64 g3, .slice pg ksg.length capg, .int .i64 mng, .int .i64 mxg, .string txg] 32)).drew = wd at *
    refine wpAnyH_take (i := 0) (v := ?v0u12) rfl (by kernel_rfl) (by kernel_rfl) (by kernel_rfl) (fun _ _ _ h => h) (Or.inl ⟨by rfl, ?h0u12⟩) hHeld ?r0u12
    case h0u12 => (intro wq hSw; go_simp <;> with_reducible rfl)
    try simp only [Go.Last.pt]
    refine wpAnyH_take (i := 1) (v := ?v1u13) rfl (by kernel_rfl) (by kernel_rfl) (by kernel_rfl) (fun _ _ _ h => h) (Or.inl ⟨by rfl, ?h1u13⟩) hHeld ?r1u13
    case h1u13 => (intro wq hSw; go_simp <;> with_reducible rfl)
    try simp only [Go.Last.pt]
    refine wpAnyH_take (i := 2) (v := ?v2u14) rfl (by kernel_rfl) (by kernel_rfl) (by kernel_rfl) (fun _ _ _ h => h) (Or.inl ⟨by rfl, ?h2u14⟩) hHeld ?r2u14
    case h2u14 => (intro wq hSw; go_simp <;> with_reducible rfl)
    try simp only [Go.Last.pt]
    refine wpAnyH_take (i := 3) (v := ?v3u15) rfl (by kernel_rfl) (by kernel_rfl) (by kernel_rfl) (fun _ _ _ h => h) (Or.inl ⟨by rfl, ?h3u15⟩) hHeld ?r3u15
    case h3u15 => (intro wq hSw; obtain ⟨z0, z1, z2, z3, z4, z5, z6, z7, z8⟩ := c9 (kept_row hbg2.out hSw); go_simp <;> with_reducible rfl)
    try simp only [Go.Last.pt]
    refine Go.Last.held 4 (by kernel_rfl) rfl (fun K hK => ?_)
    go_simp
    (go_at_call 11; (with_reducible refine (cK.out _ hHeld).mono ?_); rintro e w6 ⟨rfl, hb6⟩)
    try dsimp only
    refine hK.out _ _ (Bel.step hHeld hb6) (fun hHeld2 => ?_)
    clear hK K hHeld
    have hHeld := hHeld2
    clear hHeld2
    try simp only [Go.Last.pt]
    refine Go.Last.held 5 (by kernel_rfl) rfl (fun K hK => ?_)
    go_simp
    try dsimp only
    refine hK.out _ _ (hHeld) (fun hHeld2 => ?_)
    clear hK K hHeld
    have hHeld := hHeld2
    clear hHeld2
    try simp only [Go.Last.pt]
    refine Go.Last.held 6 (by kernel_rfl) rfl (fun K hK => ?_)
    go_simp
    try dsimp only
    refine hK.out _ _ (hHeld) (fun hHeld2 => ?_)
    clear hK K hHeld
    have hHeld := hHeld2
    clear hHeld2
    try simp only [Go.Last.pt]
    refine Go.Last.held 7 (by kernel_rfl) rfl (fun K hK => ?_)
    go_simp
    try dsimp only
    refine hK.out _ _ (hHeld) (fun hHeld2 => ?_)
    clear hK K hHeld
    have hHeld := hHeld2
    clear hHeld2
    try simp only [Go.Last.pt]
    refine wpAnyH_take (i := 8) (v := ?v8u16) rfl (by kernel_rfl) (by kernel_rfl) (by kernel_rfl) (fun _ _ _ h => h) (Or.inl ⟨by rfl, ?h8u16⟩) hHeld ?r8u16
    case h8u16 => (intro wq hSw; obtain ⟨x0, x1, x2, x3, x4, x5, x6, x7, x8⟩ := c9 (kept_row hbo2.out hSw); go_simp <;> with_reducible rfl)
    try simp only [Go.Last.pt]
    refine wpAnyH_take (i := 9) (v := ?v9u17) rfl (by kernel_rfl) (by kernel_rfl) (by kernel_rfl) (fun _ _ _ h => h) (Or.inl ⟨by rfl, ?h9u17⟩) hHeld ?r9u17
    case h9u17 => (intro wq hSw; go_simp <;> with_reducible rfl)
    try simp only [Go.Last.pt]
    refine wpAnyH_take (i := 11) (v := ?v11u18) rfl (by kernel_rfl) (by kernel_rfl) (by kernel_rfl) (fun _ _ _ h => h) (Or.inl ⟨by rfl, ?h11u18⟩) hHeld ?r11u18
    case h11u18 => (intro wq hSw; obtain ⟨n0, n1, n2, n3, n4, n5, n6, n7, n8⟩ := c9 (kept_row hba4.out hSw); go_simp <;> with_reducible rfl)
    try simp only [Go.Last.pt]
    refine wpAnyH_take (i := 12) (v := ?v12u19) rfl (by kernel_rfl) (by kernel_rfl) (by kernel_rfl) (fun _ _ _ h => h) (Or.inl ⟨by rfl, ?h12u19⟩) hHeld ?r12u19
    case h12u19 => (intro wq hSw; go_simp <;> with_reducible rfl)
    try simp only [Go.Last.pt]
    refine Go.Last.held 10 (by kernel_rfl) rfl (fun K hK => ?_)
    go_simp
    (go_at_call 12; (with_reducible refine (cIO.out _ (bel_bel hqd.out hHeld)).mono ?_); rintro e w7 ⟨rfl, hb7⟩)
    try dsimp only
    refine hK.out _ _ (Bel.step hHeld hb7) (fun hHeld2 => ?_)
    clear hK K hHeld
    have hHeld := hHeld2
    clear hHeld2
    try simp only [Go.Last.pt]
    refine Go.Last.held 13 (by kernel_rfl) rfl (fun K hK => ?_)
    go_simp
    (go_at_call 12; (with_reducible refine (cI.out _ (bel_bel hq5.out hHeld)).mono ?_); rintro e w8 ⟨rfl, hb8⟩)
    try dsimp only
    refine hK.out _ _ (Bel.step hHeld hb8) (fun hHeld2 => ?_)
    clear hK K hHeld
    have hHeld := hHeld2
    clear hHeld2
    try simp only [Go.Last.pt]
    refine Go.Last.held 14 (by kernel_rfl) rfl (fun K hK => ?_)
    go_simp
    try dsimp only
    refine hK.out _ _ (hHeld) (fun hHeld2 => ?_)
    clear hK K hHeld
    have hHeld := hHeld2
    clear hHeld2
    try simp only [Go.Last.pt]
    refine Go.Last.held 15 (by kernel_rfl) rfl (fun K hK => ?_)
    go_simp
    try dsimp only
    refine hK.out _ _ (hHeld) (fun hHeld2 => ?_)
    clear hK K hHeld
    have hHeld := hHeld2
    clear hHeld2
    try simp only [Go.Last.pt]
    refine Go.Last.held 16 (by kernel_rfl) rfl (fun K hK => ?_)
    go_simp
    try dsimp only
    refine hK.out _ _ (hHeld) (fun hHeld2 => ?_)
    clear hK K hHeld
    have hHeld := hHeld2
    clear hHeld2
    try simp only [Go.Last.pt]
    refine wpAnyH_done (by kernel_rfl) ?_ _
    go_wp2
    go_ret
    exact ⟨rfl, bel_bel hq5.out hHeld⟩

end Go.Proofs.YtkpoegnekeiieaaDoor
namespace Go.Proofs.YtkpoegnekeiieaaDoor
open Go.RowKit
open Go.Tree7
open S7
open S5 (nl nl_length nl_small at_nl nl_at Gives idx idx_at ix ix_no ix_yes)
theorem matchEmpty_in (w : World) {t : T} (hT : T.In w w.heap.size t) {a : Option Addr} {m c : Nat} {l : List Nat} (hs : Src w a m c l) (hm : m ≤ 9223372036854775807) (cA : ∀ w', Bel w w' → Calls Tryd.prog 7 #[] w' fun e w'' => e = .returned (.bool true) ∧ Below w'.heap.size w' w'') :
    Calls Tryd.prog 6 #[.agg t.cells.toArray, .slice a m c] w fun e w' => e = .returned (.bool true) ∧ Below w.heap.size w w' := by
  by_cases hz : t.size < 60
  · by_cases h : m ≤ 12
    · exact empty_main hT hs hz h cA
    · exact empty_long hT hz h hm cA
  · exact empty_full hT (by omega) cA
end Go.Proofs.YtkpoegnekeiieaaDoor
