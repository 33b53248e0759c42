/- Texts merged: S10R22, S10R23. -/

import Derived.Test.YtobbifhflnlplaaDoorRF
namespace Go.Proofs.YtobbifhflnlplaaDoor
open Lib (hid)
open Go.RowKit
open Go.Tree7
open S7
open S5 (nl nl_length nl_small at_nl nl_at Gives idx idx_at ix ix_no ix_yes)
set_option maxRecDepth 100000 in
set_option maxHeartbeats 8000000 in
theorem matchEnds_yes {w : World} {n : T} (hT : T.In w w.heap.size n) {a : Option Addr} {m c : Nat} {l : List Nat} (hs : Src w a m c l) (f : Int) (hz : n.size < 80) (hm : m ≤ 14) (cA' : ∀ w', Bel w w' → Calls Tryd.prog 7 #[] w' fun e w'' => e = .returned (.bool true) ∧ Below w'.heap.size w' w'') (hK : worksB n = true) :
  Calls Tryd.prog 3 #[.agg n.cells.toArray, .slice a m c, .int .i64 f] w fun e w' => e = .returned (.bool true) ∧ Below w.heap.size w w' := by
 obtain ⟨hKr, hKw⟩ := (worksB_iff n).1 hK
 have hok : T.All okd n := okd_ok (right_all ((rightB_iff n).1 hKr)).1
 have hF2 : Fine2 n.strip := ⟨fine_in hT hKr hKw, by rw [size_strip]; omega⟩
 obtain ⟨EL, hEL⟩ : ∃ EL, (if inB m f = true then (lensW n (l.drop f.toNat)).map (· + f.toNat) else []) = EL := ⟨_, rfl⟩
 have hELl : EL.length ≤ 20 := by
  rw [← hEL]
  split
  ·rw [List.length_map]
   have h1 := lensW_le n (l.drop f.toNat)
   rw [List.length_drop] at h1
   have := hs.len
   omega
  ·simp
 have hlm := hs.len
 have hq0 := Bel.new w (.cells n.cells.toArray 27)
 have hba := World.alloc_heap_new w (.cells n.cells.toArray 27)
 have cA := hid (cA' _ hq0)
 have cS : Hid (∀ w', Bel w w' → Calls Tryd.prog 8 #[.agg n.cells.toArray, .int .i64 80] w' fun e w'' => ∃ m : T, e = .returned (.tuple #[.agg m.cells.toArray, .bool true]) ∧ Below w'.heap.size w' w'' ∧ T.In w'' w''.heap.size m ∧ m.strip = n.strip) := hid fun w' hb => small_room (n := 80) (in_bel hT hb) (by decide) hz
 have cB : Hid (∀ w', Bel w w' → Calls Tryd.prog 9 #[.slice a m c] w' (GivesMarked w' l m)) := hid fun w' hb => bytes_in a m c l (by omega) w' (hs.bel hb)
 have hmsrc : ∀ w' g, Marked w' g l → Src w' (some ⟨g, 0, none⟩) m (m + 6) l := fun w' g h => by
  have := h.src hs.small
  rw [hlm] at this
  exact this
 have cE : Hid (∀ w' g, Bel w w' → Marked w' g l → Calls Tryd.prog 10 #[.agg n.cells.toArray, .slice (some ⟨g, 0, none⟩) m (m + 6 : Nat), .int .i64 f] w' fun e w'' => ∃ v, e = .returned v ∧ ILst w'' w'.heap.size v EL ∧ Below w'.heap.size w' w'') := hid fun w' g hb hk => by
  have := ends_at (in_bel hT hb) (hmsrc w' g hk) (by omega) f
  rw [hEL] at this
  exact this
 have cK : Hid (∀ (mm : T) w', T.In w' w'.heap.size mm → mm.strip = n.strip → Calls Tryd.prog 11 #[.agg mm.cells.toArray] w' fun e w'' => e = .returned (.bool true) ∧ Below w'.heap.size w' w'') := hid fun mm w' h1 h2 => by
  have := works_in h1
  rw [← works_strip, h2, works_strip, hK] at this
  exact this
 obtain ⟨V, hV⟩ : ∃ V, V = inL n l := ⟨_, rfl⟩
 have cI : Hid (∀ w' g, Bel w w' → Marked w' g l → Calls Tryd.prog 12 #[.agg n.cells.toArray, .slice (some ⟨g, 0, none⟩) m (m + 6 : Nat)] w' fun e w'' => e = .returned (.bool V) ∧ Below w'.heap.size w' w'') := hid fun w' g hb hk => by
  have := is_in (in_bel hT hb) (hmsrc w' g hk) (by omega)
  have e : isB n l = V := by unfold isB; rw [hV, hK, decide_eq_true (by omega : l.length ≤ 4096)]; rfl
  rw [e] at this
  exact this
 have cJ : Hid (∀ (mm : T) w', Bel w w' → T.In w' w'.heap.size mm → mm.strip = n.strip → Calls Tryd.prog 15 #[.agg mm.cells.toArray, .slice a m c] w' fun e w'' => e = .returned (.bool V) ∧ Below w'.heap.size w' w'') := hid fun mm w' hb h1 h2 => by
  have := ref_is h1 (h2 ▸ hF2) (hs.bel hb) (by omega)
  rw [h2, inL_strip hok, ← hV] at this
  exact this
 have cQ : Hid (inB m f = true → ∀ (mm : T) w', Bel w w' → T.In w' w'.heap.size mm → mm.strip = n.strip → Calls Tryd.prog 13 #[.agg mm.cells.toArray, .slice a m c, .int .i64 f] w' fun e w'' => ∃ u, e = .returned u ∧ ILst w'' w'.heap.size u EL ∧ Below w'.heap.size w' w'') := hid fun hI mm w' hb h1 h2 => by
  have hI2 := hI
  unfold inB at hI2
  simp only [Bool.and_eq_true, decide_eq_true_eq] at hI2
  have e : ((f.toNat : Nat) : Int) = f := by omega
  have := ref_ends h1 (h2 ▸ hF2) (hs.bel hb) (by omega) (F := f.toNat) (by omega)
  rw [e, h2, lens_strip10 hok] at this
  rw [if_pos hI] at hEL
  unfold lensW at hEL
  rw [if_pos hK] at hEL
  rw [hEL] at this
  exact this
 have cP0 : Hid (∀ w' g, Bel w w' → Marked w' g l → Calls Tryd.prog 16 #[.slice (some ⟨g, 0, none⟩) m (m + 6 : Nat), .slice a m c] w' fun e w'' => e = .returned (.bool true) ∧ Below w'.heap.size w' w'') := hid fun w' g hb hk => by
  have := kept_in a c g l (by omega) w' (by rw [hlm]; exact hs.bel hb) hk
  rw [hlm] at this
  exact this
 have hno : Hid (inB m f = false → EL = []) := hid fun h => by rw [← hEL, h]; rfl
 have hin : Hid (inB m f = (decide (0 ≤ f) && decide (f ≤ m))) := hid (by unfold inB; rw [decide_eq_true (by omega : m ≤ 4096)]; rfl)
 generalize inB m f = I at *
 clear hT hz cA' hEL hmsrc hK hs hlm hok hF2 hKr hKw hV
 obtain ⟨kn, n0, n1, n2, n3, pn, capn, mnn, mxn, txn, ksn⟩ := n
 simp only [T.cells] at hq0 hba cS cA cE cI ⊢
 obtain ⟨y0, y1, y2, y3, y4, y5, y6, y7, y8⟩ := c9 hba
 replace hq0 := hid hq0
 replace hba := hid hba
 cases I with
 | false =>
  obtain rfl := hno.out rfl
  have hg := hin.out
  have hrow : ∀ w' : World, ILst (w'.alloc (.cells #[] 3)) w'.heap.size (.slice (some ⟨w'.heap.size, 0, none⟩) 0 0) [] := fun w' => World.ownsRow_made w' #[] 0 (Nat.le_refl _) (by decide) rfl
  replace hrow := hid hrow
  by_cases h0 : 0 ≤ f
  ·have h1 : ¬ f ≤ (m : Int) := by
    intro h
    rw [decide_eq_true h0, decide_eq_true h] at hg
    cases hg
   clear hg hin
   go_enter Tryd.func3, Tryd.ntmps3
   go_upto_region 13 with (first | (go_at_call 7; ((with_reducible refine cA.out.mono ?_); rintro e w1 ⟨rfl, hb⟩; have hba1 := hid (kept_row hba.out hb); have hq1 := hid (Bel.step hq0.out hb); clear hb; clear y0 y1 y2 y3 y4 y5 y6 y7 y8; obtain ⟨y0, y1, y2, y3, y4, y5, y6, y7, y8⟩ := c9 hba1.out)) | (go_at_call 8; ((with_reducible refine (cS.out _ hq1.out).mono ?_); rintro e w2 ⟨⟨km, m0, m1, m2, m3, pm, capm, mnm, mxm, txm, ksm⟩, rfl, hb, hTm, hms⟩; simp only; have hq2 := hid (Bel.alloc (Bel.step hq1.out hb) (.cells #[.int .i64 km, .int .u64 m0, .int .u64 m1, .int .u64 m2, .int .u64 m3, .slice pm ksm.length capm, .int .i64 mnm, .int .i64 mxm, .string txm] 32)); have hba2 := hid (kept_alloc9 (kept_row hba1.out hb) (.cells #[.int .i64 km, .int .u64 m0, .int .u64 m1, .int .u64 m2, .int .u64 m3, .slice pm ksm.length capm, .int .i64 mnm, .int .i64 mxm, .string txm] 32)); have hbm2 := hid (World.alloc_heap_new w2 (.cells #[.int .i64 km, .int .u64 m0, .int .u64 m1, .int .u64 m2, .int .u64 m3, .slice pm ksm.length capm, .int .i64 mnm, .int .i64 mxm, .string txm] 32)); have hTm2 := hid (in_bel hTm (Bel.new w2 (.cells #[.int .i64 km, .int .u64 m0, .int .u64 m1, .int .u64 m2, .int .u64 m3, .slice pm ksm.length capm, .int .i64 mnm, .int .i64 mxm, .string txm] 32))); replace hms := hid hms; clear hb hTm; clear y0 y1 y2 y3 y4 y5 y6 y7 y8; obtain ⟨y0, y1, y2, y3, y4, y5, y6, y7, y8⟩ := c9 hba2.out; obtain ⟨z0, z1, z2, z3, z4, z5, z6, z7, z8⟩ := c9 hbm2.out)) | (go_at_call 9; ((with_reducible refine (cB.out _ hq2.out).mono ?_); rintro e w3 ⟨g, rfl, -, hmk, hb⟩; have hq3 := hid (Bel.step hq2.out hb); have hba3 := hid (kept_row hba2.out hb); have hbm3 := hid (kept_row hbm2.out hb); have hTm3 := hid (in_bel hTm2.out hb); replace hmk := hid hmk; clear hb; clear y0 y1 y2 y3 y4 y5 y6 y7 y8 z0 z1 z2 z3 z4 z5 z6 z7 z8; obtain ⟨y0, y1, y2, y3, y4, y5, y6, y7, y8⟩ := c9 hba3.out; obtain ⟨z0, z1, z2, z3, z4, z5, z6, z7, z8⟩ := c9 hbm3.out)) | (go_at_call 10; ((with_reducible refine (cE.out _ g hq3.out hmk.out).mono ?_); rintro e w4 ⟨v, rfl, hv, hb⟩; have hq4 := hid (Bel.step hq3.out hb); have hba4 := hid (kept_row hba3.out hb); have hbm4 := hid (kept_row hbm3.out hb); have hTm4 := hid (in_bel hTm3.out hb); have hmk4 := hid (hmk.out.bel hb); replace hv := hid hv; have cK2 := cK.out (T.mk km m0 m1 m2 m3 pm capm mnm mxm txm ksm) _ hTm4.out hms.out; simp only [T.cells] at cK2; replace cK2 := hid cK2; clear hb; clear y0 y1 y2 y3 y4 y5 y6 y7 y8 z0 z1 z2 z3 z4 z5 z6 z7 z8; obtain ⟨y0, y1, y2, y3, y4, y5, y6, y7, y8⟩ := c9 hba4.out; obtain ⟨z0, z1, z2, z3, z4, z5, z6, z7, z8⟩ := c9 hbm4.out)) | (go_at_call 11; ((with_reducible refine cK2.out.mono ?_); rintro e w5 ⟨rfl, hb⟩; have hq5 := hid (Bel.step hq4.out hb); have hba5 := hid (kept_row hba4.out hb); have hbm5 := hid (kept_row hbm4.out hb); have hTm5 := hid (in_bel hTm4.out hb); have hmk5 := hid (hmk4.out.bel hb); have hv5 := hid (hv.out.keep fun g _ hl => hb.block g hl); clear hb; clear y0 y1 y2 y3 y4 y5 y6 y7 y8 z0 z1 z2 z3 z4 z5 z6 z7 z8; obtain ⟨y0, y1, y2, y3, y4, y5, y6, y7, y8⟩ := c9 hba5.out; obtain ⟨z0, z1, z2, z3, z4, z5, z6, z7, z8⟩ := c9 hbm5.out)))
   have hnR := hid (show Bel w5 (w5.alloc (.cells #[] 3)) from Bel.new _ _)
   have hqX := hid (show Bel w (w5.alloc (.cells #[] 3)) from Bel.alloc hq5.out _)
   have hbaX := hid (kept_row hba5.out hnR.out)
   have hbmX := hid (kept_row hbm5.out hnR.out)
   have hTmX := hid (in_bel hTm5.out hnR.out)
   have hmkX := hid (hmk5.out.bel hnR.out)
   have hvX := hid (hv5.out.keep (w' := (w5.alloc (.cells #[] 3))) fun g _ hl => hnR.out.block g hl)
   have huX := hid (hrow.out w5)
   have cX : Hid (∀ W', Bel (w5.alloc (.cells #[] 3)) W' → Calls Tryd.prog 14 #[v, .slice (some ⟨w5.heap.size, 0, none⟩) 0 0] W' fun e w'' => e = .returned (.bool true) ∧ Below W'.heap.size W' w'') := hid fun W' hb => sameints_in (hvX.out.keep fun g _ hl => hb.block g hl) (huX.out.keep fun g _ hl => hb.block g hl) (by omega) (by omega) (by simp)
   have cI3 : Hid (∀ W', Bel (w5.alloc (.cells #[] 3)) W' → Calls Tryd.prog 12 #[.agg #[.int .i64 kn, .int .u64 n0, .int .u64 n1, .int .u64 n2, .int .u64 n3, .slice pn ksn.length capn, .int .i64 mnn, .int .i64 mxn, .string txn], .slice (some ⟨g, 0, none⟩) m (m + 6 : Nat)] W' fun e w'' => e = .returned (.bool V) ∧ Below W'.heap.size W' w'') := hid fun W' hb => cI.out W' g (bel_bel hqX.out hb) (hmkX.out.bel hb)
   have cJ3 : Hid (∀ W', Bel (w5.alloc (.cells #[] 3)) W' → Calls Tryd.prog 15 #[.agg #[.int .i64 km, .int .u64 m0, .int .u64 m1, .int .u64 m2, .int .u64 m3, .slice pm ksm.length capm, .int .i64 mnm, .int .i64 mxm, .string txm], .slice a m c] W' fun e w'' => e = .returned (.bool V) ∧ Below W'.heap.size W' w'') := hid fun W' hb => cJ.out (T.mk km m0 m1 m2 m3 pm capm mnm mxm txm ksm) W' (bel_bel hqX.out hb) (in_bel hTmX.out hb) hms.out
   have cP : Hid (∀ W', Bel (w5.alloc (.cells #[] 3)) W' → Calls Tryd.prog 16 #[.slice (some ⟨g, 0, none⟩) m (m + 6 : Nat), .slice a m c] W' fun e w'' => e = .returned (.bool true) ∧ Below W'.heap.size W' w'') := hid fun W' hb => cP0.out W' g (bel_bel hqX.out hb) (hmkX.out.bel hb)
   clear hvX huX hTmX hmkX
   refine wp_region_held_drew (S := fun W => Bel (w5.alloc (.cells #[] 3)) W) (by kernel_rfl) (Below.refl _ _).drew (fun hHeld => ?_)
   refine wpAnyH_take (i := 0) (v := ?v0u1) rfl (by kernel_rfl) (by kernel_rfl) (by kernel_rfl) (fun _ _ _ h => h) (Or.inl ⟨by kernel_rfl, ?h0u1⟩) hHeld ?r0u1
   case h0u1 => (intro wq hSw; go_simp <;> with_reducible rfl)
   try simp only [Go.Last.pt]
   refine wpAnyH_take (i := 1) (v := ?v1u2) rfl (by kernel_rfl) (by kernel_rfl) (by kernel_rfl) (fun _ _ _ h => h) (Or.inl ⟨by kernel_rfl, ?h1u2⟩) hHeld ?r1u2
   case h1u2 => (intro wq hSw; go_simp <;> with_reducible rfl)
   try simp only [Go.Last.pt]
   refine Go.Last.held 2 (by kernel_rfl) rfl (fun K hK => ?_)
   go_simp
   (go_at_call 14; (with_reducible refine (cX.out _ hHeld).mono ?_); rintro e w22 ⟨rfl, hb22⟩)
   try dsimp only
   refine hK.out _ _ (Bel.step hHeld hb22) (fun hHeld2 => ?_)
   clear hK K hHeld
   have hHeld := hHeld2
   clear hHeld2
   try simp only [Go.Last.pt]
   refine Go.Last.held 3 (by kernel_rfl) rfl (fun K hK => ?_)
   go_simp
   try dsimp only
   refine hK.out _ _ (hHeld) (fun hHeld2 => ?_)
   clear hK K hHeld
   have hHeld := hHeld2
   clear hHeld2
   try simp only [Go.Last.pt]
   refine wpAnyH_take (i := 4) (v := ?v4u3) rfl (by kernel_rfl) (by kernel_rfl) (by kernel_rfl) (fun _ _ _ h => h) (Or.inl ⟨by kernel_rfl, ?h4u3⟩) hHeld ?r4u3
   case h4u3 => (intro wq hSw; obtain ⟨y0, y1, y2, y3, y4, y5, y6, y7, y8⟩ := c9 (kept_row hbaX.out hSw); go_simp <;> with_reducible rfl)
   try simp only [Go.Last.pt]
   refine wpAnyH_take (i := 5) (v := ?v5u4) rfl (by kernel_rfl) (by kernel_rfl) (by kernel_rfl) (fun _ _ _ h => h) (Or.inl ⟨by kernel_rfl, ?h5u4⟩) hHeld ?r5u4
   case h5u4 => (intro wq hSw; go_simp <;> with_reducible rfl)
   try simp only [Go.Last.pt]
   refine wpAnyH_take (i := 7) (v := ?v7u5) rfl (by kernel_rfl) (by kernel_rfl) (by kernel_rfl) (fun _ _ _ h => h) (Or.inl ⟨by kernel_rfl, ?h7u5⟩) hHeld ?r7u5
   case h7u5 => (intro wq hSw; obtain ⟨z0, z1, z2, z3, z4, z5, z6, z7, z8⟩ := c9 (kept_row hbmX.out hSw); go_simp <;> with_reducible rfl)
   try simp only [Go.Last.pt]
   refine wpAnyH_take (i := 8) (v := ?v8u6) rfl (by kernel_rfl) (by kernel_rfl) (by kernel_rfl) (fun _ _ _ h => h) (Or.inl ⟨by kernel_rfl, ?h8u6⟩) hHeld ?r8u6
   case h8u6 => (intro wq hSw; go_simp <;> with_reducible rfl)
   try simp only [Go.Last.pt]
   refine Go.Last.held 6 (by kernel_rfl) rfl (fun K hK => ?_)
   go_simp
   (go_at_call 12; (with_reducible refine (cI3.out _ hHeld).mono ?_); rintro e w23 ⟨rfl, hb23⟩)
   try dsimp only
   refine hK.out _ _ (Bel.step hHeld hb23) (fun hHeld2 => ?_)
   clear hK K hHeld
   have hHeld := hHeld2
   clear hHeld2
   try simp only [Go.Last.pt]
   refine Go.Last.held 9 (by kernel_rfl) rfl (fun K hK => ?_)
   go_simp
   (go_at_call 15; (with_reducible refine (cJ3.out _ hHeld).mono ?_); rintro e w24 ⟨rfl, hb24⟩)
   try dsimp only
   refine hK.out _ _ (Bel.step hHeld hb24) (fun hHeld2 => ?_)
   clear hK K hHeld
   have hHeld := hHeld2
   clear hHeld2
   try simp only [Go.Last.pt]
   refine Go.Last.held 10 (by kernel_rfl) rfl (fun K hK => ?_)
   go_simp
   try dsimp only
   refine hK.out _ _ (hHeld) (fun hHeld2 => ?_)
   clear hK K hHeld
   have hHeld := hHeld2
   clear hHeld2
   try simp only [Go.Last.pt]
   refine Go.Last.held 11 (by kernel_rfl) rfl (fun K hK => ?_)
   go_simp
   try dsimp only
   refine hK.out _ _ (hHeld) (fun hHeld2 => ?_)
   clear hK K hHeld
   have hHeld := hHeld2
   clear hHeld2
   try simp only [Go.Last.pt]
   refine Go.Last.held 12 (by kernel_rfl) rfl (fun K hK => ?_)
   go_simp
   try dsimp only
   refine hK.out _ _ (hHeld) (fun hHeld2 => ?_)
   clear hK K hHeld
   have hHeld := hHeld2
   clear hHeld2
   try simp only [Go.Last.pt]
   refine wpAnyH_take (i := 13) (v := ?v13u7) rfl (by kernel_rfl) (by kernel_rfl) (by kernel_rfl) (fun _ _ _ h => h) (Or.inl ⟨by kernel_rfl, ?h13u7⟩) hHeld ?r13u7
   case h13u7 => (intro wq hSw; go_simp <;> with_reducible rfl)
   try simp only [Go.Last.pt]
   refine wpAnyH_take (i := 14) (v := ?v14u8) rfl (by kernel_rfl) (by kernel_rfl) (by kernel_rfl) (fun _ _ _ h => h) (Or.inl ⟨by kernel_rfl, ?h14u8⟩) hHeld ?r14u8
   case h14u8 => (intro wq hSw; go_simp <;> with_reducible rfl)
   try simp only [Go.Last.pt]
   refine Go.Last.held 15 (by kernel_rfl) rfl (fun K hK => ?_)
   go_simp
   (go_at_call 16; (with_reducible refine (cP.out _ hHeld).mono ?_); rintro e w25 ⟨rfl, hb25⟩)
   try dsimp only
   refine hK.out _ _ (Bel.step hHeld hb25) (fun hHeld2 => ?_)
   clear hK K hHeld
   have hHeld := hHeld2
   clear hHeld2
   try simp only [Go.Last.pt]
   refine Go.Last.held 16 (by kernel_rfl) rfl (fun K hK => ?_)
   go_simp
   try dsimp only
   refine hK.out _ _ (hHeld) (fun hHeld2 => ?_)
   clear hK K hHeld
   have hHeld := hHeld2
   clear hHeld2
   try simp only [Go.Last.pt]
   refine Go.Last.held 17 (by kernel_rfl) rfl (fun K hK => ?_)
   go_simp
   try dsimp only
   refine hK.out _ _ (hHeld) (fun hHeld2 => ?_)
   clear hK K hHeld
   have hHeld := hHeld2
   clear hHeld2
   try simp only [Go.Last.pt]
   refine wpAnyH_done (by kernel_rfl) ?_ _
   go_wp2
   go_ret
   exact ⟨rfl, bel_bel hqX.out hHeld⟩
   
  ·clear hg hin
   go_enter Tryd.func3, Tryd.ntmps3
   go_upto_region 13 with (first | (go_at_call 7; ((with_reducible refine cA.out.mono ?_); rintro e w1 ⟨rfl, hb⟩; have hba1 := hid (kept_row hba.out hb); have hq1 := hid (Bel.step hq0.out hb); clear hb; clear y0 y1 y2 y3 y4 y5 y6 y7 y8; obtain ⟨y0, y1, y2, y3, y4, y5, y6, y7, y8⟩ := c9 hba1.out)) | (go_at_call 8; ((with_reducible refine (cS.out _ hq1.out).mono ?_); rintro e w2 ⟨⟨km, m0, m1, m2, m3, pm, capm, mnm, mxm, txm, ksm⟩, rfl, hb, hTm, hms⟩; simp only; have hq2 := hid (Bel.alloc (Bel.step hq1.out hb) (.cells #[.int .i64 km, .int .u64 m0, .int .u64 m1, .int .u64 m2, .int .u64 m3, .slice pm ksm.length capm, .int .i64 mnm, .int .i64 mxm, .string txm] 32)); have hba2 := hid (kept_alloc9 (kept_row hba1.out hb) (.cells #[.int .i64 km, .int .u64 m0, .int .u64 m1, .int .u64 m2, .int .u64 m3, .slice pm ksm.length capm, .int .i64 mnm, .int .i64 mxm, .string txm] 32)); have hbm2 := hid (World.alloc_heap_new w2 (.cells #[.int .i64 km, .int .u64 m0, .int .u64 m1, .int .u64 m2, .int .u64 m3, .slice pm ksm.length capm, .int .i64 mnm, .int .i64 mxm, .string txm] 32)); have hTm2 := hid (in_bel hTm (Bel.new w2 (.cells #[.int .i64 km, .int .u64 m0, .int .u64 m1, .int .u64 m2, .int .u64 m3, .slice pm ksm.length capm, .int .i64 mnm, .int .i64 mxm, .string txm] 32))); replace hms := hid hms; clear hb hTm; clear y0 y1 y2 y3 y4 y5 y6 y7 y8; obtain ⟨y0, y1, y2, y3, y4, y5, y6, y7, y8⟩ := c9 hba2.out; obtain ⟨z0, z1, z2, z3, z4, z5, z6, z7, z8⟩ := c9 hbm2.out)) | (go_at_call 9; ((with_reducible refine (cB.out _ hq2.out).mono ?_); rintro e w3 ⟨g, rfl, -, hmk, hb⟩; have hq3 := hid (Bel.step hq2.out hb); have hba3 := hid (kept_row hba2.out hb); have hbm3 := hid (kept_row hbm2.out hb); have hTm3 := hid (in_bel hTm2.out hb); replace hmk := hid hmk; clear hb; clear y0 y1 y2 y3 y4 y5 y6 y7 y8 z0 z1 z2 z3 z4 z5 z6 z7 z8; obtain ⟨y0, y1, y2, y3, y4, y5, y6, y7, y8⟩ := c9 hba3.out; obtain ⟨z0, z1, z2, z3, z4, z5, z6, z7, z8⟩ := c9 hbm3.out)) | (go_at_call 10; ((with_reducible refine (cE.out _ g hq3.out hmk.out).mono ?_); rintro e w4 ⟨v, rfl, hv, hb⟩; have hq4 := hid (Bel.step hq3.out hb); have hba4 := hid (kept_row hba3.out hb); have hbm4 := hid (kept_row hbm3.out hb); have hTm4 := hid (in_bel hTm3.out hb); have hmk4 := hid (hmk.out.bel hb); replace hv := hid hv; have cK2 := cK.out (T.mk km m0 m1 m2 m3 pm capm mnm mxm txm ksm) _ hTm4.out hms.out; simp only [T.cells] at cK2; replace cK2 := hid cK2; clear hb; clear y0 y1 y2 y3 y4 y5 y6 y7 y8 z0 z1 z2 z3 z4 z5 z6 z7 z8; obtain ⟨y0, y1, y2, y3, y4, y5, y6, y7, y8⟩ := c9 hba4.out; obtain ⟨z0, z1, z2, z3, z4, z5, z6, z7, z8⟩ := c9 hbm4.out)) | (go_at_call 11; ((with_reducible refine cK2.out.mono ?_); rintro e w5 ⟨rfl, hb⟩; have hq5 := hid (Bel.step hq4.out hb); have hba5 := hid (kept_row hba4.out hb); have hbm5 := hid (kept_row hbm4.out hb); have hTm5 := hid (in_bel hTm4.out hb); have hmk5 := hid (hmk4.out.bel hb); have hv5 := hid (hv.out.keep fun g _ hl => hb.block g hl); clear hb; clear y0 y1 y2 y3 y4 y5 y6 y7 y8 z0 z1 z2 z3 z4 z5 z6 z7 z8; obtain ⟨y0, y1, y2, y3, y4, y5, y6, y7, y8⟩ := c9 hba5.out; obtain ⟨z0, z1, z2, z3, z4, z5, z6, z7, z8⟩ := c9 hbm5.out)))
   have hnR := hid (show Bel w5 (w5.alloc (.cells #[] 3)) from Bel.new _ _)
   have hqX := hid (show Bel w (w5.alloc (.cells #[] 3)) from Bel.alloc hq5.out _)
   have hbaX := hid (kept_row hba5.out hnR.out)
   have hbmX := hid (kept_row hbm5.out hnR.out)
   have hTmX := hid (in_bel hTm5.out hnR.out)
   have hmkX := hid (hmk5.out.bel hnR.out)
   have hvX := hid (hv5.out.keep (w' := (w5.alloc (.cells #[] 3))) fun g _ hl => hnR.out.block g hl)
   have huX := hid (hrow.out w5)
   have cX : Hid (∀ W', Bel (w5.alloc (.cells #[] 3)) W' → Calls Tryd.prog 14 #[v, .slice (some ⟨w5.heap.size, 0, none⟩) 0 0] W' fun e w'' => e = .returned (.bool true) ∧ Below W'.heap.size W' w'') := hid fun W' hb => sameints_in (hvX.out.keep fun g _ hl => hb.block g hl) (huX.out.keep fun g _ hl => hb.block g hl) (by omega) (by omega) (by simp)
   have cI3 : Hid (∀ W', Bel (w5.alloc (.cells #[] 3)) W' → Calls Tryd.prog 12 #[.agg #[.int .i64 kn, .int .u64 n0, .int .u64 n1, .int .u64 n2, .int .u64 n3, .slice pn ksn.length capn, .int .i64 mnn, .int .i64 mxn, .string txn], .slice (some ⟨g, 0, none⟩) m (m + 6 : Nat)] W' fun e w'' => e = .returned (.bool V) ∧ Below W'.heap.size W' w'') := hid fun W' hb => cI.out W' g (bel_bel hqX.out hb) (hmkX.out.bel hb)
   have cJ3 : Hid (∀ W', Bel (w5.alloc (.cells #[] 3)) W' → Calls Tryd.prog 15 #[.agg #[.int .i64 km, .int .u64 m0, .int .u64 m1, .int .u64 m2, .int .u64 m3, .slice pm ksm.length capm, .int .i64 mnm, .int .i64 mxm, .string txm], .slice a m c] W' fun e w'' => e = .returned (.bool V) ∧ Below W'.heap.size W' w'') := hid fun W' hb => cJ.out (T.mk km m0 m1 m2 m3 pm capm mnm mxm txm ksm) W' (bel_bel hqX.out hb) (in_bel hTmX.out hb) hms.out
   have cP : Hid (∀ W', Bel (w5.alloc (.cells #[] 3)) W' → Calls Tryd.prog 16 #[.slice (some ⟨g, 0, none⟩) m (m + 6 : Nat), .slice a m c] W' fun e w'' => e = .returned (.bool true) ∧ Below W'.heap.size W' w'') := hid fun W' hb => cP0.out W' g (bel_bel hqX.out hb) (hmkX.out.bel hb)
   clear hvX huX hTmX hmkX
   refine wp_region_held_drew (S := fun W => Bel (w5.alloc (.cells #[] 3)) W) (by kernel_rfl) (Below.refl _ _).drew (fun hHeld => ?_)
   refine wpAnyH_take (i := 0) (v := ?v0u9) rfl (by kernel_rfl) (by kernel_rfl) (by kernel_rfl) (fun _ _ _ h => h) (Or.inl ⟨by kernel_rfl, ?h0u9⟩) hHeld ?r0u9
   case h0u9 => (intro wq hSw; go_simp <;> with_reducible rfl)
   try simp only [Go.Last.pt]
   refine wpAnyH_take (i := 1) (v := ?v1u10) rfl (by kernel_rfl) (by kernel_rfl) (by kernel_rfl) (fun _ _ _ h => h) (Or.inl ⟨by kernel_rfl, ?h1u10⟩) hHeld ?r1u10
   case h1u10 => (intro wq hSw; go_simp <;> with_reducible rfl)
   try simp only [Go.Last.pt]
   refine Go.Last.held 2 (by kernel_rfl) rfl (fun K hK => ?_)
   go_simp
   (go_at_call 14; (with_reducible refine (cX.out _ hHeld).mono ?_); rintro e w22 ⟨rfl, hb22⟩)
   try dsimp only
   refine hK.out _ _ (Bel.step hHeld hb22) (fun hHeld2 => ?_)
   clear hK K hHeld
   have hHeld := hHeld2
   clear hHeld2
   try simp only [Go.Last.pt]
   refine Go.Last.held 3 (by kernel_rfl) rfl (fun K hK => ?_)
   go_simp
   try dsimp only
   refine hK.out _ _ (hHeld) (fun hHeld2 => ?_)
   clear hK K hHeld
   have hHeld := hHeld2
   clear hHeld2
   try simp only [Go.Last.pt]
   refine wpAnyH_take (i := 4) (v := ?v4u11) rfl (by kernel_rfl) (by kernel_rfl) (by kernel_rfl) (fun _ _ _ h => h) (Or.inl ⟨by kernel_rfl, ?h4u11⟩) hHeld ?r4u11
   case h4u11 => (intro wq hSw; obtain ⟨y0, y1, y2, y3, y4, y5, y6, y7, y8⟩ := c9 (kept_row hbaX.out hSw); go_simp <;> with_reducible rfl)
   try simp only [Go.Last.pt]
   refine wpAnyH_take (i := 5) (v := ?v5u12) rfl (by kernel_rfl) (by kernel_rfl) (by kernel_rfl) (fun _ _ _ h => h) (Or.inl ⟨by kernel_rfl, ?h5u12⟩) hHeld ?r5u12
   case h5u12 => (intro wq hSw; go_simp <;> with_reducible rfl)
   try simp only [Go.Last.pt]
   refine wpAnyH_take (i := 7) (v := ?v7u13) rfl (by kernel_rfl) (by kernel_rfl) (by kernel_rfl) (fun _ _ _ h => h) (Or.inl ⟨by kernel_rfl, ?h7u13⟩) hHeld ?r7u13
   case h7u13 => (intro wq hSw; obtain ⟨z0, z1, z2, z3, z4, z5, z6, z7, z8⟩ := c9 (kept_row hbmX.out hSw); go_simp <;> with_reducible rfl)
   try simp only [Go.Last.pt]
   refine wpAnyH_take (i := 8) (v := ?v8u14) rfl (by kernel_rfl) (by kernel_rfl) (by kernel_rfl) (fun _ _ _ h => h) (Or.inl ⟨by kernel_rfl, ?h8u14⟩) hHeld ?r8u14
   case h8u14 => (intro wq hSw; go_simp <;> with_reducible rfl)
   try simp only [Go.Last.pt]
   refine Go.Last.held 6 (by kernel_rfl) rfl (fun K hK => ?_)
   go_simp
   (go_at_call 12; (with_reducible refine (cI3.out _ hHeld).mono ?_); rintro e w23 ⟨rfl, hb23⟩)
   try dsimp only
   refine hK.out _ _ (Bel.step hHeld hb23) (fun hHeld2 => ?_)
   clear hK K hHeld
   have hHeld := hHeld2
   clear hHeld2
   try simp only [Go.Last.pt]
   refine Go.Last.held 9 (by kernel_rfl) rfl (fun K hK => ?_)
   go_simp
   (go_at_call 15; (with_reducible refine (cJ3.out _ hHeld).mono ?_); rintro e w24 ⟨rfl, hb24⟩)
   try dsimp only
   refine hK.out _ _ (Bel.step hHeld hb24) (fun hHeld2 => ?_)
   clear hK K hHeld
   have hHeld := hHeld2
   clear hHeld2
   try simp only [Go.Last.pt]
   refine Go.Last.held 10 (by kernel_rfl) rfl (fun K hK => ?_)
   go_simp
   try dsimp only
   refine hK.out _ _ (hHeld) (fun hHeld2 => ?_)
   clear hK K hHeld
   have hHeld := hHeld2
   clear hHeld2
   try simp only [Go.Last.pt]
   refine Go.Last.held 11 (by kernel_rfl) rfl (fun K hK => ?_)
   go_simp
   try dsimp only
   refine hK.out _ _ (hHeld) (fun hHeld2 => ?_)
   clear hK K hHeld
   have hHeld := hHeld2
   clear hHeld2
   try simp only [Go.Last.pt]
   refine Go.Last.held 12 (by kernel_rfl) rfl (fun K hK => ?_)
   go_simp
   try dsimp only
   refine hK.out _ _ (hHeld) (fun hHeld2 => ?_)
   clear hK K hHeld
   have hHeld := hHeld2
   clear hHeld2
   try simp only [Go.Last.pt]
   refine wpAnyH_take (i := 13) (v := ?v13u15) rfl (by kernel_rfl) (by kernel_rfl) (by kernel_rfl) (fun _ _ _ h => h) (Or.inl ⟨by kernel_rfl, ?h13u15⟩) hHeld ?r13u15
   case h13u15 => (intro wq hSw; go_simp <;> with_reducible rfl)
   try simp only [Go.Last.pt]
   refine wpAnyH_take (i := 14) (v := ?v14u16) rfl (by kernel_rfl) (by kernel_rfl) (by kernel_rfl) (fun _ _ _ h => h) (Or.inl ⟨by kernel_rfl, ?h14u16⟩) hHeld ?r14u16
   case h14u16 => (intro wq hSw; go_simp <;> with_reducible rfl)
   try simp only [Go.Last.pt]
   refine Go.Last.held 15 (by kernel_rfl) rfl (fun K hK => ?_)
   go_simp
   (go_at_call 16; (with_reducible refine (cP.out _ hHeld).mono ?_); rintro e w25 ⟨rfl, hb25⟩)
   try dsimp only
   refine hK.out _ _ (Bel.step hHeld hb25) (fun hHeld2 => ?_)
   clear hK K hHeld
   have hHeld := hHeld2
   clear hHeld2
   try simp only [Go.Last.pt]
   refine Go.Last.held 16 (by kernel_rfl) rfl (fun K hK => ?_)
   go_simp
   try dsimp only
   refine hK.out _ _ (hHeld) (fun hHeld2 => ?_)
   clear hK K hHeld
   have hHeld := hHeld2
   clear hHeld2
   try simp only [Go.Last.pt]
   refine Go.Last.held 17 (by kernel_rfl) rfl (fun K hK => ?_)
   go_simp
   try dsimp only
   refine hK.out _ _ (hHeld) (fun hHeld2 => ?_)
   clear hK K hHeld
   have hHeld := hHeld2
   clear hHeld2
   try simp only [Go.Last.pt]
   refine wpAnyH_done (by kernel_rfl) ?_ _
   go_wp2
   go_ret
   exact ⟨rfl, bel_bel hqX.out hHeld⟩
   
 | true =>
  have hg := hin.out.symm
  rw [Bool.and_eq_true, decide_eq_true_eq, decide_eq_true_eq] at hg
  obtain ⟨h0, h1⟩ := hg
  clear hin hno
  go_enter Tryd.func3, Tryd.ntmps3
  go_upto_region 12 with (first | (go_at_call 7; ((with_reducible refine cA.out.mono ?_); rintro e w1 ⟨rfl, hb⟩; have hba1 := hid (kept_row hba.out hb); have hq1 := hid (Bel.step hq0.out hb); clear hb; clear y0 y1 y2 y3 y4 y5 y6 y7 y8; obtain ⟨y0, y1, y2, y3, y4, y5, y6, y7, y8⟩ := c9 hba1.out)) | (go_at_call 8; ((with_reducible refine (cS.out _ hq1.out).mono ?_); rintro e w2 ⟨⟨km, m0, m1, m2, m3, pm, capm, mnm, mxm, txm, ksm⟩, rfl, hb, hTm, hms⟩; simp only; have hq2 := hid (Bel.alloc (Bel.step hq1.out hb) (.cells #[.int .i64 km, .int .u64 m0, .int .u64 m1, .int .u64 m2, .int .u64 m3, .slice pm ksm.length capm, .int .i64 mnm, .int .i64 mxm, .string txm] 32)); have hba2 := hid (kept_alloc9 (kept_row hba1.out hb) (.cells #[.int .i64 km, .int .u64 m0, .int .u64 m1, .int .u64 m2, .int .u64 m3, .slice pm ksm.length capm, .int .i64 mnm, .int .i64 mxm, .string txm] 32)); have hbm2 := hid (World.alloc_heap_new w2 (.cells #[.int .i64 km, .int .u64 m0, .int .u64 m1, .int .u64 m2, .int .u64 m3, .slice pm ksm.length capm, .int .i64 mnm, .int .i64 mxm, .string txm] 32)); have hTm2 := hid (in_bel hTm (Bel.new w2 (.cells #[.int .i64 km, .int .u64 m0, .int .u64 m1, .int .u64 m2, .int .u64 m3, .slice pm ksm.length capm, .int .i64 mnm, .int .i64 mxm, .string txm] 32))); replace hms := hid hms; clear hb hTm; clear y0 y1 y2 y3 y4 y5 y6 y7 y8; obtain ⟨y0, y1, y2, y3, y4, y5, y6, y7, y8⟩ := c9 hba2.out; obtain ⟨z0, z1, z2, z3, z4, z5, z6, z7, z8⟩ := c9 hbm2.out)) | (go_at_call 9; ((with_reducible refine (cB.out _ hq2.out).mono ?_); rintro e w3 ⟨g, rfl, -, hmk, hb⟩; have hq3 := hid (Bel.step hq2.out hb); have hba3 := hid (kept_row hba2.out hb); have hbm3 := hid (kept_row hbm2.out hb); have hTm3 := hid (in_bel hTm2.out hb); replace hmk := hid hmk; clear hb; clear y0 y1 y2 y3 y4 y5 y6 y7 y8 z0 z1 z2 z3 z4 z5 z6 z7 z8; obtain ⟨y0, y1, y2, y3, y4, y5, y6, y7, y8⟩ := c9 hba3.out; obtain ⟨z0, z1, z2, z3, z4, z5, z6, z7, z8⟩ := c9 hbm3.out)) | (go_at_call 10; ((with_reducible refine (cE.out _ g hq3.out hmk.out).mono ?_); rintro e w4 ⟨v, rfl, hv, hb⟩; have hq4 := hid (Bel.step hq3.out hb); have hba4 := hid (kept_row hba3.out hb); have hbm4 := hid (kept_row hbm3.out hb); have hTm4 := hid (in_bel hTm3.out hb); have hmk4 := hid (hmk.out.bel hb); replace hv := hid hv; have cK2 := cK.out (T.mk km m0 m1 m2 m3 pm capm mnm mxm txm ksm) _ hTm4.out hms.out; simp only [T.cells] at cK2; replace cK2 := hid cK2; clear hb; clear y0 y1 y2 y3 y4 y5 y6 y7 y8 z0 z1 z2 z3 z4 z5 z6 z7 z8; obtain ⟨y0, y1, y2, y3, y4, y5, y6, y7, y8⟩ := c9 hba4.out; obtain ⟨z0, z1, z2, z3, z4, z5, z6, z7, z8⟩ := c9 hbm4.out)) | (go_at_call 11; ((with_reducible refine cK2.out.mono ?_); rintro e w5 ⟨rfl, hb⟩; have hq5 := hid (Bel.step hq4.out hb); have hba5 := hid (kept_row hba4.out hb); have hbm5 := hid (kept_row hbm4.out hb); have hTm5 := hid (in_bel hTm4.out hb); have hmk5 := hid (hmk4.out.bel hb); have hv5 := hid (hv.out.keep fun g _ hl => hb.block g hl); clear hb; clear y0 y1 y2 y3 y4 y5 y6 y7 y8 z0 z1 z2 z3 z4 z5 z6 z7 z8; obtain ⟨y0, y1, y2, y3, y4, y5, y6, y7, y8⟩ := c9 hba5.out; obtain ⟨z0, z1, z2, z3, z4, z5, z6, z7, z8⟩ := c9 hbm5.out)))
  have hqR := hid (show Bel w (w5.alloc (.cells #[] 3)) from Bel.alloc hq5.out _)
  have hnR := hid (show Bel w5 (w5.alloc (.cells #[] 3)) from Bel.new _ _)
  have hbaR := hid (kept_row hba5.out hnR.out)
  have hbmR := hid (kept_row hbm5.out hnR.out)
  have hTmR := hid (in_bel hTm5.out hnR.out)
  have hmkR := hid (hmk5.out.bel hnR.out)
  have hvR := hid (hv5.out.keep (w' := (w5.alloc (.cells #[] 3))) fun g _ hl => hnR.out.block g hl)
  have cR := cQ.out trivial (T.mk km m0 m1 m2 m3 pm capm mnm mxm txm ksm) _ hqR.out hTmR.out hms.out
  simp only [T.cells] at cR
  replace cR := hid cR
  clear y0 y1 y2 y3 y4 y5 y6 y7 y8 z0 z1 z2 z3 z4 z5 z6 z7 z8
  obtain ⟨z0, z1, z2, z3, z4, z5, z6, z7, z8⟩ := c9 hbmR.out
  go_upto_region 13 with (go_at_call 13; ((with_reducible refine cR.out.mono ?_); rintro e w6 ⟨u, rfl, hu, hb⟩; have hq6 := hid (Bel.step hqR.out hb); have hba6 := hid (kept_row hbaR.out hb); have hbm6 := hid (kept_row hbmR.out hb); have hTm6 := hid (in_bel hTmR.out hb); have hmk6 := hid (hmkR.out.bel hb); have hv6 := hid (hvR.out.keep fun g _ hl => hb.block g hl); replace hu := hid hu; clear hb))
  have hqX := hq6
  have hbaX := hba6
  have hbmX := hbm6
  have hTmX := hTm6
  have hmkX := hmk6
  have hvX := hv6
  have huX := hu
  have cX : Hid (∀ W', Bel w6 W' → Calls Tryd.prog 14 #[v, u] W' fun e w'' => e = .returned (.bool true) ∧ Below W'.heap.size W' w'') := hid fun W' hb => sameints_in (hvX.out.keep fun g _ hl => hb.block g hl) (huX.out.keep fun g _ hl => hb.block g hl) (by omega) (by omega) (by simp)
  have cI3 : Hid (∀ W', Bel w6 W' → Calls Tryd.prog 12 #[.agg #[.int .i64 kn, .int .u64 n0, .int .u64 n1, .int .u64 n2, .int .u64 n3, .slice pn ksn.length capn, .int .i64 mnn, .int .i64 mxn, .string txn], .slice (some ⟨g, 0, none⟩) m (m + 6 : Nat)] W' fun e w'' => e = .returned (.bool V) ∧ Below W'.heap.size W' w'') := hid fun W' hb => cI.out W' g (bel_bel hqX.out hb) (hmkX.out.bel hb)
  have cJ3 : Hid (∀ W', Bel w6 W' → Calls Tryd.prog 15 #[.agg #[.int .i64 km, .int .u64 m0, .int .u64 m1, .int .u64 m2, .int .u64 m3, .slice pm ksm.length capm, .int .i64 mnm, .int .i64 mxm, .string txm], .slice a m c] W' fun e w'' => e = .returned (.bool V) ∧ Below W'.heap.size W' w'') := hid fun W' hb => cJ.out (T.mk km m0 m1 m2 m3 pm capm mnm mxm txm ksm) W' (bel_bel hqX.out hb) (in_bel hTmX.out hb) hms.out
  have cP : Hid (∀ W', Bel w6 W' → Calls Tryd.prog 16 #[.slice (some ⟨g, 0, none⟩) m (m + 6 : Nat), .slice a m c] W' fun e w'' => e = .returned (.bool true) ∧ Below W'.heap.size W' w'') := hid fun W' hb => cP0.out W' g (bel_bel hqX.out hb) (hmkX.out.bel hb)
  clear hvX huX hTmX hmkX
  refine wp_region_held_drew (S := fun W => Bel w6 W) (by kernel_rfl) (Below.refl _ _).drew (fun hHeld => ?_)
  refine wpAnyH_take (i := 0) (v := ?v0u17) rfl (by kernel_rfl) (by kernel_rfl) (by kernel_rfl) (fun _ _ _ h => h) (Or.inl ⟨by kernel_rfl, ?h0u17⟩) hHeld ?r0u17
  case h0u17 => (intro wq hSw; go_simp <;> with_reducible rfl)
  try simp only [Go.Last.pt]
  refine wpAnyH_take (i := 1) (v := ?v1u18) rfl (by kernel_rfl) (by kernel_rfl) (by kernel_rfl) (fun _ _ _ h => h) (Or.inl ⟨by kernel_rfl, ?h1u18⟩) hHeld ?r1u18
  case h1u18 => (intro wq hSw; go_simp <;> with_reducible rfl)
  try simp only [Go.Last.pt]
  refine Go.Last.held 2 (by kernel_rfl) rfl (fun K hK => ?_)
  go_simp
  (go_at_call 14; (with_reducible refine (cX.out _ hHeld).mono ?_); rintro e w22 ⟨rfl, hb22⟩)
  try dsimp only
  refine hK.out _ _ (Bel.step hHeld hb22) (fun hHeld2 => ?_)
  clear hK K hHeld
  have hHeld := hHeld2
  clear hHeld2
  try simp only [Go.Last.pt]
  refine Go.Last.held 3 (by kernel_rfl) rfl (fun K hK => ?_)
  go_simp
  try dsimp only
  refine hK.out _ _ (hHeld) (fun hHeld2 => ?_)
  clear hK K hHeld
  have hHeld := hHeld2
  clear hHeld2
  try simp only [Go.Last.pt]
  refine wpAnyH_take (i := 4) (v := ?v4u19) rfl (by kernel_rfl) (by kernel_rfl) (by kernel_rfl) (fun _ _ _ h => h) (Or.inl ⟨by kernel_rfl, ?h4u19⟩) hHeld ?r4u19
  case h4u19 => (intro wq hSw; obtain ⟨y0, y1, y2, y3, y4, y5, y6, y7, y8⟩ := c9 (kept_row hbaX.out hSw); go_simp <;> with_reducible rfl)
  try simp only [Go.Last.pt]
  refine wpAnyH_take (i := 5) (v := ?v5u20) rfl (by kernel_rfl) (by kernel_rfl) (by kernel_rfl) (fun _ _ _ h => h) (Or.inl ⟨by kernel_rfl, ?h5u20⟩) hHeld ?r5u20
  case h5u20 => (intro wq hSw; go_simp <;> with_reducible rfl)
  try simp only [Go.Last.pt]
  refine wpAnyH_take (i := 7) (v := ?v7u21) rfl (by kernel_rfl) (by kernel_rfl) (by kernel_rfl) (fun _ _ _ h => h) (Or.inl ⟨by kernel_rfl, ?h7u21⟩) hHeld ?r7u21
  case h7u21 => (intro wq hSw; obtain ⟨z0, z1, z2, z3, z4, z5, z6, z7, z8⟩ := c9 (kept_row hbmX.out hSw); go_simp <;> with_reducible rfl)
  try simp only [Go.Last.pt]
  refine wpAnyH_take (i := 8) (v := ?v8u22) rfl (by kernel_rfl) (by kernel_rfl) (by kernel_rfl) (fun _ _ _ h => h) (Or.inl ⟨by kernel_rfl, ?h8u22⟩) hHeld ?r8u22
  case h8u22 => (intro wq hSw; go_simp <;> with_reducible rfl)
  try simp only [Go.Last.pt]
  refine Go.Last.held 6 (by kernel_rfl) rfl (fun K hK => ?_)
  go_simp
  (go_at_call 12; (with_reducible refine (cI3.out _ hHeld).mono ?_); rintro e w23 ⟨rfl, hb23⟩)
  try dsimp only
  refine hK.out _ _ (Bel.step hHeld hb23) (fun hHeld2 => ?_)
  clear hK K hHeld
  have hHeld := hHeld2
  clear hHeld2
  try simp only [Go.Last.pt]
  refine Go.Last.held 9 (by kernel_rfl) rfl (fun K hK => ?_)
  go_simp
  (go_at_call 15; (with_reducible refine (cJ3.out _ hHeld).mono ?_); rintro e w24 ⟨rfl, hb24⟩)
  try dsimp only
  refine hK.out _ _ (Bel.step hHeld hb24) (fun hHeld2 => ?_)
  clear hK K hHeld
  have hHeld := hHeld2
  clear hHeld2
  try simp only [Go.Last.pt]
  refine Go.Last.held 10 (by kernel_rfl) rfl (fun K hK => ?_)
  go_simp
  try dsimp only
  refine hK.out _ _ (hHeld) (fun hHeld2 => ?_)
  clear hK K hHeld
  have hHeld := hHeld2
  clear hHeld2
  try simp only [Go.Last.pt]
  refine Go.Last.held 11 (by kernel_rfl) rfl (fun K hK => ?_)
  go_simp
  try dsimp only
  refine hK.out _ _ (hHeld) (fun hHeld2 => ?_)
  clear hK K hHeld
  have hHeld := hHeld2
  clear hHeld2
  try simp only [Go.Last.pt]
  refine Go.Last.held 12 (by kernel_rfl) rfl (fun K hK => ?_)
  go_simp
  try dsimp only
  refine hK.out _ _ (hHeld) (fun hHeld2 => ?_)
  clear hK K hHeld
  have hHeld := hHeld2
  clear hHeld2
  try simp only [Go.Last.pt]
  refine wpAnyH_take (i := 13) (v := ?v13u23) rfl (by kernel_rfl) (by kernel_rfl) (by kernel_rfl) (fun _ _ _ h => h) (Or.inl ⟨by kernel_rfl, ?h13u23⟩) hHeld ?r13u23
  case h13u23 => (intro wq hSw; go_simp <;> with_reducible rfl)
  try simp only [Go.Last.pt]
  refine wpAnyH_take (i := 14) (v := ?v14u24) rfl (by kernel_rfl) (by kernel_rfl) (by kernel_rfl) (fun _ _ _ h => h) (Or.inl ⟨by kernel_rfl, ?h14u24⟩) hHeld ?r14u24
  case h14u24 => (intro wq hSw; go_simp <;> with_reducible rfl)
  try simp only [Go.Last.pt]
  refine Go.Last.held 15 (by kernel_rfl) rfl (fun K hK => ?_)
  go_simp
  (go_at_call 16; (with_reducible refine (cP.out _ hHeld).mono ?_); rintro e w25 ⟨rfl, hb25⟩)
  try dsimp only
  refine hK.out _ _ (Bel.step hHeld hb25) (fun hHeld2 => ?_)
  clear hK K hHeld
  have hHeld := hHeld2
  clear hHeld2
  try simp only [Go.Last.pt]
  refine Go.Last.held 16 (by kernel_rfl) rfl (fun K hK => ?_)
  go_simp
  try dsimp only
  refine hK.out _ _ (hHeld) (fun hHeld2 => ?_)
  clear hK K hHeld
  have hHeld := hHeld2
  clear hHeld2
  try simp only [Go.Last.pt]
  refine Go.Last.held 17 (by kernel_rfl) rfl (fun K hK => ?_)
  go_simp
  try dsimp only
  refine hK.out _ _ (hHeld) (fun hHeld2 => ?_)
  clear hK K hHeld
  have hHeld := hHeld2
  clear hHeld2
  try simp only [Go.Last.pt]
  refine wpAnyH_done (by kernel_rfl) ?_ _
  go_wp2
  go_ret
  exact ⟨rfl, bel_bel hqX.out hHeld⟩
  
end Go.Proofs.YtobbifhflnlplaaDoor
namespace Go.Proofs.YtobbifhflnlplaaDoor
open Lib (hid)
open Go.RowKit
open Go.Tree7
open S7
open S5 (nl nl_length nl_small at_nl nl_at Gives idx idx_at ix ix_no ix_yes)
theorem matchEnds_in (w : World) {n : T} (hT : T.In w w.heap.size n) {a : Option Addr} {m c : Nat} {l : List Nat} (hs : Src w a m c l) (hm : m ≤ 9223372036854775807) (f : Int) (cA : ∀ w', Bel w w' → Calls Tryd.prog 7 #[] w' fun e w'' => e = .returned (.bool true) ∧ Below w'.heap.size w' w'') :
  Calls Tryd.prog 3 #[.agg n.cells.toArray, .slice a m c, .int .i64 f] w fun e w' => e = .returned (.bool true) ∧ Below w.heap.size w w' := by
 by_cases hz : n.size < 80
 ·by_cases h : m ≤ 14
  ·cases hK : worksB n with
   | false => exact matchEnds_no hT hs f hz h cA hK
   | true => exact matchEnds_yes hT hs f hz h cA hK
  ·exact matchEnds_long hT f hz (by omega) hm cA
 ·exact matchEnds_full hT f (by omega) cA
end Go.Proofs.YtobbifhflnlplaaDoor
