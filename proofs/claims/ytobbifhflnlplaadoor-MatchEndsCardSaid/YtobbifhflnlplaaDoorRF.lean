/- Texts merged: S10R20, S10R21. -/

import Derived.Test.YtobbifhflnlplaaDoorRE
import Derived.Test.YtobbifhflnlplaaDoorPG
namespace Go.Proofs.YtobbifhflnlplaaDoor
open Lib (hid)
open Go.RowKit
open Go.Tree7
open S7
open S5 (nl nl_length nl_small at_nl nl_at Gives idx idx_at ix ix_no ix_yes)
theorem inL_strip {t : T} (h : T.All okd t) (w : List Nat) : inL t.strip w = inL t w := by rw [Bool.eq_iff_iff, inL_iff (okd_strip t h), inL_iff h, lang_strip]
theorem lens_strip10 {t : T} (h : T.All okd t) (l : List Nat) : lens t.strip l = lens t l := by
 unfold lens lensTo
 congr 1
 funext k
 exact inL_strip h _
theorem ends_no {w : World} {n : T} {a : Option Addr} {m c : Nat} {f : Int} (h : inB m f = false) (hm : m ≤ 9223372036854775807) :
  Calls Tryd.prog 10 #[.agg n.cells.toArray, .slice a m c, .int .i64 f] w fun e w' => e = .returned (.slice none 0 0) ∧ Below w.heap.size w w' := by
 have hq := Bel.new w (.cells n.cells.toArray 27)
 have cW := hid (fun w => within_in (a := a) (m := m) (c := c) f hm w)
 rw [h] at cW
 obtain ⟨kn, n0, n1, n2, n3, pn, capn, mnn, mxn, txn, ksn⟩ := n
 simp only [T.cells] at hq ⊢
 replace hq := hid hq
 clear h
 go_enter Tryd.func10, Tryd.ntmps10
 go_wp2_with (go_at_call 22; (with_reducible refine (cW.out _).mono ?_); rintro e w1 ⟨rfl, hb⟩; replace hb := hid (show Bel _ w1 from hb))
 go_ret
 exact ⟨rfl, bel_bel hq.out hb.out⟩
theorem ends_at {w : World} {n : T} (hT : T.In w w.heap.size n) {tb toff m c : Nat} {l : List Nat} (hs : Src w (some ⟨tb, toff, none⟩) m c l) (hm : m ≤ 4096) (f : Int) :
  Calls Tryd.prog 10 #[.agg n.cells.toArray, .slice (some ⟨tb, toff, none⟩) m c, .int .i64 f] w fun e w' => ∃ v, e = .returned v ∧ ILst w' w.heap.size v (if inB m f = true then (lensW n (l.drop f.toNat)).map (· + f.toNat) else []) ∧ Below w.heap.size w w' := by
 cases h : inB m f with
 | false =>
  refine (ends_no h (by omega)).mono fun e w' => ?_
  rintro ⟨rfl, hb⟩
  exact ⟨_, rfl, by rw [if_neg (by decide)]; exact ILst.nil _ _, hb⟩
 | true =>
  rw [if_pos rfl]
  unfold inB at h
  simp only [Bool.and_eq_true, decide_eq_true_eq] at h
  have e : f = ((f.toNat : Nat) : Int) := by omega
  have := ends_yes hT hs (F := f.toNat) (by omega) hm
  rw [← e] at this
  exact this
set_option maxRecDepth 100000 in
set_option maxHeartbeats 8000000 in
theorem matchEnds_full {w : World} {n : T} (hT : T.In w w.heap.size n) {a : Option Addr} {m c : Nat} (f : Int) (hz : 80 ≤ n.size) (cA' : ∀ w', Bel w w' → Calls Tryd.prog 7 #[] w' fun e w'' => e = .returned (.bool true) ∧ Below w'.heap.size w' w'') :
  Calls Tryd.prog 3 #[.agg n.cells.toArray, .slice a m c, .int .i64 f] w fun e w' => e = .returned (.bool true) ∧ Below w.heap.size w w' := by
 have hq0 := Bel.new w (.cells n.cells.toArray 27)
 have hba := World.alloc_heap_new w (.cells n.cells.toArray 27)
 have cA := hid (cA' _ hq0)
 have cS : Hid (∀ w', Bel w w' → Calls Tryd.prog 8 #[.agg n.cells.toArray, .int .i64 80] w' fun e w'' => ∃ m : T, e = .returned (.tuple #[.agg m.cells.toArray, .bool false]) ∧ Below w'.heap.size w' w'') := hid fun w' hb => small_full (n := 80) (in_bel hT hb) (by decide) (by decide) hz
 clear hT hz cA'
 obtain ⟨kn, n0, n1, n2, n3, pn, capn, mnn, mxn, txn, ksn⟩ := n
 simp only [T.cells] at hq0 hba cS cA ⊢
 obtain ⟨y0, y1, y2, y3, y4, y5, y6, y7, y8⟩ := c9 hba
 replace hq0 := hid hq0
 replace hba := hid hba
 go_enter Tryd.func3, Tryd.ntmps3
 go_wp2_with (first | (go_at_call 7; (with_reducible refine cA.out.mono ?_); rintro e w1 ⟨rfl, hb⟩; have hba1 := hid (kept_row hba.out hb); have hq1 := hid (Bel.step hq0.out hb); clear hb; clear y0 y1 y2 y3 y4 y5 y6 y7 y8; obtain ⟨y0, y1, y2, y3, y4, y5, y6, y7, y8⟩ := c9 hba1.out) | (go_at_call 8; (with_reducible refine (cS.out _ hq1.out).mono ?_); rintro e w2 ⟨⟨km, m0, m1, m2, m3, pm, capm, mnm, mxm, txm, ksm⟩, rfl, hb⟩; simp only; have hq2 := hid (Bel.alloc (Bel.step hq1.out hb) (.cells #[.int .i64 km, .int .u64 m0, .int .u64 m1, .int .u64 m2, .int .u64 m3, .slice pm ksm.length capm, .int .i64 mnm, .int .i64 mxm, .string txm] 32)); clear hb))
 go_ret
 exact ⟨rfl, hq2.out⟩
set_option maxRecDepth 100000 in
set_option maxHeartbeats 8000000 in
theorem matchEnds_long {w : World} {n : T} (hT : T.In w w.heap.size n) {a : Option Addr} {m c : Nat} (f : Int) (hz : n.size < 80) (hm : 14 < m) (hm2 : m ≤ 9223372036854775807) (cA' : ∀ w', Bel w w' → Calls Tryd.prog 7 #[] w' fun e w'' => e = .returned (.bool true) ∧ Below w'.heap.size w' w'') :
  Calls Tryd.prog 3 #[.agg n.cells.toArray, .slice a m c, .int .i64 f] w fun e w' => e = .returned (.bool true) ∧ Below w.heap.size w w' := by
 have hq0 := Bel.new w (.cells n.cells.toArray 27)
 have hba := World.alloc_heap_new w (.cells n.cells.toArray 27)
 have cA := hid (cA' _ hq0)
 have cS : Hid (∀ w', Bel w w' → Calls Tryd.prog 8 #[.agg n.cells.toArray, .int .i64 80] w' fun e w'' => ∃ m : T, e = .returned (.tuple #[.agg m.cells.toArray, .bool true]) ∧ Below w'.heap.size w' w'' ∧ T.In w'' w''.heap.size m ∧ m.strip = n.strip) := hid fun w' hb => small_room (n := 80) (in_bel hT hb) (by decide) hz
 clear hT hz cA'
 obtain ⟨kn, n0, n1, n2, n3, pn, capn, mnn, mxn, txn, ksn⟩ := n
 simp only [T.cells] at hq0 hba cS cA ⊢
 obtain ⟨y0, y1, y2, y3, y4, y5, y6, y7, y8⟩ := c9 hba
 replace hq0 := hid hq0
 replace hba := hid hba
 go_enter Tryd.func3, Tryd.ntmps3
 go_wp2_with (first | (go_at_call 7; (with_reducible refine cA.out.mono ?_); rintro e w1 ⟨rfl, hb⟩; have hba1 := hid (kept_row hba.out hb); have hq1 := hid (Bel.step hq0.out hb); clear hb; clear y0 y1 y2 y3 y4 y5 y6 y7 y8; obtain ⟨y0, y1, y2, y3, y4, y5, y6, y7, y8⟩ := c9 hba1.out) | (go_at_call 8; (with_reducible refine (cS.out _ hq1.out).mono ?_); rintro e w2 ⟨⟨km, m0, m1, m2, m3, pm, capm, mnm, mxm, txm, ksm⟩, rfl, hb, -, -⟩; simp only; have hq2 := hid (Bel.alloc (Bel.step hq1.out hb) (.cells #[.int .i64 km, .int .u64 m0, .int .u64 m1, .int .u64 m2, .int .u64 m3, .slice pm ksm.length capm, .int .i64 mnm, .int .i64 mxm, .string txm] 32)); clear hb))
 go_ret
 exact ⟨rfl, hq2.out⟩
end Go.Proofs.YtobbifhflnlplaaDoor
namespace Go.Proofs.YtobbifhflnlplaaDoor
open Lib (hid)
open Go.RowKit
open Go.Tree7
open S7
open S5 (nl nl_length nl_small at_nl nl_at Gives idx idx_at ix ix_no ix_yes)
set_option maxRecDepth 100000 in
set_option maxHeartbeats 8000000 in
theorem matchEnds_no {w : World} {n : T} (hT : T.In w w.heap.size n) {a : Option Addr} {m c : Nat} {l : List Nat} (hs : Src w a m c l) (f : Int) (hz : n.size < 80) (hm : m ≤ 14) (cA' : ∀ w', Bel w w' → Calls Tryd.prog 7 #[] w' fun e w'' => e = .returned (.bool true) ∧ Below w'.heap.size w' w'') (hK : worksB n = false) :
  Calls Tryd.prog 3 #[.agg n.cells.toArray, .slice a m c, .int .i64 f] w fun e w' => e = .returned (.bool true) ∧ Below w.heap.size w w' := by
 have hEL : (if inB m f = true then (lensW n (l.drop f.toNat)).map (· + f.toNat) else []) = [] := by
  unfold lensW
  rw [hK]
  simp
 have hlm := hs.len
 have hq0 := Bel.new w (.cells n.cells.toArray 27)
 have hba := World.alloc_heap_new w (.cells n.cells.toArray 27)
 have cA := hid (cA' _ hq0)
 have cS : Hid (∀ w', Bel w w' → Calls Tryd.prog 8 #[.agg n.cells.toArray, .int .i64 80] w' fun e w'' => ∃ m : T, e = .returned (.tuple #[.agg m.cells.toArray, .bool true]) ∧ Below w'.heap.size w' w'' ∧ T.In w'' w''.heap.size m ∧ m.strip = n.strip) := hid fun w' hb => small_room (n := 80) (in_bel hT hb) (by decide) hz
 have cB : Hid (∀ w', Bel w w' → Calls Tryd.prog 9 #[.slice a m c] w' (GivesMarked w' l m)) := hid fun w' hb => bytes_in a m c l (by omega) w' (hs.bel hb)
 have hmsrc : ∀ w' g, Marked w' g l → Src w' (some ⟨g, 0, none⟩) m (m + 6) l := fun w' g h => by
  have := h.src hs.small
  rw [hlm] at this
  exact this
 have cE : Hid (∀ w' g, Bel w w' → Marked w' g l → Calls Tryd.prog 10 #[.agg n.cells.toArray, .slice (some ⟨g, 0, none⟩) m (m + 6 : Nat), .int .i64 f] w' fun e w'' => ∃ v, e = .returned v ∧ ILst w'' w'.heap.size v [] ∧ Below w'.heap.size w' w'') := hid fun w' g hb hk => by
  have := ends_at (in_bel hT hb) (hmsrc w' g hk) (by omega) f
  rw [hEL] at this
  exact this
 have cK : Hid (∀ (mm : T) w', T.In w' w'.heap.size mm → mm.strip = n.strip → Calls Tryd.prog 11 #[.agg mm.cells.toArray] w' fun e w'' => e = .returned (.bool false) ∧ Below w'.heap.size w' w'') := hid fun mm w' h1 h2 => by
  have := works_in h1
  rw [← works_strip, h2, works_strip, hK] at this
  exact this
 have cI : Hid (∀ w' g, Bel w w' → Marked w' g l → Calls Tryd.prog 12 #[.agg n.cells.toArray, .slice (some ⟨g, 0, none⟩) m (m + 6 : Nat)] w' fun e w'' => e = .returned (.bool false) ∧ Below w'.heap.size w' w'') := hid fun w' g hb hk => by
  have := is_in (in_bel hT hb) (hmsrc w' g hk) (by omega)
  rw [isB_no hK] at this
  exact this
 clear hT hz cA' hEL hmsrc hK hs hlm
 obtain ⟨kn, n0, n1, n2, n3, pn, capn, mnn, mxn, txn, ksn⟩ := n
 simp only [T.cells] at hq0 hba cS cA cE cI ⊢
 obtain ⟨y0, y1, y2, y3, y4, y5, y6, y7, y8⟩ := c9 hba
 replace hq0 := hid hq0
 replace hba := hid hba
 go_enter Tryd.func3, Tryd.ntmps3
 go_upto_region 9 with (first | (go_at_call 7; go_loud ((with_reducible refine cA.out.mono ?_); rintro e w1 ⟨rfl, hb⟩; have hba1 := hid (kept_row hba.out hb); have hq1 := hid (Bel.step hq0.out hb); clear hb; clear y0 y1 y2 y3 y4 y5 y6 y7 y8; obtain ⟨y0, y1, y2, y3, y4, y5, y6, y7, y8⟩ := c9 hba1.out)) | (go_at_call 8; go_loud ((with_reducible refine (cS.out _ hq1.out).mono ?_); rintro e w2 ⟨⟨km, m0, m1, m2, m3, pm, capm, mnm, mxm, txm, ksm⟩, rfl, hb, hTm, hms⟩; simp only; have hq2 := hid (Bel.alloc (Bel.step hq1.out hb) (.cells #[.int .i64 km, .int .u64 m0, .int .u64 m1, .int .u64 m2, .int .u64 m3, .slice pm ksm.length capm, .int .i64 mnm, .int .i64 mxm, .string txm] 32)); have hba2 := hid (kept_alloc9 (kept_row hba1.out hb) (.cells #[.int .i64 km, .int .u64 m0, .int .u64 m1, .int .u64 m2, .int .u64 m3, .slice pm ksm.length capm, .int .i64 mnm, .int .i64 mxm, .string txm] 32)); have hbm2 := hid (World.alloc_heap_new w2 (.cells #[.int .i64 km, .int .u64 m0, .int .u64 m1, .int .u64 m2, .int .u64 m3, .slice pm ksm.length capm, .int .i64 mnm, .int .i64 mxm, .string txm] 32)); have hTm2 := hid (in_bel hTm (Bel.new w2 (.cells #[.int .i64 km, .int .u64 m0, .int .u64 m1, .int .u64 m2, .int .u64 m3, .slice pm ksm.length capm, .int .i64 mnm, .int .i64 mxm, .string txm] 32))); replace hms := hid hms; clear hb hTm; clear y0 y1 y2 y3 y4 y5 y6 y7 y8; obtain ⟨y0, y1, y2, y3, y4, y5, y6, y7, y8⟩ := c9 hba2.out; obtain ⟨z0, z1, z2, z3, z4, z5, z6, z7, z8⟩ := c9 hbm2.out)) | (go_at_call 9; go_loud ((with_reducible refine (cB.out _ hq2.out).mono ?_); rintro e w3 ⟨g, rfl, -, hmk, hb⟩; have hq3 := hid (Bel.step hq2.out hb); have hba3 := hid (kept_row hba2.out hb); have hbm3 := hid (kept_row hbm2.out hb); have hTm3 := hid (in_bel hTm2.out hb); replace hmk := hid hmk; clear hb; clear y0 y1 y2 y3 y4 y5 y6 y7 y8 z0 z1 z2 z3 z4 z5 z6 z7 z8; obtain ⟨y0, y1, y2, y3, y4, y5, y6, y7, y8⟩ := c9 hba3.out; obtain ⟨z0, z1, z2, z3, z4, z5, z6, z7, z8⟩ := c9 hbm3.out)) | (go_at_call 10; go_loud ((with_reducible refine (cE.out _ g hq3.out hmk.out).mono ?_); rintro e w4 ⟨v, rfl, hv, hb⟩; have hq4 := hid (Bel.step hq3.out hb); have hba4 := hid (kept_row hba3.out hb); have hbm4 := hid (kept_row hbm3.out hb); have hTm4 := hid (in_bel hTm3.out hb); have hmk4 := hid (hmk.out.bel hb); replace hv := hid hv; have cK2 := cK.out (T.mk km m0 m1 m2 m3 pm capm mnm mxm txm ksm) _ hTm4.out hms.out; simp only [T.cells] at cK2; replace cK2 := hid cK2; clear hb; clear y0 y1 y2 y3 y4 y5 y6 y7 y8 z0 z1 z2 z3 z4 z5 z6 z7 z8; obtain ⟨y0, y1, y2, y3, y4, y5, y6, y7, y8⟩ := c9 hba4.out; obtain ⟨z0, z1, z2, z3, z4, z5, z6, z7, z8⟩ := c9 hbm4.out)) | (go_at_call 11; go_loud ((with_reducible refine cK2.out.mono ?_); rintro e w5 ⟨rfl, hb⟩; have hq5 := hid (Bel.step hq4.out hb); have hba5 := hid (kept_row hba4.out hb); have hbm5 := hid (kept_row hbm4.out hb); have hTm5 := hid (in_bel hTm4.out hb); have hmk5 := hid (hmk4.out.bel hb); have hv5 := hid (hv.out.keep fun g _ hl => hb.block g hl); clear hb; clear y0 y1 y2 y3 y4 y5 y6 y7 y8 z0 z1 z2 z3 z4 z5 z6 z7 z8; obtain ⟨y0, y1, y2, y3, y4, y5, y6, y7, y8⟩ := c9 hba5.out; obtain ⟨z0, z1, z2, z3, z4, z5, z6, z7, z8⟩ := c9 hbm5.out)))
 obtain ⟨p, cp, rfl⟩ := hv5.out.form
 simp only [List.length_nil]
 have cI2 := hid (cI.out _ g hq5.out hmk5.out)
 go_wp2_with (go_at_call 12; (with_reducible refine cI2.out.mono ?_); rintro e w6 ⟨rfl, hb⟩; have hq6 := hid (Bel.step hq5.out hb); clear hb)
 go_ret
 exact ⟨rfl, hq6.out⟩
end Go.Proofs.YtobbifhflnlplaaDoor
