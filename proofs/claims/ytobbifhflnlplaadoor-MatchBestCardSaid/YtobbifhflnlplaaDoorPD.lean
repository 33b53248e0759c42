/- Texts merged: S10W7, S10W8. -/

import Derived.Test.YtobbifhflnlplaaDoorPB
namespace Go.Proofs.YtobbifhflnlplaaDoor
open Lib (hid)
open Go.RowKit
open Go.Tree7
open S7
open S5 (nl nl_length nl_small at_nl nl_at Gives idx idx_at ix ix_no ix_yes)
set_option maxRecDepth 100000 in
set_option maxHeartbeats 8000000 in
theorem spreadAll_in {w0 w : World} {B0 : Nat} (hn0 : B0 ≤ w0.heap.size) (hB0 : Below B0 w0 w) {k s0 s1 s2 s3 : Int} {p : Option Addr} {cap : Nat} {mn mx : Int} {tx : ByteArray} {ks : List T} (hT : T.In w0 B0 (.mk k s0 s1 s2 s3 p cap mn mx tx ks)) (ih : ∀ a ∈ ks, SpreadOf w0 B0 a) (hlen : ks.length ≤ 1000) :
  Calls Tryd.prog 57 #[.slice p ks.length cap] w (GivesParts (fun ps => ps.length = ks.length ∧ ∀ i (h1 : i < ks.length) (h2 : i < ps.length), Spr ks[i] ps[i]) w) := by
 have hBn : B0 ≤ w.heap.size := Nat.le_trans hn0 hB0.size
 have hmk := make_parts (n := ks.length) (by omega)
 have hG : ∃ G, G = GivesParts (fun ps => ps.length = ks.length ∧ ∀ i (h1 : i < ks.length) (h2 : i < ps.length), Spr ks[i] ps[i]) w := ⟨_, rfl⟩
 obtain ⟨G, hG⟩ := hG
 rw [← hG]
 replace hG := hid hG
 have hst0 : ∃ bd, FSt w (w.alloc (.cells (madeCells #[.int .i64 0, .int .u64 0, .int .u64 0, .int .u64 0, .int .u64 0, .slice none 0 0, .bool false, .bool false, .bool false, .bool false] (ks.length * 10)) 75)) w.heap.size ks.length (fun i x => ∀ h : i < ks.length, Spr ks[i] x) bd [] :=
  ⟨fun _ => w.heap.size + 1, made_row (World.alloc_heap_new _ _), (Below.refl _ _).alloc (Nat.le_refl _) _, Nat.le_refl _, Nat.lt_succ_self _, fun i hi => by simp at hi, by simp, fun i hi => by simp at hi, fun x hx => by simp at hx, fun i hi => by simp at hi⟩
 replace hst0 := hid hst0
 replace hT := hid hT
 replace ih := hid ih
 replace hB0 := hid hB0
 go_enter Tryd.func57, Tryd.ntmps57
 go_wp2
 go_loopw [11] (fun i wr => ∃ (ms : List Pt) (bd : Nat → Nat), ms.length ≤ ks.length ∧ i = .int .i64 ms.length ∧ Hid (FSt w wr w.heap.size ks.length (fun i x => ∀ h : i < ks.length, Spr ks[i] x) bd ms)) (fun i _ => ks.length - (intOf i).toNat)
 case atStart => obtain ⟨bd, h⟩ := hst0.out; exact ⟨[], bd, Nat.zero_le _, rfl, hid h⟩
 case round =>
  clear hst0 hmk
  obtain ⟨ms, bd, hj, rfl, hst⟩ := hrel
  by_cases hlt : ms.length < ks.length
  ·obtain ⟨b1, o1, hkid1, hp1, hb1, hc1⟩ := T.kid hT.out hlt
   have hww : Below B0 w0 wr := hB0.out.trans (hst.out.bel.mono hBn)
   have hcl1 : ∀ q, q < 9 → wr.cell? ⟨b1, o1 + ms.length * 9 + q, none⟩ = (ks[ms.length].cells)[q]? := fun q hq => by
    rw [← hc1 q hq]
    exact hww.cell (p := ⟨b1, o1 + ms.length * 9 + q, none⟩) hb1
   have hi := ih.out _ (List.getElem_mem hlt)
   unfold SpreadOf at hi
   obtain ⟨j, hjm⟩ : ∃ j, ms.length = j := ⟨_, rfl⟩
   have hjn : j < ks.length := by omega
   have hkj : ks[ms.length] = ks[j] := by simp only [hjm]
   rw [hkj] at hi hcl1
   rw [hjm] at hcl1
   simp only [hjm]
   have hst9 := hid (fun (h : ms.length < ks.length) => @FSt.next w wr)
   have hjl := hid (show j < (ms ++ List.replicate (ks.length - ms.length) zeroP).length by simp; omega)
   have hspr : Hid (∀ x, Spr ks[j] x → ∀ h : ms.length < ks.length, Spr ks[ms.length] x) := hid fun x hx h => by rw [hkj]; exact hx
   clear hkid1 hc1
   generalize ks[j] = kd at *
   obtain ⟨k', s0', s1', s2', s3', p', cap', mn', mx', tx', ks'⟩ := kd
   simp only [T.cells] at hi hcl1
   obtain ⟨c0, c1, c2, c3, c4, c5, c6, c7, c8⟩ := nine_of hcl1
   subst hp1
   clear hcl1 hkj
   have hgw : w.heap.size < wr.heap.size := hst.out.row.lt
   have hbk := hid (World.alloc_heap_new wr (.cells #[.int .i64 k', .int .u64 s0', .int .u64 s1', .int .u64 s2', .int .u64 s3', .slice p' ks'.length cap', .int .i64 mn', .int .i64 mx', .string tx'] 27))
   have hBk : Below wr.heap.size wr (wr.alloc (.cells #[.int .i64 k', .int .u64 s0', .int .u64 s1', .int .u64 s2', .int .u64 s3', .slice p' ks'.length cap', .int .i64 mn', .int .i64 mx', .string tx'] 27)) := (Below.refl _ wr).alloc (Nat.le_refl _) _
   have cC := hid (hi (wr.alloc (.cells #[.int .i64 k', .int .u64 s0', .int .u64 s1', .int .u64 s2', .int .u64 s3', .slice p' ks'.length cap', .int .i64 mn', .int .i64 mx', .string tx'] 27)) (hww.trans (hBk.mono (by have := hst.out.bel.size; omega))))
   have hrk : Hid (∀ w9, Below (wr.alloc (.cells #[.int .i64 k', .int .u64 s0', .int .u64 s1', .int .u64 s2', .int .u64 s3', .slice p' ks'.length cap', .int .i64 mn', .int .i64 mx', .string tx'] 27)).heap.size (wr.alloc (.cells #[.int .i64 k', .int .u64 s0', .int .u64 s1', .int .u64 s2', .int .u64 s3', .slice p' ks'.length cap', .int .i64 mn', .int .i64 mx', .string tx'] 27)) w9 → PRow w9 w.heap.size (ms ++ List.replicate (ks.length - ms.length) zeroP)) := hid fun w9 hb => hst.out.row.keep ((hb.block _ (by simp; omega)).trans (hBk.block _ hgw))
   replace hBk := hid hBk
   clear hi hww
   go_wp2_with (go_at_call 36; ((with_reducible refine cC.out.mono ?_); rintro e w9 ⟨⟨ky, t0, t1, t2, t3, py, capy, sky, agy, lvy, eny, ksy⟩, rfl, hb9, ho9, hf9, hq9⟩; simp only [Pt.cells]; have hrow9 := hid (hrk.out w9 hb9); replace hb9 := hid hb9; replace ho9 := hid ho9; replace hf9 := hid hf9; replace hq9 := hid hq9; have f0 := hrow9.out.frozen (j * 10); obtain ⟨z0, hz0⟩ : ∃ z, w9.cell? ⟨w.heap.size, j * 10, none⟩ = some z := prow_some hrow9.out hjl.out (q := 0) (by decide); have f1 := hrow9.out.frozen (j * 10 + 1); obtain ⟨z1, hz1⟩ := prow_some hrow9.out hjl.out (q := 1) (by decide); have f2 := hrow9.out.frozen (j * 10 + 2); obtain ⟨z2, hz2⟩ := prow_some hrow9.out hjl.out (q := 2) (by decide); have f3 := hrow9.out.frozen (j * 10 + 3); obtain ⟨z3, hz3⟩ := prow_some hrow9.out hjl.out (q := 3) (by decide); have f4 := hrow9.out.frozen (j * 10 + 4); obtain ⟨z4, hz4⟩ := prow_some hrow9.out hjl.out (q := 4) (by decide); have f5 := hrow9.out.frozen (j * 10 + 5); obtain ⟨z5, hz5⟩ := prow_some hrow9.out hjl.out (q := 5) (by decide); have f6 := hrow9.out.frozen (j * 10 + 6); obtain ⟨z6, hz6⟩ := prow_some hrow9.out hjl.out (q := 6) (by decide); have f7 := hrow9.out.frozen (j * 10 + 7); obtain ⟨z7, hz7⟩ := prow_some hrow9.out hjl.out (q := 7) (by decide); have f8 := hrow9.out.frozen (j * 10 + 8); obtain ⟨z8, hz8⟩ := prow_some hrow9.out hjl.out (q := 8) (by decide); have f9 := hrow9.out.frozen (j * 10 + 9); obtain ⟨z9, hz9⟩ := prow_some hrow9.out hjl.out (q := 9) (by decide)))
   obtain ⟨q1, q2, q3, q4⟩ := hrow9.out.setAll hjl.out (.mk ky t0 t1 t2 t3 py capy sky agy lvy eny ksy) rfl _ rfl
   generalize hW : World.setCell _ (⟨w.heap.size, j * 10 + 9, none⟩ : Addr) _ = W at *
   clear hW
   have hjm' : ms.length = j := hjm
   rw [← hjm'] at q1
   obtain ⟨bd', hnx⟩ := hst.out.next hlt hBk.out hb9.out ho9.out hf9.out (hspr.out _ hq9.out) id q1 q2 q3 q4
   exact ⟨⟨ms ++ [.mk ky t0 t1 t2 t3 py capy sky agy lvy eny ksy], bd', by simp; omega, by simp [← hjm'], hid hnx⟩, by simp [intOf]; omega⟩
  ·have hmn : ms.length = ks.length := by omega
   go_wp2
   rw [hG.out]
   exact hst.out.full hmn (by omega) fun h => ⟨hmn, fun i h1 h2 => h i h2 h1⟩
end Go.Proofs.YtobbifhflnlplaaDoor
namespace Go.Proofs.YtobbifhflnlplaaDoor
open Lib (hid)
open Go.RowKit
open Go.Tree7
open S7
open S5 (nl nl_length nl_small at_nl nl_at Gives idx idx_at ix ix_no ix_yes)
def CopyQ (t : T) (m : Nat) (E : Bool) (i : Nat) (x : Pt) : Prop := ∃ q, Spr t q ∧ x = if m ≤ i then q.flag true E else q
theorem fit_flag {k u0 u1 u2 u3 : Int} {p : Option Addr} {cap : Nat} {sk ag lv en : Bool} {ks : List Pt} (h : Pt.All fit4 (.mk k u0 u1 u2 u3 p cap sk ag lv en ks)) (sk' ag' : Bool) : Pt.All fit4 (.mk k u0 u1 u2 u3 p cap sk' ag' lv en ks) := by
 cases h with
 | mk h1 h2 => exact .mk h1 h2
set_option maxRecDepth 100000 in
set_option maxHeartbeats 8000000 in
theorem copies_bound {w0 w : World} {B0 : Nat} (hn0 : B0 ≤ w0.heap.size) (hB0 : Below B0 w0 w) {k s0 s1 s2 s3 : Int} {p : Option Addr} {cap : Nat} {m N : Nat} {tx : ByteArray} {t : T} (hT : T.In w0 B0 (.mk k s0 s1 s2 s3 p cap m (N : Int) tx [t])) (ih : SpreadOf w0 B0 t) (_ : m ≤ 40) (_ : m ≤ N) (hm2 : N ≤ 40) :
  Calls Tryd.prog 61 #[.agg #[.int .i64 k, .int .u64 s0, .int .u64 s1, .int .u64 s2, .int .u64 s3, .slice p 1 cap, .int .i64 m, .int .i64 N, .string tx]] w (GivesParts (fun ps => ps.length = N ∧ ∀ i (h : i < ps.length), CopyQ t m false i ps[i]) w) := by
 have hBn : B0 ≤ w.heap.size := Nat.le_trans hn0 hB0.size
 have g1 : ((N : Int) == -1) = false := by rw [beq_eq_false_iff_ne]; omega
 have hmk := make_parts (n := N) (by omega)
 obtain ⟨G, hG⟩ : ∃ G, G = GivesParts (fun ps => ps.length = N ∧ ∀ i (h : i < ps.length), CopyQ t m false i ps[i]) w := ⟨_, rfl⟩
 rw [← hG]
 replace hG := hid hG
 have hbx := World.alloc_heap_new w (.cells #[.int .i64 k, .int .u64 s0, .int .u64 s1, .int .u64 s2, .int .u64 s3, .slice p 1 cap, .int .i64 m, .int .i64 N, .string tx] 27)
 have hbel0 : Below w.heap.size w (w.alloc (.cells #[.int .i64 k, .int .u64 s0, .int .u64 s1, .int .u64 s2, .int .u64 s3, .slice p 1 cap, .int .i64 m, .int .i64 N, .string tx] 27)) := (Below.refl _ _).alloc (Nat.le_refl _) _
 have hst0 : ∃ bd, FSt w ((w.alloc (.cells #[.int .i64 k, .int .u64 s0, .int .u64 s1, .int .u64 s2, .int .u64 s3, .slice p 1 cap, .int .i64 m, .int .i64 N, .string tx] 27)).alloc (.cells (madeCells #[.int .i64 0, .int .u64 0, .int .u64 0, .int .u64 0, .int .u64 0, .slice none 0 0, .bool false, .bool false, .bool false, .bool false] (N * 10)) 75)) (w.heap.size + 1) N (CopyQ t m false) bd [] :=
  ⟨fun _ => w.heap.size + 2, made_row (by have := World.alloc_heap_new (w.alloc (.cells #[.int .i64 k, .int .u64 s0, .int .u64 s1, .int .u64 s2, .int .u64 s3, .slice p 1 cap, .int .i64 m, .int .i64 N, .string tx] 27)) (.cells (madeCells #[.int .i64 0, .int .u64 0, .int .u64 0, .int .u64 0, .int .u64 0, .slice none 0 0, .bool false, .bool false, .bool false, .bool false] (N * 10)) 75); rw [World.size_alloc] at this; exact this), hbel0.alloc (by simp) _, by omega, by omega, fun i hi => by simp at hi, by simp, fun i hi => by simp at hi, fun x hx => by simp at hx, fun i hi => by simp at hi⟩
 have hbx0 : Hid (((w.alloc (.cells #[.int .i64 k, .int .u64 s0, .int .u64 s1, .int .u64 s2, .int .u64 s3, .slice p 1 cap, .int .i64 m, .int .i64 N, .string tx] 27)).alloc (.cells (madeCells #[.int .i64 0, .int .u64 0, .int .u64 0, .int .u64 0, .int .u64 0, .slice none 0 0, .bool false, .bool false, .bool false, .bool false] (N * 10)) 75)).heap[w.heap.size]? = some (.cells #[.int .i64 k, .int .u64 s0, .int .u64 s1, .int .u64 s2, .int .u64 s3, .slice p 1 cap, .int .i64 m, .int .i64 N, .string tx] 27 (0, 0))) := hid ((Below.heap_alloc _ _ _ (by simp)).trans hbx)
 replace hst0 := hid hst0
 replace hT := hid hT
 replace ih := hid ih
 replace hB0 := hid hB0
 obtain ⟨y5, -⟩ := cells_of hbx 5 _ rfl
 obtain ⟨y6, -⟩ := cells_of hbx 6 _ rfl
 obtain ⟨y7, -⟩ := cells_of hbx 7 _ rfl
 clear hbx hbel0
 go_enter Tryd.func61, Tryd.ntmps61
 go_wp2
 go_loopw [19] (fun i wr => ∃ (ms : List Pt) (bd : Nat → Nat), ms.length ≤ N ∧ i = .int .i64 ms.length ∧ Hid (wr.heap[w.heap.size]? = some (.cells #[.int .i64 k, .int .u64 s0, .int .u64 s1, .int .u64 s2, .int .u64 s3, .slice p 1 cap, .int .i64 m, .int .i64 N, .string tx] 27 (0, 0))) ∧ Hid (FSt w wr (w.heap.size + 1) N (CopyQ t m false) bd ms)) (fun i _ => N - (intOf i).toNat)
 case atStart => obtain ⟨bd, h⟩ := hst0.out; exact ⟨[], bd, Nat.zero_le _, rfl, hbx0, hid h⟩
 case round =>
  clear hst0 hmk hbx0 y5 y6 y7
  obtain ⟨ms, bd, hj, rfl, hbx, hst⟩ := hrel
  by_cases hlt : ms.length < N
  ·obtain ⟨b1, o1, hkid1, hp1, hb1, hc1⟩ := T.kid hT.out (show 0 < [t].length by simp)
   have hww : Below B0 w0 wr := hB0.out.trans (hst.out.bel.mono hBn)
   have hcl1 : ∀ q, q < 9 → wr.cell? ⟨b1, o1 + q, none⟩ = (t.cells)[q]? := fun q hq => by
    have := hc1 q hq
    simp only [Nat.zero_mul, Nat.add_zero, List.getElem_cons_zero] at this
    rw [← this]
    exact hww.cell (p := ⟨b1, o1 + q, none⟩) hb1
   have hi := ih.out
   unfold SpreadOf at hi
   obtain ⟨j, hjm⟩ : ∃ j, ms.length = j := ⟨_, rfl⟩
   have hjl := hid (show j < (ms ++ List.replicate (N - ms.length) zeroP).length by simp; omega)
   have hgw : w.heap.size + 1 < wr.heap.size := hst.out.row.lt
   have hspr : Hid (∀ x, Spr t x → CopyQ t m false j (if m ≤ j then x.flag true false else x)) := hid fun x hx => ⟨x, hx, rfl⟩
   clear hkid1 hc1
   obtain ⟨t, ht⟩ : ∃ t', t' = t := ⟨_, rfl⟩
   rw [← ht] at hi hcl1
   replace ht := hid ht
   obtain ⟨k', s0', s1', s2', s3', p', cap', mn', mx', tx', ks'⟩ := t
   simp only [T.cells] at hi hcl1
   have c0 := hcl1 0 (by decide)
   simp only [Nat.add_zero] at c0
   have c1 := hcl1 1 (by decide)
   have c2 := hcl1 2 (by decide)
   have c3 := hcl1 3 (by decide)
   have c4 := hcl1 4 (by decide)
   have c5 := hcl1 5 (by decide)
   have c6 := hcl1 6 (by decide)
   have c7 := hcl1 7 (by decide)
   have c8 := hcl1 8 (by decide)
   simp only [List.getElem?_cons_zero, List.getElem?_cons_succ] at c0 c1 c2 c3 c4 c5 c6 c7 c8
   replace hbx := hid hbx.out
   have hbk : Hid (∀ w9, Below wr.heap.size wr w9 → w9.heap[w.heap.size]? = some (.cells #[.int .i64 k, .int .u64 s0, .int .u64 s1, .int .u64 s2, .int .u64 s3, .slice p 1 cap, .int .i64 m, .int .i64 N, .string tx] 27 (0, 0))) := hid fun w9 hb => (hb.block _ (by omega)).trans hbx.out
   have y5 := (cells_of hbx.out 5 _ rfl).1
   subst hp1
   clear hcl1
   have cC := hid (hi wr hww)
   have hrk : Hid (∀ w9, Below wr.heap.size wr w9 → PRow w9 (w.heap.size + 1) (ms ++ List.replicate (N - ms.length) zeroP)) := hid fun w9 hb => hst.out.row.keep (hb.block _ hgw)
   clear hi hww
   by_cases hge : m ≤ j
   ·go_wp2_with (go_at_call 36; ((with_reducible refine cC.out.mono ?_); rintro e w9 ⟨⟨ky, t0, t1, t2, t3, py, capy, sky, agy, lvy, eny, ksy⟩, rfl, hb9, ho9, hf9, hq9⟩; simp only [Pt.cells]; have hrow9 := hid (hrk.out w9 hb9); have hbx9 := hbk.out w9 hb9; have y6 := (cells_of hbx9 6 _ rfl).1; have y7 := (cells_of hbx9 7 _ rfl).1; replace hbx9 := hid hbx9; replace hb9 := hid hb9; replace ho9 := hid ho9; replace hf9 := hid hf9; replace hq9 := hid hq9; have f0 := hrow9.out.frozen (j * 10); obtain ⟨z0, hz0⟩ : ∃ z, w9.cell? ⟨w.heap.size + 1, j * 10, none⟩ = some z := prow_some hrow9.out hjl.out (q := 0) (by decide); have f1 := hrow9.out.frozen (j * 10 + 1); obtain ⟨z1, hz1⟩ := prow_some hrow9.out hjl.out (q := 1) (by decide); have f2 := hrow9.out.frozen (j * 10 + 2); obtain ⟨z2, hz2⟩ := prow_some hrow9.out hjl.out (q := 2) (by decide); have f3 := hrow9.out.frozen (j * 10 + 3); obtain ⟨z3, hz3⟩ := prow_some hrow9.out hjl.out (q := 3) (by decide); have f4 := hrow9.out.frozen (j * 10 + 4); obtain ⟨z4, hz4⟩ := prow_some hrow9.out hjl.out (q := 4) (by decide); have f5 := hrow9.out.frozen (j * 10 + 5); obtain ⟨z5, hz5⟩ := prow_some hrow9.out hjl.out (q := 5) (by decide); have f6 := hrow9.out.frozen (j * 10 + 6); obtain ⟨z6, hz6⟩ := prow_some hrow9.out hjl.out (q := 6) (by decide); have f7 := hrow9.out.frozen (j * 10 + 7); obtain ⟨z7, hz7⟩ := prow_some hrow9.out hjl.out (q := 7) (by decide); have f8 := hrow9.out.frozen (j * 10 + 8); obtain ⟨z8, hz8⟩ := prow_some hrow9.out hjl.out (q := 8) (by decide); have f9 := hrow9.out.frozen (j * 10 + 9); obtain ⟨z9, hz9⟩ := prow_some hrow9.out hjl.out (q := 9) (by decide)))
    obtain ⟨q1, q2, q3, q4⟩ := hrow9.out.setAll hjl.out (.mk ky t0 t1 t2 t3 py capy sky agy lvy eny ksy) rfl _ rfl
    generalize hW : World.setCell _ (⟨w.heap.size + 1, j * 10 + 9, none⟩ : Addr) _ = W at *
    clear hW
    have hjm' : ms.length = j := hjm
    have hjs : j < ((ms ++ List.replicate (N - ms.length) zeroP).set j (.mk ky t0 t1 t2 t3 py capy sky agy lvy eny ksy)).length := by rw [List.length_set]; exact hjl.out
    have e1 : ((ms ++ List.replicate (N - ms.length) zeroP).set j (.mk ky t0 t1 t2 t3 py capy sky agy lvy eny ksy))[j] = .mk ky t0 t1 t2 t3 py capy sky agy lvy eny ksy := by simp
    have r1 := q1.put (q := 6) hjs (by decide) (v := .bool true) (y := .mk ky t0 t1 t2 t3 py capy true agy lvy eny ksy) (by rw [e1]; rfl)
    rw [List.set_set] at r1
    have hjs2 : j < ((ms ++ List.replicate (N - ms.length) zeroP).set j (.mk ky t0 t1 t2 t3 py capy true agy lvy eny ksy)).length := by rw [List.length_set]; exact hjl.out
    have e2 : ((ms ++ List.replicate (N - ms.length) zeroP).set j (.mk ky t0 t1 t2 t3 py capy true agy lvy eny ksy))[j] = .mk ky t0 t1 t2 t3 py capy true agy lvy eny ksy := by simp
    have r2 := r1.put (q := 7) hjs2 (by decide) (v := .bool false) (y := .mk ky t0 t1 t2 t3 py capy true false lvy eny ksy) (by rw [e2]; rfl)
    rw [List.set_set] at r2
    rw [← hjm'] at r2
    have hsp := hspr.out _ (ht.out ▸ hq9.out)
    rw [if_pos hge, ← hjm'] at hsp
    obtain ⟨bd', hnx⟩ := hst.out.next hlt (Below.refl _ wr) hb9.out ho9.out (fit_flag hf9.out true false) hsp (fun h => h.flags _ _ _ _ _ _ _ _ _) r2 (by rw [size_set, size_set, q2]) (fun n hn => by rw [Below.heap_setCell _ _ _ _ hn, Below.heap_setCell _ _ _ _ hn]; exact q3 n hn) (fun n hn => ((q4 n hn).setCell (p := ⟨w.heap.size + 1, _, none⟩) hn _).setCell (p := ⟨w.heap.size + 1, _, none⟩) hn _)
    rw [hjm'] at hnx
    exact ⟨⟨ms ++ [.mk ky t0 t1 t2 t3 py capy true false lvy eny ksy], bd', by simp; omega, by simp [← hjm'], hid (by rw [Below.heap_setCell _ _ _ _ (by show w.heap.size ≠ w.heap.size + 1; omega), Below.heap_setCell _ _ _ _ (by show w.heap.size ≠ w.heap.size + 1; omega), q3 _ (by omega)]; exact hbx9.out), hid hnx⟩, by simp [intOf]; omega⟩
   ·go_wp2_with (go_at_call 36; ((with_reducible refine cC.out.mono ?_); rintro e w9 ⟨⟨ky, t0, t1, t2, t3, py, capy, sky, agy, lvy, eny, ksy⟩, rfl, hb9, ho9, hf9, hq9⟩; simp only [Pt.cells]; have hrow9 := hid (hrk.out w9 hb9); have hbx9 := hbk.out w9 hb9; have y6 := (cells_of hbx9 6 _ rfl).1; have y7 := (cells_of hbx9 7 _ rfl).1; replace hbx9 := hid hbx9; replace hb9 := hid hb9; replace ho9 := hid ho9; replace hf9 := hid hf9; replace hq9 := hid hq9; have f0 := hrow9.out.frozen (j * 10); obtain ⟨z0, hz0⟩ : ∃ z, w9.cell? ⟨w.heap.size + 1, j * 10, none⟩ = some z := prow_some hrow9.out hjl.out (q := 0) (by decide); have f1 := hrow9.out.frozen (j * 10 + 1); obtain ⟨z1, hz1⟩ := prow_some hrow9.out hjl.out (q := 1) (by decide); have f2 := hrow9.out.frozen (j * 10 + 2); obtain ⟨z2, hz2⟩ := prow_some hrow9.out hjl.out (q := 2) (by decide); have f3 := hrow9.out.frozen (j * 10 + 3); obtain ⟨z3, hz3⟩ := prow_some hrow9.out hjl.out (q := 3) (by decide); have f4 := hrow9.out.frozen (j * 10 + 4); obtain ⟨z4, hz4⟩ := prow_some hrow9.out hjl.out (q := 4) (by decide); have f5 := hrow9.out.frozen (j * 10 + 5); obtain ⟨z5, hz5⟩ := prow_some hrow9.out hjl.out (q := 5) (by decide); have f6 := hrow9.out.frozen (j * 10 + 6); obtain ⟨z6, hz6⟩ := prow_some hrow9.out hjl.out (q := 6) (by decide); have f7 := hrow9.out.frozen (j * 10 + 7); obtain ⟨z7, hz7⟩ := prow_some hrow9.out hjl.out (q := 7) (by decide); have f8 := hrow9.out.frozen (j * 10 + 8); obtain ⟨z8, hz8⟩ := prow_some hrow9.out hjl.out (q := 8) (by decide); have f9 := hrow9.out.frozen (j * 10 + 9); obtain ⟨z9, hz9⟩ := prow_some hrow9.out hjl.out (q := 9) (by decide)))
    obtain ⟨q1, q2, q3, q4⟩ := hrow9.out.setAll hjl.out (.mk ky t0 t1 t2 t3 py capy sky agy lvy eny ksy) rfl _ rfl
    generalize hW : World.setCell _ (⟨w.heap.size + 1, j * 10 + 9, none⟩ : Addr) _ = W at *
    clear hW
    have hjm' : ms.length = j := hjm
    rw [← hjm'] at q1
    have hsp := hspr.out _ (ht.out ▸ hq9.out)
    rw [if_neg hge, ← hjm'] at hsp
    obtain ⟨bd', hnx⟩ := hst.out.next hlt (Below.refl _ wr) hb9.out ho9.out hf9.out hsp id q1 q2 q3 q4
    exact ⟨⟨ms ++ [.mk ky t0 t1 t2 t3 py capy sky agy lvy eny ksy], bd', by simp; omega, by simp [← hjm'], hid ((q3 _ (by omega)).trans hbx9.out), hid hnx⟩, by simp [intOf]; omega⟩
  ·have hmn : ms.length = N := by omega
   go_wp2
   rw [hG.out]
   exact hst.out.full hmn (by omega) fun h => ⟨hmn.trans rfl, h⟩
set_option maxRecDepth 100000 in
set_option maxHeartbeats 8000000 in
theorem copies_endless {w0 w : World} {B0 : Nat} (hn0 : B0 ≤ w0.heap.size) (hB0 : Below B0 w0 w) {k s0 s1 s2 s3 : Int} {p : Option Addr} {cap : Nat} {m : Nat} {tx : ByteArray} {t : T} (hT : T.In w0 B0 (.mk k s0 s1 s2 s3 p cap m (-1) tx [t])) (ih : SpreadOf w0 B0 t) (hm : m ≤ 40) :
  Calls Tryd.prog 61 #[.agg #[.int .i64 k, .int .u64 s0, .int .u64 s1, .int .u64 s2, .int .u64 s3, .slice p 1 cap, .int .i64 m, .int .i64 (-1), .string tx]] w (GivesParts (fun ps => ps.length = (m + 1) ∧ ∀ i (h : i < ps.length), CopyQ t m true i ps[i]) w) := by
 have hBn : B0 ≤ w.heap.size := Nat.le_trans hn0 hB0.size
 obtain ⟨N, hN⟩ : ∃ N, m + 1 = N := ⟨_, rfl⟩
 have k1 : IntKind.i64.wrap ((m : Int) + 1) = (N : Int) := by rw [IntWalk.i64_in _ ⟨by omega, by omega⟩]; omega
 have hmk := make_parts (n := N) (by omega)
 obtain ⟨G, hG⟩ : ∃ G, G = GivesParts (fun ps => ps.length = (m + 1) ∧ ∀ i (h : i < ps.length), CopyQ t m true i ps[i]) w := ⟨_, rfl⟩
 rw [← hG]
 replace hG := hid hG
 have hbx := World.alloc_heap_new w (.cells #[.int .i64 k, .int .u64 s0, .int .u64 s1, .int .u64 s2, .int .u64 s3, .slice p 1 cap, .int .i64 m, .int .i64 (-1), .string tx] 27)
 have hbel0 : Below w.heap.size w (w.alloc (.cells #[.int .i64 k, .int .u64 s0, .int .u64 s1, .int .u64 s2, .int .u64 s3, .slice p 1 cap, .int .i64 m, .int .i64 (-1), .string tx] 27)) := (Below.refl _ _).alloc (Nat.le_refl _) _
 have hst0 : ∃ bd, FSt w ((w.alloc (.cells #[.int .i64 k, .int .u64 s0, .int .u64 s1, .int .u64 s2, .int .u64 s3, .slice p 1 cap, .int .i64 m, .int .i64 (-1), .string tx] 27)).alloc (.cells (madeCells #[.int .i64 0, .int .u64 0, .int .u64 0, .int .u64 0, .int .u64 0, .slice none 0 0, .bool false, .bool false, .bool false, .bool false] (N * 10)) 75)) (w.heap.size + 1) N (CopyQ t m true) bd [] :=
  ⟨fun _ => w.heap.size + 2, made_row (by have := World.alloc_heap_new (w.alloc (.cells #[.int .i64 k, .int .u64 s0, .int .u64 s1, .int .u64 s2, .int .u64 s3, .slice p 1 cap, .int .i64 m, .int .i64 (-1), .string tx] 27)) (.cells (madeCells #[.int .i64 0, .int .u64 0, .int .u64 0, .int .u64 0, .int .u64 0, .slice none 0 0, .bool false, .bool false, .bool false, .bool false] (N * 10)) 75); rw [World.size_alloc] at this; exact this), hbel0.alloc (by simp) _, by omega, by omega, fun i hi => by simp at hi, by simp, fun i hi => by simp at hi, fun x hx => by simp at hx, fun i hi => by simp at hi⟩
 have hbx0 : Hid (((w.alloc (.cells #[.int .i64 k, .int .u64 s0, .int .u64 s1, .int .u64 s2, .int .u64 s3, .slice p 1 cap, .int .i64 m, .int .i64 (-1), .string tx] 27)).alloc (.cells (madeCells #[.int .i64 0, .int .u64 0, .int .u64 0, .int .u64 0, .int .u64 0, .slice none 0 0, .bool false, .bool false, .bool false, .bool false] (N * 10)) 75)).heap[w.heap.size]? = some (.cells #[.int .i64 k, .int .u64 s0, .int .u64 s1, .int .u64 s2, .int .u64 s3, .slice p 1 cap, .int .i64 m, .int .i64 (-1), .string tx] 27 (0, 0))) := hid ((Below.heap_alloc _ _ _ (by simp)).trans hbx)
 replace hst0 := hid hst0
 replace hT := hid hT
 replace ih := hid ih
 replace hB0 := hid hB0
 obtain ⟨y5, -⟩ := cells_of hbx 5 _ rfl
 obtain ⟨y6, -⟩ := cells_of hbx 6 _ rfl
 obtain ⟨y7, -⟩ := cells_of hbx 7 _ rfl
 clear hbx hbel0
 go_enter Tryd.func61, Tryd.ntmps61
 go_wp2
 go_loopw [19] (fun i wr => ∃ (ms : List Pt) (bd : Nat → Nat), ms.length ≤ N ∧ i = .int .i64 ms.length ∧ Hid (wr.heap[w.heap.size]? = some (.cells #[.int .i64 k, .int .u64 s0, .int .u64 s1, .int .u64 s2, .int .u64 s3, .slice p 1 cap, .int .i64 m, .int .i64 (-1), .string tx] 27 (0, 0))) ∧ Hid (FSt w wr (w.heap.size + 1) N (CopyQ t m true) bd ms)) (fun i _ => N - (intOf i).toNat)
 case atStart => obtain ⟨bd, h⟩ := hst0.out; exact ⟨[], bd, Nat.zero_le _, rfl, hbx0, hid h⟩
 case round =>
  clear hst0 hmk hbx0 y5 y6 y7
  obtain ⟨ms, bd, hj, rfl, hbx, hst⟩ := hrel
  by_cases hlt : ms.length < N
  ·obtain ⟨b1, o1, hkid1, hp1, hb1, hc1⟩ := T.kid hT.out (show 0 < [t].length by simp)
   have hww : Below B0 w0 wr := hB0.out.trans (hst.out.bel.mono hBn)
   have hcl1 : ∀ q, q < 9 → wr.cell? ⟨b1, o1 + q, none⟩ = (t.cells)[q]? := fun q hq => by
    have := hc1 q hq
    simp only [Nat.zero_mul, Nat.add_zero, List.getElem_cons_zero] at this
    rw [← this]
    exact hww.cell (p := ⟨b1, o1 + q, none⟩) hb1
   have hi := ih.out
   unfold SpreadOf at hi
   obtain ⟨j, hjm⟩ : ∃ j, ms.length = j := ⟨_, rfl⟩
   have hjl := hid (show j < (ms ++ List.replicate (N - ms.length) zeroP).length by simp; omega)
   have hgw : w.heap.size + 1 < wr.heap.size := hst.out.row.lt
   have hspr : Hid (∀ x, Spr t x → CopyQ t m true j (if m ≤ j then x.flag true true else x)) := hid fun x hx => ⟨x, hx, rfl⟩
   clear hkid1 hc1
   obtain ⟨t, ht⟩ : ∃ t', t' = t := ⟨_, rfl⟩
   rw [← ht] at hi hcl1
   replace ht := hid ht
   obtain ⟨k', s0', s1', s2', s3', p', cap', mn', mx', tx', ks'⟩ := t
   simp only [T.cells] at hi hcl1
   have c0 := hcl1 0 (by decide)
   simp only [Nat.add_zero] at c0
   have c1 := hcl1 1 (by decide)
   have c2 := hcl1 2 (by decide)
   have c3 := hcl1 3 (by decide)
   have c4 := hcl1 4 (by decide)
   have c5 := hcl1 5 (by decide)
   have c6 := hcl1 6 (by decide)
   have c7 := hcl1 7 (by decide)
   have c8 := hcl1 8 (by decide)
   simp only [List.getElem?_cons_zero, List.getElem?_cons_succ] at c0 c1 c2 c3 c4 c5 c6 c7 c8
   replace hbx := hid hbx.out
   have hbk : Hid (∀ w9, Below wr.heap.size wr w9 → w9.heap[w.heap.size]? = some (.cells #[.int .i64 k, .int .u64 s0, .int .u64 s1, .int .u64 s2, .int .u64 s3, .slice p 1 cap, .int .i64 m, .int .i64 (-1), .string tx] 27 (0, 0))) := hid fun w9 hb => (hb.block _ (by omega)).trans hbx.out
   have y5 := (cells_of hbx.out 5 _ rfl).1
   subst hp1
   clear hcl1
   have cC := hid (hi wr hww)
   have hrk : Hid (∀ w9, Below wr.heap.size wr w9 → PRow w9 (w.heap.size + 1) (ms ++ List.replicate (N - ms.length) zeroP)) := hid fun w9 hb => hst.out.row.keep (hb.block _ hgw)
   clear hi hww
   by_cases hge : m ≤ j
   ·go_wp2_with (go_at_call 36; ((with_reducible refine cC.out.mono ?_); rintro e w9 ⟨⟨ky, t0, t1, t2, t3, py, capy, sky, agy, lvy, eny, ksy⟩, rfl, hb9, ho9, hf9, hq9⟩; simp only [Pt.cells]; have hrow9 := hid (hrk.out w9 hb9); have hbx9 := hbk.out w9 hb9; have y6 := (cells_of hbx9 6 _ rfl).1; have y7 := (cells_of hbx9 7 _ rfl).1; replace hbx9 := hid hbx9; replace hb9 := hid hb9; replace ho9 := hid ho9; replace hf9 := hid hf9; replace hq9 := hid hq9; have f0 := hrow9.out.frozen (j * 10); obtain ⟨z0, hz0⟩ : ∃ z, w9.cell? ⟨w.heap.size + 1, j * 10, none⟩ = some z := prow_some hrow9.out hjl.out (q := 0) (by decide); have f1 := hrow9.out.frozen (j * 10 + 1); obtain ⟨z1, hz1⟩ := prow_some hrow9.out hjl.out (q := 1) (by decide); have f2 := hrow9.out.frozen (j * 10 + 2); obtain ⟨z2, hz2⟩ := prow_some hrow9.out hjl.out (q := 2) (by decide); have f3 := hrow9.out.frozen (j * 10 + 3); obtain ⟨z3, hz3⟩ := prow_some hrow9.out hjl.out (q := 3) (by decide); have f4 := hrow9.out.frozen (j * 10 + 4); obtain ⟨z4, hz4⟩ := prow_some hrow9.out hjl.out (q := 4) (by decide); have f5 := hrow9.out.frozen (j * 10 + 5); obtain ⟨z5, hz5⟩ := prow_some hrow9.out hjl.out (q := 5) (by decide); have f6 := hrow9.out.frozen (j * 10 + 6); obtain ⟨z6, hz6⟩ := prow_some hrow9.out hjl.out (q := 6) (by decide); have f7 := hrow9.out.frozen (j * 10 + 7); obtain ⟨z7, hz7⟩ := prow_some hrow9.out hjl.out (q := 7) (by decide); have f8 := hrow9.out.frozen (j * 10 + 8); obtain ⟨z8, hz8⟩ := prow_some hrow9.out hjl.out (q := 8) (by decide); have f9 := hrow9.out.frozen (j * 10 + 9); obtain ⟨z9, hz9⟩ := prow_some hrow9.out hjl.out (q := 9) (by decide)))
    obtain ⟨q1, q2, q3, q4⟩ := hrow9.out.setAll hjl.out (.mk ky t0 t1 t2 t3 py capy sky agy lvy eny ksy) rfl _ rfl
    generalize hW : World.setCell _ (⟨w.heap.size + 1, j * 10 + 9, none⟩ : Addr) _ = W at *
    clear hW
    have hjm' : ms.length = j := hjm
    have hjs : j < ((ms ++ List.replicate (N - ms.length) zeroP).set j (.mk ky t0 t1 t2 t3 py capy sky agy lvy eny ksy)).length := by rw [List.length_set]; exact hjl.out
    have e1 : ((ms ++ List.replicate (N - ms.length) zeroP).set j (.mk ky t0 t1 t2 t3 py capy sky agy lvy eny ksy))[j] = .mk ky t0 t1 t2 t3 py capy sky agy lvy eny ksy := by simp
    have r1 := q1.put (q := 6) hjs (by decide) (v := .bool true) (y := .mk ky t0 t1 t2 t3 py capy true agy lvy eny ksy) (by rw [e1]; rfl)
    rw [List.set_set] at r1
    have hjs2 : j < ((ms ++ List.replicate (N - ms.length) zeroP).set j (.mk ky t0 t1 t2 t3 py capy true agy lvy eny ksy)).length := by rw [List.length_set]; exact hjl.out
    have e2 : ((ms ++ List.replicate (N - ms.length) zeroP).set j (.mk ky t0 t1 t2 t3 py capy true agy lvy eny ksy))[j] = .mk ky t0 t1 t2 t3 py capy true agy lvy eny ksy := by simp
    have r2 := r1.put (q := 7) hjs2 (by decide) (v := .bool true) (y := .mk ky t0 t1 t2 t3 py capy true true lvy eny ksy) (by rw [e2]; rfl)
    rw [List.set_set] at r2
    rw [← hjm'] at r2
    have hsp := hspr.out _ (ht.out ▸ hq9.out)
    rw [if_pos hge, ← hjm'] at hsp
    obtain ⟨bd', hnx⟩ := hst.out.next hlt (Below.refl _ wr) hb9.out ho9.out (fit_flag hf9.out true true) hsp (fun h => h.flags _ _ _ _ _ _ _ _ _) r2 (by rw [size_set, size_set, q2]) (fun n hn => by rw [Below.heap_setCell _ _ _ _ hn, Below.heap_setCell _ _ _ _ hn]; exact q3 n hn) (fun n hn => ((q4 n hn).setCell (p := ⟨w.heap.size + 1, _, none⟩) hn _).setCell (p := ⟨w.heap.size + 1, _, none⟩) hn _)
    rw [hjm'] at hnx
    exact ⟨⟨ms ++ [.mk ky t0 t1 t2 t3 py capy true true lvy eny ksy], bd', by simp; omega, by simp [← hjm'], hid (by rw [Below.heap_setCell _ _ _ _ (by show w.heap.size ≠ w.heap.size + 1; omega), Below.heap_setCell _ _ _ _ (by show w.heap.size ≠ w.heap.size + 1; omega), q3 _ (by omega)]; exact hbx9.out), hid hnx⟩, by simp [intOf]; omega⟩
   ·go_wp2_with (go_at_call 36; ((with_reducible refine cC.out.mono ?_); rintro e w9 ⟨⟨ky, t0, t1, t2, t3, py, capy, sky, agy, lvy, eny, ksy⟩, rfl, hb9, ho9, hf9, hq9⟩; simp only [Pt.cells]; have hrow9 := hid (hrk.out w9 hb9); have hbx9 := hbk.out w9 hb9; have y6 := (cells_of hbx9 6 _ rfl).1; have y7 := (cells_of hbx9 7 _ rfl).1; replace hbx9 := hid hbx9; replace hb9 := hid hb9; replace ho9 := hid ho9; replace hf9 := hid hf9; replace hq9 := hid hq9; have f0 := hrow9.out.frozen (j * 10); obtain ⟨z0, hz0⟩ : ∃ z, w9.cell? ⟨w.heap.size + 1, j * 10, none⟩ = some z := prow_some hrow9.out hjl.out (q := 0) (by decide); have f1 := hrow9.out.frozen (j * 10 + 1); obtain ⟨z1, hz1⟩ := prow_some hrow9.out hjl.out (q := 1) (by decide); have f2 := hrow9.out.frozen (j * 10 + 2); obtain ⟨z2, hz2⟩ := prow_some hrow9.out hjl.out (q := 2) (by decide); have f3 := hrow9.out.frozen (j * 10 + 3); obtain ⟨z3, hz3⟩ := prow_some hrow9.out hjl.out (q := 3) (by decide); have f4 := hrow9.out.frozen (j * 10 + 4); obtain ⟨z4, hz4⟩ := prow_some hrow9.out hjl.out (q := 4) (by decide); have f5 := hrow9.out.frozen (j * 10 + 5); obtain ⟨z5, hz5⟩ := prow_some hrow9.out hjl.out (q := 5) (by decide); have f6 := hrow9.out.frozen (j * 10 + 6); obtain ⟨z6, hz6⟩ := prow_some hrow9.out hjl.out (q := 6) (by decide); have f7 := hrow9.out.frozen (j * 10 + 7); obtain ⟨z7, hz7⟩ := prow_some hrow9.out hjl.out (q := 7) (by decide); have f8 := hrow9.out.frozen (j * 10 + 8); obtain ⟨z8, hz8⟩ := prow_some hrow9.out hjl.out (q := 8) (by decide); have f9 := hrow9.out.frozen (j * 10 + 9); obtain ⟨z9, hz9⟩ := prow_some hrow9.out hjl.out (q := 9) (by decide)))
    obtain ⟨q1, q2, q3, q4⟩ := hrow9.out.setAll hjl.out (.mk ky t0 t1 t2 t3 py capy sky agy lvy eny ksy) rfl _ rfl
    generalize hW : World.setCell _ (⟨w.heap.size + 1, j * 10 + 9, none⟩ : Addr) _ = W at *
    clear hW
    have hjm' : ms.length = j := hjm
    rw [← hjm'] at q1
    have hsp := hspr.out _ (ht.out ▸ hq9.out)
    rw [if_neg hge, ← hjm'] at hsp
    obtain ⟨bd', hnx⟩ := hst.out.next hlt (Below.refl _ wr) hb9.out ho9.out hf9.out hsp id q1 q2 q3 q4
    exact ⟨⟨ms ++ [.mk ky t0 t1 t2 t3 py capy sky agy lvy eny ksy], bd', by simp; omega, by simp [← hjm'], hid ((q3 _ (by omega)).trans hbx9.out), hid hnx⟩, by simp [intOf]; omega⟩
  ·have hmn : ms.length = N := by omega
   go_wp2
   rw [hG.out]
   exact hst.out.full hmn (by omega) fun h => ⟨hmn.trans hN.symm, h⟩

end Go.Proofs.YtobbifhflnlplaaDoor
