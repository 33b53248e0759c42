/- The reference's Off: alternatives. -/

import Derived.Test.YtobbifhflnlplaaDoorRD
namespace Go.Proofs.YtobbifhflnlplaaDoor
open Lib (hid)
open Go.RowKit
open Go.Tree7
open S7
open S5 (nl nl_length nl_small at_nl nl_at Gives idx idx_at ix ix_no ix_yes)
theorem kid_in10 {w : World} {B : Nat} {k u0 u1 u2 u3 : Int} {p : Option Addr} {cap : Nat} {mn mx : Int} {tx : ByteArray} {ks : List T} (h : T.In w B (.mk k u0 u1 u2 u3 p cap mn mx tx ks)) {x : T} (hx : x ∈ ks) : T.In w B x := by cases h with | mk _ _ _ _ h => exact h x hx
theorem rest_in {w : World} {P : Nat → Prop} {k n0 n1 n2 n3 mn mx : Int} {b q cap : Nat} {tx : ByteArray} {ks : List T} (h : T.InP w P (.mk k n0 n1 n2 n3 (some ⟨b, q, none⟩) cap mn mx tx ks)) (i : Nat) :
  T.InP w P (.mk 2 0 0 0 0 (some ⟨b, q + i * 9, none⟩) (cap - i) 0 0 ⟨#[]⟩ (ks.drop i)) := by
 cases h with
 | mk h1 h2 h3 h4 h5 =>
  refine .mk (by rw [List.length_drop]; omega) (by omega) ⟨by decide, ⟨by decide, by decide, by decide, by decide⟩, by decide, by decide, by decide⟩ (fun m hm => ?_) fun x hx => h5 x (List.mem_of_mem_drop hx)
  rw [List.length_drop] at hm
  obtain ⟨a, e, hP, hc⟩ := h4 (i + m) (by omega)
  cases e
  refine ⟨_, rfl, hP, fun y hy => ?_⟩
  have h6 := hc y hy
  have e1 : ∀ z, (⟨b, q, none⟩ : Addr).add z = ⟨b, q + z, none⟩ := fun z => by unfold Addr.add; split <;> simp_all
  have e2 : ∀ z, (⟨b, q + i * 9, none⟩ : Addr).add z = ⟨b, q + i * 9 + z, none⟩ := fun z => by unfold Addr.add; split <;> simp_all
  rw [e1] at h6
  rw [e2, List.getElem_drop, ← h6]
  congr 2
  rw [Nat.add_mul]
  omega
theorem empty_in {w : World} {P : Nat → Prop} {p : Option Addr} {cap : Nat} (h : cap ≤ maxLen) : T.InP w P (.mk 2 0 0 0 0 p cap 0 0 ⟨#[]⟩ []) :=
 .mk (by simp) h ⟨by decide, ⟨by decide, by decide, by decide, by decide⟩, by decide, by decide, by decide⟩ (fun i hi => by simp at hi) (fun t ht => by simp at ht)
theorem fr_set9 {X : Nat → Prop} {a w W : World} {b : Nat} (h : Fr X a w) (s2 : W.heap.size = w.heap.size) (s3 : ∀ k, k ≠ b → W.heap[k]? = w.heap[k]?) (s4 : ∀ n, n ≤ b → Below n w W) (hX : X b) : Fr X a W :=
 ⟨(s4 0 (Nat.zero_le _)).os.trans h.os, (s4 0 (Nat.zero_le _)).tape.trans h.tape, (s4 0 (Nat.zero_le _)).output.trans h.output, by rw [s2]; exact h.size, fun k hk hn => (s3 k (fun e => hn (e ▸ hX))).trans (h.block k hk hn)⟩
theorem bel_fr {X : Nat → Prop} {a b w W : World} (hB : Bel a b) (hw : Bel b w) (h : Fr X w W) (hX : ∀ k, X k → a.heap.size ≤ k) : Bel a W :=
 Below.trans (bel_bel hB hw) (h.below (Nat.le_trans hB.size hw.size) hX)
theorem seq_cat10 {w wr WX : World} {P : Nat → Prop} (hP : ∀ b, P b → b < w.heap.size) {rt y rs : T} {c : Nat} (hbk : Below w.heap.size w WX) (hz : WX.heap.size = wr.heap.size + 1 + 1) (hzw : w.heap.size + 3 < wr.heap.size) (hri : T.InP w P rt) (hrt : rt.strip = rs) (hcat : CatOk (offD c y.strip) rs) {RB : Array Value} (hrc : rt.cells.toArray = RB) :
  ∀ (tc : T) (w1 : World), tc.strip = offD c y.strip → T.InP w1 (fun b' => P b' ∨ (WX.drew.heap.size ≤ b' ∧ b' < w1.heap.size)) tc → Below WX.drew.heap.size WX.drew w1 →
   Calls Tryd.prog 45 #[.agg tc.cells.toArray, .agg RB] w1 (GivesP (fun b' => P b' ∨ (w.heap.size + 4 ≤ b' ∧ b' < w1.heap.size)) w1 (catD rs (offD c y.strip))) := fun tc w1 h1 h2 h3 => by
 have hz1 := h3.size
 simp only [World.drew] at hz1 h2
 have hkp : ∀ b, P b → w1.heap[b]? = w.heap[b]? := fun b hb => (hbk.drew.trans (h3.mono hbk.drew.size)).block b (hP b hb)
 have := cat10_in (w0 := w1) (b := rt) (P := fun b' => P b' ∨ (w.heap.size + 4 ≤ b' ∧ b' < w1.heap.size)) (fun b hb => hb.elim (fun h => by have := hP b h; omega) fun h => h.2) ((hri.keep hkp).imp fun b hb => .inl hb) tc
  (h2.imp fun b hb => hb.imp_right fun h => ⟨by omega, h.2⟩) (by rw [h1, hrt]; exact hcat) w1 (Below.refl _ _)
 rw [h1, hrt, hrc] at this
 exact this
theorem seq_alt10 {w wr WX : World} {P : Nat → Prop} (hP : ∀ b, P b → b < w.heap.size) {o m : T} (hwr : Bel wr WX) (hz : WX.heap.size = wr.heap.size + 1 + 1) (hzw : w.heap.size + 3 < wr.heap.size) (hoi : T.InP wr (fun b => P b ∨ (w.heap.size + 4 ≤ b ∧ b < wr.heap.size)) o) (hfew : (brD m (brD o.strip [])).length ≤ 805306376000) {O9 : Array Value} (h9 : o.cells.toArray = O9) :
  ∀ (w0 : World) (Q0 : Nat → Prop) (tc : T) (w1 : World), (∀ b, Q0 b → b < w0.heap.size ∧ (P b ∨ w.heap.size + 4 ≤ b)) → tc.strip = m → T.InP w1 (fun b' => Q0 b' ∨ (w0.heap.size ≤ b' ∧ b' < w1.heap.size)) tc → Bel WX w0 → Below w0.heap.size w0 w1 →
   Calls Tryd.prog 44 #[.agg O9, .agg tc.cells.toArray] w1 (GivesP (fun b' => P b' ∨ (w.heap.size + 4 ≤ b' ∧ b' < w1.heap.size)) w1 (altD o.strip m)) := fun w0 Q0 tc w1 hq h1 h2 h0 h3 => by
 have hz1 := h3.size
 have hz0 := h0.size
 have hkp : ∀ b, b < wr.heap.size → w1.heap[b]? = wr.heap[b]? := fun b hb => (h3.block b (by omega)).trans ((bel_bel hwr h0 : Bel wr w0).block b hb)
 have := alt10_in (w := w1) (a := o) (b := tc) (P := fun b' => P b' ∨ (w.heap.size + 4 ≤ b' ∧ b' < w1.heap.size)) (fun b hb => hb.elim (fun h => by have := hP b h; omega) fun h => h.2)
  ((hoi.keep fun b hb => hkp b (hb.elim (fun h => by have := hP b h; omega) fun h => h.2)).imp fun b hb => hb.imp_right fun h => ⟨h.1, by omega⟩)
  (h2.imp fun b hb => by
   rcases hb with h | h
   ·obtain ⟨h4, h5⟩ := hq b h
    exact h5.imp_right fun h5 => ⟨h5, by omega⟩
   ·exact .inr ⟨by omega, h.2⟩)
  (by rw [h1]; exact hfew)
 rw [h1, h9] at this
 exact this
theorem seq_in {w w2 w3 W : World} {P : Nat → Prop} {t : T} (hP : ∀ b, P b → b < w.heap.size) (ht : T.InP w3 (fun b => (P b ∨ (w.heap.size + 4 ≤ b ∧ b < w2.heap.size)) ∨ (w2.heap.size ≤ b ∧ b < w3.heap.size)) t) (s3 : ∀ k, k ≠ w.heap.size + 1 + 1 + 1 → W.heap[k]? = w3.heap[k]?) (s2 : W.heap.size = w3.heap.size) (h1 : w.heap.size + 4 ≤ w2.heap.size) (h2 : w2.heap.size ≤ w3.heap.size) :
  T.InP W (fun b => P b ∨ (w.heap.size + 4 ≤ b ∧ b < W.heap.size)) t :=
 (ht.keep fun b hb => s3 b (by
  rcases hb with (h | h) | h
  ·have := hP b h; omega
  ·omega
  ·omega)).imp fun b hb => by
  rcases hb with (h | h) | h
  ·exact .inl h
  ·exact .inr ⟨h.1, by omega⟩
  ·exact .inr ⟨by omega, by omega⟩
theorem seq_out {w W w4 W5 : World} {P : Nat → Prop} {t : T} (hP : ∀ b, P b → b < w.heap.size) (ht : T.InP w4 (fun b => P b ∨ (w.heap.size + 4 ≤ b ∧ b < W.heap.size)) t) (h4 : W.heap.size ≤ w4.heap.size) (s3 : ∀ k, k ≠ w.heap.size + 1 → W5.heap[k]? = w4.heap[k]?) (s2 : W5.heap.size = w4.heap.size) (_ : w.heap.size ≤ w4.heap.size) :
  T.InP W5 (fun b => P b ∨ (w.heap.size ≤ b ∧ b < W5.heap.size)) t :=
 (ht.keep fun b hb => s3 b (by
  rcases hb with h | h
  ·have := hP b h; omega
  ·omega)).imp fun b hb => by
  rcases hb with h | h
  ·exact .inl h
  ·exact .inr ⟨by omega, by omega⟩
theorem catOf_two {l : List T} (h : l.length ≠ 1) : catOf l = nodeT 2 l := by
 match l, h with
 | [], _ => rfl
 | [x], h => simp at h
 | x :: y :: l, _ => rfl
set_option maxRecDepth 100000 in
set_option maxHeartbeats 4000000 in
theorem off_cat {w : World} {n : T} {P : Nat → Prop} (hP : ∀ b, P b → b < w.heap.size) (hPN : T.InP w P n) {c : Nat} (_ : c ≤ 255) (h3 : kindT n = 2) (hok : T.All okd n) (hkn : kn c n.strip)
  (ih : ∀ y ∈ kidsT n, ∀ W, Below w.heap.size w W → Calls Tryd.prog 28 #[.agg y.cells.toArray, .int .i64 c] W (GivesP P W (offD c y.strip))) :
  Calls Tryd.prog 28 #[.agg n.cells.toArray, .int .i64 c] w (GivesP P w (offD c n.strip)) := by
 obtain ⟨hbb, hxn, hxr, hxz⟩ := box3 w n.cells.toArray #[.int .i64 0, .int .u64 0, .int .u64 0, .int .u64 0, .int .u64 0, .slice none 0 0, .int .i64 0, .int .i64 0, .string ⟨#[]⟩] #[.int .i64 0, .int .u64 0, .int .u64 0, .int .u64 0, .int .u64 0, .slice none 0 0, .int .i64 0, .int .i64 0, .string ⟨#[]⟩] 32
 have hA := hPN.toIn hP
 obtain ⟨kn, n0, n1, n2, n3, pn, capn, mnn, mxn, txn, ksn⟩ := n
 have h3 : kn = 2 := h3
 subst h3
 have hco2 : CatsOk c (ksn.map T.strip) ∧ (ksn.map T.strip).length ≤ 2000 := by rw [T.strip_mk] at hkn; exact hkn.1 rfl
 have hco := hco2.1
 have hl20 : ksn.length ≤ 2000 := by have := hco2.2; rw [List.length_map] at this; exact this
 clear hco2
 have hst0 := SeqAt.start (u0 := n0) (u1 := n1) (u2 := n2) (u3 := n3) (p := pn) (cap := capn) (mn := mnn) (mx := mxn) (tx := txn) (ks := ksn) (c := c) (k := 2) rfl
 rw [← none_strip] at hst0
 generalize offD c (T.mk 2 n0 n1 n2 n3 pn capn mnn mxn txn ksn).strip = F at *
 have hla : ksn.length ≤ 9223372036854775807 := by cases hA with | mk h1 h2 => unfold maxLen at h2; omega
 have ih : ∀ y ∈ ksn, ∀ W, Below w.heap.size w W → Calls Tryd.prog 28 #[.agg y.cells.toArray, .int .i64 c] W (GivesP P W (offD c y.strip)) := ih
 simp only [T.cells] at hbb hxn hxr hxz ⊢
 obtain ⟨y0, y1, y2, y3, y4, y5, y6, y7, y8⟩ := c9 hxn
 obtain ⟨z0, z1, z2, z3, z4, z5, z6, z7, z8⟩ := c9 hxz
 have hxo0 : Hid (((((w.alloc (.cells #[.int .i64 2, .int .u64 n0, .int .u64 n1, .int .u64 n2, .int .u64 n3, .slice pn ksn.length capn, .int .i64 mnn, .int .i64 mxn, .string txn] 32)).alloc (.cells #[.int .i64 0, .int .u64 0, .int .u64 0, .int .u64 0, .int .u64 0, .slice none 0 0, .int .i64 0, .int .i64 0, .string ⟨#[]⟩] 32)).alloc (.cells #[.int .i64 0, .int .u64 0, .int .u64 0, .int .u64 0, .int .u64 0, .slice none 0 0, .int .i64 0, .int .i64 0, .string ⟨#[]⟩] 32)).alloc (.cells #[.int .i64 0, .int .u64 0, .int .u64 0, .int .u64 0, .int .u64 0, .slice none 0 0, .int .i64 0, .int .i64 0, .string ⟨#[]⟩] 32)).heap[(w.heap.size + 1 + 1 + 1)]? = some (.cells #[.int .i64 0, .int .u64 0, .int .u64 0, .int .u64 0, .int .u64 0, .slice none 0 0, .int .i64 0, .int .i64 0, .string ⟨#[]⟩] 32 (0, 0))) := hid (by have := World.alloc_heap_new (((w.alloc (.cells #[.int .i64 2, .int .u64 n0, .int .u64 n1, .int .u64 n2, .int .u64 n3, .slice pn ksn.length capn, .int .i64 mnn, .int .i64 mxn, .string txn] 32)).alloc (.cells #[.int .i64 0, .int .u64 0, .int .u64 0, .int .u64 0, .int .u64 0, .slice none 0 0, .int .i64 0, .int .i64 0, .string ⟨#[]⟩] 32)).alloc (.cells #[.int .i64 0, .int .u64 0, .int .u64 0, .int .u64 0, .int .u64 0, .slice none 0 0, .int .i64 0, .int .i64 0, .string ⟨#[]⟩] 32)) (.cells #[.int .i64 0, .int .u64 0, .int .u64 0, .int .u64 0, .int .u64 0, .slice none 0 0, .int .i64 0, .int .i64 0, .string ⟨#[]⟩] 32); rw [World.size_alloc, World.size_alloc, World.size_alloc] at this; exact this)
 replace hxn := hid hxn
 replace hxr := hid hxr
 replace hbb := hid hbb
 replace hP := hid hP
 replace hA := hid hA
 replace ih := hid ih
 replace hPN := hid hPN
 replace hok := hid hok
 replace hco := hid hco
 clear hkn hxz
 go_enter Tryd.func28, Tryd.ntmps28
 go_wp2
 go_loopw [31] (fun i wr => ∃ j : Nat, ∃ o : T, j ≤ ksn.length ∧ i = .int .i64 j ∧ Hid (wr.heap[(w.heap.size + 1 + 1 + 1)]? = some (.cells o.cells.toArray 32 (0, 0))) ∧ Hid (SeqAt F c (ksn.map T.strip) j o.strip) ∧ Hid (T.InP wr (fun b => P b ∨ (w.heap.size + 4 ≤ b ∧ b < wr.heap.size)) o) ∧ Hid (Bel (((w.alloc (.cells #[.int .i64 2, .int .u64 n0, .int .u64 n1, .int .u64 n2, .int .u64 n3, .slice pn ksn.length capn, .int .i64 mnn, .int .i64 mxn, .string txn] 32)).alloc (.cells #[.int .i64 0, .int .u64 0, .int .u64 0, .int .u64 0, .int .u64 0, .slice none 0 0, .int .i64 0, .int .i64 0, .string ⟨#[]⟩] 32)).alloc (.cells #[.int .i64 0, .int .u64 0, .int .u64 0, .int .u64 0, .int .u64 0, .slice none 0 0, .int .i64 0, .int .i64 0, .string ⟨#[]⟩] 32)) wr)) (fun i _ => ksn.length - (intOf i).toNat)
 case atStart => exact ⟨0, noneT, Nat.zero_le _, rfl, hxo0, hid hst0, hid (none_in _ _), hid (Bel.new _ _)⟩
 case round =>
  clear hxo0 hst0 y0 y1 y2 y3 y4 y5 y6 y7 y8 z0 z1 z2 z3 z4 z5 z6 z7 z8
  obtain ⟨j, o, hj, rfl, hxo, hos, hoi, hB⟩ := hrel
  have hsz := lt_box hxo.out
  have hbw := hid (show Below w.heap.size w wr from bel_bel hbb.out hB.out)
  obtain ⟨y0, y1, y2, y3, y4, y5, y6, y7, y8⟩ := c9 (kept_row hxn.out hB.out)
  by_cases hlt : j < ksn.length
  ·obtain ⟨b, qo, hkid, hp, hbl, hc⟩ := T.kid hA.out hlt
   obtain ⟨rs, hrs, hcat, hfew, hnext, hstop⟩ := seq_round hco.out hlt hos.out
   have hcl : ∀ q, q < 9 → wr.cell? ⟨b, qo + j * 9 + q, none⟩ = (ksn[j].cells)[q]? := fun q hq => by
    rw [← hc q hq]
    exact hbw.out.cell (p := ⟨b, qo + j * 9 + q, none⟩) hbl
   have cC := fun W (hb : Below w.heap.size w W) => ih.out ksn[j] (List.getElem_mem hlt) W hb
   have hcap : ksn.length ≤ capn := by cases hA.out with | mk h1 h2 => exact h1
   clear hc hkid
   subst hp
   have hnul := hid fun W (hb : Below w.heap.size w W) => onull_in (Nat.le_refl _) ksn[j] (okd_kids hok.out _ (List.getElem_mem hlt)) (kid_in10 hA.out (List.getElem_mem hlt)) W hb
   generalize ksn[j] = kd at *
   obtain ⟨ko, o0, o1, o2, o3, po, capo, mno, mxo, txo, kso⟩ := o
   obtain ⟨kc, c0, c1, c2, c3, pc, capc, mnc, mxc, txc, ksc⟩ := kd
   have hxo1 := hxo.out
   simp only [T.cells] at hcl cC hxo1 hnul
   obtain ⟨q0, q1, q2, q3, q4, q5, q6, q7, q8⟩ := nine_of hcl
   obtain ⟨x0, f0, x1, f1, x2, f2, x3, f3, x4, f4, x5, f5, x6, f6, x7, f7, x8, f8⟩ := d9 hxo1
   clear hcl
   replace hxo1 := hid hxo1
   replace cC := hid cC
   replace hrs := hid hrs
   replace hcat := hid hcat
   replace hfew := hid hfew
   replace hnext := hid hnext
   replace hstop := hid hstop
   have hbK := hid (show Bel (((w.alloc (.cells #[.int .i64 2, .int .u64 n0, .int .u64 n1, .int .u64 n2, .int .u64 n3, .slice (some ⟨b, qo, none⟩) ksn.length capn, .int .i64 mnn, .int .i64 mxn, .string txn] 32)).alloc (.cells #[.int .i64 0, .int .u64 0, .int .u64 0, .int .u64 0, .int .u64 0, .slice none 0 0, .int .i64 0, .int .i64 0, .string ⟨#[]⟩] 32)).alloc (.cells #[.int .i64 0, .int .u64 0, .int .u64 0, .int .u64 0, .int .u64 0, .slice none 0 0, .int .i64 0, .int .i64 0, .string ⟨#[]⟩] 32)) (wr.alloc (.cells #[.int .i64 kc, .int .u64 c0, .int .u64 c1, .int .u64 c2, .int .u64 c3, .slice pc ksc.length capc, .int .i64 mnc, .int .i64 mxc, .string txc] 32)) from Bel.alloc hB.out _)
   have hk9 : (wr.alloc (.cells #[.int .i64 kc, .int .u64 c0, .int .u64 c1, .int .u64 c2, .int .u64 c3, .slice pc ksc.length capc, .int .i64 mnc, .int .i64 mxc, .string txc] 32)).heap[wr.heap.size]? = some (.cells #[.int .i64 kc, .int .u64 c0, .int .u64 c1, .int .u64 c2, .int .u64 c3, .slice pc ksc.length capc, .int .i64 mnc, .int .i64 mxc, .string txc] 32 (0, 0)) := World.alloc_heap_new _ _
   have hxnK := hid (kept_row hxn.out hbK.out)
   clear y0 y1 y2 y3 y4 y5 y6 y7 y8
   obtain ⟨y0, y1, y2, y3, y4, y5, y6, y7, y8⟩ := c9 hxnK.out
   have hcx : capn ≤ 9223372036854775807 := by cases hA.out with | mk h1 h2 => unfold maxLen at h2; exact h2
   by_cases g3 : capn = j + 1
   ·subst g3
    have g2 : ((j : Int) + 2 == (ksn.length : Int)) = false := by rw [beq_eq_false_iff_ne]; omega
    have hdr : ksn.drop (j + 1) = [] := List.drop_eq_nil_iff.2 (by omega)
    have hRT : Hid (∃ rt : T, rt.cells.toArray = #[.int .i64 2, .int .u64 0, .int .u64 0, .int .u64 0, .int .u64 0, .slice (some ⟨b, qo, none⟩) 0 0, .int .i64 0, .int .i64 0, .string ⟨#[]⟩] ∧ rt.strip = rs ∧ T.InP w P rt) := hid ⟨.mk 2 0 0 0 0 (some ⟨b, qo, none⟩) 0 0 0 ⟨#[]⟩ [], rfl, by rw [hrs.out, hdr, T.strip_mk]; rfl, empty_in (by decide)⟩
    obtain ⟨rt, hrc, hrt, hri⟩ := hRT.out
    replace hrc := hid hrc
    have hbR := hid (Bel.alloc (Bel.alloc hB.out (.cells #[.int .i64 kc, .int .u64 c0, .int .u64 c1, .int .u64 c2, .int .u64 c3, .slice pc ksc.length capc, .int .i64 mnc, .int .i64 mxc, .string txc] 32)) (.cells #[.int .i64 2, .int .u64 0, .int .u64 0, .int .u64 0, .int .u64 0, .slice (some ⟨b, qo, none⟩) 0 0, .int .i64 0, .int .i64 0, .string ⟨#[]⟩] 32))
    have hwr := hid (Bel.alloc (Bel.new wr (.cells #[.int .i64 kc, .int .u64 c0, .int .u64 c1, .int .u64 c2, .int .u64 c3, .slice pc ksc.length capc, .int .i64 mnc, .int .i64 mxc, .string txc] 32)) (.cells #[.int .i64 2, .int .u64 0, .int .u64 0, .int .u64 0, .int .u64 0, .slice (some ⟨b, qo, none⟩) 0 0, .int .i64 0, .int .i64 0, .string ⟨#[]⟩] 32))
    have hbR0 : ((wr.alloc (.cells #[.int .i64 kc, .int .u64 c0, .int .u64 c1, .int .u64 c2, .int .u64 c3, .slice pc ksc.length capc, .int .i64 mnc, .int .i64 mxc, .string txc] 32)).alloc (.cells #[.int .i64 2, .int .u64 0, .int .u64 0, .int .u64 0, .int .u64 0, .slice (some ⟨b, qo, none⟩) 0 0, .int .i64 0, .int .i64 0, .string ⟨#[]⟩] 32)).heap.size = wr.heap.size + 1 + 1 := by simp only [World.size_alloc]
    have hkR := hid (kept_row hk9 (Bel.new (wr.alloc (.cells #[.int .i64 kc, .int .u64 c0, .int .u64 c1, .int .u64 c2, .int .u64 c3, .slice pc ksc.length capc, .int .i64 mnc, .int .i64 mxc, .string txc] 32)) (.cells #[.int .i64 2, .int .u64 0, .int .u64 0, .int .u64 0, .int .u64 0, .slice (some ⟨b, qo, none⟩) 0 0, .int .i64 0, .int .i64 0, .string ⟨#[]⟩] 32)))
    have hrR : Hid (((wr.alloc (.cells #[.int .i64 kc, .int .u64 c0, .int .u64 c1, .int .u64 c2, .int .u64 c3, .slice pc ksc.length capc, .int .i64 mnc, .int .i64 mxc, .string txc] 32)).alloc (.cells #[.int .i64 2, .int .u64 0, .int .u64 0, .int .u64 0, .int .u64 0, .slice (some ⟨b, qo, none⟩) 0 0, .int .i64 0, .int .i64 0, .string ⟨#[]⟩] 32)).heap[wr.heap.size + 1]? = some (.cells #[.int .i64 2, .int .u64 0, .int .u64 0, .int .u64 0, .int .u64 0, .slice (some ⟨b, qo, none⟩) 0 0, .int .i64 0, .int .i64 0, .string ⟨#[]⟩] 32 (0, 0))) := hid (by have := World.alloc_heap_new (wr.alloc (.cells #[.int .i64 kc, .int .u64 c0, .int .u64 c1, .int .u64 c2, .int .u64 c3, .slice pc ksc.length capc, .int .i64 mnc, .int .i64 mxc, .string txc] 32)) (.cells #[.int .i64 2, .int .u64 0, .int .u64 0, .int .u64 0, .int .u64 0, .slice (some ⟨b, qo, none⟩) 0 0, .int .i64 0, .int .i64 0, .string ⟨#[]⟩] 32); rw [World.size_alloc] at this; exact this)
    have hxoR := hid (kept_row hxo1.out hwr.out)
    have hxnR := hid (kept_row hxn.out hbR.out)
    clear x0 f0 x1 f1 x2 f2 x3 f3 x4 f4 x5 f5 x6 f6 x7 f7 x8 f8
    obtain ⟨k0, k1, k2, k3, k4, k5, k6, k7, k8⟩ := c9 hkR.out
    obtain ⟨l0, l1, l2, l3, l4, l5, l6, l7, l8⟩ := c9 hrR.out
    obtain ⟨x0, f0, x1, f1, x2, f2, x3, f3, x4, f4, x5, f5, x6, f6, x7, f7, x8, f8⟩ := d9 hxoR.out
    obtain ⟨m0, m1, m2, m3, m4, m5, m6, m7, m8⟩ := c9 hxnR.out
    have hbk2 := below_of (bel_bel hbw.out hwr.out)
    have hbk := hid hbk2.drew
    have hzR2 := hbR0
    have hCat := hid (seq_cat10 hP.out hbk2 hzR2 (by omega) hri hrt hcat.out hrc.out)
    have hAlt := hid (seq_alt10 (o := (T.mk ko o0 o1 o2 o3 po capo mno mxo txo kso)) (O9 := #[.int .i64 ko, .int .u64 o0, .int .u64 o1, .int .u64 o2, .int .u64 o3, .slice po kso.length capo, .int .i64 mno, .int .i64 mxo, .string txo]) hP.out hwr.out hzR2 (by omega) hoi.out hfew.out rfl)
    have hNul : Hid (∀ W, Below w.heap.size w W → Calls Tryd.prog 42 #[.agg #[.int .i64 kc, .int .u64 c0, .int .u64 c1, .int .u64 c2, .int .u64 c3, .slice pc ksc.length capc, .int .i64 mnc, .int .i64 mxc, .string txc]] W fun e w' => e = .returned (.bool (nullT (T.mk kc c0 c1 c2 c3 pc capc mnc mxc txc ksc))) ∧ Below W.heap.size W w') := hid fun W hb => hnul.out W hb
    clear hRT hri hrc hrt hbk2 hbR0
    go_upto_region 14 with (fail)
    clear y0 y1 y2 y3 y4 y5 y6 y7 y8 m0 m1 m2 m3 m4 m5 m6 m7 m8 q0 q1 q2 q3 q4 q5 q6 q7 q8 hxnK hxnR hbK hk9 hxo1 hxo hbR hPN hok hco hrs hcat hfew hoi hnul
    generalize ((wr.alloc (.cells #[.int .i64 kc, .int .u64 c0, .int .u64 c1, .int .u64 c2, .int .u64 c3, .slice pc ksc.length capc, .int .i64 mnc, .int .i64 mxc, .string txc] 32)).alloc (.cells #[.int .i64 2, .int .u64 0, .int .u64 0, .int .u64 0, .int .u64 0, .slice (some ⟨b, qo, none⟩) 0 0, .int .i64 0, .int .i64 0, .string ⟨#[]⟩] 32)) = WX at *
    refine wp_region_held_drew (S := fun W => Fr (fun b => b = w.heap.size + 1 + 1 + 1) WX W) (by kernel_rfl) (Fr.refl _ _).drew (fun hHeld => ?_)
    refine wpAnyH_take (i := 1) (v := ?v1u1) rfl (by kernel_rfl) (by kernel_rfl) (by kernel_rfl) (fun _ _ _ h => h) (Or.inl ⟨by kernel_rfl, ?h1u1⟩) hHeld ?r1u1
    case h1u1 => (intro wq hSw; obtain ⟨k0, k1, k2, k3, k4, k5, k6, k7, k8⟩ := c9 ((hSw.block _ (lt_box hkR.out) (by omega)).trans hkR.out); go_simp <;> with_reducible rfl)
    try simp only [Go.Last.pt]
    refine wpAnyH_take (i := 2) (v := ?v2u2) rfl (by kernel_rfl) (by kernel_rfl) (by kernel_rfl) (fun _ _ _ h => h) (Or.inl ⟨by kernel_rfl, ?h2u2⟩) hHeld ?r2u2
    case h2u2 => (intro wq hSw; go_simp <;> with_reducible rfl)
    try simp only [Go.Last.pt]
    refine wpAnyH_take (i := 4) (v := ?v4u3) rfl (by kernel_rfl) (by kernel_rfl) (by kernel_rfl) (fun _ _ _ h => h) (Or.inl ⟨by kernel_rfl, ?h4u3⟩) hHeld ?r4u3
    case h4u3 => (intro wq hSw; obtain ⟨l0, l1, l2, l3, l4, l5, l6, l7, l8⟩ := c9 ((hSw.block _ (lt_box hrR.out) (by omega)).trans hrR.out); go_simp <;> with_reducible rfl)
    try simp only [Go.Last.pt]
    refine wpAnyH_ready (rs := [0, 3]) (by kernel_rfl) (by simp) ?_
    refine (AllReadyH.cons (o := _) rfl (fun K hK => ?_) (AllReadyH.cons (o := _) rfl (fun K hK => ?_) AllReadyH.nil))
    ·go_simp
     try dsimp only
     refine hK.out _ _ (hHeld) (fun hHeld2 => ?_)
     clear hK K hHeld
     have hHeld := hHeld2
     clear hHeld2
     try simp only [Go.Last.pt]
     refine Go.Last.held 3 (by kernel_rfl) rfl (fun K hK => ?_)
     go_simp
     (go_at_call 28; (with_reducible refine (cC.out _ hbk.out).mono ?_); rintro e w1 ⟨tc, rfl, hts, hti, hb1⟩; have hb1K := hid (bel_drew hb1); have hcA := hid (hCat.out tc w1 hts hti hb1); have hxo3 := hid (kept_row hxoR.out hb1K.out); clear hti hts; obtain ⟨u0, u1, u2, u3, u4, u5, u6, u7, u8⟩ := c9 hxo3.out)
     try dsimp only
     refine hK.out _ _ (hHeld.trans (Fr.of_bel hb1) (fun _ h => .inl h)) (fun hHeld2 => ?_)
     clear hK K hHeld
     have hHeld := hHeld2
     clear hHeld2
     try simp only [Go.Last.pt]
     refine Go.Last.held 5 (by kernel_rfl) rfl (fun K hK => ?_)
     go_simp
     (go_at_call 45; (with_reducible refine hcA.out.mono ?_); rintro e w2 ⟨td, rfl, hts, hti, hb2⟩; have hcB := hid (hAlt.out w1 _ td w2 (fun b hb => hb.elim (fun h => ⟨by have h1 := hP.out b h; have h2 := hbw.out.size; have h3 := hb1K.out.size; omega, .inl h⟩) fun h => ⟨h.2, .inr h.1⟩) hts hti hb1K.out hb2); have hb2K := hid (show Bel w1 w2 from hb2); have hxo4 := hid (kept_row hxo3.out hb2); clear hti hts; obtain ⟨g0, g1, g2, g3, g4, g5, g6, g7, g8⟩ := c9 hxo4.out)
     try dsimp only
     refine hK.out _ _ (hHeld.trans (Fr.of_bel hb2) (fun _ h => .inl h)) (fun hHeld2 => ?_)
     clear hK K hHeld
     have hHeld := hHeld2
     clear hHeld2
     try simp only [Go.Last.pt]
     refine Go.Last.held 6 (by kernel_rfl) rfl (fun K hK => ?_)
     go_simp
     (go_at_call 44; (with_reducible refine hcB.out.mono ?_); rintro e w3 ⟨⟨kt, t0, t1, t2, t3, pt, capt, mnt, mxt, txt, kst⟩, rfl, hts, hti, hb3⟩; have hxo5 := hid (kept_row hxo4.out hb3); obtain ⟨e0, i0, e1, i1, e2, i2, e3, i3, e4, i4, e5, i5, e6, i6, e7, i7, e8, i8⟩ := d9 hxo5.out; simp only [T.cells] at hti hts ⊢; have hb3K := hid (show Bel w2 w3 from hb3); replace hts := hid hts; replace hti := hid hti)
     try dsimp only
     refine hK.out _ _ (hHeld.trans (Fr.of_bel hb3) (fun _ h => .inl h)) (fun hHeld2 => ?_)
     clear hK K hHeld
     have hHeld := hHeld2
     clear hHeld2
     try simp only [Go.Last.pt]
     refine Go.Last.held 7 (by kernel_rfl) rfl (fun K hK => ?_)
     go_simp
     generalize hW : World.setCell _ (⟨w.heap.size + 1 + 1 + 1, 8, none⟩ : Addr) _ = W at *; obtain ⟨s1, s2, s3, s4⟩ := S7.set9 hxo5.out W hW.symm
     try dsimp only
     refine hK.out _ _ (fr_set9 hHeld s2 s3 s4 rfl) (fun hHeld2 => ?_)
     clear hK K hHeld
     have hHeld := hHeld2
     clear hHeld2
     try simp only [Go.Last.pt]
     refine wpAnyH_done (by kernel_rfl) ?_ _
     have hz1 := hb1K.out.size
     have hz2 := hb2K.out.size
     have hz3 := hb3K.out.size
     have hBW := hid (bel_fr hB.out hwr.out hHeld (fun k hk => by rw [hk]; simp only [World.size_alloc]; exact Nat.le_refl _))
     have hbW := hid (below_of (bel_bel hbb.out hBW.out))
     have hkW := hid ((hHeld.block _ (lt_box hkR.out) (by omega)).trans hkR.out)
     have hin := hid (seq_in hP.out hti.out s3 s2 (by omega) (by omega))
     have hzW := s2
     replace s1 := hid s1
     have hN := hid (hNul.out W hbW.out)
     clear k0 k1 k2 k3 k4 k5 k6 k7 k8 l0 l1 l2 l3 l4 l5 l6 l7 l8 x0 f0 x1 f1 x2 f2 x3 f3 x4 f4 x5 f5 x6 f6 x7 f7 x8 f8 u0 u1 u2 u3 u4 u5 u6 u7 u8 g0 g1 g2 g3 g4 g5 g6 g7 g8 e0 i0 e1 i1 e2 i2 e3 i3 e4 i4 e5 i5 e6 i6 e7 i7 e8 i8
     clear s2 s3 s4 hW hxo5 hxo4 hxo3 hcA hcB hAlt hCat hHeld hb1 hb2 hb3 hti hNul hxoR hkR hrR
     obtain ⟨k0, k1, k2, k3, k4, k5, k6, k7, k8⟩ := c9 hkW.out
     obtain ⟨R, hR⟩ : ∃ R, R = nullT (T.mk kc c0 c1 c2 c3 pc capc mnc mxc txc ksc) := ⟨_, rfl⟩
     rw [← hR] at hN hnext hstop
     clear hR
     cases R
     ·have hF := hid (hts.out.trans (hstop.out rfl).symm)
      have hxrW := hid (kept_row hxr.out hBW.out)
      clear hnext hstop hts
      go_wp2_with (go_at_call 42; (with_reducible refine hN.out.mono ?_); rintro e w4 ⟨rfl, hb4⟩; have hb4K := hid (show Bel W w4 from hb4); have hx4 := hid (kept_row s1.out hb4); have hr4 := hid (kept_row hxrW.out hb4); obtain ⟨u0, u1, u2, u3, u4, u5, u6, u7, u8⟩ := c9 hx4.out; obtain ⟨e0, i0, e1, i1, e2, i2, e3, i3, e4, i4, e5, i5, e6, i6, e7, i7, e8, i8⟩ := d9 hr4.out; clear hb4)
      generalize hW5 : World.setCell _ (⟨w.heap.size + 1, 8, none⟩ : Addr) _ = W5 at *
      obtain ⟨s1, s2, s3, s4⟩ := S7.set9 hr4.out W5 hW5.symm
      obtain ⟨r0, r1, r2, r3, r4, r5, r6, r7, r8⟩ := c9 s1
      have hz4 := hb4K.out.size
      refine bodyPost_ret (v := .agg #[.int .i64 kt, .int .u64 t0, .int .u64 t1, .int .u64 t2, .int .u64 t3, .slice pt kst.length capt, .int .i64 mnt, .int .i64 mxt, .string txt]) (by simp [results, Tryd.results28, go_sem, r0, r1, r2, r3, r4, r5, r6, r7, r8]) rfl ?_
      exact ⟨⟨kt, t0, t1, t2, t3, pt, capt, mnt, mxt, txt, kst⟩, rfl, hF.out, seq_out hP.out (hin.out.keep fun b hb => hb4K.out.block b (hb.elim (fun h => by have := hP.out b h; omega) fun h => h.2)) hz4 s3 s2 (by omega), (below_of (bel_bel hbW.out hb4K.out)).trans (s4 w.heap.size (by omega))⟩
     ·have hS := hid (hnext.out rfl)
      rw [← hts.out] at hS
      clear hnext hstop hts
      go_wp2_with (go_at_call 42; (with_reducible refine hN.out.mono ?_); rintro e w4 ⟨rfl, hb4⟩; have hb4K := hid (show Bel W w4 from hb4); have hx4 := hid (kept_row s1.out hb4); clear hb4)
      have hz4 := hb4K.out.size
      go_roundw
      case rel => exact ⟨j + 1, ⟨kt, t0, t1, t2, t3, pt, capt, mnt, mxt, txt, kst⟩, by omega, by go_num, hx4, hS, hid ((hin.out.keep fun b hb => hb4K.out.block b (hb.elim (fun h => by have := hP.out b h; omega) fun h => h.2)).imp fun b hb => hb.imp_right fun h => ⟨h.1, by omega⟩), hid (bel_bel hBW.out hb4K.out)⟩
      case measure => simp [intOf]; omega
    ·go_simp
     (go_at_call 28; (with_reducible refine (cC.out _ hbk.out).mono ?_); rintro e w1 ⟨tc, rfl, hts, hti, hb1⟩; have hb1K := hid (bel_drew hb1); have hcA := hid (hCat.out tc w1 hts hti hb1); have hxo3 := hid (kept_row hxoR.out hb1K.out); clear hti hts; obtain ⟨u0, u1, u2, u3, u4, u5, u6, u7, u8⟩ := c9 hxo3.out)
     try dsimp only
     refine hK.out _ _ (hHeld.trans (Fr.of_bel hb1) (fun _ h => .inl h)) (fun hHeld2 => ?_)
     clear hK K hHeld
     have hHeld := hHeld2
     clear hHeld2
     try simp only [Go.Last.pt]
     refine wpAnyH_ready (rs := [0, 5]) (by kernel_rfl) (by simp) ?_
     refine (AllReadyH.cons (o := _) rfl (fun K hK => ?_) (AllReadyH.cons (o := _) rfl (fun K hK => ?_) AllReadyH.nil))
     ·go_simp
      try dsimp only
      refine hK.out _ _ (hHeld) (fun hHeld2 => ?_)
      clear hK K hHeld
      have hHeld := hHeld2
      clear hHeld2
      try simp only [Go.Last.pt]
      refine Go.Last.held 5 (by kernel_rfl) rfl (fun K hK => ?_)
      go_simp
      (go_at_call 45; (with_reducible refine hcA.out.mono ?_); rintro e w2 ⟨td, rfl, hts, hti, hb2⟩; have hcB := hid (hAlt.out w1 _ td w2 (fun b hb => hb.elim (fun h => ⟨by have h1 := hP.out b h; have h2 := hbw.out.size; have h3 := hb1K.out.size; omega, .inl h⟩) fun h => ⟨h.2, .inr h.1⟩) hts hti hb1K.out hb2); have hb2K := hid (show Bel w1 w2 from hb2); have hxo4 := hid (kept_row hxo3.out hb2); clear hti hts; obtain ⟨g0, g1, g2, g3, g4, g5, g6, g7, g8⟩ := c9 hxo4.out)
      try dsimp only
      refine hK.out _ _ (hHeld.trans (Fr.of_bel hb2) (fun _ h => .inl h)) (fun hHeld2 => ?_)
      clear hK K hHeld
      have hHeld := hHeld2
      clear hHeld2
      try simp only [Go.Last.pt]
      refine Go.Last.held 6 (by kernel_rfl) rfl (fun K hK => ?_)
      go_simp
      (go_at_call 44; (with_reducible refine hcB.out.mono ?_); rintro e w3 ⟨⟨kt, t0, t1, t2, t3, pt, capt, mnt, mxt, txt, kst⟩, rfl, hts, hti, hb3⟩; have hxo5 := hid (kept_row hxo4.out hb3); obtain ⟨e0, i0, e1, i1, e2, i2, e3, i3, e4, i4, e5, i5, e6, i6, e7, i7, e8, i8⟩ := d9 hxo5.out; simp only [T.cells] at hti hts ⊢; have hb3K := hid (show Bel w2 w3 from hb3); replace hts := hid hts; replace hti := hid hti)
      try dsimp only
      refine hK.out _ _ (hHeld.trans (Fr.of_bel hb3) (fun _ h => .inl h)) (fun hHeld2 => ?_)
      clear hK K hHeld
      have hHeld := hHeld2
      clear hHeld2
      try simp only [Go.Last.pt]
      refine Go.Last.held 7 (by kernel_rfl) rfl (fun K hK => ?_)
      go_simp
      generalize hW : World.setCell _ (⟨w.heap.size + 1 + 1 + 1, 8, none⟩ : Addr) _ = W at *; obtain ⟨s1, s2, s3, s4⟩ := S7.set9 hxo5.out W hW.symm
      try dsimp only
      refine hK.out _ _ (fr_set9 hHeld s2 s3 s4 rfl) (fun hHeld2 => ?_)
      clear hK K hHeld
      have hHeld := hHeld2
      clear hHeld2
      try simp only [Go.Last.pt]
      refine wpAnyH_done (by kernel_rfl) ?_ _
      have hz1 := hb1K.out.size
      have hz2 := hb2K.out.size
      have hz3 := hb3K.out.size
      have hBW := hid (bel_fr hB.out hwr.out hHeld (fun k hk => by rw [hk]; simp only [World.size_alloc]; exact Nat.le_refl _))
      have hbW := hid (below_of (bel_bel hbb.out hBW.out))
      have hkW := hid ((hHeld.block _ (lt_box hkR.out) (by omega)).trans hkR.out)
      have hin := hid (seq_in hP.out hti.out s3 s2 (by omega) (by omega))
      have hzW := s2
      replace s1 := hid s1
      have hN := hid (hNul.out W hbW.out)
      clear k0 k1 k2 k3 k4 k5 k6 k7 k8 l0 l1 l2 l3 l4 l5 l6 l7 l8 x0 f0 x1 f1 x2 f2 x3 f3 x4 f4 x5 f5 x6 f6 x7 f7 x8 f8 u0 u1 u2 u3 u4 u5 u6 u7 u8 g0 g1 g2 g3 g4 g5 g6 g7 g8 e0 i0 e1 i1 e2 i2 e3 i3 e4 i4 e5 i5 e6 i6 e7 i7 e8 i8
      clear s2 s3 s4 hW hxo5 hxo4 hxo3 hcA hcB hAlt hCat hHeld hb1 hb2 hb3 hti hNul hxoR hkR hrR
      obtain ⟨k0, k1, k2, k3, k4, k5, k6, k7, k8⟩ := c9 hkW.out
      obtain ⟨R, hR⟩ : ∃ R, R = nullT (T.mk kc c0 c1 c2 c3 pc capc mnc mxc txc ksc) := ⟨_, rfl⟩
      rw [← hR] at hN hnext hstop
      clear hR
      cases R
      ·have hF := hid (hts.out.trans (hstop.out rfl).symm)
       have hxrW := hid (kept_row hxr.out hBW.out)
       clear hnext hstop hts
       go_wp2_with (go_at_call 42; (with_reducible refine hN.out.mono ?_); rintro e w4 ⟨rfl, hb4⟩; have hb4K := hid (show Bel W w4 from hb4); have hx4 := hid (kept_row s1.out hb4); have hr4 := hid (kept_row hxrW.out hb4); obtain ⟨u0, u1, u2, u3, u4, u5, u6, u7, u8⟩ := c9 hx4.out; obtain ⟨e0, i0, e1, i1, e2, i2, e3, i3, e4, i4, e5, i5, e6, i6, e7, i7, e8, i8⟩ := d9 hr4.out; clear hb4)
       generalize hW5 : World.setCell _ (⟨w.heap.size + 1, 8, none⟩ : Addr) _ = W5 at *
       obtain ⟨s1, s2, s3, s4⟩ := S7.set9 hr4.out W5 hW5.symm
       obtain ⟨r0, r1, r2, r3, r4, r5, r6, r7, r8⟩ := c9 s1
       have hz4 := hb4K.out.size
       refine bodyPost_ret (v := .agg #[.int .i64 kt, .int .u64 t0, .int .u64 t1, .int .u64 t2, .int .u64 t3, .slice pt kst.length capt, .int .i64 mnt, .int .i64 mxt, .string txt]) (by simp [results, Tryd.results28, go_sem, r0, r1, r2, r3, r4, r5, r6, r7, r8]) rfl ?_
       exact ⟨⟨kt, t0, t1, t2, t3, pt, capt, mnt, mxt, txt, kst⟩, rfl, hF.out, seq_out hP.out (hin.out.keep fun b hb => hb4K.out.block b (hb.elim (fun h => by have := hP.out b h; omega) fun h => h.2)) hz4 s3 s2 (by omega), (below_of (bel_bel hbW.out hb4K.out)).trans (s4 w.heap.size (by omega))⟩
      ·have hS := hid (hnext.out rfl)
       rw [← hts.out] at hS
       clear hnext hstop hts
       go_wp2_with (go_at_call 42; (with_reducible refine hN.out.mono ?_); rintro e w4 ⟨rfl, hb4⟩; have hb4K := hid (show Bel W w4 from hb4); have hx4 := hid (kept_row s1.out hb4); clear hb4)
       have hz4 := hb4K.out.size
       go_roundw
       case rel => exact ⟨j + 1, ⟨kt, t0, t1, t2, t3, pt, capt, mnt, mxt, txt, kst⟩, by omega, by go_num, hx4, hS, hid ((hin.out.keep fun b hb => hb4K.out.block b (hb.elim (fun h => by have := hP.out b h; omega) fun h => h.2)).imp fun b hb => hb.imp_right fun h => ⟨h.1, by omega⟩), hid (bel_bel hBW.out hb4K.out)⟩
       case measure => simp [intOf]; omega
     ·go_simp
      (go_at_call 45; (with_reducible refine hcA.out.mono ?_); rintro e w2 ⟨td, rfl, hts, hti, hb2⟩; have hcB := hid (hAlt.out w1 _ td w2 (fun b hb => hb.elim (fun h => ⟨by have h1 := hP.out b h; have h2 := hbw.out.size; have h3 := hb1K.out.size; omega, .inl h⟩) fun h => ⟨h.2, .inr h.1⟩) hts hti hb1K.out hb2); have hb2K := hid (show Bel w1 w2 from hb2); have hxo4 := hid (kept_row hxo3.out hb2); clear hti hts; obtain ⟨g0, g1, g2, g3, g4, g5, g6, g7, g8⟩ := c9 hxo4.out)
      try dsimp only
      refine hK.out _ _ (hHeld.trans (Fr.of_bel hb2) (fun _ h => .inl h)) (fun hHeld2 => ?_)
      clear hK K hHeld
      have hHeld := hHeld2
      clear hHeld2
      try simp only [Go.Last.pt]
      refine Go.Last.held 0 (by kernel_rfl) rfl (fun K hK => ?_)
      go_simp
      try dsimp only
      refine hK.out _ _ (hHeld) (fun hHeld2 => ?_)
      clear hK K hHeld
      have hHeld := hHeld2
      clear hHeld2
      try simp only [Go.Last.pt]
      refine Go.Last.held 6 (by kernel_rfl) rfl (fun K hK => ?_)
      go_simp
      (go_at_call 44; (with_reducible refine hcB.out.mono ?_); rintro e w3 ⟨⟨kt, t0, t1, t2, t3, pt, capt, mnt, mxt, txt, kst⟩, rfl, hts, hti, hb3⟩; have hxo5 := hid (kept_row hxo4.out hb3); obtain ⟨e0, i0, e1, i1, e2, i2, e3, i3, e4, i4, e5, i5, e6, i6, e7, i7, e8, i8⟩ := d9 hxo5.out; simp only [T.cells] at hti hts ⊢; have hb3K := hid (show Bel w2 w3 from hb3); replace hts := hid hts; replace hti := hid hti)
      try dsimp only
      refine hK.out _ _ (hHeld.trans (Fr.of_bel hb3) (fun _ h => .inl h)) (fun hHeld2 => ?_)
      clear hK K hHeld
      have hHeld := hHeld2
      clear hHeld2
      try simp only [Go.Last.pt]
      refine Go.Last.held 7 (by kernel_rfl) rfl (fun K hK => ?_)
      go_simp
      generalize hW : World.setCell _ (⟨w.heap.size + 1 + 1 + 1, 8, none⟩ : Addr) _ = W at *; obtain ⟨s1, s2, s3, s4⟩ := S7.set9 hxo5.out W hW.symm
      try dsimp only
      refine hK.out _ _ (fr_set9 hHeld s2 s3 s4 rfl) (fun hHeld2 => ?_)
      clear hK K hHeld
      have hHeld := hHeld2
      clear hHeld2
      try simp only [Go.Last.pt]
      refine wpAnyH_done (by kernel_rfl) ?_ _
      have hz1 := hb1K.out.size
      have hz2 := hb2K.out.size
      have hz3 := hb3K.out.size
      have hBW := hid (bel_fr hB.out hwr.out hHeld (fun k hk => by rw [hk]; simp only [World.size_alloc]; exact Nat.le_refl _))
      have hbW := hid (below_of (bel_bel hbb.out hBW.out))
      have hkW := hid ((hHeld.block _ (lt_box hkR.out) (by omega)).trans hkR.out)
      have hin := hid (seq_in hP.out hti.out s3 s2 (by omega) (by omega))
      have hzW := s2
      replace s1 := hid s1
      have hN := hid (hNul.out W hbW.out)
      clear k0 k1 k2 k3 k4 k5 k6 k7 k8 l0 l1 l2 l3 l4 l5 l6 l7 l8 x0 f0 x1 f1 x2 f2 x3 f3 x4 f4 x5 f5 x6 f6 x7 f7 x8 f8 u0 u1 u2 u3 u4 u5 u6 u7 u8 g0 g1 g2 g3 g4 g5 g6 g7 g8 e0 i0 e1 i1 e2 i2 e3 i3 e4 i4 e5 i5 e6 i6 e7 i7 e8 i8
      clear s2 s3 s4 hW hxo5 hxo4 hxo3 hcA hcB hAlt hCat hHeld hb1 hb2 hb3 hti hNul hxoR hkR hrR
      obtain ⟨k0, k1, k2, k3, k4, k5, k6, k7, k8⟩ := c9 hkW.out
      obtain ⟨R, hR⟩ : ∃ R, R = nullT (T.mk kc c0 c1 c2 c3 pc capc mnc mxc txc ksc) := ⟨_, rfl⟩
      rw [← hR] at hN hnext hstop
      clear hR
      cases R
      ·have hF := hid (hts.out.trans (hstop.out rfl).symm)
       have hxrW := hid (kept_row hxr.out hBW.out)
       clear hnext hstop hts
       go_wp2_with (go_at_call 42; (with_reducible refine hN.out.mono ?_); rintro e w4 ⟨rfl, hb4⟩; have hb4K := hid (show Bel W w4 from hb4); have hx4 := hid (kept_row s1.out hb4); have hr4 := hid (kept_row hxrW.out hb4); obtain ⟨u0, u1, u2, u3, u4, u5, u6, u7, u8⟩ := c9 hx4.out; obtain ⟨e0, i0, e1, i1, e2, i2, e3, i3, e4, i4, e5, i5, e6, i6, e7, i7, e8, i8⟩ := d9 hr4.out; clear hb4)
       generalize hW5 : World.setCell _ (⟨w.heap.size + 1, 8, none⟩ : Addr) _ = W5 at *
       obtain ⟨s1, s2, s3, s4⟩ := S7.set9 hr4.out W5 hW5.symm
       obtain ⟨r0, r1, r2, r3, r4, r5, r6, r7, r8⟩ := c9 s1
       have hz4 := hb4K.out.size
       refine bodyPost_ret (v := .agg #[.int .i64 kt, .int .u64 t0, .int .u64 t1, .int .u64 t2, .int .u64 t3, .slice pt kst.length capt, .int .i64 mnt, .int .i64 mxt, .string txt]) (by simp [results, Tryd.results28, go_sem, r0, r1, r2, r3, r4, r5, r6, r7, r8]) rfl ?_
       exact ⟨⟨kt, t0, t1, t2, t3, pt, capt, mnt, mxt, txt, kst⟩, rfl, hF.out, seq_out hP.out (hin.out.keep fun b hb => hb4K.out.block b (hb.elim (fun h => by have := hP.out b h; omega) fun h => h.2)) hz4 s3 s2 (by omega), (below_of (bel_bel hbW.out hb4K.out)).trans (s4 w.heap.size (by omega))⟩
      ·have hS := hid (hnext.out rfl)
       rw [← hts.out] at hS
       clear hnext hstop hts
       go_wp2_with (go_at_call 42; (with_reducible refine hN.out.mono ?_); rintro e w4 ⟨rfl, hb4⟩; have hb4K := hid (show Bel W w4 from hb4); have hx4 := hid (kept_row s1.out hb4); clear hb4)
       have hz4 := hb4K.out.size
       go_roundw
       case rel => exact ⟨j + 1, ⟨kt, t0, t1, t2, t3, pt, capt, mnt, mxt, txt, kst⟩, by omega, by go_num, hx4, hS, hid ((hin.out.keep fun b hb => hb4K.out.block b (hb.elim (fun h => by have := hP.out b h; omega) fun h => h.2)).imp fun b hb => hb.imp_right fun h => ⟨h.1, by omega⟩), hid (bel_bel hBW.out hb4K.out)⟩
       case measure => simp [intOf]; omega
    
    
   ·by_cases hl2 : j + 2 = ksn.length
    ·have g2 : ((j : Int) + 2 == (ksn.length : Int)) = true := by rw [beq_iff_eq]; omega
     obtain ⟨b', qo', hkid2, hp2, hbl2, hc2⟩ := T.kid hA.out (j := j + 1) (by omega)
     simp only [Option.some.injEq, Addr.mk.injEq, and_true] at hp2
     obtain ⟨rfl, rfl⟩ := hp2
     have hbL := hid (show Bel (((w.alloc (.cells #[.int .i64 2, .int .u64 n0, .int .u64 n1, .int .u64 n2, .int .u64 n3, .slice (some ⟨b, qo, none⟩) ksn.length capn, .int .i64 mnn, .int .i64 mxn, .string txn] 32)).alloc (.cells #[.int .i64 0, .int .u64 0, .int .u64 0, .int .u64 0, .int .u64 0, .slice none 0 0, .int .i64 0, .int .i64 0, .string ⟨#[]⟩] 32)).alloc (.cells #[.int .i64 0, .int .u64 0, .int .u64 0, .int .u64 0, .int .u64 0, .slice none 0 0, .int .i64 0, .int .i64 0, .string ⟨#[]⟩] 32)) ((wr.alloc (.cells #[.int .i64 kc, .int .u64 c0, .int .u64 c1, .int .u64 c2, .int .u64 c3, .slice pc ksc.length capc, .int .i64 mnc, .int .i64 mxc, .string txc] 32)).alloc (.cells #[.int .i64 2, .int .u64 0, .int .u64 0, .int .u64 0, .int .u64 0, .slice (some ⟨b, qo + (j + 1) * 9, none⟩) (ksn.length - (j + 1)) (capn - (j + 1)), .int .i64 0, .int .i64 0, .string ⟨#[]⟩] 32)) from Bel.alloc hbK.out _)
     have hcl2 : ∀ q, q < 9 → ((wr.alloc (.cells #[.int .i64 kc, .int .u64 c0, .int .u64 c1, .int .u64 c2, .int .u64 c3, .slice pc ksc.length capc, .int .i64 mnc, .int .i64 mxc, .string txc] 32)).alloc (.cells #[.int .i64 2, .int .u64 0, .int .u64 0, .int .u64 0, .int .u64 0, .slice (some ⟨b, qo + (j + 1) * 9, none⟩) (ksn.length - (j + 1)) (capn - (j + 1)), .int .i64 0, .int .i64 0, .string ⟨#[]⟩] 32)).cell? ⟨b, qo + (j + 1) * 9 + q, none⟩ = (ksn[j + 1].cells)[q]? := fun q hq => by
      rw [← hc2 q hq]
      exact (show Below w.heap.size w _ from bel_bel hbb.out hbL.out).cell (p := ⟨b, qo + (j + 1) * 9 + q, none⟩) hbl
     have hri2 := hid ((inp_kids hPN.out : ∀ x ∈ ksn, T.InP w P x) ksn[j + 1] (List.getElem_mem _))
     have hrs2 : Hid (ksn[j + 1].strip = rs) := hid (by
      have e : ksn.drop (j + 1) = [ksn[j + 1]] := by
       rw [List.drop_eq_getElem_cons (by omega), List.drop_eq_nil_iff.2 (by omega)]
      rw [hrs.out, e]
      rfl)
     have hxnL := hid (kept_row hxn.out hbL.out)
     obtain ⟨h0, h1, h2, h3, h4, h5, h6, h7, h8⟩ := c9 hxnL.out
     clear hkid2 hbl2 hc2
     generalize ksn[j + 1] = kd at *
     obtain ⟨kd, d0, d1, d2, d3, pd, capd, mnd, mxd, txd, ksd⟩ := kd
     simp only [T.cells] at hcl2
     obtain ⟨v0, v1, v2, v3, v4, v5, v6, v7, v8⟩ := nine_of hcl2
     clear hcl2
     have hRT : Hid (∃ rt : T, rt.cells.toArray = #[.int .i64 kd, .int .u64 d0, .int .u64 d1, .int .u64 d2, .int .u64 d3, .slice pd ksd.length capd, .int .i64 mnd, .int .i64 mxd, .string txd] ∧ rt.strip = rs ∧ T.InP w P rt) := hid ⟨.mk kd d0 d1 d2 d3 pd capd mnd mxd txd ksd, rfl, hrs2.out, hri2.out⟩
     replace hxnL := hid hxnL
     clear hxnL
     obtain ⟨rt, hrc, hrt, hri⟩ := hRT.out
     replace hrc := hid hrc
     have hbR := hid (Bel.alloc (Bel.alloc hB.out (.cells #[.int .i64 kc, .int .u64 c0, .int .u64 c1, .int .u64 c2, .int .u64 c3, .slice pc ksc.length capc, .int .i64 mnc, .int .i64 mxc, .string txc] 32)) (.cells #[.int .i64 kd, .int .u64 d0, .int .u64 d1, .int .u64 d2, .int .u64 d3, .slice pd ksd.length capd, .int .i64 mnd, .int .i64 mxd, .string txd] 32))
     have hwr := hid (Bel.alloc (Bel.new wr (.cells #[.int .i64 kc, .int .u64 c0, .int .u64 c1, .int .u64 c2, .int .u64 c3, .slice pc ksc.length capc, .int .i64 mnc, .int .i64 mxc, .string txc] 32)) (.cells #[.int .i64 kd, .int .u64 d0, .int .u64 d1, .int .u64 d2, .int .u64 d3, .slice pd ksd.length capd, .int .i64 mnd, .int .i64 mxd, .string txd] 32))
     have hbR0 : ((wr.alloc (.cells #[.int .i64 kc, .int .u64 c0, .int .u64 c1, .int .u64 c2, .int .u64 c3, .slice pc ksc.length capc, .int .i64 mnc, .int .i64 mxc, .string txc] 32)).alloc (.cells #[.int .i64 kd, .int .u64 d0, .int .u64 d1, .int .u64 d2, .int .u64 d3, .slice pd ksd.length capd, .int .i64 mnd, .int .i64 mxd, .string txd] 32)).heap.size = wr.heap.size + 1 + 1 := by simp only [World.size_alloc]
     have hkR := hid (kept_row hk9 (Bel.new (wr.alloc (.cells #[.int .i64 kc, .int .u64 c0, .int .u64 c1, .int .u64 c2, .int .u64 c3, .slice pc ksc.length capc, .int .i64 mnc, .int .i64 mxc, .string txc] 32)) (.cells #[.int .i64 kd, .int .u64 d0, .int .u64 d1, .int .u64 d2, .int .u64 d3, .slice pd ksd.length capd, .int .i64 mnd, .int .i64 mxd, .string txd] 32)))
     have hrR : Hid (((wr.alloc (.cells #[.int .i64 kc, .int .u64 c0, .int .u64 c1, .int .u64 c2, .int .u64 c3, .slice pc ksc.length capc, .int .i64 mnc, .int .i64 mxc, .string txc] 32)).alloc (.cells #[.int .i64 kd, .int .u64 d0, .int .u64 d1, .int .u64 d2, .int .u64 d3, .slice pd ksd.length capd, .int .i64 mnd, .int .i64 mxd, .string txd] 32)).heap[wr.heap.size + 1]? = some (.cells #[.int .i64 kd, .int .u64 d0, .int .u64 d1, .int .u64 d2, .int .u64 d3, .slice pd ksd.length capd, .int .i64 mnd, .int .i64 mxd, .string txd] 32 (0, 0))) := hid (by have := World.alloc_heap_new (wr.alloc (.cells #[.int .i64 kc, .int .u64 c0, .int .u64 c1, .int .u64 c2, .int .u64 c3, .slice pc ksc.length capc, .int .i64 mnc, .int .i64 mxc, .string txc] 32)) (.cells #[.int .i64 kd, .int .u64 d0, .int .u64 d1, .int .u64 d2, .int .u64 d3, .slice pd ksd.length capd, .int .i64 mnd, .int .i64 mxd, .string txd] 32); rw [World.size_alloc] at this; exact this)
     have hxoR := hid (kept_row hxo1.out hwr.out)
     have hxnR := hid (kept_row hxn.out hbR.out)
     clear x0 f0 x1 f1 x2 f2 x3 f3 x4 f4 x5 f5 x6 f6 x7 f7 x8 f8
     obtain ⟨k0, k1, k2, k3, k4, k5, k6, k7, k8⟩ := c9 hkR.out
     obtain ⟨l0, l1, l2, l3, l4, l5, l6, l7, l8⟩ := c9 hrR.out
     obtain ⟨x0, f0, x1, f1, x2, f2, x3, f3, x4, f4, x5, f5, x6, f6, x7, f7, x8, f8⟩ := d9 hxoR.out
     obtain ⟨m0, m1, m2, m3, m4, m5, m6, m7, m8⟩ := c9 hxnR.out
     have hbk2 := below_of (bel_bel hbw.out hwr.out)
     have hbk := hid hbk2.drew
     have hzR2 := hbR0
     have hCat := hid (seq_cat10 hP.out hbk2 hzR2 (by omega) hri hrt hcat.out hrc.out)
     have hAlt := hid (seq_alt10 (o := (T.mk ko o0 o1 o2 o3 po capo mno mxo txo kso)) (O9 := #[.int .i64 ko, .int .u64 o0, .int .u64 o1, .int .u64 o2, .int .u64 o3, .slice po kso.length capo, .int .i64 mno, .int .i64 mxo, .string txo]) hP.out hwr.out hzR2 (by omega) hoi.out hfew.out rfl)
     have hNul : Hid (∀ W, Below w.heap.size w W → Calls Tryd.prog 42 #[.agg #[.int .i64 kc, .int .u64 c0, .int .u64 c1, .int .u64 c2, .int .u64 c3, .slice pc ksc.length capc, .int .i64 mnc, .int .i64 mxc, .string txc]] W fun e w' => e = .returned (.bool (nullT (T.mk kc c0 c1 c2 c3 pc capc mnc mxc txc ksc))) ∧ Below W.heap.size W w') := hid fun W hb => hnul.out W hb
     clear hRT hri hrc hrt hbk2 hbR0
     go_upto_region 14 with (fail)
     clear h0 h1 h2 h3 h4 h5 h6 h7 h8 v0 v1 v2 v3 v4 v5 v6 v7 v8 y0 y1 y2 y3 y4 y5 y6 y7 y8 m0 m1 m2 m3 m4 m5 m6 m7 m8 q0 q1 q2 q3 q4 q5 q6 q7 q8 hxnK hxnR hbK hk9 hxo1 hxo hbR hPN hok hco hrs hcat hfew hoi hnul
     generalize ((wr.alloc (.cells #[.int .i64 kc, .int .u64 c0, .int .u64 c1, .int .u64 c2, .int .u64 c3, .slice pc ksc.length capc, .int .i64 mnc, .int .i64 mxc, .string txc] 32)).alloc (.cells #[.int .i64 kd, .int .u64 d0, .int .u64 d1, .int .u64 d2, .int .u64 d3, .slice pd ksd.length capd, .int .i64 mnd, .int .i64 mxd, .string txd] 32)) = WX at *
     refine wp_region_held_drew (S := fun W => Fr (fun b => b = w.heap.size + 1 + 1 + 1) WX W) (by kernel_rfl) (Fr.refl _ _).drew (fun hHeld => ?_)
     refine wpAnyH_take (i := 1) (v := ?v1u4) rfl (by kernel_rfl) (by kernel_rfl) (by kernel_rfl) (fun _ _ _ h => h) (Or.inl ⟨by kernel_rfl, ?h1u4⟩) hHeld ?r1u4
     case h1u4 => (intro wq hSw; obtain ⟨k0, k1, k2, k3, k4, k5, k6, k7, k8⟩ := c9 ((hSw.block _ (lt_box hkR.out) (by omega)).trans hkR.out); go_simp <;> with_reducible rfl)
     try simp only [Go.Last.pt]
     refine wpAnyH_take (i := 2) (v := ?v2u5) rfl (by kernel_rfl) (by kernel_rfl) (by kernel_rfl) (fun _ _ _ h => h) (Or.inl ⟨by kernel_rfl, ?h2u5⟩) hHeld ?r2u5
     case h2u5 => (intro wq hSw; go_simp <;> with_reducible rfl)
     try simp only [Go.Last.pt]
     refine wpAnyH_take (i := 4) (v := ?v4u6) rfl (by kernel_rfl) (by kernel_rfl) (by kernel_rfl) (fun _ _ _ h => h) (Or.inl ⟨by kernel_rfl, ?h4u6⟩) hHeld ?r4u6
     case h4u6 => (intro wq hSw; obtain ⟨l0, l1, l2, l3, l4, l5, l6, l7, l8⟩ := c9 ((hSw.block _ (lt_box hrR.out) (by omega)).trans hrR.out); go_simp <;> with_reducible rfl)
     try simp only [Go.Last.pt]
     refine wpAnyH_ready (rs := [0, 3]) (by kernel_rfl) (by simp) ?_
     refine (AllReadyH.cons (o := _) rfl (fun K hK => ?_) (AllReadyH.cons (o := _) rfl (fun K hK => ?_) AllReadyH.nil))
     ·go_simp
      try dsimp only
      refine hK.out _ _ (hHeld) (fun hHeld2 => ?_)
      clear hK K hHeld
      have hHeld := hHeld2
      clear hHeld2
      try simp only [Go.Last.pt]
      refine Go.Last.held 3 (by kernel_rfl) rfl (fun K hK => ?_)
      go_simp
      (go_at_call 28; (with_reducible refine (cC.out _ hbk.out).mono ?_); rintro e w1 ⟨tc, rfl, hts, hti, hb1⟩; have hb1K := hid (bel_drew hb1); have hcA := hid (hCat.out tc w1 hts hti hb1); have hxo3 := hid (kept_row hxoR.out hb1K.out); clear hti hts; obtain ⟨u0, u1, u2, u3, u4, u5, u6, u7, u8⟩ := c9 hxo3.out)
      try dsimp only
      refine hK.out _ _ (hHeld.trans (Fr.of_bel hb1) (fun _ h => .inl h)) (fun hHeld2 => ?_)
      clear hK K hHeld
      have hHeld := hHeld2
      clear hHeld2
      try simp only [Go.Last.pt]
      refine Go.Last.held 5 (by kernel_rfl) rfl (fun K hK => ?_)
      go_simp
      (go_at_call 45; (with_reducible refine hcA.out.mono ?_); rintro e w2 ⟨td, rfl, hts, hti, hb2⟩; have hcB := hid (hAlt.out w1 _ td w2 (fun b hb => hb.elim (fun h => ⟨by have h1 := hP.out b h; have h2 := hbw.out.size; have h3 := hb1K.out.size; omega, .inl h⟩) fun h => ⟨h.2, .inr h.1⟩) hts hti hb1K.out hb2); have hb2K := hid (show Bel w1 w2 from hb2); have hxo4 := hid (kept_row hxo3.out hb2); clear hti hts; obtain ⟨g0, g1, g2, g3, g4, g5, g6, g7, g8⟩ := c9 hxo4.out)
      try dsimp only
      refine hK.out _ _ (hHeld.trans (Fr.of_bel hb2) (fun _ h => .inl h)) (fun hHeld2 => ?_)
      clear hK K hHeld
      have hHeld := hHeld2
      clear hHeld2
      try simp only [Go.Last.pt]
      refine Go.Last.held 6 (by kernel_rfl) rfl (fun K hK => ?_)
      go_simp
      (go_at_call 44; (with_reducible refine hcB.out.mono ?_); rintro e w3 ⟨⟨kt, t0, t1, t2, t3, pt, capt, mnt, mxt, txt, kst⟩, rfl, hts, hti, hb3⟩; have hxo5 := hid (kept_row hxo4.out hb3); obtain ⟨e0, i0, e1, i1, e2, i2, e3, i3, e4, i4, e5, i5, e6, i6, e7, i7, e8, i8⟩ := d9 hxo5.out; simp only [T.cells] at hti hts ⊢; have hb3K := hid (show Bel w2 w3 from hb3); replace hts := hid hts; replace hti := hid hti)
      try dsimp only
      refine hK.out _ _ (hHeld.trans (Fr.of_bel hb3) (fun _ h => .inl h)) (fun hHeld2 => ?_)
      clear hK K hHeld
      have hHeld := hHeld2
      clear hHeld2
      try simp only [Go.Last.pt]
      refine Go.Last.held 7 (by kernel_rfl) rfl (fun K hK => ?_)
      go_simp
      generalize hW : World.setCell _ (⟨w.heap.size + 1 + 1 + 1, 8, none⟩ : Addr) _ = W at *; obtain ⟨s1, s2, s3, s4⟩ := S7.set9 hxo5.out W hW.symm
      try dsimp only
      refine hK.out _ _ (fr_set9 hHeld s2 s3 s4 rfl) (fun hHeld2 => ?_)
      clear hK K hHeld
      have hHeld := hHeld2
      clear hHeld2
      try simp only [Go.Last.pt]
      refine wpAnyH_done (by kernel_rfl) ?_ _
      have hz1 := hb1K.out.size
      have hz2 := hb2K.out.size
      have hz3 := hb3K.out.size
      have hBW := hid (bel_fr hB.out hwr.out hHeld (fun k hk => by rw [hk]; simp only [World.size_alloc]; exact Nat.le_refl _))
      have hbW := hid (below_of (bel_bel hbb.out hBW.out))
      have hkW := hid ((hHeld.block _ (lt_box hkR.out) (by omega)).trans hkR.out)
      have hin := hid (seq_in hP.out hti.out s3 s2 (by omega) (by omega))
      have hzW := s2
      replace s1 := hid s1
      have hN := hid (hNul.out W hbW.out)
      clear k0 k1 k2 k3 k4 k5 k6 k7 k8 l0 l1 l2 l3 l4 l5 l6 l7 l8 x0 f0 x1 f1 x2 f2 x3 f3 x4 f4 x5 f5 x6 f6 x7 f7 x8 f8 u0 u1 u2 u3 u4 u5 u6 u7 u8 g0 g1 g2 g3 g4 g5 g6 g7 g8 e0 i0 e1 i1 e2 i2 e3 i3 e4 i4 e5 i5 e6 i6 e7 i7 e8 i8
      clear s2 s3 s4 hW hxo5 hxo4 hxo3 hcA hcB hAlt hCat hHeld hb1 hb2 hb3 hti hNul hxoR hkR hrR
      obtain ⟨k0, k1, k2, k3, k4, k5, k6, k7, k8⟩ := c9 hkW.out
      obtain ⟨R, hR⟩ : ∃ R, R = nullT (T.mk kc c0 c1 c2 c3 pc capc mnc mxc txc ksc) := ⟨_, rfl⟩
      rw [← hR] at hN hnext hstop
      clear hR
      cases R
      ·have hF := hid (hts.out.trans (hstop.out rfl).symm)
       have hxrW := hid (kept_row hxr.out hBW.out)
       clear hnext hstop hts
       go_wp2_with (go_at_call 42; (with_reducible refine hN.out.mono ?_); rintro e w4 ⟨rfl, hb4⟩; have hb4K := hid (show Bel W w4 from hb4); have hx4 := hid (kept_row s1.out hb4); have hr4 := hid (kept_row hxrW.out hb4); obtain ⟨u0, u1, u2, u3, u4, u5, u6, u7, u8⟩ := c9 hx4.out; obtain ⟨e0, i0, e1, i1, e2, i2, e3, i3, e4, i4, e5, i5, e6, i6, e7, i7, e8, i8⟩ := d9 hr4.out; clear hb4)
       generalize hW5 : World.setCell _ (⟨w.heap.size + 1, 8, none⟩ : Addr) _ = W5 at *
       obtain ⟨s1, s2, s3, s4⟩ := S7.set9 hr4.out W5 hW5.symm
       obtain ⟨r0, r1, r2, r3, r4, r5, r6, r7, r8⟩ := c9 s1
       have hz4 := hb4K.out.size
       refine bodyPost_ret (v := .agg #[.int .i64 kt, .int .u64 t0, .int .u64 t1, .int .u64 t2, .int .u64 t3, .slice pt kst.length capt, .int .i64 mnt, .int .i64 mxt, .string txt]) (by simp [results, Tryd.results28, go_sem, r0, r1, r2, r3, r4, r5, r6, r7, r8]) rfl ?_
       exact ⟨⟨kt, t0, t1, t2, t3, pt, capt, mnt, mxt, txt, kst⟩, rfl, hF.out, seq_out hP.out (hin.out.keep fun b hb => hb4K.out.block b (hb.elim (fun h => by have := hP.out b h; omega) fun h => h.2)) hz4 s3 s2 (by omega), (below_of (bel_bel hbW.out hb4K.out)).trans (s4 w.heap.size (by omega))⟩
      ·have hS := hid (hnext.out rfl)
       rw [← hts.out] at hS
       clear hnext hstop hts
       go_wp2_with (go_at_call 42; (with_reducible refine hN.out.mono ?_); rintro e w4 ⟨rfl, hb4⟩; have hb4K := hid (show Bel W w4 from hb4); have hx4 := hid (kept_row s1.out hb4); clear hb4)
       have hz4 := hb4K.out.size
       go_roundw
       case rel => exact ⟨j + 1, ⟨kt, t0, t1, t2, t3, pt, capt, mnt, mxt, txt, kst⟩, by omega, by go_num, hx4, hS, hid ((hin.out.keep fun b hb => hb4K.out.block b (hb.elim (fun h => by have := hP.out b h; omega) fun h => h.2)).imp fun b hb => hb.imp_right fun h => ⟨h.1, by omega⟩), hid (bel_bel hBW.out hb4K.out)⟩
       case measure => simp [intOf]; omega
     ·go_simp
      (go_at_call 28; (with_reducible refine (cC.out _ hbk.out).mono ?_); rintro e w1 ⟨tc, rfl, hts, hti, hb1⟩; have hb1K := hid (bel_drew hb1); have hcA := hid (hCat.out tc w1 hts hti hb1); have hxo3 := hid (kept_row hxoR.out hb1K.out); clear hti hts; obtain ⟨u0, u1, u2, u3, u4, u5, u6, u7, u8⟩ := c9 hxo3.out)
      try dsimp only
      refine hK.out _ _ (hHeld.trans (Fr.of_bel hb1) (fun _ h => .inl h)) (fun hHeld2 => ?_)
      clear hK K hHeld
      have hHeld := hHeld2
      clear hHeld2
      try simp only [Go.Last.pt]
      refine wpAnyH_ready (rs := [0, 5]) (by kernel_rfl) (by simp) ?_
      refine (AllReadyH.cons (o := _) rfl (fun K hK => ?_) (AllReadyH.cons (o := _) rfl (fun K hK => ?_) AllReadyH.nil))
      ·go_simp
       try dsimp only
       refine hK.out _ _ (hHeld) (fun hHeld2 => ?_)
       clear hK K hHeld
       have hHeld := hHeld2
       clear hHeld2
       try simp only [Go.Last.pt]
       refine Go.Last.held 5 (by kernel_rfl) rfl (fun K hK => ?_)
       go_simp
       (go_at_call 45; (with_reducible refine hcA.out.mono ?_); rintro e w2 ⟨td, rfl, hts, hti, hb2⟩; have hcB := hid (hAlt.out w1 _ td w2 (fun b hb => hb.elim (fun h => ⟨by have h1 := hP.out b h; have h2 := hbw.out.size; have h3 := hb1K.out.size; omega, .inl h⟩) fun h => ⟨h.2, .inr h.1⟩) hts hti hb1K.out hb2); have hb2K := hid (show Bel w1 w2 from hb2); have hxo4 := hid (kept_row hxo3.out hb2); clear hti hts; obtain ⟨g0, g1, g2, g3, g4, g5, g6, g7, g8⟩ := c9 hxo4.out)
       try dsimp only
       refine hK.out _ _ (hHeld.trans (Fr.of_bel hb2) (fun _ h => .inl h)) (fun hHeld2 => ?_)
       clear hK K hHeld
       have hHeld := hHeld2
       clear hHeld2
       try simp only [Go.Last.pt]
       refine Go.Last.held 6 (by kernel_rfl) rfl (fun K hK => ?_)
       go_simp
       (go_at_call 44; (with_reducible refine hcB.out.mono ?_); rintro e w3 ⟨⟨kt, t0, t1, t2, t3, pt, capt, mnt, mxt, txt, kst⟩, rfl, hts, hti, hb3⟩; have hxo5 := hid (kept_row hxo4.out hb3); obtain ⟨e0, i0, e1, i1, e2, i2, e3, i3, e4, i4, e5, i5, e6, i6, e7, i7, e8, i8⟩ := d9 hxo5.out; simp only [T.cells] at hti hts ⊢; have hb3K := hid (show Bel w2 w3 from hb3); replace hts := hid hts; replace hti := hid hti)
       try dsimp only
       refine hK.out _ _ (hHeld.trans (Fr.of_bel hb3) (fun _ h => .inl h)) (fun hHeld2 => ?_)
       clear hK K hHeld
       have hHeld := hHeld2
       clear hHeld2
       try simp only [Go.Last.pt]
       refine Go.Last.held 7 (by kernel_rfl) rfl (fun K hK => ?_)
       go_simp
       generalize hW : World.setCell _ (⟨w.heap.size + 1 + 1 + 1, 8, none⟩ : Addr) _ = W at *; obtain ⟨s1, s2, s3, s4⟩ := S7.set9 hxo5.out W hW.symm
       try dsimp only
       refine hK.out _ _ (fr_set9 hHeld s2 s3 s4 rfl) (fun hHeld2 => ?_)
       clear hK K hHeld
       have hHeld := hHeld2
       clear hHeld2
       try simp only [Go.Last.pt]
       refine wpAnyH_done (by kernel_rfl) ?_ _
       have hz1 := hb1K.out.size
       have hz2 := hb2K.out.size
       have hz3 := hb3K.out.size
       have hBW := hid (bel_fr hB.out hwr.out hHeld (fun k hk => by rw [hk]; simp only [World.size_alloc]; exact Nat.le_refl _))
       have hbW := hid (below_of (bel_bel hbb.out hBW.out))
       have hkW := hid ((hHeld.block _ (lt_box hkR.out) (by omega)).trans hkR.out)
       have hin := hid (seq_in hP.out hti.out s3 s2 (by omega) (by omega))
       have hzW := s2
       replace s1 := hid s1
       have hN := hid (hNul.out W hbW.out)
       clear k0 k1 k2 k3 k4 k5 k6 k7 k8 l0 l1 l2 l3 l4 l5 l6 l7 l8 x0 f0 x1 f1 x2 f2 x3 f3 x4 f4 x5 f5 x6 f6 x7 f7 x8 f8 u0 u1 u2 u3 u4 u5 u6 u7 u8 g0 g1 g2 g3 g4 g5 g6 g7 g8 e0 i0 e1 i1 e2 i2 e3 i3 e4 i4 e5 i5 e6 i6 e7 i7 e8 i8
       clear s2 s3 s4 hW hxo5 hxo4 hxo3 hcA hcB hAlt hCat hHeld hb1 hb2 hb3 hti hNul hxoR hkR hrR
       obtain ⟨k0, k1, k2, k3, k4, k5, k6, k7, k8⟩ := c9 hkW.out
       obtain ⟨R, hR⟩ : ∃ R, R = nullT (T.mk kc c0 c1 c2 c3 pc capc mnc mxc txc ksc) := ⟨_, rfl⟩
       rw [← hR] at hN hnext hstop
       clear hR
       cases R
       ·have hF := hid (hts.out.trans (hstop.out rfl).symm)
        have hxrW := hid (kept_row hxr.out hBW.out)
        clear hnext hstop hts
        go_wp2_with (go_at_call 42; (with_reducible refine hN.out.mono ?_); rintro e w4 ⟨rfl, hb4⟩; have hb4K := hid (show Bel W w4 from hb4); have hx4 := hid (kept_row s1.out hb4); have hr4 := hid (kept_row hxrW.out hb4); obtain ⟨u0, u1, u2, u3, u4, u5, u6, u7, u8⟩ := c9 hx4.out; obtain ⟨e0, i0, e1, i1, e2, i2, e3, i3, e4, i4, e5, i5, e6, i6, e7, i7, e8, i8⟩ := d9 hr4.out; clear hb4)
        generalize hW5 : World.setCell _ (⟨w.heap.size + 1, 8, none⟩ : Addr) _ = W5 at *
        obtain ⟨s1, s2, s3, s4⟩ := S7.set9 hr4.out W5 hW5.symm
        obtain ⟨r0, r1, r2, r3, r4, r5, r6, r7, r8⟩ := c9 s1
        have hz4 := hb4K.out.size
        refine bodyPost_ret (v := .agg #[.int .i64 kt, .int .u64 t0, .int .u64 t1, .int .u64 t2, .int .u64 t3, .slice pt kst.length capt, .int .i64 mnt, .int .i64 mxt, .string txt]) (by simp [results, Tryd.results28, go_sem, r0, r1, r2, r3, r4, r5, r6, r7, r8]) rfl ?_
        exact ⟨⟨kt, t0, t1, t2, t3, pt, capt, mnt, mxt, txt, kst⟩, rfl, hF.out, seq_out hP.out (hin.out.keep fun b hb => hb4K.out.block b (hb.elim (fun h => by have := hP.out b h; omega) fun h => h.2)) hz4 s3 s2 (by omega), (below_of (bel_bel hbW.out hb4K.out)).trans (s4 w.heap.size (by omega))⟩
       ·have hS := hid (hnext.out rfl)
        rw [← hts.out] at hS
        clear hnext hstop hts
        go_wp2_with (go_at_call 42; (with_reducible refine hN.out.mono ?_); rintro e w4 ⟨rfl, hb4⟩; have hb4K := hid (show Bel W w4 from hb4); have hx4 := hid (kept_row s1.out hb4); clear hb4)
        have hz4 := hb4K.out.size
        go_roundw
        case rel => exact ⟨j + 1, ⟨kt, t0, t1, t2, t3, pt, capt, mnt, mxt, txt, kst⟩, by omega, by go_num, hx4, hS, hid ((hin.out.keep fun b hb => hb4K.out.block b (hb.elim (fun h => by have := hP.out b h; omega) fun h => h.2)).imp fun b hb => hb.imp_right fun h => ⟨h.1, by omega⟩), hid (bel_bel hBW.out hb4K.out)⟩
        case measure => simp [intOf]; omega
      ·go_simp
       (go_at_call 45; (with_reducible refine hcA.out.mono ?_); rintro e w2 ⟨td, rfl, hts, hti, hb2⟩; have hcB := hid (hAlt.out w1 _ td w2 (fun b hb => hb.elim (fun h => ⟨by have h1 := hP.out b h; have h2 := hbw.out.size; have h3 := hb1K.out.size; omega, .inl h⟩) fun h => ⟨h.2, .inr h.1⟩) hts hti hb1K.out hb2); have hb2K := hid (show Bel w1 w2 from hb2); have hxo4 := hid (kept_row hxo3.out hb2); clear hti hts; obtain ⟨g0, g1, g2, g3, g4, g5, g6, g7, g8⟩ := c9 hxo4.out)
       try dsimp only
       refine hK.out _ _ (hHeld.trans (Fr.of_bel hb2) (fun _ h => .inl h)) (fun hHeld2 => ?_)
       clear hK K hHeld
       have hHeld := hHeld2
       clear hHeld2
       try simp only [Go.Last.pt]
       refine Go.Last.held 0 (by kernel_rfl) rfl (fun K hK => ?_)
       go_simp
       try dsimp only
       refine hK.out _ _ (hHeld) (fun hHeld2 => ?_)
       clear hK K hHeld
       have hHeld := hHeld2
       clear hHeld2
       try simp only [Go.Last.pt]
       refine Go.Last.held 6 (by kernel_rfl) rfl (fun K hK => ?_)
       go_simp
       (go_at_call 44; (with_reducible refine hcB.out.mono ?_); rintro e w3 ⟨⟨kt, t0, t1, t2, t3, pt, capt, mnt, mxt, txt, kst⟩, rfl, hts, hti, hb3⟩; have hxo5 := hid (kept_row hxo4.out hb3); obtain ⟨e0, i0, e1, i1, e2, i2, e3, i3, e4, i4, e5, i5, e6, i6, e7, i7, e8, i8⟩ := d9 hxo5.out; simp only [T.cells] at hti hts ⊢; have hb3K := hid (show Bel w2 w3 from hb3); replace hts := hid hts; replace hti := hid hti)
       try dsimp only
       refine hK.out _ _ (hHeld.trans (Fr.of_bel hb3) (fun _ h => .inl h)) (fun hHeld2 => ?_)
       clear hK K hHeld
       have hHeld := hHeld2
       clear hHeld2
       try simp only [Go.Last.pt]
       refine Go.Last.held 7 (by kernel_rfl) rfl (fun K hK => ?_)
       go_simp
       generalize hW : World.setCell _ (⟨w.heap.size + 1 + 1 + 1, 8, none⟩ : Addr) _ = W at *; obtain ⟨s1, s2, s3, s4⟩ := S7.set9 hxo5.out W hW.symm
       try dsimp only
       refine hK.out _ _ (fr_set9 hHeld s2 s3 s4 rfl) (fun hHeld2 => ?_)
       clear hK K hHeld
       have hHeld := hHeld2
       clear hHeld2
       try simp only [Go.Last.pt]
       refine wpAnyH_done (by kernel_rfl) ?_ _
       have hz1 := hb1K.out.size
       have hz2 := hb2K.out.size
       have hz3 := hb3K.out.size
       have hBW := hid (bel_fr hB.out hwr.out hHeld (fun k hk => by rw [hk]; simp only [World.size_alloc]; exact Nat.le_refl _))
       have hbW := hid (below_of (bel_bel hbb.out hBW.out))
       have hkW := hid ((hHeld.block _ (lt_box hkR.out) (by omega)).trans hkR.out)
       have hin := hid (seq_in hP.out hti.out s3 s2 (by omega) (by omega))
       have hzW := s2
       replace s1 := hid s1
       have hN := hid (hNul.out W hbW.out)
       clear k0 k1 k2 k3 k4 k5 k6 k7 k8 l0 l1 l2 l3 l4 l5 l6 l7 l8 x0 f0 x1 f1 x2 f2 x3 f3 x4 f4 x5 f5 x6 f6 x7 f7 x8 f8 u0 u1 u2 u3 u4 u5 u6 u7 u8 g0 g1 g2 g3 g4 g5 g6 g7 g8 e0 i0 e1 i1 e2 i2 e3 i3 e4 i4 e5 i5 e6 i6 e7 i7 e8 i8
       clear s2 s3 s4 hW hxo5 hxo4 hxo3 hcA hcB hAlt hCat hHeld hb1 hb2 hb3 hti hNul hxoR hkR hrR
       obtain ⟨k0, k1, k2, k3, k4, k5, k6, k7, k8⟩ := c9 hkW.out
       obtain ⟨R, hR⟩ : ∃ R, R = nullT (T.mk kc c0 c1 c2 c3 pc capc mnc mxc txc ksc) := ⟨_, rfl⟩
       rw [← hR] at hN hnext hstop
       clear hR
       cases R
       ·have hF := hid (hts.out.trans (hstop.out rfl).symm)
        have hxrW := hid (kept_row hxr.out hBW.out)
        clear hnext hstop hts
        go_wp2_with (go_at_call 42; (with_reducible refine hN.out.mono ?_); rintro e w4 ⟨rfl, hb4⟩; have hb4K := hid (show Bel W w4 from hb4); have hx4 := hid (kept_row s1.out hb4); have hr4 := hid (kept_row hxrW.out hb4); obtain ⟨u0, u1, u2, u3, u4, u5, u6, u7, u8⟩ := c9 hx4.out; obtain ⟨e0, i0, e1, i1, e2, i2, e3, i3, e4, i4, e5, i5, e6, i6, e7, i7, e8, i8⟩ := d9 hr4.out; clear hb4)
        generalize hW5 : World.setCell _ (⟨w.heap.size + 1, 8, none⟩ : Addr) _ = W5 at *
        obtain ⟨s1, s2, s3, s4⟩ := S7.set9 hr4.out W5 hW5.symm
        obtain ⟨r0, r1, r2, r3, r4, r5, r6, r7, r8⟩ := c9 s1
        have hz4 := hb4K.out.size
        refine bodyPost_ret (v := .agg #[.int .i64 kt, .int .u64 t0, .int .u64 t1, .int .u64 t2, .int .u64 t3, .slice pt kst.length capt, .int .i64 mnt, .int .i64 mxt, .string txt]) (by simp [results, Tryd.results28, go_sem, r0, r1, r2, r3, r4, r5, r6, r7, r8]) rfl ?_
        exact ⟨⟨kt, t0, t1, t2, t3, pt, capt, mnt, mxt, txt, kst⟩, rfl, hF.out, seq_out hP.out (hin.out.keep fun b hb => hb4K.out.block b (hb.elim (fun h => by have := hP.out b h; omega) fun h => h.2)) hz4 s3 s2 (by omega), (below_of (bel_bel hbW.out hb4K.out)).trans (s4 w.heap.size (by omega))⟩
       ·have hS := hid (hnext.out rfl)
        rw [← hts.out] at hS
        clear hnext hstop hts
        go_wp2_with (go_at_call 42; (with_reducible refine hN.out.mono ?_); rintro e w4 ⟨rfl, hb4⟩; have hb4K := hid (show Bel W w4 from hb4); have hx4 := hid (kept_row s1.out hb4); clear hb4)
        have hz4 := hb4K.out.size
        go_roundw
        case rel => exact ⟨j + 1, ⟨kt, t0, t1, t2, t3, pt, capt, mnt, mxt, txt, kst⟩, by omega, by go_num, hx4, hS, hid ((hin.out.keep fun b hb => hb4K.out.block b (hb.elim (fun h => by have := hP.out b h; omega) fun h => h.2)).imp fun b hb => hb.imp_right fun h => ⟨h.1, by omega⟩), hid (bel_bel hBW.out hb4K.out)⟩
        case measure => simp [intOf]; omega
     
     
    ·have g2 : ((j : Int) + 2 == (ksn.length : Int)) = false := by rw [beq_eq_false_iff_ne]; omega
     have hRT : Hid (∃ rt : T, rt.cells.toArray = #[.int .i64 2, .int .u64 0, .int .u64 0, .int .u64 0, .int .u64 0, .slice (some ⟨b, qo + (j + 1) * 9, none⟩) (ksn.length - (j + 1)) (capn - (j + 1)), .int .i64 0, .int .i64 0, .string ⟨#[]⟩] ∧ rt.strip = rs ∧ T.InP w P rt) := hid ⟨.mk 2 0 0 0 0 (some ⟨b, qo + (j + 1) * 9, none⟩) (capn - (j + 1)) 0 0 ⟨#[]⟩ (ksn.drop (j + 1)), by simp only [T.cells, List.length_drop], by
      rw [hrs.out, T.strip_mk, catOf_two]
      rw [List.length_map, List.length_drop]; omega, rest_in hPN.out (j + 1)⟩
     obtain ⟨rt, hrc, hrt, hri⟩ := hRT.out
     replace hrc := hid hrc
     have hbR := hid (Bel.alloc (Bel.alloc hB.out (.cells #[.int .i64 kc, .int .u64 c0, .int .u64 c1, .int .u64 c2, .int .u64 c3, .slice pc ksc.length capc, .int .i64 mnc, .int .i64 mxc, .string txc] 32)) (.cells #[.int .i64 2, .int .u64 0, .int .u64 0, .int .u64 0, .int .u64 0, .slice (some ⟨b, qo + (j + 1) * 9, none⟩) (ksn.length - (j + 1)) (capn - (j + 1)), .int .i64 0, .int .i64 0, .string ⟨#[]⟩] 32))
     have hwr := hid (Bel.alloc (Bel.new wr (.cells #[.int .i64 kc, .int .u64 c0, .int .u64 c1, .int .u64 c2, .int .u64 c3, .slice pc ksc.length capc, .int .i64 mnc, .int .i64 mxc, .string txc] 32)) (.cells #[.int .i64 2, .int .u64 0, .int .u64 0, .int .u64 0, .int .u64 0, .slice (some ⟨b, qo + (j + 1) * 9, none⟩) (ksn.length - (j + 1)) (capn - (j + 1)), .int .i64 0, .int .i64 0, .string ⟨#[]⟩] 32))
     have hbR0 : ((wr.alloc (.cells #[.int .i64 kc, .int .u64 c0, .int .u64 c1, .int .u64 c2, .int .u64 c3, .slice pc ksc.length capc, .int .i64 mnc, .int .i64 mxc, .string txc] 32)).alloc (.cells #[.int .i64 2, .int .u64 0, .int .u64 0, .int .u64 0, .int .u64 0, .slice (some ⟨b, qo + (j + 1) * 9, none⟩) (ksn.length - (j + 1)) (capn - (j + 1)), .int .i64 0, .int .i64 0, .string ⟨#[]⟩] 32)).heap.size = wr.heap.size + 1 + 1 := by simp only [World.size_alloc]
     have hkR := hid (kept_row hk9 (Bel.new (wr.alloc (.cells #[.int .i64 kc, .int .u64 c0, .int .u64 c1, .int .u64 c2, .int .u64 c3, .slice pc ksc.length capc, .int .i64 mnc, .int .i64 mxc, .string txc] 32)) (.cells #[.int .i64 2, .int .u64 0, .int .u64 0, .int .u64 0, .int .u64 0, .slice (some ⟨b, qo + (j + 1) * 9, none⟩) (ksn.length - (j + 1)) (capn - (j + 1)), .int .i64 0, .int .i64 0, .string ⟨#[]⟩] 32)))
     have hrR : Hid (((wr.alloc (.cells #[.int .i64 kc, .int .u64 c0, .int .u64 c1, .int .u64 c2, .int .u64 c3, .slice pc ksc.length capc, .int .i64 mnc, .int .i64 mxc, .string txc] 32)).alloc (.cells #[.int .i64 2, .int .u64 0, .int .u64 0, .int .u64 0, .int .u64 0, .slice (some ⟨b, qo + (j + 1) * 9, none⟩) (ksn.length - (j + 1)) (capn - (j + 1)), .int .i64 0, .int .i64 0, .string ⟨#[]⟩] 32)).heap[wr.heap.size + 1]? = some (.cells #[.int .i64 2, .int .u64 0, .int .u64 0, .int .u64 0, .int .u64 0, .slice (some ⟨b, qo + (j + 1) * 9, none⟩) (ksn.length - (j + 1)) (capn - (j + 1)), .int .i64 0, .int .i64 0, .string ⟨#[]⟩] 32 (0, 0))) := hid (by have := World.alloc_heap_new (wr.alloc (.cells #[.int .i64 kc, .int .u64 c0, .int .u64 c1, .int .u64 c2, .int .u64 c3, .slice pc ksc.length capc, .int .i64 mnc, .int .i64 mxc, .string txc] 32)) (.cells #[.int .i64 2, .int .u64 0, .int .u64 0, .int .u64 0, .int .u64 0, .slice (some ⟨b, qo + (j + 1) * 9, none⟩) (ksn.length - (j + 1)) (capn - (j + 1)), .int .i64 0, .int .i64 0, .string ⟨#[]⟩] 32); rw [World.size_alloc] at this; exact this)
     have hxoR := hid (kept_row hxo1.out hwr.out)
     have hxnR := hid (kept_row hxn.out hbR.out)
     clear x0 f0 x1 f1 x2 f2 x3 f3 x4 f4 x5 f5 x6 f6 x7 f7 x8 f8
     obtain ⟨k0, k1, k2, k3, k4, k5, k6, k7, k8⟩ := c9 hkR.out
     obtain ⟨l0, l1, l2, l3, l4, l5, l6, l7, l8⟩ := c9 hrR.out
     obtain ⟨x0, f0, x1, f1, x2, f2, x3, f3, x4, f4, x5, f5, x6, f6, x7, f7, x8, f8⟩ := d9 hxoR.out
     obtain ⟨m0, m1, m2, m3, m4, m5, m6, m7, m8⟩ := c9 hxnR.out
     have hbk2 := below_of (bel_bel hbw.out hwr.out)
     have hbk := hid hbk2.drew
     have hzR2 := hbR0
     have hCat := hid (seq_cat10 hP.out hbk2 hzR2 (by omega) hri hrt hcat.out hrc.out)
     have hAlt := hid (seq_alt10 (o := (T.mk ko o0 o1 o2 o3 po capo mno mxo txo kso)) (O9 := #[.int .i64 ko, .int .u64 o0, .int .u64 o1, .int .u64 o2, .int .u64 o3, .slice po kso.length capo, .int .i64 mno, .int .i64 mxo, .string txo]) hP.out hwr.out hzR2 (by omega) hoi.out hfew.out rfl)
     have hNul : Hid (∀ W, Below w.heap.size w W → Calls Tryd.prog 42 #[.agg #[.int .i64 kc, .int .u64 c0, .int .u64 c1, .int .u64 c2, .int .u64 c3, .slice pc ksc.length capc, .int .i64 mnc, .int .i64 mxc, .string txc]] W fun e w' => e = .returned (.bool (nullT (T.mk kc c0 c1 c2 c3 pc capc mnc mxc txc ksc))) ∧ Below W.heap.size W w') := hid fun W hb => hnul.out W hb
     clear hRT hri hrc hrt hbk2 hbR0
     go_upto_region 14 with (fail)
     clear y0 y1 y2 y3 y4 y5 y6 y7 y8 m0 m1 m2 m3 m4 m5 m6 m7 m8 q0 q1 q2 q3 q4 q5 q6 q7 q8 hxnK hxnR hbK hk9 hxo1 hxo hbR hPN hok hco hrs hcat hfew hoi hnul
     generalize ((wr.alloc (.cells #[.int .i64 kc, .int .u64 c0, .int .u64 c1, .int .u64 c2, .int .u64 c3, .slice pc ksc.length capc, .int .i64 mnc, .int .i64 mxc, .string txc] 32)).alloc (.cells #[.int .i64 2, .int .u64 0, .int .u64 0, .int .u64 0, .int .u64 0, .slice (some ⟨b, qo + (j + 1) * 9, none⟩) (ksn.length - (j + 1)) (capn - (j + 1)), .int .i64 0, .int .i64 0, .string ⟨#[]⟩] 32)) = WX at *
     refine wp_region_held_drew (S := fun W => Fr (fun b => b = w.heap.size + 1 + 1 + 1) WX W) (by kernel_rfl) (Fr.refl _ _).drew (fun hHeld => ?_)
     refine wpAnyH_take (i := 1) (v := ?v1u7) rfl (by kernel_rfl) (by kernel_rfl) (by kernel_rfl) (fun _ _ _ h => h) (Or.inl ⟨by kernel_rfl, ?h1u7⟩) hHeld ?r1u7
     case h1u7 => (intro wq hSw; obtain ⟨k0, k1, k2, k3, k4, k5, k6, k7, k8⟩ := c9 ((hSw.block _ (lt_box hkR.out) (by omega)).trans hkR.out); go_simp <;> with_reducible rfl)
     try simp only [Go.Last.pt]
     refine wpAnyH_take (i := 2) (v := ?v2u8) rfl (by kernel_rfl) (by kernel_rfl) (by kernel_rfl) (fun _ _ _ h => h) (Or.inl ⟨by kernel_rfl, ?h2u8⟩) hHeld ?r2u8
     case h2u8 => (intro wq hSw; go_simp <;> with_reducible rfl)
     try simp only [Go.Last.pt]
     refine wpAnyH_take (i := 4) (v := ?v4u9) rfl (by kernel_rfl) (by kernel_rfl) (by kernel_rfl) (fun _ _ _ h => h) (Or.inl ⟨by kernel_rfl, ?h4u9⟩) hHeld ?r4u9
     case h4u9 => (intro wq hSw; obtain ⟨l0, l1, l2, l3, l4, l5, l6, l7, l8⟩ := c9 ((hSw.block _ (lt_box hrR.out) (by omega)).trans hrR.out); go_simp <;> with_reducible rfl)
     try simp only [Go.Last.pt]
     refine wpAnyH_ready (rs := [0, 3]) (by kernel_rfl) (by simp) ?_
     refine (AllReadyH.cons (o := _) rfl (fun K hK => ?_) (AllReadyH.cons (o := _) rfl (fun K hK => ?_) AllReadyH.nil))
     ·go_simp
      try dsimp only
      refine hK.out _ _ (hHeld) (fun hHeld2 => ?_)
      clear hK K hHeld
      have hHeld := hHeld2
      clear hHeld2
      try simp only [Go.Last.pt]
      refine Go.Last.held 3 (by kernel_rfl) rfl (fun K hK => ?_)
      go_simp
      (go_at_call 28; (with_reducible refine (cC.out _ hbk.out).mono ?_); rintro e w1 ⟨tc, rfl, hts, hti, hb1⟩; have hb1K := hid (bel_drew hb1); have hcA := hid (hCat.out tc w1 hts hti hb1); have hxo3 := hid (kept_row hxoR.out hb1K.out); clear hti hts; obtain ⟨u0, u1, u2, u3, u4, u5, u6, u7, u8⟩ := c9 hxo3.out)
      try dsimp only
      refine hK.out _ _ (hHeld.trans (Fr.of_bel hb1) (fun _ h => .inl h)) (fun hHeld2 => ?_)
      clear hK K hHeld
      have hHeld := hHeld2
      clear hHeld2
      try simp only [Go.Last.pt]
      refine Go.Last.held 5 (by kernel_rfl) rfl (fun K hK => ?_)
      go_simp
      (go_at_call 45; (with_reducible refine hcA.out.mono ?_); rintro e w2 ⟨td, rfl, hts, hti, hb2⟩; have hcB := hid (hAlt.out w1 _ td w2 (fun b hb => hb.elim (fun h => ⟨by have h1 := hP.out b h; have h2 := hbw.out.size; have h3 := hb1K.out.size; omega, .inl h⟩) fun h => ⟨h.2, .inr h.1⟩) hts hti hb1K.out hb2); have hb2K := hid (show Bel w1 w2 from hb2); have hxo4 := hid (kept_row hxo3.out hb2); clear hti hts; obtain ⟨g0, g1, g2, g3, g4, g5, g6, g7, g8⟩ := c9 hxo4.out)
      try dsimp only
      refine hK.out _ _ (hHeld.trans (Fr.of_bel hb2) (fun _ h => .inl h)) (fun hHeld2 => ?_)
      clear hK K hHeld
      have hHeld := hHeld2
      clear hHeld2
      try simp only [Go.Last.pt]
      refine Go.Last.held 6 (by kernel_rfl) rfl (fun K hK => ?_)
      go_simp
      (go_at_call 44; (with_reducible refine hcB.out.mono ?_); rintro e w3 ⟨⟨kt, t0, t1, t2, t3, pt, capt, mnt, mxt, txt, kst⟩, rfl, hts, hti, hb3⟩; have hxo5 := hid (kept_row hxo4.out hb3); obtain ⟨e0, i0, e1, i1, e2, i2, e3, i3, e4, i4, e5, i5, e6, i6, e7, i7, e8, i8⟩ := d9 hxo5.out; simp only [T.cells] at hti hts ⊢; have hb3K := hid (show Bel w2 w3 from hb3); replace hts := hid hts; replace hti := hid hti)
      try dsimp only
      refine hK.out _ _ (hHeld.trans (Fr.of_bel hb3) (fun _ h => .inl h)) (fun hHeld2 => ?_)
      clear hK K hHeld
      have hHeld := hHeld2
      clear hHeld2
      try simp only [Go.Last.pt]
      refine Go.Last.held 7 (by kernel_rfl) rfl (fun K hK => ?_)
      go_simp
      generalize hW : World.setCell _ (⟨w.heap.size + 1 + 1 + 1, 8, none⟩ : Addr) _ = W at *; obtain ⟨s1, s2, s3, s4⟩ := S7.set9 hxo5.out W hW.symm
      try dsimp only
      refine hK.out _ _ (fr_set9 hHeld s2 s3 s4 rfl) (fun hHeld2 => ?_)
      clear hK K hHeld
      have hHeld := hHeld2
      clear hHeld2
      try simp only [Go.Last.pt]
      refine wpAnyH_done (by kernel_rfl) ?_ _
      have hz1 := hb1K.out.size
      have hz2 := hb2K.out.size
      have hz3 := hb3K.out.size
      have hBW := hid (bel_fr hB.out hwr.out hHeld (fun k hk => by rw [hk]; simp only [World.size_alloc]; exact Nat.le_refl _))
      have hbW := hid (below_of (bel_bel hbb.out hBW.out))
      have hkW := hid ((hHeld.block _ (lt_box hkR.out) (by omega)).trans hkR.out)
      have hin := hid (seq_in hP.out hti.out s3 s2 (by omega) (by omega))
      have hzW := s2
      replace s1 := hid s1
      have hN := hid (hNul.out W hbW.out)
      clear k0 k1 k2 k3 k4 k5 k6 k7 k8 l0 l1 l2 l3 l4 l5 l6 l7 l8 x0 f0 x1 f1 x2 f2 x3 f3 x4 f4 x5 f5 x6 f6 x7 f7 x8 f8 u0 u1 u2 u3 u4 u5 u6 u7 u8 g0 g1 g2 g3 g4 g5 g6 g7 g8 e0 i0 e1 i1 e2 i2 e3 i3 e4 i4 e5 i5 e6 i6 e7 i7 e8 i8
      clear s2 s3 s4 hW hxo5 hxo4 hxo3 hcA hcB hAlt hCat hHeld hb1 hb2 hb3 hti hNul hxoR hkR hrR
      obtain ⟨k0, k1, k2, k3, k4, k5, k6, k7, k8⟩ := c9 hkW.out
      obtain ⟨R, hR⟩ : ∃ R, R = nullT (T.mk kc c0 c1 c2 c3 pc capc mnc mxc txc ksc) := ⟨_, rfl⟩
      rw [← hR] at hN hnext hstop
      clear hR
      cases R
      ·have hF := hid (hts.out.trans (hstop.out rfl).symm)
       have hxrW := hid (kept_row hxr.out hBW.out)
       clear hnext hstop hts
       go_wp2_with (go_at_call 42; (with_reducible refine hN.out.mono ?_); rintro e w4 ⟨rfl, hb4⟩; have hb4K := hid (show Bel W w4 from hb4); have hx4 := hid (kept_row s1.out hb4); have hr4 := hid (kept_row hxrW.out hb4); obtain ⟨u0, u1, u2, u3, u4, u5, u6, u7, u8⟩ := c9 hx4.out; obtain ⟨e0, i0, e1, i1, e2, i2, e3, i3, e4, i4, e5, i5, e6, i6, e7, i7, e8, i8⟩ := d9 hr4.out; clear hb4)
       generalize hW5 : World.setCell _ (⟨w.heap.size + 1, 8, none⟩ : Addr) _ = W5 at *
       obtain ⟨s1, s2, s3, s4⟩ := S7.set9 hr4.out W5 hW5.symm
       obtain ⟨r0, r1, r2, r3, r4, r5, r6, r7, r8⟩ := c9 s1
       have hz4 := hb4K.out.size
       refine bodyPost_ret (v := .agg #[.int .i64 kt, .int .u64 t0, .int .u64 t1, .int .u64 t2, .int .u64 t3, .slice pt kst.length capt, .int .i64 mnt, .int .i64 mxt, .string txt]) (by simp [results, Tryd.results28, go_sem, r0, r1, r2, r3, r4, r5, r6, r7, r8]) rfl ?_
       exact ⟨⟨kt, t0, t1, t2, t3, pt, capt, mnt, mxt, txt, kst⟩, rfl, hF.out, seq_out hP.out (hin.out.keep fun b hb => hb4K.out.block b (hb.elim (fun h => by have := hP.out b h; omega) fun h => h.2)) hz4 s3 s2 (by omega), (below_of (bel_bel hbW.out hb4K.out)).trans (s4 w.heap.size (by omega))⟩
      ·have hS := hid (hnext.out rfl)
       rw [← hts.out] at hS
       clear hnext hstop hts
       go_wp2_with (go_at_call 42; (with_reducible refine hN.out.mono ?_); rintro e w4 ⟨rfl, hb4⟩; have hb4K := hid (show Bel W w4 from hb4); have hx4 := hid (kept_row s1.out hb4); clear hb4)
       have hz4 := hb4K.out.size
       go_roundw
       case rel => exact ⟨j + 1, ⟨kt, t0, t1, t2, t3, pt, capt, mnt, mxt, txt, kst⟩, by omega, by go_num, hx4, hS, hid ((hin.out.keep fun b hb => hb4K.out.block b (hb.elim (fun h => by have := hP.out b h; omega) fun h => h.2)).imp fun b hb => hb.imp_right fun h => ⟨h.1, by omega⟩), hid (bel_bel hBW.out hb4K.out)⟩
       case measure => simp [intOf]; omega
     ·go_simp
      (go_at_call 28; (with_reducible refine (cC.out _ hbk.out).mono ?_); rintro e w1 ⟨tc, rfl, hts, hti, hb1⟩; have hb1K := hid (bel_drew hb1); have hcA := hid (hCat.out tc w1 hts hti hb1); have hxo3 := hid (kept_row hxoR.out hb1K.out); clear hti hts; obtain ⟨u0, u1, u2, u3, u4, u5, u6, u7, u8⟩ := c9 hxo3.out)
      try dsimp only
      refine hK.out _ _ (hHeld.trans (Fr.of_bel hb1) (fun _ h => .inl h)) (fun hHeld2 => ?_)
      clear hK K hHeld
      have hHeld := hHeld2
      clear hHeld2
      try simp only [Go.Last.pt]
      refine wpAnyH_ready (rs := [0, 5]) (by kernel_rfl) (by simp) ?_
      refine (AllReadyH.cons (o := _) rfl (fun K hK => ?_) (AllReadyH.cons (o := _) rfl (fun K hK => ?_) AllReadyH.nil))
      ·go_simp
       try dsimp only
       refine hK.out _ _ (hHeld) (fun hHeld2 => ?_)
       clear hK K hHeld
       have hHeld := hHeld2
       clear hHeld2
       try simp only [Go.Last.pt]
       refine Go.Last.held 5 (by kernel_rfl) rfl (fun K hK => ?_)
       go_simp
       (go_at_call 45; (with_reducible refine hcA.out.mono ?_); rintro e w2 ⟨td, rfl, hts, hti, hb2⟩; have hcB := hid (hAlt.out w1 _ td w2 (fun b hb => hb.elim (fun h => ⟨by have h1 := hP.out b h; have h2 := hbw.out.size; have h3 := hb1K.out.size; omega, .inl h⟩) fun h => ⟨h.2, .inr h.1⟩) hts hti hb1K.out hb2); have hb2K := hid (show Bel w1 w2 from hb2); have hxo4 := hid (kept_row hxo3.out hb2); clear hti hts; obtain ⟨g0, g1, g2, g3, g4, g5, g6, g7, g8⟩ := c9 hxo4.out)
       try dsimp only
       refine hK.out _ _ (hHeld.trans (Fr.of_bel hb2) (fun _ h => .inl h)) (fun hHeld2 => ?_)
       clear hK K hHeld
       have hHeld := hHeld2
       clear hHeld2
       try simp only [Go.Last.pt]
       refine Go.Last.held 6 (by kernel_rfl) rfl (fun K hK => ?_)
       go_simp
       (go_at_call 44; (with_reducible refine hcB.out.mono ?_); rintro e w3 ⟨⟨kt, t0, t1, t2, t3, pt, capt, mnt, mxt, txt, kst⟩, rfl, hts, hti, hb3⟩; have hxo5 := hid (kept_row hxo4.out hb3); obtain ⟨e0, i0, e1, i1, e2, i2, e3, i3, e4, i4, e5, i5, e6, i6, e7, i7, e8, i8⟩ := d9 hxo5.out; simp only [T.cells] at hti hts ⊢; have hb3K := hid (show Bel w2 w3 from hb3); replace hts := hid hts; replace hti := hid hti)
       try dsimp only
       refine hK.out _ _ (hHeld.trans (Fr.of_bel hb3) (fun _ h => .inl h)) (fun hHeld2 => ?_)
       clear hK K hHeld
       have hHeld := hHeld2
       clear hHeld2
       try simp only [Go.Last.pt]
       refine Go.Last.held 7 (by kernel_rfl) rfl (fun K hK => ?_)
       go_simp
       generalize hW : World.setCell _ (⟨w.heap.size + 1 + 1 + 1, 8, none⟩ : Addr) _ = W at *; obtain ⟨s1, s2, s3, s4⟩ := S7.set9 hxo5.out W hW.symm
       try dsimp only
       refine hK.out _ _ (fr_set9 hHeld s2 s3 s4 rfl) (fun hHeld2 => ?_)
       clear hK K hHeld
       have hHeld := hHeld2
       clear hHeld2
       try simp only [Go.Last.pt]
       refine wpAnyH_done (by kernel_rfl) ?_ _
       have hz1 := hb1K.out.size
       have hz2 := hb2K.out.size
       have hz3 := hb3K.out.size
       have hBW := hid (bel_fr hB.out hwr.out hHeld (fun k hk => by rw [hk]; simp only [World.size_alloc]; exact Nat.le_refl _))
       have hbW := hid (below_of (bel_bel hbb.out hBW.out))
       have hkW := hid ((hHeld.block _ (lt_box hkR.out) (by omega)).trans hkR.out)
       have hin := hid (seq_in hP.out hti.out s3 s2 (by omega) (by omega))
       have hzW := s2
       replace s1 := hid s1
       have hN := hid (hNul.out W hbW.out)
       clear k0 k1 k2 k3 k4 k5 k6 k7 k8 l0 l1 l2 l3 l4 l5 l6 l7 l8 x0 f0 x1 f1 x2 f2 x3 f3 x4 f4 x5 f5 x6 f6 x7 f7 x8 f8 u0 u1 u2 u3 u4 u5 u6 u7 u8 g0 g1 g2 g3 g4 g5 g6 g7 g8 e0 i0 e1 i1 e2 i2 e3 i3 e4 i4 e5 i5 e6 i6 e7 i7 e8 i8
       clear s2 s3 s4 hW hxo5 hxo4 hxo3 hcA hcB hAlt hCat hHeld hb1 hb2 hb3 hti hNul hxoR hkR hrR
       obtain ⟨k0, k1, k2, k3, k4, k5, k6, k7, k8⟩ := c9 hkW.out
       obtain ⟨R, hR⟩ : ∃ R, R = nullT (T.mk kc c0 c1 c2 c3 pc capc mnc mxc txc ksc) := ⟨_, rfl⟩
       rw [← hR] at hN hnext hstop
       clear hR
       cases R
       ·have hF := hid (hts.out.trans (hstop.out rfl).symm)
        have hxrW := hid (kept_row hxr.out hBW.out)
        clear hnext hstop hts
        go_wp2_with (go_at_call 42; (with_reducible refine hN.out.mono ?_); rintro e w4 ⟨rfl, hb4⟩; have hb4K := hid (show Bel W w4 from hb4); have hx4 := hid (kept_row s1.out hb4); have hr4 := hid (kept_row hxrW.out hb4); obtain ⟨u0, u1, u2, u3, u4, u5, u6, u7, u8⟩ := c9 hx4.out; obtain ⟨e0, i0, e1, i1, e2, i2, e3, i3, e4, i4, e5, i5, e6, i6, e7, i7, e8, i8⟩ := d9 hr4.out; clear hb4)
        generalize hW5 : World.setCell _ (⟨w.heap.size + 1, 8, none⟩ : Addr) _ = W5 at *
        obtain ⟨s1, s2, s3, s4⟩ := S7.set9 hr4.out W5 hW5.symm
        obtain ⟨r0, r1, r2, r3, r4, r5, r6, r7, r8⟩ := c9 s1
        have hz4 := hb4K.out.size
        refine bodyPost_ret (v := .agg #[.int .i64 kt, .int .u64 t0, .int .u64 t1, .int .u64 t2, .int .u64 t3, .slice pt kst.length capt, .int .i64 mnt, .int .i64 mxt, .string txt]) (by simp [results, Tryd.results28, go_sem, r0, r1, r2, r3, r4, r5, r6, r7, r8]) rfl ?_
        exact ⟨⟨kt, t0, t1, t2, t3, pt, capt, mnt, mxt, txt, kst⟩, rfl, hF.out, seq_out hP.out (hin.out.keep fun b hb => hb4K.out.block b (hb.elim (fun h => by have := hP.out b h; omega) fun h => h.2)) hz4 s3 s2 (by omega), (below_of (bel_bel hbW.out hb4K.out)).trans (s4 w.heap.size (by omega))⟩
       ·have hS := hid (hnext.out rfl)
        rw [← hts.out] at hS
        clear hnext hstop hts
        go_wp2_with (go_at_call 42; (with_reducible refine hN.out.mono ?_); rintro e w4 ⟨rfl, hb4⟩; have hb4K := hid (show Bel W w4 from hb4); have hx4 := hid (kept_row s1.out hb4); clear hb4)
        have hz4 := hb4K.out.size
        go_roundw
        case rel => exact ⟨j + 1, ⟨kt, t0, t1, t2, t3, pt, capt, mnt, mxt, txt, kst⟩, by omega, by go_num, hx4, hS, hid ((hin.out.keep fun b hb => hb4K.out.block b (hb.elim (fun h => by have := hP.out b h; omega) fun h => h.2)).imp fun b hb => hb.imp_right fun h => ⟨h.1, by omega⟩), hid (bel_bel hBW.out hb4K.out)⟩
        case measure => simp [intOf]; omega
      ·go_simp
       (go_at_call 45; (with_reducible refine hcA.out.mono ?_); rintro e w2 ⟨td, rfl, hts, hti, hb2⟩; have hcB := hid (hAlt.out w1 _ td w2 (fun b hb => hb.elim (fun h => ⟨by have h1 := hP.out b h; have h2 := hbw.out.size; have h3 := hb1K.out.size; omega, .inl h⟩) fun h => ⟨h.2, .inr h.1⟩) hts hti hb1K.out hb2); have hb2K := hid (show Bel w1 w2 from hb2); have hxo4 := hid (kept_row hxo3.out hb2); clear hti hts; obtain ⟨g0, g1, g2, g3, g4, g5, g6, g7, g8⟩ := c9 hxo4.out)
       try dsimp only
       refine hK.out _ _ (hHeld.trans (Fr.of_bel hb2) (fun _ h => .inl h)) (fun hHeld2 => ?_)
       clear hK K hHeld
       have hHeld := hHeld2
       clear hHeld2
       try simp only [Go.Last.pt]
       refine Go.Last.held 0 (by kernel_rfl) rfl (fun K hK => ?_)
       go_simp
       try dsimp only
       refine hK.out _ _ (hHeld) (fun hHeld2 => ?_)
       clear hK K hHeld
       have hHeld := hHeld2
       clear hHeld2
       try simp only [Go.Last.pt]
       refine Go.Last.held 6 (by kernel_rfl) rfl (fun K hK => ?_)
       go_simp
       (go_at_call 44; (with_reducible refine hcB.out.mono ?_); rintro e w3 ⟨⟨kt, t0, t1, t2, t3, pt, capt, mnt, mxt, txt, kst⟩, rfl, hts, hti, hb3⟩; have hxo5 := hid (kept_row hxo4.out hb3); obtain ⟨e0, i0, e1, i1, e2, i2, e3, i3, e4, i4, e5, i5, e6, i6, e7, i7, e8, i8⟩ := d9 hxo5.out; simp only [T.cells] at hti hts ⊢; have hb3K := hid (show Bel w2 w3 from hb3); replace hts := hid hts; replace hti := hid hti)
       try dsimp only
       refine hK.out _ _ (hHeld.trans (Fr.of_bel hb3) (fun _ h => .inl h)) (fun hHeld2 => ?_)
       clear hK K hHeld
       have hHeld := hHeld2
       clear hHeld2
       try simp only [Go.Last.pt]
       refine Go.Last.held 7 (by kernel_rfl) rfl (fun K hK => ?_)
       go_simp
       generalize hW : World.setCell _ (⟨w.heap.size + 1 + 1 + 1, 8, none⟩ : Addr) _ = W at *; obtain ⟨s1, s2, s3, s4⟩ := S7.set9 hxo5.out W hW.symm
       try dsimp only
       refine hK.out _ _ (fr_set9 hHeld s2 s3 s4 rfl) (fun hHeld2 => ?_)
       clear hK K hHeld
       have hHeld := hHeld2
       clear hHeld2
       try simp only [Go.Last.pt]
       refine wpAnyH_done (by kernel_rfl) ?_ _
       have hz1 := hb1K.out.size
       have hz2 := hb2K.out.size
       have hz3 := hb3K.out.size
       have hBW := hid (bel_fr hB.out hwr.out hHeld (fun k hk => by rw [hk]; simp only [World.size_alloc]; exact Nat.le_refl _))
       have hbW := hid (below_of (bel_bel hbb.out hBW.out))
       have hkW := hid ((hHeld.block _ (lt_box hkR.out) (by omega)).trans hkR.out)
       have hin := hid (seq_in hP.out hti.out s3 s2 (by omega) (by omega))
       have hzW := s2
       replace s1 := hid s1
       have hN := hid (hNul.out W hbW.out)
       clear k0 k1 k2 k3 k4 k5 k6 k7 k8 l0 l1 l2 l3 l4 l5 l6 l7 l8 x0 f0 x1 f1 x2 f2 x3 f3 x4 f4 x5 f5 x6 f6 x7 f7 x8 f8 u0 u1 u2 u3 u4 u5 u6 u7 u8 g0 g1 g2 g3 g4 g5 g6 g7 g8 e0 i0 e1 i1 e2 i2 e3 i3 e4 i4 e5 i5 e6 i6 e7 i7 e8 i8
       clear s2 s3 s4 hW hxo5 hxo4 hxo3 hcA hcB hAlt hCat hHeld hb1 hb2 hb3 hti hNul hxoR hkR hrR
       obtain ⟨k0, k1, k2, k3, k4, k5, k6, k7, k8⟩ := c9 hkW.out
       obtain ⟨R, hR⟩ : ∃ R, R = nullT (T.mk kc c0 c1 c2 c3 pc capc mnc mxc txc ksc) := ⟨_, rfl⟩
       rw [← hR] at hN hnext hstop
       clear hR
       cases R
       ·have hF := hid (hts.out.trans (hstop.out rfl).symm)
        have hxrW := hid (kept_row hxr.out hBW.out)
        clear hnext hstop hts
        go_wp2_with (go_at_call 42; (with_reducible refine hN.out.mono ?_); rintro e w4 ⟨rfl, hb4⟩; have hb4K := hid (show Bel W w4 from hb4); have hx4 := hid (kept_row s1.out hb4); have hr4 := hid (kept_row hxrW.out hb4); obtain ⟨u0, u1, u2, u3, u4, u5, u6, u7, u8⟩ := c9 hx4.out; obtain ⟨e0, i0, e1, i1, e2, i2, e3, i3, e4, i4, e5, i5, e6, i6, e7, i7, e8, i8⟩ := d9 hr4.out; clear hb4)
        generalize hW5 : World.setCell _ (⟨w.heap.size + 1, 8, none⟩ : Addr) _ = W5 at *
        obtain ⟨s1, s2, s3, s4⟩ := S7.set9 hr4.out W5 hW5.symm
        obtain ⟨r0, r1, r2, r3, r4, r5, r6, r7, r8⟩ := c9 s1
        have hz4 := hb4K.out.size
        refine bodyPost_ret (v := .agg #[.int .i64 kt, .int .u64 t0, .int .u64 t1, .int .u64 t2, .int .u64 t3, .slice pt kst.length capt, .int .i64 mnt, .int .i64 mxt, .string txt]) (by simp [results, Tryd.results28, go_sem, r0, r1, r2, r3, r4, r5, r6, r7, r8]) rfl ?_
        exact ⟨⟨kt, t0, t1, t2, t3, pt, capt, mnt, mxt, txt, kst⟩, rfl, hF.out, seq_out hP.out (hin.out.keep fun b hb => hb4K.out.block b (hb.elim (fun h => by have := hP.out b h; omega) fun h => h.2)) hz4 s3 s2 (by omega), (below_of (bel_bel hbW.out hb4K.out)).trans (s4 w.heap.size (by omega))⟩
       ·have hS := hid (hnext.out rfl)
        rw [← hts.out] at hS
        clear hnext hstop hts
        go_wp2_with (go_at_call 42; (with_reducible refine hN.out.mono ?_); rintro e w4 ⟨rfl, hb4⟩; have hb4K := hid (show Bel W w4 from hb4); have hx4 := hid (kept_row s1.out hb4); clear hb4)
        have hz4 := hb4K.out.size
        go_roundw
        case rel => exact ⟨j + 1, ⟨kt, t0, t1, t2, t3, pt, capt, mnt, mxt, txt, kst⟩, by omega, by go_num, hx4, hS, hid ((hin.out.keep fun b hb => hb4K.out.block b (hb.elim (fun h => by have := hP.out b h; omega) fun h => h.2)).imp fun b hb => hb.imp_right fun h => ⟨h.1, by omega⟩), hid (bel_bel hBW.out hb4K.out)⟩
        case measure => simp [intOf]; omega
     
     
  ·obtain rfl : j = ksn.length := by omega
   obtain ⟨ko, o0, o1, o2, o3, po, capo, mno, mxo, txo, kso⟩ := o
   have hF : Hid ((T.mk ko o0 o1 o2 o3 po capo mno mxo txo kso).strip = F) := hid (by
    have h := hos.out
    rw [← List.length_map (f := T.strip)] at h
    exact h.last.symm)
   have hxo1 := hxo.out
   simp only [T.cells] at hxo1
   obtain ⟨x0, x1, x2, x3, x4, x5, x6, x7, x8⟩ := c9 hxo1
   have hxr2 := hid (kept_row hxr.out hB.out)
   obtain ⟨r0, f0, r1, f1, r2, f2, r3, f3, r4, f4, r5, f5, r6, f6, r7, f7, r8, f8⟩ := d9 hxr2.out
   clear hxo1
   go_wp2
   generalize hWW : World.setCell _ (⟨w.heap.size + 1, 8, none⟩ : Addr) _ = W at *
   obtain ⟨s1, s2, s3, s4⟩ := S7.set9 hxr2.out W hWW.symm
   obtain ⟨r0, r1, r2, r3, r4, r5, r6, r7, r8⟩ := c9 s1
   refine bodyPost_ret (v := .agg #[.int .i64 ko, .int .u64 o0, .int .u64 o1, .int .u64 o2, .int .u64 o3, .slice po kso.length capo, .int .i64 mno, .int .i64 mxo, .string txo]) (by simp [results, Tryd.results28, go_sem, r0, r1, r2, r3, r4, r5, r6, r7, r8]) rfl ?_
   have hbW := hbw.out.trans (s4 w.heap.size (by omega))
   refine ⟨.mk ko o0 o1 o2 o3 po capo mno mxo txo kso, rfl, hF.out, ?_, hbW⟩
   refine (hoi.out.keep fun b hb => s3 b ?_).imp fun b hb => ?_
   ·rcases hb with h | h
    ·have := hP.out b h; omega
    ·omega
   ·rcases hb with h | h
    ·exact .inl h
    ·exact .inr ⟨by omega, by rw [s2]; exact h.2⟩
end Go.Proofs.YtobbifhflnlplaaDoor
