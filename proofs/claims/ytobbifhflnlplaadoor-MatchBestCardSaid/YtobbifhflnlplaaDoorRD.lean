/- Texts merged: S10R13, S10R15, S10R16m. -/

import Derived.Test.YtobbifhflnlplaaDoorRC
import Derived.Test.YtobbifhflnlplaaDoorS10R3
namespace Go.Proofs.YtobbifhflnlplaaDoor
open Lib (hid)
open Go.RowKit
open Go.Tree7
open S7
open S5 (nl nl_length nl_small at_nl nl_at Gives idx idx_at ix ix_no ix_yes)
def mnT : T → Int
 | .mk _ _ _ _ _ _ _ mn _ _ _ => mn
def mxT : T → Int
 | .mk _ _ _ _ _ _ _ _ mx _ _ => mx
theorem left_in {w : World} {P : Nat → Prop} {n0 n1 n2 n3 : Int} {p : Option Addr} {cap : Nat} {k mn mx mn' mx' : Int} {tx : ByteArray} {ks : List T} (h : T.InP w P (.mk k n0 n1 n2 n3 p cap mn mx tx ks)) (hf : (Lit.int .i64 mn').wf = true ∧ (Lit.int .i64 mx').wf = true) :
  T.InP w P (.mk 4 0 0 0 0 p cap mn' mx' ⟨#[]⟩ ks) := by
 cases h with
 | mk h1 h2 h3 h4 h5 => exact .mk h1 h2 ⟨by decide, ⟨by decide, by decide, by decide, by decide⟩, hf.1, hf.2, by decide⟩ h4 h5
theorem below_of {w W : World} (h : Bel w W) : Below w.heap.size w W := h
theorem bel_drew {W w1 : World} (h : Below W.drew.heap.size W.drew w1) : Bel W w1 := Bel.step (Below.refl _ _).drew h
theorem rep_cat {w WX : World} {P : Nat → Prop} (hP : ∀ b, P b → b < w.heap.size) {LT y LS : T} {c : Nat} (hbw : Below w.heap.size w WX) (hz : WX.heap.size = w.heap.size + 1 + 1 + 1 + 1) (hLi : T.InP w P LT) (hLs : LT.strip = LS) (hcat : CatOk (offD c y.strip) LS) {L9 : Array Value} (h9 : LT.cells.toArray = L9) :
  ∀ (tc : T) (w1 : World), tc.strip = offD c y.strip → T.InP w1 (fun b' => P b' ∨ (WX.drew.heap.size ≤ b' ∧ b' < w1.heap.size)) tc → Below WX.drew.heap.size WX.drew w1 →
   Calls Tryd.prog 45 #[.agg tc.cells.toArray, .agg L9] w1 (GivesP (fun b => P b ∨ (w.heap.size + 4 ≤ b ∧ b < w1.heap.size)) w1 (catD LS (offD c y.strip))) := fun tc w1 h1 h2 h3 => by
 have hz1 : w.heap.size + 1 + 1 + 1 + 1 ≤ w1.heap.size := by have := h3.size; simp only [World.drew] at this; omega
 have hkp : ∀ b, P b → w1.heap[b]? = w.heap[b]? := fun b hb => (hbw.drew.trans (h3.mono hbw.drew.size)).block b (hP b hb)
 have := cat10_in (w0 := w1) (b := LT) (P := fun b => P b ∨ (w.heap.size + 4 ≤ b ∧ b < w1.heap.size)) (fun b hb => hb.elim (fun h => by have := hP b h; omega) fun h => h.2) ((hLi.keep hkp).imp fun b hb => .inl hb) tc
  (h2.imp fun b hb => hb.imp_right fun h => ⟨by have := h.1; simp only [World.drew] at this; omega, h.2⟩) (by rw [h1, hLs]; exact hcat) w1 (Below.refl _ _)
 rw [h1, hLs, h9] at this
 exact this
theorem rep_in {w w1 w2 W : World} {P : Nat → Prop} {t : T} {n : Nat} (hP : ∀ b, P b → b < w.heap.size) (ht : T.InP w2 (fun b => (P b ∨ (w.heap.size + 4 ≤ b ∧ b < w1.heap.size)) ∨ (w1.heap.size ≤ b ∧ b < w2.heap.size)) t) (s3 : ∀ k, k ≠ n → W.heap[k]? = w2.heap[k]?) (s2 : W.heap.size = w2.heap.size) (hn : w.heap.size ≤ n ∧ n < w.heap.size + 4) (h2 : w1.heap.size ≤ w2.heap.size) (h1 : w.heap.size + 4 ≤ w1.heap.size) :
  T.InP W (fun b => P b ∨ (w.heap.size ≤ b ∧ b < W.heap.size)) t := by
 refine (ht.keep fun b hb => s3 b ?_).imp fun b hb => ?_
 ·rcases hb with (h | h) | h
  ·have := hP b h; omega
  ·omega
  ·omega
 ·rcases hb with (h | h) | h
  ·exact .inl h
  ·exact .inr ⟨by omega, by omega⟩
  ·exact .inr ⟨by omega, by omega⟩
end Go.Proofs.YtobbifhflnlplaaDoor
namespace Go.Proofs.YtobbifhflnlplaaDoor
open Lib (hid)
open Go.RowKit
open Go.Tree7
open S7
open S5 (nl nl_length nl_small at_nl nl_at Gives idx idx_at ix ix_no ix_yes)
def preO (c : Nat) (ks : List T) (j : Nat) : T := ((ks.take j).map fun y => offD c y.strip).foldl altD noneT
theorem preO_succ (c : Nat) (ks : List T) {j : Nat} (h : j < ks.length) : preO c ks (j + 1) = altD (preO c ks j) (offD c ks[j].strip) := by
 unfold preO
 rw [List.take_succ_eq_append_getElem h, List.map_append, List.foldl_append]
 rfl
theorem preO_all {k u0 u1 u2 u3 : Int} {p : Option Addr} {cap : Nat} {mn mx : Int} {tx : ByteArray} {ks : List T} {c : Nat} (hk : k = 3) : preO c ks ks.length = offD c (T.mk k u0 u1 u2 u3 p cap mn mx tx ks).strip := by
 rw [T.strip_mk, offD_mk, hk, if_neg (by decide), if_neg (by decide), if_pos rfl]
 unfold preO
 rw [List.take_length, fold_map, List.foldl_map]
theorem preO_few {ks : List T} {c : Nat} (h : AltsOk c (ks.map T.strip)) (j : Nat) (hj : j < ks.length) : (brD (offD c ks[j].strip) (brD (preO c ks j) [])).length ≤ 805306376000 := by
 rw [← alt_branches, ← preO_succ c ks hj]
 refine h _ ?_ fun x hx => ?_
 ·rw [preO_succ c ks hj]; exact alt_nodup _ _
 ·unfold preO at hx
  rw [fold_map] at hx
  rcases fold_sub _ _ _ hx with h1 | ⟨y, hy, h1⟩
  ·rw [sp_none] at h1; cases h1
  ·exact ⟨y.strip, List.mem_map_of_mem (List.mem_of_mem_take hy), h1⟩
set_option maxRecDepth 100000 in
set_option maxHeartbeats 4000000 in
theorem off_alt {w : World} {n : T} {P : Nat → Prop} (hP : ∀ b, P b → b < w.heap.size) (hPN : T.InP w P n) {c : Nat} (_ : c ≤ 255) (h3 : kindT n = 3) (hkn : kn c n.strip)
  (ih : ∀ y ∈ kidsT n, ∀ W, Below w.heap.size w W → Calls Tryd.prog 28 #[.agg y.cells.toArray, .int .i64 c] W (GivesP P W (offD c y.strip))) :
  Calls Tryd.prog 28 #[.agg n.cells.toArray, .int .i64 c] w (GivesP P w (offD c n.strip)) := by
 obtain ⟨hbb, hxn, hxr, hxz⟩ := box3 w n.cells.toArray #[.int .i64 0, .int .u64 0, .int .u64 0, .int .u64 0, .int .u64 0, .slice none 0 0, .int .i64 0, .int .i64 0, .string ⟨#[]⟩] #[.int .i64 0, .int .u64 0, .int .u64 0, .int .u64 0, .int .u64 0, .slice none 0 0, .int .i64 0, .int .i64 0, .string ⟨#[]⟩] 32
 have hA := hPN.toIn hP
 obtain ⟨kn, n0, n1, n2, n3, pn, capn, mnn, mxn, txn, ksn⟩ := n
 have h3 : kn = 3 := h3
 subst h3
 have hfew := hid (preO_few (c := c) (ks := ksn) (by rw [T.strip_mk] at hkn; exact hkn.2.1 rfl))
 have hall := hid (preO_all (u0 := n0) (u1 := n1) (u2 := n2) (u3 := n3) (p := pn) (cap := capn) (mn := mnn) (mx := mxn) (tx := txn) (ks := ksn) (c := c) (k := 3) rfl)
 rw [← hall.out]
 have hla : ksn.length ≤ 9223372036854775807 := by cases hA with | mk h1 h2 => unfold maxLen at h2; omega
 have ih : ∀ y ∈ ksn, ∀ W, Below w.heap.size w W → Calls Tryd.prog 28 #[.agg y.cells.toArray, .int .i64 c] W (GivesP P W (offD c y.strip)) := ih
 simp only [T.cells] at hbb hxn hxr hxz ⊢
 obtain ⟨y0, y1, y2, y3, y4, y5, y6, y7, y8⟩ := c9 hxn
 obtain ⟨z0, z1, z2, z3, z4, z5, z6, z7, z8⟩ := c9 hxz
 have hxo0 : Hid (((((w.alloc (.cells #[.int .i64 3, .int .u64 n0, .int .u64 n1, .int .u64 n2, .int .u64 n3, .slice pn ksn.length capn, .int .i64 mnn, .int .i64 mxn, .string txn] 32)).alloc (.cells #[.int .i64 0, .int .u64 0, .int .u64 0, .int .u64 0, .int .u64 0, .slice none 0 0, .int .i64 0, .int .i64 0, .string ⟨#[]⟩] 32)).alloc (.cells #[.int .i64 0, .int .u64 0, .int .u64 0, .int .u64 0, .int .u64 0, .slice none 0 0, .int .i64 0, .int .i64 0, .string ⟨#[]⟩] 32)).alloc (.cells #[.int .i64 0, .int .u64 0, .int .u64 0, .int .u64 0, .int .u64 0, .slice none 0 0, .int .i64 0, .int .i64 0, .string ⟨#[]⟩] 32)).heap[(w.heap.size + 1 + 1 + 1)]? = some (.cells #[.int .i64 0, .int .u64 0, .int .u64 0, .int .u64 0, .int .u64 0, .slice none 0 0, .int .i64 0, .int .i64 0, .string ⟨#[]⟩] 32 (0, 0))) := hid (by have := World.alloc_heap_new (((w.alloc (.cells #[.int .i64 3, .int .u64 n0, .int .u64 n1, .int .u64 n2, .int .u64 n3, .slice pn ksn.length capn, .int .i64 mnn, .int .i64 mxn, .string txn] 32)).alloc (.cells #[.int .i64 0, .int .u64 0, .int .u64 0, .int .u64 0, .int .u64 0, .slice none 0 0, .int .i64 0, .int .i64 0, .string ⟨#[]⟩] 32)).alloc (.cells #[.int .i64 0, .int .u64 0, .int .u64 0, .int .u64 0, .int .u64 0, .slice none 0 0, .int .i64 0, .int .i64 0, .string ⟨#[]⟩] 32)) (.cells #[.int .i64 0, .int .u64 0, .int .u64 0, .int .u64 0, .int .u64 0, .slice none 0 0, .int .i64 0, .int .i64 0, .string ⟨#[]⟩] 32); rw [World.size_alloc, World.size_alloc, World.size_alloc] at this; exact this)
 replace hxn := hid hxn
 replace hxr := hid hxr
 replace hbb := hid hbb
 replace hP := hid hP
 replace hA := hid hA
 replace ih := hid ih
 clear hPN hkn hxz
 go_enter Tryd.func28, Tryd.ntmps28
 go_wp2
 go_loopw [73] (fun i wr => ∃ j : Nat, ∃ o : T, j ≤ ksn.length ∧ i = .int .i64 j ∧ Hid (wr.heap[(w.heap.size + 1 + 1 + 1)]? = some (.cells o.cells.toArray 32 (0, 0))) ∧ Hid (o.strip = preO c ksn j) ∧ Hid (T.InP wr (fun b => P b ∨ (w.heap.size + 4 ≤ b ∧ b < wr.heap.size)) o) ∧ Hid (Bel (((w.alloc (.cells #[.int .i64 3, .int .u64 n0, .int .u64 n1, .int .u64 n2, .int .u64 n3, .slice pn ksn.length capn, .int .i64 mnn, .int .i64 mxn, .string txn] 32)).alloc (.cells #[.int .i64 0, .int .u64 0, .int .u64 0, .int .u64 0, .int .u64 0, .slice none 0 0, .int .i64 0, .int .i64 0, .string ⟨#[]⟩] 32)).alloc (.cells #[.int .i64 0, .int .u64 0, .int .u64 0, .int .u64 0, .int .u64 0, .slice none 0 0, .int .i64 0, .int .i64 0, .string ⟨#[]⟩] 32)) wr)) (fun i _ => ksn.length - (intOf i).toNat)
 case atStart => exact ⟨0, noneT, Nat.zero_le _, rfl, hxo0, hid none_strip, hid (none_in _ _), hid (Bel.new _ _)⟩
 case round =>
  clear hxo0 y0 y1 y2 y3 y4 y5 y6 y7 y8 z0 z1 z2 z3 z4 z5 z6 z7 z8
  obtain ⟨j, o, hj, rfl, hxo, hos, hoi, hB⟩ := hrel
  have hsz := lt_box hxo.out
  have hbw := hid (show Below w.heap.size w wr from bel_bel hbb.out hB.out)
  by_cases hlt : j < ksn.length
  ·obtain ⟨b, q0, hkid, hp, hbl, hc⟩ := T.kid hA.out hlt
   have hcl : ∀ q, q < 9 → wr.cell? ⟨b, q0 + j * 9 + q, none⟩ = (ksn[j].cells)[q]? := fun q hq => by
    rw [← hc q hq]
    exact hbw.out.cell (p := ⟨b, q0 + j * 9 + q, none⟩) hbl
   have cC := fun W (hb : Below w.heap.size w W) => ih.out ksn[j] (List.getElem_mem hlt) W hb
   have hs := hid (preO_succ c ksn hlt)
   have hf := hid (hfew.out j hlt)
   clear hc hkid
   subst hp
   generalize ksn[j] = kd at *
   obtain ⟨ko, o0, o1, o2, o3, po, capo, mno, mxo, txo, kso⟩ := o
   obtain ⟨kc, c0, c1, c2, c3, pc, capc, mnc, mxc, txc, ksc⟩ := kd
   have hxo1 := hxo.out
   simp only [T.cells] at hcl cC hxo1
   obtain ⟨q0, q1, q2, q3, q4, q5, q6, q7, q8⟩ := nine_of hcl
   obtain ⟨x0, f0, x1, f1, x2, f2, x3, f3, x4, f4, x5, f5, x6, f6, x7, f7, x8, f8⟩ := d9 hxo1
   clear hcl
   replace hxo1 := hid hxo1
   replace cC := hid cC
   have hbk := hid (show Below w.heap.size w (wr.alloc (.cells #[.int .i64 kc, .int .u64 c0, .int .u64 c1, .int .u64 c2, .int .u64 c3, .slice pc ksc.length capc, .int .i64 mnc, .int .i64 mxc, .string txc] 32)).drew from (hbw.out.alloc (by omega) _).drew)
   have hAlt : Hid (∀ (tc : T) (w1 : World), tc.strip = offD c (T.mk kc c0 c1 c2 c3 pc capc mnc mxc txc ksc).strip → T.InP w1 (fun b => P b ∨ ((wr.alloc (.cells #[.int .i64 kc, .int .u64 c0, .int .u64 c1, .int .u64 c2, .int .u64 c3, .slice pc ksc.length capc, .int .i64 mnc, .int .i64 mxc, .string txc] 32)).drew.heap.size ≤ b ∧ b < w1.heap.size)) tc → Below (wr.alloc (.cells #[.int .i64 kc, .int .u64 c0, .int .u64 c1, .int .u64 c2, .int .u64 c3, .slice pc ksc.length capc, .int .i64 mnc, .int .i64 mxc, .string txc] 32)).drew.heap.size (wr.alloc (.cells #[.int .i64 kc, .int .u64 c0, .int .u64 c1, .int .u64 c2, .int .u64 c3, .slice pc ksc.length capc, .int .i64 mnc, .int .i64 mxc, .string txc] 32)).drew w1 →
     Calls Tryd.prog 44 #[.agg #[.int .i64 ko, .int .u64 o0, .int .u64 o1, .int .u64 o2, .int .u64 o3, .slice po kso.length capo, .int .i64 mno, .int .i64 mxo, .string txo], .agg tc.cells.toArray] w1 (GivesP (fun b => P b ∨ (w.heap.size + 4 ≤ b ∧ b < w1.heap.size)) w1 (preO c ksn (j + 1)))) := hid fun tc w1 h1 h2 h3 => by
    have hz : wr.heap.size + 1 ≤ w1.heap.size := by have := h3.size; simp only [World.drew, World.size_alloc] at this; exact this
    have hkp : ∀ b, b < wr.heap.size → w1.heap[b]? = wr.heap[b]? := fun b hb => (h3.block b (by simp only [World.drew, World.size_alloc]; omega)).trans (Below.heap_alloc _ _ _ (by omega))
    have := alt10_in (w := w1) (a := .mk ko o0 o1 o2 o3 po capo mno mxo txo kso) (b := tc) (P := fun b => P b ∨ (w.heap.size + 4 ≤ b ∧ b < w1.heap.size)) (fun b hb => hb.elim (fun h => by have := hP.out b h; omega) fun h => h.2)
     ((hoi.out.keep fun b hb => hkp b (hb.elim (fun h => by have := hP.out b h; omega) fun h => h.2)).imp fun b hb => hb.imp_right fun h => ⟨h.1, by omega⟩)
     (h2.imp fun b hb => hb.imp_right fun h => ⟨by have := h.1; simp only [World.drew, World.size_alloc] at this; omega, h.2⟩)
     (by rw [h1, hos.out]; exact hf.out)
    rw [h1, hos.out, ← hs.out] at this
    exact this
   have hk9 : (wr.alloc (.cells #[.int .i64 kc, .int .u64 c0, .int .u64 c1, .int .u64 c2, .int .u64 c3, .slice pc ksc.length capc, .int .i64 mnc, .int .i64 mxc, .string txc] 32)).heap[wr.heap.size]? = some (.cells #[.int .i64 kc, .int .u64 c0, .int .u64 c1, .int .u64 c2, .int .u64 c3, .slice pc ksc.length capc, .int .i64 mnc, .int .i64 mxc, .string txc] 32 (0, 0)) := World.alloc_heap_new _ _
   obtain ⟨k0, k1, k2, k3, k4, k5, k6, k7, k8⟩ := c9 hk9
   have hxo2 := hid (kept_row hxo1.out (Bel.new wr (.cells #[.int .i64 kc, .int .u64 c0, .int .u64 c1, .int .u64 c2, .int .u64 c3, .slice pc ksc.length capc, .int .i64 mnc, .int .i64 mxc, .string txc] 32)))
   clear hk9
   obtain ⟨v0, g0, v1, g1, v2, g2, v3, g3, v4, g4, v5, g5, v6, g6, v7, g7, v8, g8⟩ := d9 hxo2.out
   go_upto_region 23 with (fail)
   go_region_with (first | (go_at_call 28; ((with_reducible refine (cC.out _ hbk.out).mono ?_); rintro e w1 ⟨tc, rfl, hts, hti, hb1⟩; have hcA := hid (hAlt.out tc w1 hts hti hb1); have hbK := hid (show Bel (wr.alloc (.cells #[.int .i64 kc, .int .u64 c0, .int .u64 c1, .int .u64 c2, .int .u64 c3, .slice pc ksc.length capc, .int .i64 mnc, .int .i64 mxc, .string txc] 32)) w1 from Bel.step (Below.refl _ _).drew hb1); have hxo3 := hid (kept_row hxo2.out hbK.out); obtain ⟨u0, u1, u2, u3, u4, u5, u6, u7, u8⟩ := c9 hxo3.out; replace hb1 := hid hb1; clear hts hti)) | (go_at_call 44; ((with_reducible refine hcA.out.mono ?_); rintro e w2 ⟨⟨kt, t0, t1, t2, t3, pt, capt, mnt, mxt, txt, kst⟩, rfl, hts, hti, hb2⟩; have hxo4 := hid (kept_row hxo3.out hb2); obtain ⟨e0, i0, e1, i1, e2, i2, e3, i3, e4, i4, e5, i5, e6, i6, e7, i7, e8, i8⟩ := d9 hxo4.out; simp only [T.cells] at hti hts ⊢; replace hb2 := hid hb2; replace hts := hid hts; replace hti := hid hti)))
   all_goals
    generalize hW : World.setCell _ (⟨w.heap.size + 1 + 1 + 1, 8, none⟩ : Addr) _ = W at *
    obtain ⟨s1, s2, s3, s4⟩ := S7.set9 hxo4.out W hW.symm
    have hz1 := hbK.out.size
    have hz2 := hb2.out.size
    have hBW := bel_far (bel_bel hB.out (bel_bel (Bel.new _ _) (bel_bel hbK.out hb2.out))) (s4 (w.heap.size + 1 + 1 + 1) (Nat.le_refl _)) (by simp only [World.size_alloc]; exact Nat.le_refl _)
    replace s1 := hid s1
    replace s3 := hid s3
    replace hBW := hid hBW
    have hin := hid ((hti.out.keep (w' := W) fun b hb => s3.out b (by
     rcases hb with (h | h) | h
     ·have := hP.out b h; omega
     ·omega
     ·have := h.1; simp only [World.size_alloc] at hz1; omega)).imp (S' := fun b => P b ∨ (w.heap.size + 4 ≤ b ∧ b < W.heap.size)) fun b hb => by
     rcases hb with (h | h) | h
     ·exact .inl h
     ·exact .inr ⟨h.1, by omega⟩
     ·exact .inr ⟨by have := h.1; simp only [World.size_alloc] at hz1; omega, by omega⟩)
    clear s4 hW hxo4 hxo3 hxo2 hcA hAlt hbk hbK hb1 hb2 cC
    go_wp2
    go_roundw
    case rel => exact ⟨j + 1, ⟨kt, t0, t1, t2, t3, pt, capt, mnt, mxt, txt, kst⟩, by omega, by go_num, s1, hts, hin, hBW⟩
    case measure => simp [intOf]; omega
  ·obtain rfl : j = ksn.length := by omega
   obtain ⟨ko, o0, o1, o2, o3, po, capo, mno, mxo, txo, kso⟩ := o
   have hxo1 := hxo.out
   simp only [T.cells] at hxo1
   obtain ⟨x0, x1, x2, x3, x4, x5, x6, x7, x8⟩ := c9 hxo1
   have hxr2 := hid (kept_row hxr.out hB.out)
   obtain ⟨r0, f0, r1, f1, r2, f2, r3, f3, r4, f4, r5, f5, r6, f6, r7, f7, r8, f8⟩ := d9 hxr2.out
   clear hxo1
   go_wp2
   generalize hWW : World.setCell _ (⟨w.heap.size + 1, 8, none⟩ : Addr) _ = W at *
   obtain ⟨s1, s2, s3, s4⟩ := S7.set9 hxr2.out W hWW.symm
   obtain ⟨r0, r1, r2, r3, r4, r5, r6, r7, r8⟩ := c9 s1
   refine bodyPost_ret (v := .agg #[.int .i64 ko, .int .u64 o0, .int .u64 o1, .int .u64 o2, .int .u64 o3, .slice po kso.length capo, .int .i64 mno, .int .i64 mxo, .string txo]) (by simp [results, Tryd.results28, go_sem, r0, r1, r2, r3, r4, r5, r6, r7, r8]) rfl ?_
   have hbW := hbw.out.trans (s4 w.heap.size (by omega))
   refine ⟨.mk ko o0 o1 o2 o3 po capo mno mxo txo kso, rfl, hos.out, ?_, hbW⟩
   refine (hoi.out.keep fun b hb => s3 b ?_).imp fun b hb => ?_
   ·rcases hb with h | h
    ·have := hP.out b h; omega
    ·omega
   ·rcases hb with h | h
    ·exact .inl h
    ·exact .inr ⟨by omega, by rw [s2]; exact h.2⟩
end Go.Proofs.YtobbifhflnlplaaDoor
namespace Go.Proofs.YtobbifhflnlplaaDoor
open Lib (hid)
open Go.RowKit
open Go.Tree7
open S7
open S5 (nl nl_length nl_small at_nl nl_at Gives idx idx_at ix ix_no ix_yes)
def InSeq (c : Nat) (A : List T) (x : T) : Prop := ∃ u z d, A = u ++ z :: d ∧ ∃ a ∈ spT (offD c z), x ∈ spT (catOf (partsT a ++ partsT (catOf d)))
structure SeqAt (F : T) (c : Nat) (A : List T) (j : Nat) (m : T) : Prop where
 tot : F = seqD ((A.drop j).map fun x => (x, offD c x)) m
 els : ∀ x ∈ spT m, InSeq c A x
theorem SeqAt.start {k u0 u1 u2 u3 : Int} {p : Option Addr} {cap : Nat} {mn mx : Int} {tx : ByteArray} {ks : List T} {c : Nat} (hk : k = 2) : SeqAt (offD c (T.mk k u0 u1 u2 u3 p cap mn mx tx ks).strip) c (ks.map T.strip) 0 noneT := by
 constructor
 ·rw [T.strip_mk, offD_mk, hk, if_neg (by decide), if_pos rfl]
  rfl
 ·intro x hx
  rw [sp_none] at hx
  cases hx
theorem SeqAt.last {F : T} {c : Nat} {A : List T} {m : T} (h : SeqAt F c A A.length m) : F = m := by
 have := h.tot
 rw [List.drop_length] at this
 exact this
theorem seq_els {c : Nat} {A : List T} {j : Nat} {m : T} (hj : j < A.length) (h : ∀ x ∈ spT m, InSeq c A x) : ∀ x ∈ spT (altD m (catD (catOf (A.drop (j + 1))) (offD c A[j]))), InSeq c A x := by
 intro x hx
 rcases alt_sub hx with h1 | h1
 ·exact h x h1
 ·obtain ⟨-, a, h2, h3⟩ := cat_sub _ _ h1
  refine ⟨A.take j, A[j], A.drop (j + 1), ?_, a, h2, h3⟩
  rw [← List.drop_eq_getElem_cons hj, List.take_append_drop]
theorem seq_step {F : T} {c : Nat} {A : List T} {j : Nat} {m : T} (hj : j < A.length) (h : SeqAt F c A j m) :
  F = if nullT A[j] = true then seqD ((A.drop (j + 1)).map fun x => (x, offD c x)) (altD m (catD (catOf (A.drop (j + 1))) (offD c A[j]))) else altD m (catD (catOf (A.drop (j + 1))) (offD c A[j])) := by
 have e : ((A.drop (j + 1)).map fun x => (x, offD c x)).map Prod.fst = A.drop (j + 1) := by rw [List.map_map]; exact List.map_id _
 have := h.tot
 rw [List.drop_eq_getElem_cons hj, List.map_cons, seqD, e] at this
 exact this
theorem seq_few {c : Nat} {A : List T} {j : Nat} {m : T} (hk : CatsOk c A) (hj : j < A.length) (h : ∀ x ∈ spT m, InSeq c A x) : (brD (catD (catOf (A.drop (j + 1))) (offD c A[j])) (brD m [])).length ≤ 805306376000 := by
 rw [← alt_branches]
 exact hk.1 _ (alt_nodup _ _) (seq_els hj h)
theorem seq_cat {c : Nat} {A : List T} {j : Nat} (hk : CatsOk c A) (hj : j < A.length) : CatOk (offD c A[j]) (catOf (A.drop (j + 1))) := by
 have e : A = A.take j ++ A[j] :: A.drop (j + 1) := by rw [← List.drop_eq_getElem_cons hj, List.take_append_drop]
 refine ⟨fun l h1 h2 => hk.1 l h1 fun x hx => ?_, fun a ha => hk.2 _ _ _ e a ha⟩
 obtain ⟨a, ha, h3⟩ := h2 x hx
 exact ⟨_, _, _, e, a, ha, h3⟩
theorem seq_round {F : T} {c : Nat} {ks : List T} {j : Nat} {o : T} (hk : CatsOk c (ks.map T.strip)) (hj : j < ks.length) (h : SeqAt F c (ks.map T.strip) j o.strip) : ∃ rs, rs = catOf ((ks.drop (j + 1)).map T.strip) ∧ CatOk (offD c ks[j].strip) rs ∧
  (brD (catD rs (offD c ks[j].strip)) (brD o.strip [])).length ≤ 805306376000 ∧ (nullT ks[j] = true → SeqAt F c (ks.map T.strip) (j + 1) (altD o.strip (catD rs (offD c ks[j].strip)))) ∧ (nullT ks[j] = false → F = altD o.strip (catD rs (offD c ks[j].strip))) := by
 have hj' : j < (ks.map T.strip).length := by rw [List.length_map]; exact hj
 have ej : (ks.map T.strip)[j] = ks[j].strip := List.getElem_map _
 have h1 := seq_cat hk hj'
 have h2 := seq_few hk hj' h.els
 have h3 := seq_step hj' h
 have h4 := seq_els hj' h.els
 rw [ej] at h1 h2 h3 h4
 rw [null_strip] at h3
 refine ⟨_, rfl, ?_⟩
 rw [List.map_drop]
 refine ⟨h1, h2, fun hn => ⟨?_, h4⟩, fun hn => ?_⟩
 ·rw [if_pos hn] at h3; exact h3
 ·rw [if_neg (by rw [hn]; decide)] at h3; exact h3
end Go.Proofs.YtobbifhflnlplaaDoor
