/- The reference's cat, whole. -/

import Derived.Test.YtobbifhflnlplaaDoorRB
namespace Go.Proofs.YtobbifhflnlplaaDoor
open Lib (hid)
open Go.RowKit
open Go.Tree7
open S7
open S5 (nl nl_length nl_small at_nl nl_at Gives idx idx_at ix ix_no ix_yes)
structure CatOk (a b : T) : Prop where
 few : ∀ l : List T, l.Nodup → (∀ x ∈ l, ∃ y ∈ spT a, x ∈ spT (catOf (partsT y ++ partsT b))) → l.length ≤ 805306376000
 short : ∀ y ∈ spT a, (partsT y).length + (partsT b).length ≤ 805306376000
theorem CatOk.kid {k u0 u1 u2 u3 : Int} {p : Option Addr} {cap : Nat} {mn mx : Int} {tx : ByteArray} {ks : List T} {b : T} (hk : k = 3) (h : CatOk (.mk k u0 u1 u2 u3 p cap mn mx tx ks) b) {y : T} (hy : y ∈ ks) : CatOk y b := by
 have hs : ∀ z ∈ spT y, z ∈ spT (.mk k u0 u1 u2 u3 p cap mn mx tx ks) := fun z hz => by
  rw [spT_mk, hk, if_neg (by decide), if_pos rfl]
  exact List.mem_flatMap.2 ⟨y, hy, hz⟩
 exact ⟨fun l h1 h2 => h.few l h1 fun x hx => by
  obtain ⟨z, hz, h3⟩ := h2 x hx
  exact ⟨z, hs z hz, h3⟩, fun z hz => h.short z (hs z hz)⟩
def preD (b : T) (ks : List T) (j : Nat) : T := ((ks.take j).map fun y => catD b y.strip).foldl altD noneT
theorem preD_succ (b : T) (ks : List T) {j : Nat} (h : j < ks.length) : preD b ks (j + 1) = altD (preD b ks j) (catD b ks[j].strip) := by
 unfold preD
 rw [List.take_succ_eq_append_getElem h, List.map_append, List.foldl_append]
 rfl
theorem fold_map (f : T → T) : ∀ (ks : List T) (o : T), (ks.map f).foldl altD o = ks.foldl (fun o x => altD o (f x)) o
 | [], _ => rfl
 | y :: ys, o => by rw [List.map_cons, List.foldl_cons, List.foldl_cons]; exact fold_map f ys _
theorem preD_all {k u0 u1 u2 u3 : Int} {p : Option Addr} {cap : Nat} {mn mx : Int} {tx : ByteArray} {ks : List T} {b : T} (hk : k = 3) (hb : kindT b ≠ 0) : preD b ks ks.length = catD b (T.mk k u0 u1 u2 u3 p cap mn mx tx ks).strip := by
 rw [T.strip_mk, catD_mk, hk, if_neg (by simp [hb]), if_pos rfl]
 unfold preD
 rw [List.take_length, fold_map, List.foldl_map]
theorem preD_few {k u0 u1 u2 u3 : Int} {p : Option Addr} {cap : Nat} {mn mx : Int} {tx : ByteArray} {ks : List T} {b : T} (hk : k = 3) (h : CatOk (T.mk k u0 u1 u2 u3 p cap mn mx tx ks).strip b) (j : Nat) (hj : j < ks.length) :
  (brD (catD b ks[j].strip) (brD (preD b ks j) [])).length ≤ 805306376000 := by
 rw [← alt_branches, ← preD_succ b ks hj]
 refine h.few _ ?_ fun x hx => ?_
 ·rw [preD_succ b ks hj]; exact alt_nodup _ _
 ·unfold preD at hx
  rw [fold_map] at hx
  rcases fold_sub _ _ _ hx with h1 | ⟨y, hy, h1⟩
  ·rw [sp_none] at h1; cases h1
  ·obtain ⟨-, z, hz, h2⟩ := cat_sub b _ h1
   refine ⟨z, ?_, h2⟩
   rw [T.strip_mk, spT_mk, hk, if_neg (by decide), if_pos rfl]
   exact List.mem_flatMap.2 ⟨y.strip, List.mem_map_of_mem (List.mem_of_mem_take hy), hz⟩
theorem bel_far {W w w' : World} {n : Nat} (h : Bel W w) (h' : Below n w w') (hn : W.heap.size ≤ n) : Bel W w' := Below.trans h (h'.mono hn)
set_option maxRecDepth 100000 in
set_option maxHeartbeats 4000000 in
theorem cat_alt {w : World} {a b : T} {P : Nat → Prop} (hP : ∀ b, P b → b < w.heap.size) (hPA : T.InP w P a) (hPB : T.InP w P b) (ha3 : kindT a = 3) (hb0 : kindT b ≠ 0) (hok : CatOk a.strip b.strip)
  (ih : ∀ y ∈ kidsT a, ∀ W, Below w.heap.size w W → Calls Tryd.prog 45 #[.agg y.cells.toArray, .agg b.cells.toArray] W (GivesP P W (catD b.strip y.strip))) :
  Calls Tryd.prog 45 #[.agg a.cells.toArray, .agg b.cells.toArray] w (GivesP P w (catD b.strip a.strip)) := by
 obtain ⟨hbb, hxa, hxb, hxr⟩ := box3 w a.cells.toArray b.cells.toArray #[.int .i64 0, .int .u64 0, .int .u64 0, .int .u64 0, .int .u64 0, .slice none 0 0, .int .i64 0, .int .i64 0, .string ⟨#[]⟩] 32
 have hA := hPA.toIn hP
 have hbs : kindT b.strip ≠ 0 := by rw [kind_strip]; exact hb0
 obtain ⟨ka, a0, a1, a2, a3, pa, capa, mna, mxa, txa, ksa⟩ := a
 obtain ⟨kb, b0, b1, b2, b3, pb, capb, mnb, mxb, txb, ksb⟩ := b
 have ha3 : ka = 3 := ha3
 have ga0 : (ka == 0) = false := by rw [beq_eq_false_iff_ne]; omega
 have ga3 : (ka == 3) = true := by rw [beq_iff_eq]; exact ha3
 have gb0 : (kb == 0) = false := by rw [beq_eq_false_iff_ne]; exact hb0
 have hfew := hid (preD_few ha3 hok)
 have hall := hid (preD_all (u0 := a0) (u1 := a1) (u2 := a2) (u3 := a3) (p := pa) (cap := capa) (mn := mna) (mx := mxa) (tx := txa) (ks := ksa) ha3 hbs)
 rw [← hall.out]
 have hla : ksa.length ≤ 9223372036854775807 := by cases hA with | mk h1 h2 => unfold maxLen at h2; omega
 have ih : ∀ y ∈ ksa, ∀ W, Below w.heap.size w W → Calls Tryd.prog 45 #[.agg y.cells.toArray, .agg (T.mk kb b0 b1 b2 b3 pb capb mnb mxb txb ksb).cells.toArray] W (GivesP P W (catD (T.mk kb b0 b1 b2 b3 pb capb mnb mxb txb ksb).strip y.strip)) := ih
 generalize (T.mk kb b0 b1 b2 b3 pb capb mnb mxb txb ksb).strip = bs at *
 simp only [T.cells] at hbb hxa hxb hxr ih ⊢
 obtain ⟨y0, y1, y2, y3, y4, y5, y6, y7, y8⟩ := c9 hxa
 obtain ⟨z0, z1, z2, z3, z4, z5, z6, z7, z8⟩ := c9 hxb
 have hxo0 : Hid (((((w.alloc (.cells #[.int .i64 ka, .int .u64 a0, .int .u64 a1, .int .u64 a2, .int .u64 a3, .slice pa ksa.length capa, .int .i64 mna, .int .i64 mxa, .string txa] 32)).alloc (.cells #[.int .i64 kb, .int .u64 b0, .int .u64 b1, .int .u64 b2, .int .u64 b3, .slice pb ksb.length capb, .int .i64 mnb, .int .i64 mxb, .string txb] 32)).alloc (.cells #[.int .i64 0, .int .u64 0, .int .u64 0, .int .u64 0, .int .u64 0, .slice none 0 0, .int .i64 0, .int .i64 0, .string ⟨#[]⟩] 32)).alloc (.cells #[.int .i64 0, .int .u64 0, .int .u64 0, .int .u64 0, .int .u64 0, .slice none 0 0, .int .i64 0, .int .i64 0, .string ⟨#[]⟩] 32)).heap[(w.heap.size + 1 + 1 + 1)]? = some (.cells #[.int .i64 0, .int .u64 0, .int .u64 0, .int .u64 0, .int .u64 0, .slice none 0 0, .int .i64 0, .int .i64 0, .string ⟨#[]⟩] 32 (0, 0))) := hid (by have := World.alloc_heap_new (((w.alloc (.cells #[.int .i64 ka, .int .u64 a0, .int .u64 a1, .int .u64 a2, .int .u64 a3, .slice pa ksa.length capa, .int .i64 mna, .int .i64 mxa, .string txa] 32)).alloc (.cells #[.int .i64 kb, .int .u64 b0, .int .u64 b1, .int .u64 b2, .int .u64 b3, .slice pb ksb.length capb, .int .i64 mnb, .int .i64 mxb, .string txb] 32)).alloc (.cells #[.int .i64 0, .int .u64 0, .int .u64 0, .int .u64 0, .int .u64 0, .slice none 0 0, .int .i64 0, .int .i64 0, .string ⟨#[]⟩] 32)) (.cells #[.int .i64 0, .int .u64 0, .int .u64 0, .int .u64 0, .int .u64 0, .slice none 0 0, .int .i64 0, .int .i64 0, .string ⟨#[]⟩] 32); rw [World.size_alloc, World.size_alloc, World.size_alloc] at this; exact this)
 replace hxa := hid hxa
 replace hxb := hid hxb
 replace hxr := hid hxr
 replace hbb := hid hbb
 replace hP := hid hP
 replace hA := hid hA
 replace ih := hid ih
 clear ha3 hb0 hPB hok hbs
 go_enter Tryd.func45, Tryd.ntmps45
 go_wp2
 go_loopw [25] (fun i wr => ∃ j : Nat, ∃ o : T, j ≤ ksa.length ∧ i = .int .i64 j ∧ Hid (wr.heap[(w.heap.size + 1 + 1 + 1)]? = some (.cells o.cells.toArray 32 (0, 0))) ∧ Hid (o.strip = preD bs ksa j) ∧ Hid (T.InP wr (fun b => P b ∨ (w.heap.size + 4 ≤ b ∧ b < wr.heap.size)) o) ∧ Hid (Bel (((w.alloc (.cells #[.int .i64 ka, .int .u64 a0, .int .u64 a1, .int .u64 a2, .int .u64 a3, .slice pa ksa.length capa, .int .i64 mna, .int .i64 mxa, .string txa] 32)).alloc (.cells #[.int .i64 kb, .int .u64 b0, .int .u64 b1, .int .u64 b2, .int .u64 b3, .slice pb ksb.length capb, .int .i64 mnb, .int .i64 mxb, .string txb] 32)).alloc (.cells #[.int .i64 0, .int .u64 0, .int .u64 0, .int .u64 0, .int .u64 0, .slice none 0 0, .int .i64 0, .int .i64 0, .string ⟨#[]⟩] 32)) wr)) (fun i _ => ksa.length - (intOf i).toNat)
 case atStart => exact ⟨0, noneT, Nat.zero_le _, rfl, hxo0, hid none_strip, hid (none_in _ _), hid (Bel.new _ _)⟩
 case round =>
  clear hxo0 y0 y1 y2 y3 y4 y5 y6 y7 y8 z0 z1 z2 z3 z4 z5 z6 z7 z8
  obtain ⟨j, o, hj, rfl, hxo, hos, hoi, hB⟩ := hrel
  have hsz := lt_box hxo.out
  have hbw := hid (show Below w.heap.size w wr from bel_bel hbb.out hB.out)
  obtain ⟨z0, z1, z2, z3, z4, z5, z6, z7, z8⟩ := c9 (kept_row hxb.out hB.out)
  by_cases hlt : j < ksa.length
  ·obtain ⟨b, q0, hkid, hp, hbl, hc⟩ := T.kid hA.out hlt
   have hcl : ∀ q, q < 9 → wr.cell? ⟨b, q0 + j * 9 + q, none⟩ = (ksa[j].cells)[q]? := fun q hq => by
    rw [← hc q hq]
    exact hbw.out.cell (p := ⟨b, q0 + j * 9 + q, none⟩) hbl
   have cC := fun W (hb : Below w.heap.size w W) => ih.out ksa[j] (List.getElem_mem hlt) W hb
   have hs := hid (preD_succ bs ksa hlt)
   have hf := hid (hfew.out j hlt)
   clear hc hkid
   subst hp
   generalize ksa[j] = kd at *
   obtain ⟨ko, o0, o1, o2, o3, po, capo, mno, mxo, txo, kso⟩ := o
   obtain ⟨kc, c0, c1, c2, c3, pc, capc, mnc, mxc, txc, ksc⟩ := kd
   have hxo1 := hxo.out
   simp only [T.cells] at hcl cC hxo1
   obtain ⟨q0, q1, q2, q3, q4, q5, q6, q7, q8⟩ := nine_of hcl
   obtain ⟨x0, f0, x1, f1, x2, f2, x3, f3, x4, f4, x5, f5, x6, f6, x7, f7, x8, f8⟩ := d9 hxo1
   clear hcl
   replace hxo1 := hid hxo1
   replace cC := hid cC
   have hbk := hid (show Below w.heap.size w (wr.alloc (.cells #[.int .i64 kc, .int .u64 c0, .int .u64 c1, .int .u64 c2, .int .u64 c3, .slice pc ksc.length capc, .int .i64 mnc, .int .i64 mxc, .string txc] 32)).drew from (hbw.out.alloc (by omega) _).drew)
   have hAlt : Hid (∀ (tc : T) (w1 : World), tc.strip = catD bs (T.mk kc c0 c1 c2 c3 pc capc mnc mxc txc ksc).strip → T.InP w1 (fun b => P b ∨ ((wr.alloc (.cells #[.int .i64 kc, .int .u64 c0, .int .u64 c1, .int .u64 c2, .int .u64 c3, .slice pc ksc.length capc, .int .i64 mnc, .int .i64 mxc, .string txc] 32)).drew.heap.size ≤ b ∧ b < w1.heap.size)) tc → Below (wr.alloc (.cells #[.int .i64 kc, .int .u64 c0, .int .u64 c1, .int .u64 c2, .int .u64 c3, .slice pc ksc.length capc, .int .i64 mnc, .int .i64 mxc, .string txc] 32)).drew.heap.size (wr.alloc (.cells #[.int .i64 kc, .int .u64 c0, .int .u64 c1, .int .u64 c2, .int .u64 c3, .slice pc ksc.length capc, .int .i64 mnc, .int .i64 mxc, .string txc] 32)).drew w1 →
     Calls Tryd.prog 44 #[.agg #[.int .i64 ko, .int .u64 o0, .int .u64 o1, .int .u64 o2, .int .u64 o3, .slice po kso.length capo, .int .i64 mno, .int .i64 mxo, .string txo], .agg tc.cells.toArray] w1 (GivesP (fun b => P b ∨ (w.heap.size + 4 ≤ b ∧ b < w1.heap.size)) w1 (preD bs ksa (j + 1)))) := hid fun tc w1 h1 h2 h3 => by
    have hz : wr.heap.size + 1 ≤ w1.heap.size := by have := h3.size; simp only [World.drew, World.size_alloc] at this; exact this
    have hkp : ∀ b, b < wr.heap.size → w1.heap[b]? = wr.heap[b]? := fun b hb => (h3.block b (by simp only [World.drew, World.size_alloc]; omega)).trans (Below.heap_alloc _ _ _ (by omega))
    have := alt10_in (w := w1) (a := .mk ko o0 o1 o2 o3 po capo mno mxo txo kso) (b := tc) (P := fun b => P b ∨ (w.heap.size + 4 ≤ b ∧ b < w1.heap.size)) (fun b hb => hb.elim (fun h => by have := hP.out b h; omega) fun h => h.2)
     ((hoi.out.keep fun b hb => hkp b (hb.elim (fun h => by have := hP.out b h; omega) fun h => h.2)).imp fun b hb => hb.imp_right fun h => ⟨h.1, by omega⟩)
     (h2.imp fun b hb => hb.imp_right fun h => ⟨by have := h.1; simp only [World.drew, World.size_alloc] at this; omega, h.2⟩)
     (by rw [h1, hos.out]; exact hf.out)
    rw [h1, hos.out, ← hs.out] at this
    exact this
   have hk9 : (wr.alloc (.cells #[.int .i64 kc, .int .u64 c0, .int .u64 c1, .int .u64 c2, .int .u64 c3, .slice pc ksc.length capc, .int .i64 mnc, .int .i64 mxc, .string txc] 32)).heap[wr.heap.size]? = some (.cells #[.int .i64 kc, .int .u64 c0, .int .u64 c1, .int .u64 c2, .int .u64 c3, .slice pc ksc.length capc, .int .i64 mnc, .int .i64 mxc, .string txc] 32 (0, 0)) := World.alloc_heap_new _ _
   obtain ⟨k0, k1, k2, k3, k4, k5, k6, k7, k8⟩ := c9 hk9
   have hxo2 := hid (kept_row hxo1.out (Bel.new wr (.cells #[.int .i64 kc, .int .u64 c0, .int .u64 c1, .int .u64 c2, .int .u64 c3, .slice pc ksc.length capc, .int .i64 mnc, .int .i64 mxc, .string txc] 32)))
   have hxb2 := hid (kept_row hxb.out (bel_bel hB.out (Bel.new wr (.cells #[.int .i64 kc, .int .u64 c0, .int .u64 c1, .int .u64 c2, .int .u64 c3, .slice pc ksc.length capc, .int .i64 mnc, .int .i64 mxc, .string txc] 32))))
   clear z0 z1 z2 z3 z4 z5 z6 z7 z8 hk9
   obtain ⟨z0, z1, z2, z3, z4, z5, z6, z7, z8⟩ := c9 hxb2.out
   obtain ⟨v0, g0, v1, g1, v2, g2, v3, g3, v4, g4, v5, g5, v6, g6, v7, g7, v8, g8⟩ := d9 hxo2.out
   go_upto_region 8 with (fail)
   go_region_with (first | (go_at_call 45; ((with_reducible refine (cC.out _ hbk.out).mono ?_); rintro e w1 ⟨tc, rfl, hts, hti, hb1⟩; have hcA := hid (hAlt.out tc w1 hts hti hb1); have hbK := hid (show Bel (wr.alloc (.cells #[.int .i64 kc, .int .u64 c0, .int .u64 c1, .int .u64 c2, .int .u64 c3, .slice pc ksc.length capc, .int .i64 mnc, .int .i64 mxc, .string txc] 32)) w1 from Bel.step (Below.refl _ _).drew hb1); have hxo3 := hid (kept_row hxo2.out hbK.out); obtain ⟨u0, u1, u2, u3, u4, u5, u6, u7, u8⟩ := c9 hxo3.out; replace hb1 := hid hb1; clear hts hti)) | (go_at_call 44; ((with_reducible refine hcA.out.mono ?_); rintro e w2 ⟨⟨kt, t0, t1, t2, t3, pt, capt, mnt, mxt, txt, kst⟩, rfl, hts, hti, hb2⟩; have hxo4 := hid (kept_row hxo3.out hb2); obtain ⟨e0, i0, e1, i1, e2, i2, e3, i3, e4, i4, e5, i5, e6, i6, e7, i7, e8, i8⟩ := d9 hxo4.out; simp only [T.cells] at hti hts ⊢; replace hb2 := hid hb2; replace hts := hid hts; replace hti := hid hti)))
   all_goals
    generalize hW : World.setCell _ (⟨w.heap.size + 1 + 1 + 1, 8, none⟩ : Addr) _ = W at *
    obtain ⟨s1, s2, s3, s4⟩ := S7.set9 hxo4.out W hW.symm
    have hz1 := hbK.out.size
    have hz2 := hb2.out.size
    have hBW := bel_far (bel_bel hB.out (bel_bel (Bel.new _ _) (bel_bel hbK.out hb2.out))) (s4 (w.heap.size + 1 + 1 + 1) (Nat.le_refl _)) (by simp only [World.size_alloc]; exact Nat.le_refl _)
    replace s1 := hid s1
    replace s3 := hid s3
    replace hBW := hid hBW
    have hin := hid ((hti.out.keep (w' := W) fun b hb => s3.out b (by
     rcases hb with (h | h) | h
     ·have := hP.out b h; omega
     ·omega
     ·have := h.1; simp only [World.size_alloc] at hz1; omega)).imp (S' := fun b => P b ∨ (w.heap.size + 4 ≤ b ∧ b < W.heap.size)) fun b hb => by
     rcases hb with (h | h) | h
     ·exact .inl h
     ·exact .inr ⟨h.1, by omega⟩
     ·exact .inr ⟨by have := h.1; simp only [World.size_alloc] at hz1; omega, by omega⟩)
    clear s4 hW hxo4 hxo3 hxo2 hcA hAlt hbk hbK hb1 hb2 hxb2 cC
    go_wp2
    go_roundw
    case rel => exact ⟨j + 1, ⟨kt, t0, t1, t2, t3, pt, capt, mnt, mxt, txt, kst⟩, by omega, by go_num, s1, hts, hin, hBW⟩
    case measure => simp [intOf]; omega
  ·obtain rfl : j = ksa.length := by omega
   obtain ⟨ko, o0, o1, o2, o3, po, capo, mno, mxo, txo, kso⟩ := o
   have hxo1 := hxo.out
   simp only [T.cells] at hxo1
   obtain ⟨x0, x1, x2, x3, x4, x5, x6, x7, x8⟩ := c9 hxo1
   have hxr2 := hid (kept_row hxr.out hB.out)
   obtain ⟨r0, f0, r1, f1, r2, f2, r3, f3, r4, f4, r5, f5, r6, f6, r7, f7, r8, f8⟩ := d9 hxr2.out
   clear hxo1
   go_wp2
   generalize hWW : World.setCell _ (⟨w.heap.size + 1 + 1, 8, none⟩ : Addr) _ = W at *
   obtain ⟨s1, s2, s3, s4⟩ := S7.set9 hxr2.out W hWW.symm
   obtain ⟨r0, r1, r2, r3, r4, r5, r6, r7, r8⟩ := c9 s1
   refine bodyPost_ret (v := .agg #[.int .i64 ko, .int .u64 o0, .int .u64 o1, .int .u64 o2, .int .u64 o3, .slice po kso.length capo, .int .i64 mno, .int .i64 mxo, .string txo]) (by simp [results, Tryd.results45, go_sem, r0, r1, r2, r3, r4, r5, r6, r7, r8]) rfl ?_
   have hbW := hbw.out.trans (s4 w.heap.size (by omega))
   refine ⟨.mk ko o0 o1 o2 o3 po capo mno mxo txo kso, rfl, hos.out, ?_, hbW⟩
   refine (hoi.out.keep fun b hb => s3 b ?_).imp fun b hb => ?_
   ·rcases hb with h | h
    ·have := hP.out b h; omega
    ·omega
   ·rcases hb with h | h
    ·exact .inl h
    ·exact .inr ⟨by omega, by rw [s2]; exact h.2⟩
end Go.Proofs.YtobbifhflnlplaaDoor
