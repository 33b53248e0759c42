/- The reference's Off: repetitions, two ways. -/

import Derived.Test.YtobbifhflnlplaaDoorRD
namespace Go.Proofs.YtobbifhflnlplaaDoor
open Lib (hid)
open Go.RowKit
open Go.Tree7
open S7
open S5 (nl nl_length nl_small at_nl nl_at Gives idx idx_at ix ix_no ix_yes)
set_option maxRecDepth 100000 in
set_option maxHeartbeats 4000000 in
theorem off_rep1 {w : World} {n : T} {P : Nat → Prop} (hP : ∀ b, P b → b < w.heap.size) (hPN : T.InP w P n) {c : Nat} (_ : c ≤ 255) (h4 : kindT n = 4) (ho : okd n) (gm : 0 < mnT n) (gx : mxT n = -1) (hkn : kn c n.strip)
  (ih : ∀ y ∈ kidsT n, ∀ W, Below w.heap.size w W → Calls Tryd.prog 28 #[.agg y.cells.toArray, .int .i64 c] W (GivesP P W (offD c y.strip))) :
  Calls Tryd.prog 28 #[.agg n.cells.toArray, .int .i64 c] w (GivesP P w (offD c n.strip)) := by
 obtain ⟨hbb, hxn, hxr, hxz⟩ := box3 w n.cells.toArray #[.int .i64 0, .int .u64 0, .int .u64 0, .int .u64 0, .int .u64 0, .slice none 0 0, .int .i64 0, .int .i64 0, .string ⟨#[]⟩] #[.int .i64 0, .int .u64 0, .int .u64 0, .int .u64 0, .int .u64 0, .slice none 0 0, .int .i64 0, .int .i64 0, .string ⟨#[]⟩] 32
 have hT := hPN.toIn hP
 obtain ⟨kn, n0, n1, n2, n3, pn, capn, mnn, mxn, txn, ksn⟩ := n
 have h4 : kn = 4 := h4
 subst h4
 have gm : 0 < mnn := gm
 have gx : mxn = -1 := gx
 obtain ⟨hl1, hm0, hx0⟩ : ksn.length = 1 ∧ 0 ≤ mnn ∧ (mxn = -1 ∨ (1 ≤ mxn ∧ mnn ≤ mxn)) := by
  rcases ho with ⟨h, -⟩ | h | h | h | ⟨-, h⟩ | h
  ·omega
  ·omega
  ·omega
  ·omega
  ·exact h
  ·omega
 obtain ⟨yk, rfl⟩ := List.length_eq_one_iff.1 hl1
 have hcat : CatOk (offD c yk.strip) (leftT mnn mxn [yk.strip]) := by
  rw [T.strip_mk] at hkn
  exact hkn.2.2 rfl yk.strip (by simp)
 have eo : offD c (T.mk 4 n0 n1 n2 n3 pn capn mnn mxn txn [yk]).strip = catD (leftT mnn mxn [yk.strip]) (offD c yk.strip) := by
  rw [T.strip_mk, offD_mk, if_neg (by decide), if_neg (by decide), if_neg (by decide), if_pos rfl]
  rfl
 rw [eo]
 obtain ⟨b, qo, hkid, hp, hbl, hcl⟩ := T.kid hT (j := 0) (by simp)
 have cK : ∀ W, Below w.heap.size w W → Calls Tryd.prog 28 #[.agg yk.cells.toArray, .int .i64 c] W (GivesP P W (offD c yk.strip)) := ih yk (by simp [kidsT])
 have hmr : mnn ≤ 9223372036854775807 ∧ mxn ≤ 9223372036854775807 := by
  cases hPN with
  | mk _ _ h =>
   obtain ⟨-, -, h1, h2, -⟩ := h
   simp only [Lit.wf, Bool.and_eq_true, decide_eq_true_eq] at h1 h2
   exact ⟨h1.2, h2.2⟩
 subst hp
 clear ih ho hkn eo hkid hT hl1
 obtain ⟨kc, c0, c1, c2, c3, pc, capc, mnc, mxc, txc, ksc⟩ := yk
 simp only [T.cells, List.getElem_cons_zero, List.length_cons, List.length_nil] at hbb hxn hxr hxz cK hcl ⊢
 obtain ⟨z0, z1, z2, z3, z4, z5, z6, z7, z8⟩ := c9 hxz
 replace hbb := hid hbb
 replace hxn := hid hxn
 replace hxr := hid hxr
 replace hxz := hid hxz
 replace cK := hid cK
 have hcl : ∀ q, q < 9 → w.cell? ⟨b, qo + q, none⟩ = ([.int .i64 kc, .int .u64 c0, .int .u64 c1, .int .u64 c2, .int .u64 c3, .slice pc ksc.length capc, .int .i64 mnc, .int .i64 mxc, .string txc] : List Value)[q]? := fun q hq => by have := hcl q hq; rw [Nat.zero_mul, Nat.add_zero] at this; exact this
 replace hcl := hid hcl
 replace hP := hid hP
 replace hPN := hid hPN
 subst gx
 have hLs : Hid ((T.mk 4 0 0 0 0 (some ⟨b, qo, none⟩) capn (mnn - 1) (-1) ⟨#[]⟩ [T.mk kc c0 c1 c2 c3 pc capc mnc mxc txc ksc]).strip = leftT mnn ((-1)) [(T.mk kc c0 c1 c2 c3 pc capc mnc mxc txc ksc).strip]) := hid (by rw [T.strip_mk]; simp [leftT]; omega)
 have hxl : ((((w.alloc (.cells #[.int .i64 4, .int .u64 n0, .int .u64 n1, .int .u64 n2, .int .u64 n3, .slice (some ⟨b, qo, none⟩) 1 capn, .int .i64 mnn, .int .i64 (-1), .string txn] 32)).alloc (.cells #[.int .i64 0, .int .u64 0, .int .u64 0, .int .u64 0, .int .u64 0, .slice none 0 0, .int .i64 0, .int .i64 0, .string ⟨#[]⟩] 32)).alloc (.cells #[.int .i64 0, .int .u64 0, .int .u64 0, .int .u64 0, .int .u64 0, .slice none 0 0, .int .i64 0, .int .i64 0, .string ⟨#[]⟩] 32)).alloc (.cells #[.int .i64 4, .int .u64 0, .int .u64 0, .int .u64 0, .int .u64 0, .slice (some ⟨b, qo, none⟩) 1 capn, .int .i64 (mnn - 1), .int .i64 (-1), .string ⟨#[]⟩] 32)).heap[(w.heap.size + 1 + 1 + 1)]? = some (.cells #[.int .i64 4, .int .u64 0, .int .u64 0, .int .u64 0, .int .u64 0, .slice (some ⟨b, qo, none⟩) 1 capn, .int .i64 (mnn - 1), .int .i64 (-1), .string ⟨#[]⟩] 32 (0, 0)) := by have := World.alloc_heap_new (((w.alloc (.cells #[.int .i64 4, .int .u64 n0, .int .u64 n1, .int .u64 n2, .int .u64 n3, .slice (some ⟨b, qo, none⟩) 1 capn, .int .i64 mnn, .int .i64 (-1), .string txn] 32)).alloc (.cells #[.int .i64 0, .int .u64 0, .int .u64 0, .int .u64 0, .int .u64 0, .slice none 0 0, .int .i64 0, .int .i64 0, .string ⟨#[]⟩] 32)).alloc (.cells #[.int .i64 0, .int .u64 0, .int .u64 0, .int .u64 0, .int .u64 0, .slice none 0 0, .int .i64 0, .int .i64 0, .string ⟨#[]⟩] 32)) (.cells #[.int .i64 4, .int .u64 0, .int .u64 0, .int .u64 0, .int .u64 0, .slice (some ⟨b, qo, none⟩) 1 capn, .int .i64 (mnn - 1), .int .i64 (-1), .string ⟨#[]⟩] 32); rw [World.size_alloc, World.size_alloc, World.size_alloc] at this; exact this
 obtain ⟨l0, l1, l2, l3, l4, l5, l6, l7, l8⟩ := c9 hxl
 have hbx := hid (Bel.new (((w.alloc (.cells #[.int .i64 4, .int .u64 n0, .int .u64 n1, .int .u64 n2, .int .u64 n3, .slice (some ⟨b, qo, none⟩) 1 capn, .int .i64 mnn, .int .i64 (-1), .string txn] 32)).alloc (.cells #[.int .i64 0, .int .u64 0, .int .u64 0, .int .u64 0, .int .u64 0, .slice none 0 0, .int .i64 0, .int .i64 0, .string ⟨#[]⟩] 32)).alloc (.cells #[.int .i64 0, .int .u64 0, .int .u64 0, .int .u64 0, .int .u64 0, .slice none 0 0, .int .i64 0, .int .i64 0, .string ⟨#[]⟩] 32)) (.cells #[.int .i64 4, .int .u64 0, .int .u64 0, .int .u64 0, .int .u64 0, .slice (some ⟨b, qo, none⟩) 1 capn, .int .i64 (mnn - 1), .int .i64 (-1), .string ⟨#[]⟩] 32))
 have hxn2 := hid (kept_row hxn.out hbx.out)
 have hxr2 := hid (kept_row hxr.out hbx.out)
 obtain ⟨y0, y1, y2, y3, y4, y5, y6, y7, y8⟩ := c9 hxn2.out
 have hbB := below_of (bel_bel hbb.out hbx.out)
 obtain ⟨q0, q1, q2, q3, q4, q5, q6, q7, q8⟩ := nine_of fun q hq => (hbB.cell (p := ⟨b, qo + q, none⟩) hbl).trans (hcl.out q hq)
 have hbw := hid hbB.drew
 have hCat := hid (rep_cat (L9 := #[.int .i64 4, .int .u64 0, .int .u64 0, .int .u64 0, .int .u64 0, .slice (some ⟨b, qo, none⟩) 1 capn, .int .i64 (mnn - 1), .int .i64 (-1), .string ⟨#[]⟩]) hP.out hbB (by simp only [World.size_alloc]) (left_in hPN.out (by exact ⟨WalkArith.wf_i64 (by omega), WalkArith.wf_i64 (by omega)⟩)) hLs.out hcat rfl)
 replace hxl := hid hxl
 clear hcl hbB
 go_enter Tryd.func28, Tryd.ntmps28
 replace hcat := hid hcat
 go_upto_region 34 with (fail)
 go_region_with (first | (go_at_call 28; (with_reducible refine (cK.out _ hbw.out).mono ?_); rintro e w1 ⟨tc, rfl, hts, hti, hb1⟩; have hbK := hid (bel_drew hb1); have hcA := hid (hCat.out tc w1 hts hti hb1); have hxl3 := hid (kept_row hxl.out hbK.out); obtain ⟨u0, u1, u2, u3, u4, u5, u6, u7, u8⟩ := c9 hxl3.out; have hxr3 := hid (kept_row hxr2.out hbK.out); replace hb1 := hid hb1; clear hts hti) | (go_at_call 45; (with_reducible refine hcA.out.mono ?_); rintro e w2 ⟨⟨kt, t0, t1, t2, t3, pt, capt, mnt, mxt, txt, kst⟩, rfl, hts, hti, hb2⟩; have hxr4 := hid (kept_row hxr3.out hb2); obtain ⟨e0, i0, e1, i1, e2, i2, e3, i3, e4, i4, e5, i5, e6, i6, e7, i7, e8, i8⟩ := d9 hxr4.out; simp only [T.cells] at hti hts ⊢; replace hb2 := hid hb2; replace hts := hid hts; replace hti := hid hti))
 all_goals
  generalize hW : World.setCell _ (⟨w.heap.size + 1, 8, none⟩ : Addr) _ = W at *
  obtain ⟨s1, s2, s3, s4⟩ := S7.set9 hxr4.out W hW.symm
  obtain ⟨r0, r1, r2, r3, r4, r5, r6, r7, r8⟩ := c9 s1
  replace s3 := hid s3
  have hz1 := hbK.out.size
  have hz2 := hb2.out.size
  simp only [World.size_alloc] at hz1
  have hbW := (below_of (bel_bel (bel_bel hbb.out hbx.out) (bel_bel hbK.out hb2.out))).trans (s4 w.heap.size (by omega))
  go_wp2
  refine bodyPost_ret (v := .agg #[.int .i64 kt, .int .u64 t0, .int .u64 t1, .int .u64 t2, .int .u64 t3, .slice pt kst.length capt, .int .i64 mnt, .int .i64 mxt, .string txt]) (by simp [results, Tryd.results28, go_sem, r0, r1, r2, r3, r4, r5, r6, r7, r8]) rfl ?_
  exact ⟨⟨kt, t0, t1, t2, t3, pt, capt, mnt, mxt, txt, kst⟩, rfl, hts.out, rep_in hP.out hti.out s3.out s2 (by omega) hz2 (by omega), hbW⟩
set_option maxRecDepth 100000 in
set_option maxHeartbeats 4000000 in
theorem off_rep2 {w : World} {n : T} {P : Nat → Prop} (hP : ∀ b, P b → b < w.heap.size) (hPN : T.InP w P n) {c : Nat} (_ : c ≤ 255) (h4 : kindT n = 4) (ho : okd n) (gm : mnT n = 0) (gx : mxT n = -1) (hkn : kn c n.strip)
  (ih : ∀ y ∈ kidsT n, ∀ W, Below w.heap.size w W → Calls Tryd.prog 28 #[.agg y.cells.toArray, .int .i64 c] W (GivesP P W (offD c y.strip))) :
  Calls Tryd.prog 28 #[.agg n.cells.toArray, .int .i64 c] w (GivesP P w (offD c n.strip)) := by
 obtain ⟨hbb, hxn, hxr, hxz⟩ := box3 w n.cells.toArray #[.int .i64 0, .int .u64 0, .int .u64 0, .int .u64 0, .int .u64 0, .slice none 0 0, .int .i64 0, .int .i64 0, .string ⟨#[]⟩] #[.int .i64 0, .int .u64 0, .int .u64 0, .int .u64 0, .int .u64 0, .slice none 0 0, .int .i64 0, .int .i64 0, .string ⟨#[]⟩] 32
 have hT := hPN.toIn hP
 obtain ⟨kn, n0, n1, n2, n3, pn, capn, mnn, mxn, txn, ksn⟩ := n
 have h4 : kn = 4 := h4
 subst h4
 have gm : mnn = 0 := gm
 have gx : mxn = -1 := gx
 obtain ⟨hl1, hm0, hx0⟩ : ksn.length = 1 ∧ 0 ≤ mnn ∧ (mxn = -1 ∨ (1 ≤ mxn ∧ mnn ≤ mxn)) := by
  rcases ho with ⟨h, -⟩ | h | h | h | ⟨-, h⟩ | h
  ·omega
  ·omega
  ·omega
  ·omega
  ·exact h
  ·omega
 obtain ⟨yk, rfl⟩ := List.length_eq_one_iff.1 hl1
 have hcat : CatOk (offD c yk.strip) (leftT mnn mxn [yk.strip]) := by
  rw [T.strip_mk] at hkn
  exact hkn.2.2 rfl yk.strip (by simp)
 have eo : offD c (T.mk 4 n0 n1 n2 n3 pn capn mnn mxn txn [yk]).strip = catD (leftT mnn mxn [yk.strip]) (offD c yk.strip) := by
  rw [T.strip_mk, offD_mk, if_neg (by decide), if_neg (by decide), if_neg (by decide), if_pos rfl]
  rfl
 rw [eo]
 obtain ⟨b, qo, hkid, hp, hbl, hcl⟩ := T.kid hT (j := 0) (by simp)
 have cK : ∀ W, Below w.heap.size w W → Calls Tryd.prog 28 #[.agg yk.cells.toArray, .int .i64 c] W (GivesP P W (offD c yk.strip)) := ih yk (by simp [kidsT])
 have hmr : mnn ≤ 9223372036854775807 ∧ mxn ≤ 9223372036854775807 := by
  cases hPN with
  | mk _ _ h =>
   obtain ⟨-, -, h1, h2, -⟩ := h
   simp only [Lit.wf, Bool.and_eq_true, decide_eq_true_eq] at h1 h2
   exact ⟨h1.2, h2.2⟩
 subst hp
 clear ih ho hkn eo hkid hT hl1
 obtain ⟨kc, c0, c1, c2, c3, pc, capc, mnc, mxc, txc, ksc⟩ := yk
 simp only [T.cells, List.getElem_cons_zero, List.length_cons, List.length_nil] at hbb hxn hxr hxz cK hcl ⊢
 obtain ⟨z0, z1, z2, z3, z4, z5, z6, z7, z8⟩ := c9 hxz
 replace hbb := hid hbb
 replace hxn := hid hxn
 replace hxr := hid hxr
 replace hxz := hid hxz
 replace cK := hid cK
 have hcl : ∀ q, q < 9 → w.cell? ⟨b, qo + q, none⟩ = ([.int .i64 kc, .int .u64 c0, .int .u64 c1, .int .u64 c2, .int .u64 c3, .slice pc ksc.length capc, .int .i64 mnc, .int .i64 mxc, .string txc] : List Value)[q]? := fun q hq => by have := hcl q hq; rw [Nat.zero_mul, Nat.add_zero] at this; exact this
 replace hcl := hid hcl
 replace hP := hid hP
 replace hPN := hid hPN
 subst gm
 subst gx
 have hLs : Hid ((T.mk 4 0 0 0 0 (some ⟨b, qo, none⟩) capn 0 (-1) ⟨#[]⟩ [T.mk kc c0 c1 c2 c3 pc capc mnc mxc txc ksc]).strip = leftT 0 ((-1)) [(T.mk kc c0 c1 c2 c3 pc capc mnc mxc txc ksc).strip]) := hid (by rw [T.strip_mk]; simp [leftT])
 have hxl : ((((w.alloc (.cells #[.int .i64 4, .int .u64 n0, .int .u64 n1, .int .u64 n2, .int .u64 n3, .slice (some ⟨b, qo, none⟩) 1 capn, .int .i64 0, .int .i64 (-1), .string txn] 32)).alloc (.cells #[.int .i64 0, .int .u64 0, .int .u64 0, .int .u64 0, .int .u64 0, .slice none 0 0, .int .i64 0, .int .i64 0, .string ⟨#[]⟩] 32)).alloc (.cells #[.int .i64 0, .int .u64 0, .int .u64 0, .int .u64 0, .int .u64 0, .slice none 0 0, .int .i64 0, .int .i64 0, .string ⟨#[]⟩] 32)).alloc (.cells #[.int .i64 4, .int .u64 0, .int .u64 0, .int .u64 0, .int .u64 0, .slice (some ⟨b, qo, none⟩) 1 capn, .int .i64 0, .int .i64 (-1), .string ⟨#[]⟩] 32)).heap[(w.heap.size + 1 + 1 + 1)]? = some (.cells #[.int .i64 4, .int .u64 0, .int .u64 0, .int .u64 0, .int .u64 0, .slice (some ⟨b, qo, none⟩) 1 capn, .int .i64 0, .int .i64 (-1), .string ⟨#[]⟩] 32 (0, 0)) := by have := World.alloc_heap_new (((w.alloc (.cells #[.int .i64 4, .int .u64 n0, .int .u64 n1, .int .u64 n2, .int .u64 n3, .slice (some ⟨b, qo, none⟩) 1 capn, .int .i64 0, .int .i64 (-1), .string txn] 32)).alloc (.cells #[.int .i64 0, .int .u64 0, .int .u64 0, .int .u64 0, .int .u64 0, .slice none 0 0, .int .i64 0, .int .i64 0, .string ⟨#[]⟩] 32)).alloc (.cells #[.int .i64 0, .int .u64 0, .int .u64 0, .int .u64 0, .int .u64 0, .slice none 0 0, .int .i64 0, .int .i64 0, .string ⟨#[]⟩] 32)) (.cells #[.int .i64 4, .int .u64 0, .int .u64 0, .int .u64 0, .int .u64 0, .slice (some ⟨b, qo, none⟩) 1 capn, .int .i64 0, .int .i64 (-1), .string ⟨#[]⟩] 32); rw [World.size_alloc, World.size_alloc, World.size_alloc] at this; exact this
 obtain ⟨l0, l1, l2, l3, l4, l5, l6, l7, l8⟩ := c9 hxl
 have hbx := hid (Bel.new (((w.alloc (.cells #[.int .i64 4, .int .u64 n0, .int .u64 n1, .int .u64 n2, .int .u64 n3, .slice (some ⟨b, qo, none⟩) 1 capn, .int .i64 0, .int .i64 (-1), .string txn] 32)).alloc (.cells #[.int .i64 0, .int .u64 0, .int .u64 0, .int .u64 0, .int .u64 0, .slice none 0 0, .int .i64 0, .int .i64 0, .string ⟨#[]⟩] 32)).alloc (.cells #[.int .i64 0, .int .u64 0, .int .u64 0, .int .u64 0, .int .u64 0, .slice none 0 0, .int .i64 0, .int .i64 0, .string ⟨#[]⟩] 32)) (.cells #[.int .i64 4, .int .u64 0, .int .u64 0, .int .u64 0, .int .u64 0, .slice (some ⟨b, qo, none⟩) 1 capn, .int .i64 0, .int .i64 (-1), .string ⟨#[]⟩] 32))
 have hxn2 := hid (kept_row hxn.out hbx.out)
 have hxr2 := hid (kept_row hxr.out hbx.out)
 obtain ⟨y0, y1, y2, y3, y4, y5, y6, y7, y8⟩ := c9 hxn2.out
 have hbB := below_of (bel_bel hbb.out hbx.out)
 obtain ⟨q0, q1, q2, q3, q4, q5, q6, q7, q8⟩ := nine_of fun q hq => (hbB.cell (p := ⟨b, qo + q, none⟩) hbl).trans (hcl.out q hq)
 have hbw := hid hbB.drew
 have hCat := hid (rep_cat (L9 := #[.int .i64 4, .int .u64 0, .int .u64 0, .int .u64 0, .int .u64 0, .slice (some ⟨b, qo, none⟩) 1 capn, .int .i64 0, .int .i64 (-1), .string ⟨#[]⟩]) hP.out hbB (by simp only [World.size_alloc]) (left_in hPN.out (by exact ⟨by decide, by decide⟩)) hLs.out hcat rfl)
 replace hxl := hid hxl
 clear hcl hbB
 go_enter Tryd.func28, Tryd.ntmps28
 replace hcat := hid hcat
 go_upto_region 34 with (fail)
 go_region_with (first | (go_at_call 28; (with_reducible refine (cK.out _ hbw.out).mono ?_); rintro e w1 ⟨tc, rfl, hts, hti, hb1⟩; have hbK := hid (bel_drew hb1); have hcA := hid (hCat.out tc w1 hts hti hb1); have hxl3 := hid (kept_row hxl.out hbK.out); obtain ⟨u0, u1, u2, u3, u4, u5, u6, u7, u8⟩ := c9 hxl3.out; have hxr3 := hid (kept_row hxr2.out hbK.out); replace hb1 := hid hb1; clear hts hti) | (go_at_call 45; (with_reducible refine hcA.out.mono ?_); rintro e w2 ⟨⟨kt, t0, t1, t2, t3, pt, capt, mnt, mxt, txt, kst⟩, rfl, hts, hti, hb2⟩; have hxr4 := hid (kept_row hxr3.out hb2); obtain ⟨e0, i0, e1, i1, e2, i2, e3, i3, e4, i4, e5, i5, e6, i6, e7, i7, e8, i8⟩ := d9 hxr4.out; simp only [T.cells] at hti hts ⊢; replace hb2 := hid hb2; replace hts := hid hts; replace hti := hid hti))
 all_goals
  generalize hW : World.setCell _ (⟨w.heap.size + 1, 8, none⟩ : Addr) _ = W at *
  obtain ⟨s1, s2, s3, s4⟩ := S7.set9 hxr4.out W hW.symm
  obtain ⟨r0, r1, r2, r3, r4, r5, r6, r7, r8⟩ := c9 s1
  replace s3 := hid s3
  have hz1 := hbK.out.size
  have hz2 := hb2.out.size
  simp only [World.size_alloc] at hz1
  have hbW := (below_of (bel_bel (bel_bel hbb.out hbx.out) (bel_bel hbK.out hb2.out))).trans (s4 w.heap.size (by omega))
  go_wp2
  refine bodyPost_ret (v := .agg #[.int .i64 kt, .int .u64 t0, .int .u64 t1, .int .u64 t2, .int .u64 t3, .slice pt kst.length capt, .int .i64 mnt, .int .i64 mxt, .string txt]) (by simp [results, Tryd.results28, go_sem, r0, r1, r2, r3, r4, r5, r6, r7, r8]) rfl ?_
  exact ⟨⟨kt, t0, t1, t2, t3, pt, capt, mnt, mxt, txt, kst⟩, rfl, hts.out, rep_in hP.out hti.out s3.out s2 (by omega) hz2 (by omega), hbW⟩
end Go.Proofs.YtobbifhflnlplaaDoor
