/- The reference's alt. -/

import Derived.Test.YtobbifhflnlplaaDoorRA
namespace Go.Proofs.YtobbifhflnlplaaDoor
open Lib (hid)
open Go.RowKit
open Go.Tree7
open S7
open S5 (nl nl_length nl_small at_nl nl_at Gives idx idx_at ix ix_no ix_yes)
theorem own_far {v v1 : Value} {n : Nat} (h : v1.ownBlock = v.ownBlock ∨ ∃ g, v1.ownBlock = some g ∧ n ≤ g) {k : Nat} (hk : v1.ownBlock = some k) (hv : v.ownBlock = none := by rfl) : n ≤ k := by
  rcases h with h | ⟨g, hg, hl⟩
  · rw [h, hv] at hk; cases hk
  · rw [hg] at hk; cases hk; exact hl
theorem own_far2 {v v1 v2 : Value} {n m : Nat} (h : v1.ownBlock = v.ownBlock ∨ ∃ g, v1.ownBlock = some g ∧ n ≤ g) (h2 : v2.ownBlock = v1.ownBlock ∨ ∃ g, v2.ownBlock = some g ∧ m ≤ g) (hm : n ≤ m) {k : Nat} (hk : v2.ownBlock = some k) (hv : v.ownBlock = none := by rfl) : n ≤ k := by
  rcases h2 with h2 | ⟨g, hg, hl⟩
  · exact own_far h (h2 ▸ hk) hv
  · rw [hg] at hk; cases hk; omega
set_option maxRecDepth 100000 in
set_option maxHeartbeats 4000000 in
theorem alt10_in {w : World} {a b : T} {P : Nat → Prop} (hP : ∀ b, P b → b < w.heap.size) (hPA : T.InP w P a) (hPB : T.InP w P b) (hlen : (brD b.strip (brD a.strip [])).length ≤ 805306376000) : Calls Tryd.prog 44 #[.agg a.cells.toArray, .agg b.cells.toArray] w (GivesP P w (altD a.strip b.strip)) := by
  have hA := hPA.toIn hP
  have hB := hPB.toIn hP
  rw [← alt_strip]
  have hlen : (brD b (brD a [])).length ≤ 805306376000 := by
    have e : brD a.strip [] = (brD a []).map T.strip := (br_strip a []).symm
    rw [e, ← br_strip, List.length_map] at hlen
    exact hlen
  have hn := Nat.le_refl w.heap.size
  have hbb : Bel w (((w.alloc (.cells a.cells.toArray 32)).alloc (.cells b.cells.toArray 32)).alloc (.cells #[.int .i64 0, .int .u64 0, .int .u64 0, .int .u64 0, .int .u64 0, .slice none 0 0, .int .i64 0, .int .i64 0, .string ⟨#[]⟩] 32)) := Bel.alloc (Bel.alloc (Bel.new w _) _) _
  have hxa : (((w.alloc (.cells a.cells.toArray 32)).alloc (.cells b.cells.toArray 32)).alloc (.cells #[.int .i64 0, .int .u64 0, .int .u64 0, .int .u64 0, .int .u64 0, .slice none 0 0, .int .i64 0, .int .i64 0, .string ⟨#[]⟩] 32)).heap[w.heap.size]? = some (.cells a.cells.toArray 32 (0, 0)) := (Below.heap_alloc _ _ _ (by simp; omega)).trans ((Below.heap_alloc _ _ _ (by simp)).trans (World.alloc_heap_new _ _))
  have hxb : (((w.alloc (.cells a.cells.toArray 32)).alloc (.cells b.cells.toArray 32)).alloc (.cells #[.int .i64 0, .int .u64 0, .int .u64 0, .int .u64 0, .int .u64 0, .slice none 0 0, .int .i64 0, .int .i64 0, .string ⟨#[]⟩] 32)).heap[w.heap.size + 1]? = some (.cells b.cells.toArray 32 (0, 0)) := (Below.heap_alloc _ _ _ (by simp)).trans (by have := World.alloc_heap_new (w.alloc (.cells a.cells.toArray 32)) (.cells b.cells.toArray 32); rw [World.size_alloc] at this; exact this)
  have hxr : (((w.alloc (.cells a.cells.toArray 32)).alloc (.cells b.cells.toArray 32)).alloc (.cells #[.int .i64 0, .int .u64 0, .int .u64 0, .int .u64 0, .int .u64 0, .slice none 0 0, .int .i64 0, .int .i64 0, .string ⟨#[]⟩] 32)).heap[w.heap.size + 1 + 1]? = some (.cells #[.int .i64 0, .int .u64 0, .int .u64 0, .int .u64 0, .int .u64 0, .slice none 0 0, .int .i64 0, .int .i64 0, .string ⟨#[]⟩] 32 (0, 0)) := by have := World.alloc_heap_new ((w.alloc (.cells a.cells.toArray 32)).alloc (.cells b.cells.toArray 32)) (.cells #[.int .i64 0, .int .u64 0, .int .u64 0, .int .u64 0, .int .u64 0, .slice none 0 0, .int .i64 0, .int .i64 0, .string ⟨#[]⟩] 32); rw [World.size_alloc, World.size_alloc] at this; exact this
  have h1 := br_in hn a hA [] (.slice none 0 0) (((w.alloc (.cells a.cells.toArray 32)).alloc (.cells b.cells.toArray 32)).alloc (.cells #[.int .i64 0, .int .u64 0, .int .u64 0, .int .u64 0, .int .u64 0, .slice none 0 0, .int .i64 0, .int .i64 0, .string ⟨#[]⟩] 32)).drew (by simp) (LstR.nil _ _) (Bel.drew hbb) (Nat.le_trans (br_len b _) hlen)
  have h2 := fun v w1 (hv : LstR w1 w.heap.size v (brD a [])) (hb : Below w.heap.size w w1) => br_in hn b hB (brD a []) v w1 (br_inn a hA [] (by simp)) hv hb hlen
  have hi := br_inP b hPB _ (br_inP a hPA [] (by simp))
  have hD : altD a b = altOf (brD b (brD a [])) := rfl
  rw [hD]
  generalize brD b (brD a []) = L at *
  generalize brD a [] = L1 at *
  clear hD
  obtain ⟨ka, a0, a1, a2, a3, pa, capa, mna, mxa, txa, ksa⟩ := a
  obtain ⟨kb, b0, b1, b2, b3, pb, capb, mnb, mxb, txb, ksb⟩ := b
  simp only [T.cells] at h1 h2 hbb hxa hxb hxr ⊢
  obtain ⟨y0, y1, y2, y3, y4, y5, y6, y7, y8⟩ := c9 hxa
  obtain ⟨z0, z1, z2, z3, z4, z5, z6, z7, z8⟩ := c9 hxb
  have hb0 := hid hbb
  replace hxb := hid hxb
  replace hxr := hid hxr
  replace h1 := hid h1
  replace h2 := hid h2
  replace hi := hid hi
  clear hA hB hPA hPB hxa hbb
  go_enter Tryd.func44, Tryd.ntmps44
  go_upto_region 1 with (fail)
  go_region_with (go_at_call 66; first | ((with_reducible refine h1.out.mono ?_); rintro e w1 ⟨v1, rfl, hL1, hf1, ho1⟩; replace hL1 := hid hL1; replace ho1 := hid ho1; have hb1 := hid (show Bel (((w.alloc (.cells #[.int .i64 ka, .int .u64 a0, .int .u64 a1, .int .u64 a2, .int .u64 a3, .slice pa ksa.length capa, .int .i64 mna, .int .i64 mxa, .string txa] 32)).alloc (.cells #[.int .i64 kb, .int .u64 b0, .int .u64 b1, .int .u64 b2, .int .u64 b3, .slice pb ksb.length capb, .int .i64 mnb, .int .i64 mxb, .string txb] 32)).alloc (.cells #[.int .i64 0, .int .u64 0, .int .u64 0, .int .u64 0, .int .u64 0, .slice none 0 0, .int .i64 0, .int .i64 0, .string ⟨#[]⟩] 32)) w1 from Bel.step (Below.refl _ _).drew (Fr.below hf1 (Nat.le_refl _) (fun k hk => by cases hk))); clear hf1; obtain ⟨z0, z1, z2, z3, z4, z5, z6, z7, z8⟩ := c9 (kept_row hxb.out hb1.out); have hb3 := hid (show Below w.heap.size w w1 from bel_bel hb0.out hb1.out)) | (((with_reducible refine (h2.out v1 w1 hL1.out hb3.out).mono ?_); rintro e w2 ⟨v2, rfl, hL2, hf2, ho2⟩; replace hL2 := hid hL2; have hown := hid (fun g (hg : v2.ownBlock = some g) => own_far2 ho1.out ho2 hb1.out.size hg); have hb2 := hid (show Bel (((w.alloc (.cells #[.int .i64 ka, .int .u64 a0, .int .u64 a1, .int .u64 a2, .int .u64 a3, .slice pa ksa.length capa, .int .i64 mna, .int .i64 mxa, .string txa] 32)).alloc (.cells #[.int .i64 kb, .int .u64 b0, .int .u64 b1, .int .u64 b2, .int .u64 b3, .slice pb ksb.length capb, .int .i64 mnb, .int .i64 mxb, .string txb] 32)).alloc (.cells #[.int .i64 0, .int .u64 0, .int .u64 0, .int .u64 0, .int .u64 0, .slice none 0 0, .int .i64 0, .int .i64 0, .string ⟨#[]⟩] 32)) w2 from Below.trans hb1.out (Fr.below hf2 (Below.size hb1.out) (fun k hk => own_far ho1.out hk))))))
  all_goals
   have hlf : ∃ p2 cap2, v2 = .slice p2 L.length cap2 ∧ L.length ≤ cap2 ∧ cap2 ≤ 9223372036854775807 := by
     rcases hL2.out.form with ⟨rfl, rfl⟩ | ⟨g, cap, rfl, -, -, h1, h2⟩
     · exact ⟨none, 0, rfl, Nat.le_refl _, by decide⟩
     · exact ⟨_, cap, rfl, h1, by unfold maxLen at h2; omega⟩
   obtain ⟨p2, cap2, rfl, hl2, hc2⟩ := hlf
   have hxr2 := hid (kept_row hxr.out hb2.out)
   clear hb1 hb3 ho1 hL1 h1 h2 hxb hxr y0 y1 y2 y3 y4 y5 y6 y7 y8
   obtain ⟨y0, f0, y1, f1, y2, f2, y3, f3, y4, f4, y5, f5, y6, f6, y7, f7, y8, f8⟩ := d9 hxr2.out
   have hbw := hid (show Bel w w2 from bel_bel hb0.out hb2.out)
   by_cases e0 : L.length = 0
   · obtain rfl := List.eq_nil_of_length_eq_zero e0
     have g0 : (((0 : Nat) : Int) == 0) = true := rfl
     simp only [List.length_nil]
     clear hb0 hb2 e0
     go_wp2
     generalize hW : World.setCell _ (⟨w.heap.size + 1 + 1, 8, none⟩ : Addr) _ = W at *
     obtain ⟨s1, s2, s3, s4⟩ := S7.set9 hxr2.out W hW.symm
     obtain ⟨r0, r1, r2, r3, r4, r5, r6, r7, r8⟩ := c9 s1
     refine bodyPost_ret (v := .agg #[.int .i64 0, .int .u64 0, .int .u64 0, .int .u64 0, .int .u64 0, .slice none 0 0, .int .i64 0, .int .i64 0, .string ⟨#[]⟩]) (by simp [results, Tryd.results44, go_sem, r0, r1, r2, r3, r4, r5, r6, r7, r8]) rfl ?_
     exact ⟨noneT, rfl, rfl, none_in _ _, (show Below w.heap.size w w2 from hbw.out).trans (s4 _ (by omega))⟩
   · have g0 : ((L.length : Int) == 0) = false := by rw [beq_eq_false_iff_ne]; omega
     by_cases e1 : L.length = 1
     · obtain ⟨x, rfl⟩ : ∃ x, L = [x] := by
         match L, e1 with
         | [x], _ => exact ⟨x, rfl⟩
       have hcl : ∃ g, p2 = some ⟨g, 0, none⟩ ∧ ∀ q, q < 9 → w2.cell? ⟨g, q, none⟩ = (x.cells)[q]? := by
         rcases hL2.out.form with ⟨-, e⟩ | ⟨g, cp, e, hBg, hgw, hc1, hc2⟩
         · cases e
         · simp only [Value.slice.injEq, true_and] at e
           obtain ⟨rfl, rfl⟩ := e
           refine ⟨g, rfl, fun q hq => ?_⟩
           have := hL2.out.cell 0 (by simp) q hq
           simpa using this
       obtain ⟨g, rfl, hcl⟩ := hcl
       have hxin2 : Hid (∀ W, Below w.heap.size w W → T.InP W (fun b => P b ∨ (w.heap.size ≤ b ∧ b < W.heap.size)) x) := hid fun W hb => inp_later (hi.out x (by simp)) hP hb
       clear hb0 hb2 e0 e1 hL2 hi hlen
       obtain ⟨kc, c0, c1, c2, c3, pc, capc, mnc, mxc, txc, ksc⟩ := x
       simp only [T.cells] at hcl
       simp only [List.length_cons, List.length_nil] at g0 hl2 ⊢
       obtain ⟨q0, q1, q2, q3, q4, q5, q6, q7, q8⟩ := nine_of0 hcl
       clear hcl
       go_wp2
       generalize hW : World.setCell _ (⟨w.heap.size + 1 + 1, 8, none⟩ : Addr) _ = W at *
       obtain ⟨s1, s2, s3, s4⟩ := S7.set9 hxr2.out W hW.symm
       obtain ⟨r0, r1, r2, r3, r4, r5, r6, r7, r8⟩ := c9 s1
       refine bodyPost_ret (v := .agg #[.int .i64 kc, .int .u64 c0, .int .u64 c1, .int .u64 c2, .int .u64 c3, .slice pc ksc.length capc, .int .i64 mnc, .int .i64 mxc, .string txc]) (by simp [results, Tryd.results44, go_sem, r0, r1, r2, r3, r4, r5, r6, r7, r8]) rfl ?_
       exact ⟨.mk kc c0 c1 c2 c3 pc capc mnc mxc txc ksc, rfl, rfl, hxin2.out W ((show Below w.heap.size w w2 from hbw.out).trans (s4 w.heap.size (by omega))), (show Below w.heap.size w w2 from hbw.out).trans (s4 _ (by omega))⟩
     · have g1 : ((L.length : Int) == 1) = false := by rw [beq_eq_false_iff_ne]; omega
       have hal : Hid (altOf L = nodeT 3 L) := hid (by
         match L, e0, e1 with
         | [], h, _ => simp at h
         | [x], _, h => simp at h
         | x :: y :: l, _, _ => rfl)
       have hxin2 : Hid (∀ W, Below w.heap.size w W → ∀ x ∈ L, T.InP W (fun b => P b ∨ (w.heap.size ≤ b ∧ b < W.heap.size)) x) := hid fun W hb x hx => inp_later (hi.out x hx) hP hb
       have hnb : Hid (∀ g, (Value.slice p2 L.length cap2).ownBlock = some g → g ≠ w.heap.size + 1 + 1) := hid fun g hg e => by
         have h2 : (((w.alloc (.cells #[.int .i64 ka, .int .u64 a0, .int .u64 a1, .int .u64 a2, .int .u64 a3, .slice pa ksa.length capa, .int .i64 mna, .int .i64 mxa, .string txa] 32)).alloc (.cells #[.int .i64 kb, .int .u64 b0, .int .u64 b1, .int .u64 b2, .int .u64 b3, .slice pb ksb.length capb, .int .i64 mnb, .int .i64 mxb, .string txb] 32)).alloc (.cells #[.int .i64 0, .int .u64 0, .int .u64 0, .int .u64 0, .int .u64 0, .slice none 0 0, .int .i64 0, .int .i64 0, .string ⟨#[]⟩] 32)).heap.size ≤ g := hown.out g hg
         simp only [World.size_alloc] at h2
         omega
       clear hb0 hb2 e0 e1 hi hlen hown
       go_wp2
       generalize hW : World.setCell _ (⟨w.heap.size + 1 + 1, 8, none⟩ : Addr) _ = W at *
       obtain ⟨s1, s2, s3, s4⟩ := S7.set9 hxr2.out W hW.symm
       obtain ⟨r0, r1, r2, r3, r4, r5, r6, r7, r8⟩ := c9 s1
       refine bodyPost_ret (v := .agg #[.int .i64 3, .int .u64 0, .int .u64 0, .int .u64 0, .int .u64 0, .slice p2 L.length cap2, .int .i64 0, .int .i64 0, .string ⟨#[]⟩]) (by simp [results, Tryd.results44, go_sem, r0, r1, r2, r3, r4, r5, r6, r7, r8]) rfl ?_
       rw [hal.out]
       refine ⟨.mk 3 0 0 0 0 p2 cap2 0 0 ⟨#[]⟩ L, rfl, by rw [T.strip_mk, T.strip_mk], built_in (hL2.out.keep fun g hg hl => s3 g (hnb.out g hg)) (hxin2.out W ((show Below w.heap.size w w2 from hbw.out).trans (s4 w.heap.size (by omega)))) (fun g hg => .inr ⟨(hL2.out.lt hg).1, s2 ▸ (hL2.out.lt hg).2⟩) (by decide), (show Below w.heap.size w w2 from hbw.out).trans (s4 _ (by omega))⟩
end Go.Proofs.YtobbifhflnlplaaDoor
