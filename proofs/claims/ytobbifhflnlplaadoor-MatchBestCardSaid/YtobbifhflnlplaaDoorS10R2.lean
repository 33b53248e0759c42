/- The reference's same. -/

import Derived.Test.YtobbifhflnlplaaDoorPG
import Derived.Test.YtobbifhflnlplaaDoorS7W8
namespace Go.Proofs.YtobbifhflnlplaaDoor
open Lib (hid)
open Go.RowKit
open Go.Tree7
open S7
open S5 (nl nl_length nl_small at_nl nl_at Gives idx idx_at ix ix_no ix_yes)
set_option maxRecDepth 100000 in
set_option maxHeartbeats 4000000 in
theorem same10_in {w0 : World} {B0 : Nat} (hn0 : B0 ≤ w0.heap.size) : ∀ a : T, T.In w0 B0 a → ∀ b : T, T.In w0 B0 b → ∀ w, Below B0 w0 w → Calls Tryd.prog 86 #[.agg a.cells.toArray, .agg b.cells.toArray] w fun e w' => e = .returned (.bool (sameD a b)) ∧ Below w.heap.size w w' := by
  refine T.ind fun ka a0 a1 a2 a3 pa capa mna mxa txa ksa ih => ?_
  intro hTa b hTb w hB0
  obtain ⟨kb, b0, b1, b2, b3, pb, capb, mnb, mxb, txb, ksb⟩ := b
  have hB0w : B0 ≤ w.heap.size := Nat.le_trans hn0 hB0.size
  have hla : ksa.length ≤ 9223372036854775807 := by cases hTa with | mk h1 h2 => unfold maxLen at h2; omega
  have hlb : ksb.length ≤ 9223372036854775807 := by cases hTb with | mk h1 h2 => unfold maxLen at h2; omega
  have hbb : Bel w ((w.alloc (.cells #[.int .i64 ka, .int .u64 a0, .int .u64 a1, .int .u64 a2, .int .u64 a3, .slice pa ksa.length capa, .int .i64 mna, .int .i64 mxa, .string txa] 32)).alloc (.cells #[.int .i64 kb, .int .u64 b0, .int .u64 b1, .int .u64 b2, .int .u64 b3, .slice pb ksb.length capb, .int .i64 mnb, .int .i64 mxb, .string txb] 32)) := Bel.alloc (Bel.new w _) _
  have hxa : ((w.alloc (.cells #[.int .i64 ka, .int .u64 a0, .int .u64 a1, .int .u64 a2, .int .u64 a3, .slice pa ksa.length capa, .int .i64 mna, .int .i64 mxa, .string txa] 32)).alloc (.cells #[.int .i64 kb, .int .u64 b0, .int .u64 b1, .int .u64 b2, .int .u64 b3, .slice pb ksb.length capb, .int .i64 mnb, .int .i64 mxb, .string txb] 32)).heap[w.heap.size]? = some (.cells #[.int .i64 ka, .int .u64 a0, .int .u64 a1, .int .u64 a2, .int .u64 a3, .slice pa ksa.length capa, .int .i64 mna, .int .i64 mxa, .string txa] 32 (0, 0)) := (Below.heap_alloc _ _ _ (by simp)).trans (World.alloc_heap_new _ _)
  have hxb : ((w.alloc (.cells #[.int .i64 ka, .int .u64 a0, .int .u64 a1, .int .u64 a2, .int .u64 a3, .slice pa ksa.length capa, .int .i64 mna, .int .i64 mxa, .string txa] 32)).alloc (.cells #[.int .i64 kb, .int .u64 b0, .int .u64 b1, .int .u64 b2, .int .u64 b3, .slice pb ksb.length capb, .int .i64 mnb, .int .i64 mxb, .string txb] 32)).heap[w.heap.size + 1]? = some (.cells #[.int .i64 kb, .int .u64 b0, .int .u64 b1, .int .u64 b2, .int .u64 b3, .slice pb ksb.length capb, .int .i64 mnb, .int .i64 mxb, .string txb] 32 (0, 0)) := by have := World.alloc_heap_new (w.alloc (.cells #[.int .i64 ka, .int .u64 a0, .int .u64 a1, .int .u64 a2, .int .u64 a3, .slice pa ksa.length capa, .int .i64 mna, .int .i64 mxa, .string txa] 32)) (.cells #[.int .i64 kb, .int .u64 b0, .int .u64 b1, .int .u64 b2, .int .u64 b3, .slice pb ksb.length capb, .int .i64 mnb, .int .i64 mxb, .string txb] 32); rw [World.size_alloc] at this; exact this
  rw [sameD_mk]
  obtain ⟨E1, h1⟩ : ∃ E, (ka == kb) = E := ⟨_, rfl⟩
  obtain ⟨E2, h2⟩ : ∃ E, (a0 == b0 && a1 == b1 && a2 == b2 && a3 == b3) = E := ⟨_, rfl⟩
  obtain ⟨E3, h3⟩ : ∃ E, (mna == mnb) = E := ⟨_, rfl⟩
  obtain ⟨E4, h4⟩ : ∃ E, (mxa == mxb) = E := ⟨_, rfl⟩
  obtain ⟨E5, h5⟩ : ∃ E, (ksa.length == ksb.length) = E := ⟨_, rfl⟩
  have e0 : (ka == kb && a0 == b0 && a1 == b1 && a2 == b2 && a3 == b3 && mna == mnb && mxa == mxb && ksa.length == ksb.length) = (E1 && E2 && E3 && E4 && E5) := by rw [← h1, ← h2, ← h3, ← h4, ← h5]; simp only [Bool.and_assoc]
  rw [e0]
  have g1 : (ka != kb) = !E1 := by rw [← h1]; rfl
  have g2 := fun w => eqW4 a0 a1 a2 a3 b0 b1 b2 b3 w
  rw [h2] at g2
  have g3 : (mna != mnb) = !E3 := by rw [← h3]; rfl
  have g4 : (mxa != mxb) = !E4 := by rw [← h4]; rfl
  have g5 : ((ksa.length : Int) != ksb.length) = !E5 := by
    rw [← h5, Bool.eq_iff_iff]
    simp
    omega
  replace h5 := hid h5
  clear h1 h2 h3 h4 e0
  simp only [T.cells]
  obtain ⟨y0, y1, y2, y3, y4, y5, y6, y7, y8⟩ := c9 hxa
  obtain ⟨z0, z1, z2, z3, z4, z5, z6, z7, z8⟩ := c9 hxb
  have hb0 := hid hbb
  replace hxa := hid hxa
  replace hxb := hid hxb
  replace ih := hid ih
  replace hTa := hid hTa
  replace hTb := hid hTb
  replace hB0 := hid hB0
  clear hbb
  cases E1
  · go_enter Tryd.func86, Tryd.ntmps86
    go_wp2
    go_ret
    exact ⟨ret_bool (by simp), hb0.out⟩
  cases E2
  · go_enter Tryd.func86, Tryd.ntmps86
    go_wp2
    go_ret
    exact ⟨ret_bool (by simp), hb0.out⟩
  cases E3
  · go_enter Tryd.func86, Tryd.ntmps86
    go_wp2
    go_ret
    exact ⟨ret_bool (by simp), hb0.out⟩
  cases E4
  · go_enter Tryd.func86, Tryd.ntmps86
    go_wp2
    go_ret
    exact ⟨ret_bool (by simp), hb0.out⟩
  cases E5
  · go_enter Tryd.func86, Tryd.ntmps86
    go_wp2
    go_ret
    exact ⟨ret_bool (by simp), hb0.out⟩
  have hlen : ksa.length = ksb.length := by simpa using h5.out
  have hend : Hid ((∀ i (h1 : i < ksa.length) (h2 : i < ksb.length), sameD ksa[i] ksb[i] = true) → (true && (ksa.zip ksb).all fun x => sameD x.1 x.2) = true) := hid fun h => by
    rw [Bool.true_and, List.all_eq_true]
    intro x hx
    obtain ⟨i, hi, rfl⟩ := List.getElem_of_mem hx
    rw [List.getElem_zip]
    rw [List.length_zip] at hi
    exact h i (by omega) (by omega)
  have hno : Hid (∀ i (h1 : i < ksa.length) (h2 : i < ksb.length), sameD ksa[i] ksb[i] = false → (true && (ksa.zip ksb).all fun x => sameD x.1 x.2) = false) := hid fun i h1 h2 h => by
    cases e : (true && (ksa.zip ksb).all fun x => sameD x.1 x.2) with
    | false => rfl
    | true =>
      rw [Bool.true_and, List.all_eq_true] at e
      have hi : i < (ksa.zip ksb).length := by rw [List.length_zip]; omega
      have := e _ (List.getElem_mem hi)
      rw [List.getElem_zip] at this
      exact absurd (this.symm.trans h) (by decide)
  simp only [Bool.and_self] at hend hno ⊢
  generalize (true && (ksa.zip ksb).all fun x => sameD x.1 x.2) = Z at *
  replace hlen := hid hlen
  go_enter Tryd.func86, Tryd.ntmps86
  go_wp2
  go_loopw [44] (fun i wr => ∃ j : Nat, j ≤ ksa.length ∧ i = .int .i64 j ∧ Hid (Bel ((w.alloc (.cells #[.int .i64 ka, .int .u64 a0, .int .u64 a1, .int .u64 a2, .int .u64 a3, .slice pa ksa.length capa, .int .i64 mna, .int .i64 mxa, .string txa] 32)).alloc (.cells #[.int .i64 kb, .int .u64 b0, .int .u64 b1, .int .u64 b2, .int .u64 b3, .slice pb ksb.length capb, .int .i64 mnb, .int .i64 mxb, .string txb] 32)) wr) ∧ Hid (∀ i (h1 : i < ksa.length) (h2 : i < ksb.length), i < j → sameD ksa[i] ksb[i] = true)) (fun i _ => ksa.length - (intOf i).toNat)
  case atStart => exact ⟨0, Nat.zero_le _, rfl, hid (Bel.refl _), hid fun i h1 h2 h3 => by omega⟩
  case round =>
    clear y0 z0 y1 z1 y2 z2 y3 z3 y4 z4 y5 z5 y6 z6 y7 z7 y8 z8
    obtain ⟨j, hj, rfl, hB, hso⟩ := hrel
    by_cases hlt : j < ksa.length
    · have hjb : j < ksb.length := by have := hlen.out; omega
      obtain ⟨ba, oa, hka, hpa, hba, hca⟩ := T.kid hTa.out hlt
      obtain ⟨bb, ob, hkb, hpb, hbb, hcb⟩ := T.kid hTb.out hjb
      have hww : Below B0 w0 wr := hB0.out.trans ((bel_bel hb0.out hB.out : Below _ w wr).mono hB0w)
      have hcla : ∀ q, q < 9 → wr.cell? ⟨ba, oa + j * 9 + q, none⟩ = (ksa[j].cells)[q]? := fun q hq => by
        rw [← hca q hq]
        exact hww.cell (p := ⟨ba, oa + j * 9 + q, none⟩) hba
      have hclb : ∀ q, q < 9 → wr.cell? ⟨bb, ob + j * 9 + q, none⟩ = (ksb[j].cells)[q]? := fun q hq => by
        rw [← hcb q hq]
        exact hww.cell (p := ⟨bb, ob + j * 9 + q, none⟩) hbb
      have cK := ih.out ksa[j] (List.getElem_mem hlt) hka ksb[j] hkb wr.drew hww.drew
      have hyes : Hid (sameD ksa[j] ksb[j] = true → ∀ i (h1 : i < ksa.length) (h2 : i < ksb.length), i < j + 1 → sameD ksa[i] ksb[i] = true) := hid fun h i h1 h2 h3 => by
        by_cases e : i = j
        · subst e; exact h
        · exact hso.out i h1 h2 (by omega)
      have hno2 := hid (hno.out j hlt hjb)
      obtain ⟨y0, y1, y2, y3, y4, y5, y6, y7, y8⟩ := c9 (kept_row hxa.out hB.out)
      obtain ⟨z0, z1, z2, z3, z4, z5, z6, z7, z8⟩ := c9 (kept_row hxb.out hB.out)
      clear hka hkb hca hcb hww
      generalize ksa[j] = xa at *
      generalize ksb[j] = xb at *
      obtain ⟨R, hR⟩ : ∃ R, sameD xa xb = R := ⟨_, rfl⟩
      rw [hR] at cK hyes hno2
      clear hR
      obtain ⟨kc, c0, c1, c2, c3, pc, capc, mnc, mxc, txc, ksc⟩ := xa
      obtain ⟨kd, d0, d1, d2, d3, pd, capd, mnd, mxd, txd, ksd⟩ := xb
      simp only [T.cells] at hcla hclb cK
      obtain ⟨qa0, qa1, qa2, qa3, qa4, qa5, qa6, qa7, qa8⟩ := nine_of hcla
      obtain ⟨qb0, qb1, qb2, qb3, qb4, qb5, qb6, qb7, qb8⟩ := nine_of hclb
      subst hpa hpb
      clear hcla hclb
      replace cK := hid cK
      cases R
      · go_upto_region 6 with (fail)
        go_region_with (go_at_call 86; (with_reducible refine cK.out.mono ?_); rintro e w2 ⟨rfl, hb2⟩; replace hb2 := hid hb2)
        all_goals
         go_wp2
         go_ret
         exact ⟨ret_bool (hno2.out (by first | rfl | trivial)).symm, bel_bel hb0.out (bel_bel hB.out (show Bel wr w2 from Bel.step (Below.refl _ _).drew hb2.out))⟩
      · go_upto_region 6 with (fail)
        go_region_with (go_at_call 86; (with_reducible refine cK.out.mono ?_); rintro e w2 ⟨rfl, hb2⟩; replace hb2 := hid hb2)
        all_goals
         go_wp2
         go_roundw
         case rel => exact ⟨j + 1, by omega, by go_num, hid (bel_bel hB.out (show Bel wr w2 from Bel.step (Below.refl _ _).drew hb2.out)), hid (hyes.out (by first | rfl | trivial))⟩
         case measure => simp [intOf]; omega
    · have hall := hend.out fun i h1 h2 => hso.out i h1 h2 (by omega)
      go_wp2
      go_ret
      exact ⟨ret_bool hall.symm, bel_bel hb0.out hB.out⟩
end Go.Proofs.YtobbifhflnlplaaDoor
