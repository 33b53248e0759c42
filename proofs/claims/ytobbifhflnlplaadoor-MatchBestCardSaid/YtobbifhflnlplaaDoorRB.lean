/- Texts merged: S10R7a, S10R7, S10R8. -/
import Derived.Deep.Upon
import Derived.Test.YtobbifhflnlplaaDoorS10R6
namespace Go.Proofs.YtobbifhflnlplaaDoor
open Lib (hid)
open Go.RowKit
open Go.Tree7
open S7
open S5 (nl nl_length nl_small at_nl nl_at Gives idx idx_at ix ix_no ix_yes)
def RowAt (w : World) (p : Option Addr) (l : List T) : Prop := ∀ i (_ : i < l.length), ∃ ad, p = some ad ∧ ad.block < w.heap.size ∧ ∀ j, j < 9 → w.cell? (ad.add (i * 9 + j)) = (l[i].cells)[j]?
theorem RowAt.keep {w w' : World} {p : Option Addr} {l : List T} (h : RowAt w p l) (hb : Bel w w') : RowAt w' p l := fun i hi => by
 obtain ⟨ad, e, hl, hc⟩ := h i hi
 refine ⟨ad, e, Nat.lt_of_lt_of_le hl hb.size, fun j hj => ?_⟩
 rw [← hc j hj]
 exact Below.cell hb (p := ad.add (i * 9 + j)) (by unfold Addr.add; split <;> exact hl)
theorem row_cells {w : World} {ad : Addr} {l : List T} (h : RowAt w (some ad) l) (j : Nat) (u : Value) (hu : (l.flatMap T.cells)[j]? = some u) : w.cell? (ad.add j) = some u := by
 have hl : (l.flatMap T.cells).length = l.length * 9 := by
  clear hu h
  induction l with
  | nil => rfl
  | cons x xs ih => rw [List.flatMap_cons, List.length_append, ih, T.cells_length, List.length_cons]; omega
 have hj : j < l.length * 9 := by rw [← hl]; exact (List.getElem?_eq_some_iff.1 hu).1
 have hi : j / 9 < l.length := by omega
 obtain ⟨ad', e, -, hc⟩ := h (j / 9) hi
 cases e
 have h9 := hc (j % 9) (Nat.mod_lt _ (by decide))
 have hf := flat9 l (j / 9) (j % 9) hi (Nat.mod_lt _ (by decide))
 have ej : j / 9 * 9 + j % 9 = j := by omega
 rw [ej] at h9 hf
 rw [h9, ← hf, hu]
theorem flat_len (l : List T) : (l.flatMap T.cells).length = l.length * 9 := by
 induction l with
 | nil => rfl
 | cons x xs ih => rw [List.flatMap_cons, List.length_append, ih, T.cells_length, List.length_cons]; omega
theorem run_append_rows {w : World} {ops : Array Oper} {o : Oper} {a : Act} {K : Act → World → Prop} {Q : Exit → Act → World → Prop} {E : Prop} (hgd : o.guard = none) (s x : Operand)
  (ho : o.op = .call { callee := .builtin .append, args := #[s, x], argTypes := #[30, 30] })
  (base : Nat) (v : Value) (L1 : List T) (hs : a.eval s = v) (hown : LstR w base v L1)
  (p : Option Addr) (c : Nat) (l : List T) (hx : a.eval x = .slice p l.length c) (hlc : l.length ≤ c) (hrow : RowAt w p l)
  (hlen : L1.length + l.length ≤ 1466015503701) (hbase : base ≤ w.heap.size)
  (h : ∀ v' w', LstR w' base v' (L1 ++ l) → w.grownBy w' v.ownBlock → (v'.ownBlock = v.ownBlock ∨ v'.ownBlock = some w.heap.size) → K (a.put o.dst v') w') :
  if Region.wanted o (yielded ops a.tmps) = true then Oper.wp Tryd.prog o a w K Q else E := by
 obtain ⟨i0, hi, hz0, hz1, hz2⟩ := info_parts infoRN
 cases l with
 | nil =>
  rw [if_pos (by simp [Region.wanted, hgd])]
  obtain ⟨p1, c1, rfl, hc1⟩ : ∃ p1 c1, v = .slice p1 L1.length c1 ∧ L1.length ≤ c1 := by
   rcases hown.form with ⟨rfl, rfl⟩ | ⟨g, cap, rfl, -, -, h1, -⟩
   ·exact ⟨none, 0, rfl, Nat.le_refl _⟩
   ·exact ⟨_, cap, rfl, h1⟩
  have hsrc : Go.Src Tryd.prog i0.size 30 (.slice p 0 c) 0 [] w := by
   cases p with
   | none => exact Go.Src.ofNil _ Tryd.underlying30 c
   | some ad => exact Go.Src.ofSlice _ Tryd.underlying30 ad 0 c [] (by simp) (by simp) (by simp)
  have hrun := run_append_nothing (P := Tryd.prog) w 30 30 o.type 32 i0 Tryd.underlying30 hi p1 L1.length c1 hc1 (.slice p 0 c) hsrc
  unfold Oper.wp
  simp only [List.length_nil] at hx
  simp [execOp, ho, resolve, invoke, builtin, hs, hx, hrun, Result.andThen]
  exact h _ w (by simpa using hown) (World.grownBy.refl w _) (.inl rfl)
 | cons y ys =>
  obtain ⟨ad, rfl, -, -⟩ := hrow 0 (by simp)
  exact step_append_own_at hgd s x 30 ho base 32 i0 (.agg #[.int .i64 0, .int .u64 0, .int .u64 0, .int .u64 0, .int .u64 0, .slice none 0 0, .int .i64 0, .int .i64 0, .string ⟨#[]⟩]) 9 96 Tryd.underlying30 hi hz0 hz1 hz2 rfl (by decide) v L1.length (L1.flatMap T.cells) hs hown ad (y :: ys).length c ((y :: ys).flatMap T.cells) hx (flat_len _) (fun j u hu => row_cells hrow j u hu) (fun u hu => by
   obtain ⟨t, -, ht⟩ := List.mem_flatMap.1 hu
   exact cells_one' t u ht) (by simp only [maxLen]; omega) (by omega) hbase fun v' w' h1 h2 h3 => h v' w' (by unfold LstR; rw [List.flatMap_append, List.length_append]; exact h1) h2 h3
end Go.Proofs.YtobbifhflnlplaaDoor
namespace Go.Proofs.YtobbifhflnlplaaDoor
open Lib (hid)
open Go.RowKit
open Go.Tree7
open S7
open S5 (nl nl_length nl_small at_nl nl_at Gives idx idx_at ix ix_no ix_yes)
set_option maxRecDepth 100000 in
set_option maxHeartbeats 4000000 in
theorem cat_none {w : World} {a b : T} {P : Nat → Prop} (hk : kindT a = 0 ∨ kindT b = 0) : Calls Tryd.prog 45 #[.agg a.cells.toArray, .agg b.cells.toArray] w (GivesP P w noneT) := by
 obtain ⟨hbb, hxa, hxb, hxr⟩ := box3 w a.cells.toArray b.cells.toArray #[.int .i64 0, .int .u64 0, .int .u64 0, .int .u64 0, .int .u64 0, .slice none 0 0, .int .i64 0, .int .i64 0, .string ⟨#[]⟩] 32
 obtain ⟨ka, a0, a1, a2, a3, pa, capa, mna, mxa, txa, ksa⟩ := a
 obtain ⟨kb, b0, b1, b2, b3, pb, capb, mnb, mxb, txb, ksb⟩ := b
 have hk : ka = 0 ∨ kb = 0 := hk
 simp only [T.cells] at hbb hxa hxb hxr ⊢
 obtain ⟨y0, y1, y2, y3, y4, y5, y6, y7, y8⟩ := c9 hxa
 obtain ⟨z0, z1, z2, z3, z4, z5, z6, z7, z8⟩ := c9 hxb
 obtain ⟨x0, f0, x1, f1, x2, f2, x3, f3, x4, f4, x5, f5, x6, f6, x7, f7, x8, f8⟩ := d9 hxr
 have hxr2 := hid hxr
 have hbw := hid hbb
 clear hxa hxb hxr hbb
 by_cases h0 : ka = 0
 ·have g0 : (ka == 0) = true := by rw [beq_iff_eq]; exact h0
  clear h0 hk
  go_enter Tryd.func45, Tryd.ntmps45
  go_wp2
  refine bodyPost_ret (v := .agg #[.int .i64 0, .int .u64 0, .int .u64 0, .int .u64 0, .int .u64 0, .slice none 0 0, .int .i64 0, .int .i64 0, .string ⟨#[]⟩]) (by simp [results, Tryd.results45, go_sem, x0, x1, x2, x3, x4, x5, x6, x7, x8]) rfl ?_
  exact ⟨noneT, rfl, none_strip, none_in _ _, hbw.out⟩
 ·have g0 : (ka == 0) = false := by rw [beq_eq_false_iff_ne]; exact h0
  have g1 : (kb == 0) = true := by rw [beq_iff_eq]; exact hk.resolve_left h0
  clear h0 hk
  go_enter Tryd.func45, Tryd.ntmps45
  go_wp2
  refine bodyPost_ret (v := .agg #[.int .i64 0, .int .u64 0, .int .u64 0, .int .u64 0, .int .u64 0, .slice none 0 0, .int .i64 0, .int .i64 0, .string ⟨#[]⟩]) (by simp [results, Tryd.results45, go_sem, x0, x1, x2, x3, x4, x5, x6, x7, x8]) rfl ?_
  exact ⟨noneT, rfl, none_strip, none_in _ _, hbw.out⟩
end Go.Proofs.YtobbifhflnlplaaDoor
namespace Go.Proofs.YtobbifhflnlplaaDoor
open Lib (hid)
open Go.RowKit
open Go.Tree7
open S7
open S5 (nl nl_length nl_small at_nl nl_at Gives idx idx_at ix ix_no ix_yes)
theorem below3 {w W : World} {o1 o2 o3 : Obj} (h : Bel (((w.alloc o1).alloc o2).alloc o3) W) : w.heap.size + 1 + 1 + 1 ≤ W.heap.size := by
 have := h.size
 simp only [World.size_alloc] at this
 exact this
theorem bel_grown {w W w' : World} {o1 o2 o3 : Obj} {v : Value} {L : List T} (h : Bel (((w.alloc o1).alloc o2).alloc o3) W) (hv : LstR W (w.heap.size + 1 + 1 + 1) v L) (hg : W.grownBy w' v.ownBlock) : Bel (((w.alloc o1).alloc o2).alloc o3) w' := by
 refine Below.trans h ((Fr.of_grown (X := fun b => v.ownBlock = some b) hg (fun g e => e)).below h.size fun g hg => ?_)
 have := (hv.lt hg).1
 simp only [World.size_alloc]
 exact this
theorem made_nil10 (W : World) {B : Nat} (hB : B ≤ W.heap.size) : LstR (W.alloc (.cells #[] 32)) B (.slice (some ⟨W.heap.size, 0, none⟩) 0 0) [] := World.ownsRow_made W #[] 0 hB (by decide) rfl
theorem parts_inP {w : World} {P : Nat → Prop} {t : T} (hT : T.InP w P t) : ∀ x ∈ partsT t, T.InP w P x := by
 intro x hx
 unfold partsT at hx
 split at hx
 ·cases hT with | mk _ _ _ _ h => exact h x hx
 ·rw [List.mem_singleton.1 hx]; exact hT
theorem parts_at {w : World} {t : T} (hT : T.In w w.heap.size t) : Calls Tryd.prog 67 #[.agg t.cells.toArray] w fun e w' => ∃ (p : Option Addr) (cap : Nat), e = .returned (.slice p (partsT t).length cap) ∧ Bel w w' ∧ (partsT t).length ≤ cap ∧ RowAt w' p (partsT t) := by
 have hb0 := Bel.new w (.cells t.cells.toArray 32)
 have hbx := World.alloc_heap_new w (.cells t.cells.toArray 32)
 obtain ⟨ka, a0, a1, a2, a3, pa, capa, mna, mxa, txa, ksa⟩ := t
 simp only [T.cells] at hb0 hbx ⊢
 obtain ⟨y0, y1, y2, y3, y4, y5, y6, y7, y8⟩ := c9 hbx
 replace hT := hid hT
 replace hbx := hid hbx
 replace hb0 := hid hb0
 by_cases hk : ka = 2
 ·have g : (ka == 2) = true := by rw [beq_iff_eq]; exact hk
  have hp : partsT (.mk ka a0 a1 a2 a3 pa capa mna mxa txa ksa) = ksa := by unfold partsT; exact if_pos hk
  rw [hp]
  clear hk hp
  go_enter Tryd.func67, Tryd.ntmps67
  go_wp2
  go_ret
  cases in_bel hT.out hb0.out with
  | mk h1 h2 h3 h4 h5 => exact ⟨pa, capa, rfl, hb0.out, h1, h4⟩
 ·have g : (ka == 2) = false := by rw [beq_eq_false_iff_ne]; exact hk
  have hp : partsT (.mk ka a0 a1 a2 a3 pa capa mna mxa txa ksa) = [.mk ka a0 a1 a2 a3 pa capa mna mxa txa ksa] := by unfold partsT; exact if_neg hk
  rw [hp]
  clear hk hp
  go_enter Tryd.func67, Tryd.ntmps67
  go_wp2
  go_ret
  have hb1 : Bel (w.alloc (.cells #[.int .i64 ka, .int .u64 a0, .int .u64 a1, .int .u64 a2, .int .u64 a3, .slice pa ksa.length capa, .int .i64 mna, .int .i64 mxa, .string txa] 32)) ((w.alloc (.cells #[.int .i64 ka, .int .u64 a0, .int .u64 a1, .int .u64 a2, .int .u64 a3, .slice pa ksa.length capa, .int .i64 mna, .int .i64 mxa, .string txa] 32)).alloc (.cells #[.int .i64 ka, .int .u64 a0, .int .u64 a1, .int .u64 a2, .int .u64 a3, .slice pa ksa.length capa, .int .i64 mna, .int .i64 mxa, .string txa] 32)) := Bel.new _ _
  have hrow := World.alloc_heap_new (w.alloc (.cells #[.int .i64 ka, .int .u64 a0, .int .u64 a1, .int .u64 a2, .int .u64 a3, .slice pa ksa.length capa, .int .i64 mna, .int .i64 mxa, .string txa] 32)) (.cells #[.int .i64 ka, .int .u64 a0, .int .u64 a1, .int .u64 a2, .int .u64 a3, .slice pa ksa.length capa, .int .i64 mna, .int .i64 mxa, .string txa] 32)
  rw [World.size_alloc] at hrow
  refine ⟨some ⟨w.heap.size + 1, 0, none⟩, 1, rfl, bel_bel hb0.out hb1, Nat.le_refl _, fun i hi => ⟨_, rfl, by simp <;> omega, fun j hj => ?_⟩⟩
  obtain rfl : i = 0 := by simp at hi; omega
  have e : (⟨w.heap.size + 1, 0, none⟩ : Addr).add (0 * 9 + j) = ⟨w.heap.size + 1, j, none⟩ := by unfold Addr.add; split <;> simp_all
  rw [e, cell_of_row _ _ _ _ _ (0, 0) hrow]
  simp [T.cells]
set_option maxRecDepth 100000 in
set_option maxHeartbeats 4000000 in
theorem cat_join {w : World} {a b : T} {P : Nat → Prop} (hP : ∀ b, P b → b < w.heap.size) (hPA : T.InP w P a) (hPB : T.InP w P b) (ha0 : kindT a ≠ 0) (ha3 : kindT a ≠ 3) (hb0 : kindT b ≠ 0) (hlen : (partsT a).length + (partsT b).length ≤ 805306376000) :
  Calls Tryd.prog 45 #[.agg a.cells.toArray, .agg b.cells.toArray] w (GivesP P w (catOf ((partsT a ++ partsT b).map T.strip))) := by
 have hA := hPA.toIn hP
 have hB := hPB.toIn hP
 obtain ⟨hbb, hxa, hxb, hxr⟩ := box3 w a.cells.toArray b.cells.toArray #[.int .i64 0, .int .u64 0, .int .u64 0, .int .u64 0, .int .u64 0, .slice none 0 0, .int .i64 0, .int .i64 0, .string ⟨#[]⟩] 32
 have h1 := fun W (hb : Bel w W) => parts_at (in_bel hA hb)
 have h2 := fun W (hb : Bel w W) => parts_at (in_bel hB hb)
 have hin : ∀ x ∈ partsT a ++ partsT b, T.InP w P x := fun x hx => (List.mem_append.1 hx).elim (parts_inP hPA x) (parts_inP hPB x)
 generalize partsT a = PA at *
 generalize partsT b = PB at *
 obtain ⟨ka, a0, a1, a2, a3, pa, capa, mna, mxa, txa, ksa⟩ := a
 obtain ⟨kb, b0, b1, b2, b3, pb, capb, mnb, mxb, txb, ksb⟩ := b
 have ga0 : (ka == 0) = false := by rw [beq_eq_false_iff_ne]; exact ha0
 have ga3 : (ka == 3) = false := by rw [beq_eq_false_iff_ne]; exact ha3
 have gb0 : (kb == 0) = false := by rw [beq_eq_false_iff_ne]; exact hb0
 simp only [T.cells] at hbb hxa hxb hxr h1 h2 ⊢
 obtain ⟨y0, y1, y2, y3, y4, y5, y6, y7, y8⟩ := c9 hxa
 obtain ⟨z0, z1, z2, z3, z4, z5, z6, z7, z8⟩ := c9 hxb
 replace hxa := hid hxa
 replace hxb := hid hxb
 replace hxr := hid hxr
 replace hbb := hid hbb
 replace h1 := hid h1
 replace h2 := hid h2
 replace hin := hid hin
 clear ha0 ha3 hb0 hA hB hPA hPB
 go_enter Tryd.func45, Tryd.ntmps45
 go_upto_region 11 with (fail)
 refine wp_region_held_drew (S := fun W => Bel (((w.alloc (.cells #[.int .i64 ka, .int .u64 a0, .int .u64 a1, .int .u64 a2, .int .u64 a3, .slice pa ksa.length capa, .int .i64 mna, .int .i64 mxa, .string txa] 32)).alloc (.cells #[.int .i64 kb, .int .u64 b0, .int .u64 b1, .int .u64 b2, .int .u64 b3, .slice pb ksb.length capb, .int .i64 mnb, .int .i64 mxb, .string txb] 32)).alloc (.cells #[.int .i64 0, .int .u64 0, .int .u64 0, .int .u64 0, .int .u64 0, .slice none 0 0, .int .i64 0, .int .i64 0, .string ⟨#[]⟩] 32)) W) (by kernel_rfl) (Below.drew (Below.refl _ _)) (fun hHeld => ?_)
 refine wpAnyH_take (i := 1) (v := ?v1u1) rfl (by kernel_rfl) (by kernel_rfl) (by kernel_rfl) (fun _ _ _ h => h) (Or.inl ⟨by rfl, ?h1u1⟩) hHeld ?r1u1
 case h1u1 => (intro wq hSw; obtain ⟨y0, y1, y2, y3, y4, y5, y6, y7, y8⟩ := c9 (kept_row hxa.out hSw); go_simp <;> with_reducible rfl)
 try simp only [Go.Last.pt]
 refine wpAnyH_take (i := 4) (v := ?v4u2) rfl (by kernel_rfl) (by kernel_rfl) (by kernel_rfl) (fun _ _ _ h => h) (Or.inl ⟨by rfl, ?h4u2⟩) hHeld ?r4u2
 case h4u2 => (intro wq hSw; obtain ⟨z0, z1, z2, z3, z4, z5, z6, z7, z8⟩ := c9 (kept_row hxb.out hSw); go_simp <;> with_reducible rfl)
 try simp only [Go.Last.pt]
 refine wpAnyH_ready (rs := [0, 2]) (by kernel_rfl) (by simp) ?_
 refine (AllReadyH.cons (o := _) rfl (fun K hK => ?_) (AllReadyH.cons (o := _) rfl (fun K hK => ?_) AllReadyH.nil))
 ·go_simp
  have hv : LstR (((((w.alloc (.cells #[.int .i64 ka, .int .u64 a0, .int .u64 a1, .int .u64 a2, .int .u64 a3, .slice pa ksa.length capa, .int .i64 mna, .int .i64 mxa, .string txa] 32)).alloc (.cells #[.int .i64 kb, .int .u64 b0, .int .u64 b1, .int .u64 b2, .int .u64 b3, .slice pb ksb.length capb, .int .i64 mnb, .int .i64 mxb, .string txb] 32)).alloc (.cells #[.int .i64 0, .int .u64 0, .int .u64 0, .int .u64 0, .int .u64 0, .slice none 0 0, .int .i64 0, .int .i64 0, .string ⟨#[]⟩] 32)).alloc (.cells #[] 32)).drew) (w.heap.size + 1 + 1 + 1) (.slice (some ⟨w.heap.size + 1 + 1 + 1, 0, none⟩) 0 0) [] := (by have := made_nil10 (B := (w.heap.size + 1 + 1 + 1)) (((w.alloc (.cells #[.int .i64 ka, .int .u64 a0, .int .u64 a1, .int .u64 a2, .int .u64 a3, .slice pa ksa.length capa, .int .i64 mna, .int .i64 mxa, .string txa] 32)).alloc (.cells #[.int .i64 kb, .int .u64 b0, .int .u64 b1, .int .u64 b2, .int .u64 b3, .slice pb ksb.length capb, .int .i64 mnb, .int .i64 mxb, .string txb] 32)).alloc (.cells #[.int .i64 0, .int .u64 0, .int .u64 0, .int .u64 0, .int .u64 0, .slice none 0 0, .int .i64 0, .int .i64 0, .string ⟨#[]⟩] 32)) (by simp only [World.size_alloc]; exact Nat.le_refl _); simp only [World.size_alloc] at this; exact this)
  try dsimp only
  refine hK.out _ _ (Bel.alloc hHeld _) (fun hHeld2 => ?_)
  clear hK K hHeld
  have hHeld := hHeld2
  clear hHeld2
  try simp only [Go.Last.pt]
  refine Go.Last.held 2 (by kernel_rfl) rfl (fun K hK => ?_)
  go_simp
  (go_at_call 67; (with_reducible refine (h1.out _ (bel_bel hbb.out hHeld)).mono ?_); rintro e w1 ⟨p1, cap1, rfl, hb1, hc1, hr1⟩); replace hv := hv.keep (fun g hg hl => hb1.block g hl)
  try dsimp only
  refine hK.out _ _ (bel_bel hHeld hb1) (fun hHeld2 => ?_)
  clear hK K hHeld
  have hHeld := hHeld2
  clear hHeld2
  try simp only [Go.Last.pt]
  refine Go.Last.held 3 (by kernel_rfl) rfl (fun K hK => ?_)
  have hsz := below3 hHeld; (refine run_append_rows rfl _ _ rfl (w.heap.size + 1 + 1 + 1) _ _ rfl hv _ _ PA rfl hc1 hr1 (by simp only [List.length_nil]; omega) hsz ?_; intro v3 w3 hL3 hg3 ho3)
  try dsimp only
  refine hK.out _ _ (bel_grown hHeld hv hg3) (fun hHeld2 => ?_)
  clear hK K hHeld
  have hHeld := hHeld2
  clear hHeld2
  try simp only [Go.Last.pt]
  refine Go.Last.held 5 (by kernel_rfl) rfl (fun K hK => ?_)
  go_simp
  (go_at_call 67; (with_reducible refine (h2.out _ (bel_bel hbb.out hHeld)).mono ?_); rintro e w5 ⟨p5, cap5, rfl, hb5, hc5, hr5⟩); have hv5 := hL3.keep (fun g hg hl => hb5.block g hl)
  try dsimp only
  refine hK.out _ _ (bel_bel hHeld hb5) (fun hHeld2 => ?_)
  clear hK K hHeld
  have hHeld := hHeld2
  clear hHeld2
  try simp only [Go.Last.pt]
  refine Go.Last.held 6 (by kernel_rfl) rfl (fun K hK => ?_)
  have hsz := below3 hHeld; (refine run_append_rows rfl _ _ rfl (w.heap.size + 1 + 1 + 1) _ _ rfl hv5 _ _ PB rfl hc5 hr5 (by simp only [List.length_nil, List.length_append]; omega) hsz ?_; intro v6 w6 hL6 hg6 ho6)
  try dsimp only
  refine hK.out _ _ (bel_grown hHeld hv5 hg6) (fun hHeld2 => ?_)
  clear hK K hHeld
  have hHeld := hHeld2
  clear hHeld2
  try simp only [Go.Last.pt]
  refine wpAnyH_take (i := 7) (v := ?v7u3) rfl (by kernel_rfl) (by kernel_rfl) (by kernel_rfl) (fun _ _ _ h => h) (Or.inl ⟨by rfl, ?h7u3⟩) hHeld ?r7u3
  case h7u3 => (intro wq hSw; go_simp <;> with_reducible rfl)
  try simp only [Go.Last.pt]
  refine wpAnyH_done (by kernel_rfl) ?_ _
  rw [List.nil_append] at hL6
  have hL2 := hid hL6
  have hw := hid (show Below w.heap.size w w6 from bel_bel hbb.out hHeld)
  have hxr2 := hid (kept_row hxr.out hHeld)
  obtain ⟨x0, f0, x1, f1, x2, f2, x3, f3, x4, f4, x5, f5, x6, f6, x7, f7, x8, f8⟩ := d9 hxr2.out
  clear hL6 hHeld hv hv5 hb1 hb5 hc1 hc5 hr1 hr5 hL3 hg3 hg6 ho3 ho6 hxa hxb hxr hbb h1 h2 hlen
  generalize PA ++ PB = L at *
  have hlf : ∃ p2 cap2, v6 = .slice p2 L.length cap2 ∧ L.length ≤ cap2 ∧ cap2 ≤ 9223372036854775807 := by
   rcases hL2.out.form with ⟨rfl, rfl⟩ | ⟨g, cap, rfl, -, -, h1, h2⟩
   ·exact ⟨none, 0, rfl, Nat.le_refl _, by decide⟩
   ·exact ⟨_, cap, rfl, h1, by unfold maxLen at h2; omega⟩
  obtain ⟨p2, cap2, rfl, hl2, hc2⟩ := hlf
  by_cases e1 : L.length = 1
  ·obtain ⟨x, rfl⟩ : ∃ x, L = [x] := by
    match L, e1 with
    | [x], _ => exact ⟨x, rfl⟩
   have hcl : ∃ g, p2 = some ⟨g, 0, none⟩ ∧ ∀ q, q < 9 → w6.cell? ⟨g, q, none⟩ = (x.cells)[q]? := by
    rcases hL2.out.form with ⟨-, e⟩ | ⟨g, cp, e, hBg, hgw, hc1, hc2⟩
    ·cases e
    ·simp only [Value.slice.injEq, true_and] at e
     obtain ⟨rfl, rfl⟩ := e
     refine ⟨g, rfl, fun q hq => ?_⟩
     have := hL2.out.cell 0 (by simp) q hq
     simpa using this
   obtain ⟨g, rfl, hcl⟩ := hcl
   have hxin2 : Hid (∀ W, Below w.heap.size w W → T.InP W (fun b => P b ∨ (w.heap.size ≤ b ∧ b < W.heap.size)) x) := hid fun W hb => inp_later (hin.out x (by simp)) hP hb
   clear e1 hL2 hin
   obtain ⟨kc, c0, c1, c2, c3, pc, capc, mnc, mxc, txc, ksc⟩ := x
   simp only [T.cells] at hcl
   simp only [List.length_cons, List.length_nil] at hl2 ⊢
   obtain ⟨q0, q1, q2, q3, q4, q5, q6, q7, q8⟩ := nine_of0 hcl
   clear hcl
   go_wp2
   generalize hWW : World.setCell _ (⟨w.heap.size + 1 + 1, 8, none⟩ : Addr) _ = W at *
   obtain ⟨s1, s2, s3, s4⟩ := S7.set9 hxr2.out W hWW.symm
   obtain ⟨r0, r1, r2, r3, r4, r5, r6, r7, r8⟩ := c9 s1
   refine bodyPost_ret (v := .agg #[.int .i64 kc, .int .u64 c0, .int .u64 c1, .int .u64 c2, .int .u64 c3, .slice pc ksc.length capc, .int .i64 mnc, .int .i64 mxc, .string txc]) (by simp [results, Tryd.results45, go_sem, r0, r1, r2, r3, r4, r5, r6, r7, r8]) rfl ?_
   exact ⟨.mk kc c0 c1 c2 c3 pc capc mnc mxc txc ksc, rfl, rfl, hxin2.out W (hw.out.trans (s4 w.heap.size (by omega))), hw.out.trans (s4 w.heap.size (by omega))⟩
  ·have g1 : ((L.length : Int) == 1) = false := by rw [beq_eq_false_iff_ne]; omega
   have hal : Hid (catOf (L.map T.strip) = nodeT 2 (L.map T.strip)) := hid (by
    match L, e1 with
    | [], _ => rfl
    | [x], h => simp at h
    | x :: y :: l, _ => rfl)
   have hnb : Hid (∀ g, (Value.slice p2 L.length cap2).ownBlock = some g → g ≠ w.heap.size + 1 + 1) := hid fun g hg e => by
    have h2 := (hL2.out.lt hg).1
    omega
   clear e1
   go_wp2
   generalize hWW : World.setCell _ (⟨w.heap.size + 1 + 1, 8, none⟩ : Addr) _ = W at *
   obtain ⟨s1, s2, s3, s4⟩ := S7.set9 hxr2.out W hWW.symm
   obtain ⟨r0, r1, r2, r3, r4, r5, r6, r7, r8⟩ := c9 s1
   refine bodyPost_ret (v := .agg #[.int .i64 2, .int .u64 0, .int .u64 0, .int .u64 0, .int .u64 0, .slice p2 L.length cap2, .int .i64 0, .int .i64 0, .string ⟨#[]⟩]) (by simp [results, Tryd.results45, go_sem, r0, r1, r2, r3, r4, r5, r6, r7, r8]) rfl ?_
   rw [hal.out]
   refine ⟨.mk 2 0 0 0 0 p2 cap2 0 0 ⟨#[]⟩ L, rfl, by rw [T.strip_mk], built_in (hL2.out.keep fun g hg hl => s3 g (hnb.out g hg)) (fun x hx => inp_later (hin.out x hx) hP (hw.out.trans (s4 w.heap.size (by omega)))) (fun g hg => .inr ⟨by have := (hL2.out.lt hg).1; omega, s2 ▸ (hL2.out.lt hg).2⟩) (by decide), hw.out.trans (s4 w.heap.size (by omega))⟩
 ·go_simp
  (go_at_call 67; (with_reducible refine (h1.out _ (bel_bel hbb.out hHeld)).mono ?_); rintro e w1 ⟨p1, cap1, rfl, hb1, hc1, hr1⟩)
  try dsimp only
  refine hK.out _ _ (bel_bel hHeld hb1) (fun hHeld2 => ?_)
  clear hK K hHeld
  have hHeld := hHeld2
  clear hHeld2
  try simp only [Go.Last.pt]
  refine Go.Last.held 0 (by kernel_rfl) rfl (fun K hK => ?_)
  go_simp
  have hv := made_nil10 w1 (below3 hHeld); replace hr1 := hr1.keep (Bel.new w1 (.cells #[] 32))
  try dsimp only
  refine hK.out _ _ (Bel.alloc hHeld _) (fun hHeld2 => ?_)
  clear hK K hHeld
  have hHeld := hHeld2
  clear hHeld2
  try simp only [Go.Last.pt]
  refine Go.Last.held 3 (by kernel_rfl) rfl (fun K hK => ?_)
  have hsz := below3 hHeld; (refine run_append_rows rfl _ _ rfl (w.heap.size + 1 + 1 + 1) _ _ rfl hv _ _ PA rfl hc1 hr1 (by simp only [List.length_nil]; omega) hsz ?_; intro v3 w3 hL3 hg3 ho3)
  try dsimp only
  refine hK.out _ _ (bel_grown hHeld hv hg3) (fun hHeld2 => ?_)
  clear hK K hHeld
  have hHeld := hHeld2
  clear hHeld2
  try simp only [Go.Last.pt]
  refine Go.Last.held 5 (by kernel_rfl) rfl (fun K hK => ?_)
  go_simp
  (go_at_call 67; (with_reducible refine (h2.out _ (bel_bel hbb.out hHeld)).mono ?_); rintro e w5 ⟨p5, cap5, rfl, hb5, hc5, hr5⟩); have hv5 := hL3.keep (fun g hg hl => hb5.block g hl)
  try dsimp only
  refine hK.out _ _ (bel_bel hHeld hb5) (fun hHeld2 => ?_)
  clear hK K hHeld
  have hHeld := hHeld2
  clear hHeld2
  try simp only [Go.Last.pt]
  refine Go.Last.held 6 (by kernel_rfl) rfl (fun K hK => ?_)
  have hsz := below3 hHeld; (refine run_append_rows rfl _ _ rfl (w.heap.size + 1 + 1 + 1) _ _ rfl hv5 _ _ PB rfl hc5 hr5 (by simp only [List.length_nil, List.length_append]; omega) hsz ?_; intro v6 w6 hL6 hg6 ho6)
  try dsimp only
  refine hK.out _ _ (bel_grown hHeld hv5 hg6) (fun hHeld2 => ?_)
  clear hK K hHeld
  have hHeld := hHeld2
  clear hHeld2
  try simp only [Go.Last.pt]
  refine wpAnyH_take (i := 7) (v := ?v7u4) rfl (by kernel_rfl) (by kernel_rfl) (by kernel_rfl) (fun _ _ _ h => h) (Or.inl ⟨by rfl, ?h7u4⟩) hHeld ?r7u4
  case h7u4 => (intro wq hSw; go_simp <;> with_reducible rfl)
  try simp only [Go.Last.pt]
  refine wpAnyH_done (by kernel_rfl) ?_ _
  rw [List.nil_append] at hL6
  have hL2 := hid hL6
  have hw := hid (show Below w.heap.size w w6 from bel_bel hbb.out hHeld)
  have hxr2 := hid (kept_row hxr.out hHeld)
  obtain ⟨x0, f0, x1, f1, x2, f2, x3, f3, x4, f4, x5, f5, x6, f6, x7, f7, x8, f8⟩ := d9 hxr2.out
  clear hL6 hHeld hv hv5 hb1 hb5 hc1 hc5 hr1 hr5 hL3 hg3 hg6 ho3 ho6 hxa hxb hxr hbb h1 h2 hlen
  generalize PA ++ PB = L at *
  have hlf : ∃ p2 cap2, v6 = .slice p2 L.length cap2 ∧ L.length ≤ cap2 ∧ cap2 ≤ 9223372036854775807 := by
   rcases hL2.out.form with ⟨rfl, rfl⟩ | ⟨g, cap, rfl, -, -, h1, h2⟩
   ·exact ⟨none, 0, rfl, Nat.le_refl _, by decide⟩
   ·exact ⟨_, cap, rfl, h1, by unfold maxLen at h2; omega⟩
  obtain ⟨p2, cap2, rfl, hl2, hc2⟩ := hlf
  by_cases e1 : L.length = 1
  ·obtain ⟨x, rfl⟩ : ∃ x, L = [x] := by
    match L, e1 with
    | [x], _ => exact ⟨x, rfl⟩
   have hcl : ∃ g, p2 = some ⟨g, 0, none⟩ ∧ ∀ q, q < 9 → w6.cell? ⟨g, q, none⟩ = (x.cells)[q]? := by
    rcases hL2.out.form with ⟨-, e⟩ | ⟨g, cp, e, hBg, hgw, hc1, hc2⟩
    ·cases e
    ·simp only [Value.slice.injEq, true_and] at e
     obtain ⟨rfl, rfl⟩ := e
     refine ⟨g, rfl, fun q hq => ?_⟩
     have := hL2.out.cell 0 (by simp) q hq
     simpa using this
   obtain ⟨g, rfl, hcl⟩ := hcl
   have hxin2 : Hid (∀ W, Below w.heap.size w W → T.InP W (fun b => P b ∨ (w.heap.size ≤ b ∧ b < W.heap.size)) x) := hid fun W hb => inp_later (hin.out x (by simp)) hP hb
   clear e1 hL2 hin
   obtain ⟨kc, c0, c1, c2, c3, pc, capc, mnc, mxc, txc, ksc⟩ := x
   simp only [T.cells] at hcl
   simp only [List.length_cons, List.length_nil] at hl2 ⊢
   obtain ⟨q0, q1, q2, q3, q4, q5, q6, q7, q8⟩ := nine_of0 hcl
   clear hcl
   go_wp2
   generalize hWW : World.setCell _ (⟨w.heap.size + 1 + 1, 8, none⟩ : Addr) _ = W at *
   obtain ⟨s1, s2, s3, s4⟩ := S7.set9 hxr2.out W hWW.symm
   obtain ⟨r0, r1, r2, r3, r4, r5, r6, r7, r8⟩ := c9 s1
   refine bodyPost_ret (v := .agg #[.int .i64 kc, .int .u64 c0, .int .u64 c1, .int .u64 c2, .int .u64 c3, .slice pc ksc.length capc, .int .i64 mnc, .int .i64 mxc, .string txc]) (by simp [results, Tryd.results45, go_sem, r0, r1, r2, r3, r4, r5, r6, r7, r8]) rfl ?_
   exact ⟨.mk kc c0 c1 c2 c3 pc capc mnc mxc txc ksc, rfl, rfl, hxin2.out W (hw.out.trans (s4 w.heap.size (by omega))), hw.out.trans (s4 w.heap.size (by omega))⟩
  ·have g1 : ((L.length : Int) == 1) = false := by rw [beq_eq_false_iff_ne]; omega
   have hal : Hid (catOf (L.map T.strip) = nodeT 2 (L.map T.strip)) := hid (by
    match L, e1 with
    | [], _ => rfl
    | [x], h => simp at h
    | x :: y :: l, _ => rfl)
   have hnb : Hid (∀ g, (Value.slice p2 L.length cap2).ownBlock = some g → g ≠ w.heap.size + 1 + 1) := hid fun g hg e => by
    have h2 := (hL2.out.lt hg).1
    omega
   clear e1
   go_wp2
   generalize hWW : World.setCell _ (⟨w.heap.size + 1 + 1, 8, none⟩ : Addr) _ = W at *
   obtain ⟨s1, s2, s3, s4⟩ := S7.set9 hxr2.out W hWW.symm
   obtain ⟨r0, r1, r2, r3, r4, r5, r6, r7, r8⟩ := c9 s1
   refine bodyPost_ret (v := .agg #[.int .i64 2, .int .u64 0, .int .u64 0, .int .u64 0, .int .u64 0, .slice p2 L.length cap2, .int .i64 0, .int .i64 0, .string ⟨#[]⟩]) (by simp [results, Tryd.results45, go_sem, r0, r1, r2, r3, r4, r5, r6, r7, r8]) rfl ?_
   rw [hal.out]
   refine ⟨.mk 2 0 0 0 0 p2 cap2 0 0 ⟨#[]⟩ L, rfl, by rw [T.strip_mk], built_in (hL2.out.keep fun g hg hl => s3 g (hnb.out g hg)) (fun x hx => inp_later (hin.out x hx) hP (hw.out.trans (s4 w.heap.size (by omega)))) (fun g hg => .inr ⟨by have := (hL2.out.lt hg).1; omega, s2 ▸ (hL2.out.lt hg).2⟩) (by decide), hw.out.trans (s4 w.heap.size (by omega))⟩

end Go.Proofs.YtobbifhflnlplaaDoor
