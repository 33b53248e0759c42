/- Texts merged: S10W11, S10W12, S10W13, S10W14. -/

import Derived.Test.YtobbifhflnlplaaDoorPE
import Derived.Test.YtobbifhflnlplaaDoorMX
import Derived.Test.YtobbifhflnlplaaDoorVD
namespace Go.Proofs.YtobbifhflnlplaaDoor
open Lib (hid)
open Go.RowKit
open Go.Tree7
open S7
open S5 (nl nl_length nl_small at_nl nl_at Gives idx idx_at ix ix_no ix_yes)
def inL (t : T) (w : List Nat) : Bool := nullT (readD t w)
theorem inL_iff {t : T} (h : T.All okd t) (w : List Nat) : inL t w = true ↔ lang t w := reads h w
def lensTo (t : T) (l : List Nat) (j : Nat) : List Nat := (List.range (j + 1)).filter fun k => inL t (l.take k)
def lens (t : T) (l : List Nat) : List Nat := lensTo t l l.length
theorem lens_next (t : T) (l : List Nat) (j : Nat) : lensTo t l (j + 1) = lensTo t l j ++ (if inL t (l.take (j + 1)) = true then [j + 1] else []) := by
 unfold lensTo
 rw [List.range_succ, List.filter_append]
 congr 1
 simp only [List.filter_cons, List.filter_nil]
theorem lens_zero (t : T) (l : List Nat) : lensTo t l 0 = if inL t [] = true then [0] else [] := by
 unfold lensTo
 cases h : inL t [] <;> simp [List.range_succ, h]
theorem lens_dead {t : T} {l : List Nat} {j m : Nat} (h : ∀ k, j < k → k ≤ m → inL t (l.take k) = false) (hm : j ≤ m) : lensTo t l m = lensTo t l j := by
 induction m with
 | zero =>
   obtain rfl : j = 0 := by omega
   rfl
 | succ m ih =>
  rcases Nat.lt_or_ge m j with h1 | h1
  ·obtain rfl : j = m + 1 := by omega
   rfl
  ·rw [lens_next, h (m + 1) (by omega) (Nat.le_refl _), if_neg Bool.false_ne_true, List.append_nil]
   exact ih (fun k h2 h3 => h k h2 (by omega)) h1
theorem lens_le (t : T) (l : List Nat) (j : Nat) : (lensTo t l j).length ≤ j + 1 := by
 unfold lensTo
 have := List.length_filter_le (fun k => inL t (l.take k)) (List.range (j + 1))
 rw [List.length_range] at this
 exact this
def encI (n : Nat) : Value := .int .i64 (n : Int)
def ILst (w : World) (B : Nat) (v : Value) (l : List Nat) : Prop := w.ownsRow B 3 1 v l.length (l.map encI)
theorem ILst.nil (w : World) (B : Nat) : ILst w B (.slice none 0 0) [] := World.ownsRow_nil _ _ _ _
theorem ILst.keep {w w' : World} {B : Nat} {v : Value} {l : List Nat} (h : ILst w B v l) (hk : ∀ g, v.ownBlock = some g → g < w.heap.size → w'.heap[g]? = w.heap[g]?) : ILst w' B v l := own_keep2 h hk
theorem ILst.low {w : World} {B B' : Nat} {v : Value} {l : List Nat} (h : ILst w B v l) (hB : B' ≤ B) : ILst w B' v l := by
 refine ⟨h.1, ?_⟩
 rcases h.2 with h2 | ⟨g, cap, cur, h3, h4, h5⟩
 ·exact .inl h2
 ·exact .inr ⟨g, cap, cur, h3, Nat.le_trans hB h4, h5⟩
theorem infoI : (Tryd.prog.info? 3).map (fun i => (i.zero, i.size, i.bytes)) = some (some (.int .i64 0), 1, 8) := by kernel_rfl
theorem fit_step (c : Nat) : ∀ x : Pt, Pt.All fit4 x → ∀ b, Pt.All fit4 (stepP c x b) := by
 refine Pt.ind fun k u0 u1 u2 u3 p cap sk ag lv en ks ih => ?_
 intro hA b
 obtain ⟨hf, hk⟩ : fit4 (.mk k u0 u1 u2 u3 p cap sk ag lv en ks) ∧ ∀ x ∈ ks, Pt.All fit4 x := by cases hA with | mk h1 h2 => exact ⟨h1, h2⟩
 have hr : ∀ (l : List Pt), (∀ x ∈ l, ∀ b, Pt.All fit4 (stepP c x b)) → ∀ b en lv, ∀ y ∈ (rowF c l b en lv).1, Pt.All fit4 y := by
  intro l
  induction l with
  | nil => intro _ b en lv y hy; cases hy
  | cons x l ihl =>
   intro h b en lv y hy
   rw [rowF] at hy
   rcases List.mem_cons.1 hy with rfl | hy
   ·exact h x (by simp) b
   ·exact ihl (fun z hz => h z (by simp [hz])) _ _ _ y hy
 have ha : ∀ (l : List Pt), (∀ x ∈ l, ∀ b, Pt.All fit4 (stepP c x b)) → ∀ b en lv, ∀ y ∈ (altF c l b en lv).1, Pt.All fit4 y := by
  intro l
  induction l with
  | nil => intro _ b en lv y hy; cases hy
  | cons x l ihl =>
   intro h b en lv y hy
   rw [altF] at hy
   rcases List.mem_cons.1 hy with rfl | hy
   ·exact h x (by simp) b
   ·exact ihl (fun z hz => h z (by simp [hz])) _ _ _ y hy
 have hks : ∀ x ∈ ks, ∀ b, Pt.All fit4 (stepP c x b) := fun x hx b => ih x hx (hk x hx) b
 rw [stepP]
 split
 ·exact hA
 ·split
  ·exact .mk hf (hr ks hks _ _ _)
  ·split
   ·exact .mk hf (ha ks hks _ _ _)
   ·exact .mk hf hk
theorem prow_one {w : World} {b : Nat} {x : Pt} (h : w.heap[b]? = some (.cells x.cells.toArray 75 (0, 0))) : PRow w b [x] := by
 refine ⟨_, h, fun i hi q hq => ?_⟩
 obtain rfl : i = 0 := by simp at hi; omega
 simp
structure LSt (w wr : World) (n : T) (l : List Nat) (bp lo hi : Nat) (j : Nat) (x : Pt) (v : Value) (r : List Nat) : Prop where
 row : PRow wr bp [x]
 own : POwn wr lo hi x
 read : Read n (l.take j) x
 fit : Pt.All fit4 x
 bel : Below w.heap.size w wr
 lst : ILst wr (bp + 1) v r
 hlo : w.heap.size ≤ lo
 hlh : lo ≤ hi
 hbp : hi ≤ bp
 res : r = lensTo n l j
theorem LSt.step {w wr w9 : World} {n : T} {l : List Nat} {bp lo hi j : Nat} {x : Pt} {v : Value} {r : List Nat} (h : LSt w wr n l bp lo hi j x v r) (hj : j < l.length) {e : Ending} {B : Bool} (hB : B = decide (l.take j = [])) (hg : GivesStep wr bp 0 [x] lo hi (stepP l[j] x B) e w9) :
  PRow w9 bp [stepP l[j] x B] ∧ POwn w9 lo hi (stepP l[j] x B) ∧ Read n (l.take (j + 1)) (stepP l[j] x B) ∧ Pt.All fit4 (stepP l[j] x B) ∧ Below w.heap.size w w9 ∧ ILst w9 (bp + 1) v r := by
 obtain ⟨-, h1, h2, h3⟩ := hg
 have hlo := h.hlo
 have hbp := h.hbp
 have hlh := h.hlh
 have hrd := read_step h.read l[j]
 rw [← hB, ← List.take_succ_eq_append_getElem hj] at hrd
 refine ⟨h1, h2, hrd, fit_step _ _ h.fit _, h.bel.trans (h3.below h.bel.size fun k hk => by rcases hk with hk | hk <;> omega), h.lst.keep fun g hg hl => h3.block g hl ?_⟩
 have := World.ownsRow.lt h.lst g hg
 omega
set_option maxRecDepth 100000 in
set_option maxHeartbeats 8000000 in
theorem lengths_no {w : World} {n : T} (hT : T.In w w.heap.size n) (sv : Value) (hn : ¬ (rightB n = true ∧ weightT n ≤ 4000)) : Calls Tryd.prog 23 #[.agg n.cells.toArray, sv] w fun e w' => e = .returned (.slice none 0 0) ∧ Below w.heap.size w w' := by
 have hq := Bel.new w (.cells n.cells.toArray 27)
 have cW := weight_in n _ (in_bel hT hq)
 have hR : weightR n < 1 ∨ 4000 < weightR n := by
  unfold weightR
  cases hr : rightB n with
  | false => left; rw [if_neg Bool.false_ne_true]; omega
  | true => right; rw [if_pos rfl]; have : ¬ weightT n ≤ 4000 := fun h => hn ⟨hr, h⟩; omega
 generalize weightR n = R at *
 have hbx := World.alloc_heap_new w (.cells n.cells.toArray 27)
 have hbel : Below w.heap.size w (w.alloc (.cells n.cells.toArray 27)) := (Below.refl _ _).alloc (Nat.le_refl _) _
 clear hT hn hq
 cases n with
 | mk k s0 s1 s2 s3 p cap mn mx tx ks =>
  simp only [T.cells] at cW hbx hbel ⊢
  replace cW := hid cW
  replace hbx := hid hbx
  replace hbel := hid hbel
  rcases hR with hR | hR
  ·go_enter Tryd.func23, Tryd.ntmps23
   go_wp2_with (go_at_call 35; ((with_reducible refine cW.out.mono ?_); rintro e w1 ⟨rfl, hb1⟩; obtain ⟨y0, y1, y2, y3, y4, y5, y6, y7, y8⟩ := c9 (kept_row hbx.out hb1); replace hb1 := hid hb1))
   go_ret
   exact ⟨rfl, hbel.out.trans (hb1.out.mono hbel.out.size)⟩
  ·have hR1 : ¬ R < 1 := by omega
   go_enter Tryd.func23, Tryd.ntmps23
   go_wp2_with (go_at_call 35; ((with_reducible refine cW.out.mono ?_); rintro e w1 ⟨rfl, hb1⟩; obtain ⟨y0, y1, y2, y3, y4, y5, y6, y7, y8⟩ := c9 (kept_row hbx.out hb1); replace hb1 := hid hb1))
   go_ret
   exact ⟨rfl, hbel.out.trans (hb1.out.mono hbel.out.size)⟩
set_option maxRecDepth 100000 in
set_option maxHeartbeats 8000000 in
theorem lengths_yes {w : World} {n : T} (hT : T.In w w.heap.size n) (hr : rightB n = true) (hw : weightT n ≤ 4000) {a : Option Addr} {m c : Nat} {l : List Nat} (hs : Src w a m c l) (hm : m ≤ 100000) :
  Calls Tryd.prog 23 #[.agg n.cells.toArray, .slice a m c] w fun e w' => ∃ v, e = .returned v ∧ ILst w' w.heap.size v (lens n l) ∧ Below w.heap.size w w' := by
 have hq := Bel.new w (.cells n.cells.toArray 27)
 have cW := weight_in n _ (in_bel hT hq)
 obtain ⟨hA, hsz⟩ := right_all ((rightB_iff n).1 hr)
 have hokd : T.All okd n := okd_ok hA
 have hW := (weight_within hA).1
 have hR : weightR n = weightT n := by unfold weightR; rw [if_pos hr]
 rw [hR] at cW
 have cS : Hid (∀ w1, Below (w.alloc (.cells n.cells.toArray 27)).heap.size (w.alloc (.cells n.cells.toArray 27)) w1 → Calls Tryd.prog 36 #[.agg n.cells.toArray] w1 (GivesPart w1 n)) := hid fun w1 hb => spread_in (Nat.le_refl _) n hA (by omega) hT w1 (Bel.step hq hb)
 have hF : Hid (∀ x, Spr n x → Fresh n x) := hid fun x hx => spr_fresh n hA x hx
 have hin : Hid (∀ w, inL n w = true ↔ lang n w) := hid (inL_iff hokd)
 generalize weightT n = R at *
 have hbx := World.alloc_heap_new w (.cells n.cells.toArray 27)
 have hbel : Below w.heap.size w (w.alloc (.cells n.cells.toArray 27)) := (Below.refl _ _).alloc (Nat.le_refl _) _
 obtain ⟨i0, hi, hz0, hz1, hz2⟩ := info_parts infoI
 have hlm := hs.len
 replace hs := hid hs
 clear hT hq hR hokd hsz hA hr
 obtain ⟨L, hL⟩ : ∃ L, L = lens n l := ⟨_, rfl⟩
 rw [← hL]
 replace hL := hid hL
 obtain ⟨n', hn'⟩ : ∃ n', n' = n := ⟨_, rfl⟩
 rw [← hn'] at hF hin hL
 have cS : Hid (∀ w1, Below (w.alloc (.cells n.cells.toArray 27)).heap.size (w.alloc (.cells n.cells.toArray 27)) w1 → Calls Tryd.prog 36 #[.agg n.cells.toArray] w1 (GivesPart w1 n')) := by rw [hn']; exact cS
 clear hn'
 cases n with
 | mk k s0 s1 s2 s3 p cap mn mx tx ks =>
  simp only [T.cells] at cW hbx hbel cS ⊢
  replace cW := hid cW
  replace hbx := hid hbx
  replace hbel := hid hbel
  have hR1 : ¬ R < 1 := by omega
  have hR2 : ¬ 4000 < R := by omega
  clear hW
  go_enter Tryd.func23, Tryd.ntmps23
  go_upto_region 6 with (first | (go_at_call 35; ((with_reducible refine cW.out.mono ?_); rintro e w1 ⟨rfl, hb1⟩; obtain ⟨y0, y1, y2, y3, y4, y5, y6, y7, y8⟩ := c9 (kept_row hbx.out hb1); replace hb1 := hid hb1)) | (go_at_call 36; ((with_reducible refine (cS.out _ hb1.out).mono ?_); rintro e w2 ⟨⟨ky, t0, t1, t2, t3, py, capy, sky, agy, lvy, eny, ksy⟩, rfl, hb2, ho2, hf2, hq2⟩; simp only [Pt.cells]; replace hb2 := hid hb2; replace ho2 := hid ho2; replace hf2 := hid hf2; replace hq2 := hid hq2)))
  have hx2 := World.alloc_heap_new w2 (.cells #[.int .i64 ky, .int .u64 t0, .int .u64 t1, .int .u64 t2, .int .u64 t3, .slice py ksy.length capy, .bool sky, .bool agy, .bool lvy, .bool eny] 75)
  have hbel3 : Below w.heap.size w (w2.alloc (.cells #[.int .i64 ky, .int .u64 t0, .int .u64 t1, .int .u64 t2, .int .u64 t3, .slice py ksy.length capy, .bool sky, .bool agy, .bool lvy, .bool eny] 75)) := ((hbel.out.trans (hb1.out.mono hbel.out.size)).trans (hb2.out.mono (Nat.le_trans hbel.out.size hb1.out.size))).alloc (Nat.le_trans (Nat.le_trans hbel.out.size hb1.out.size) hb2.out.size) _
  have hfr := hF.out _ hq2.out
  have hst0 : Hid (∀ wr v r, Below (w2.alloc (.cells #[.int .i64 ky, .int .u64 t0, .int .u64 t1, .int .u64 t2, .int .u64 t3, .slice py ksy.length capy, .bool sky, .bool agy, .bool lvy, .bool eny] 75)).heap.size (w2.alloc (.cells #[.int .i64 ky, .int .u64 t0, .int .u64 t1, .int .u64 t2, .int .u64 t3, .slice py ksy.length capy, .bool sky, .bool agy, .bool lvy, .bool eny] 75)) wr → ILst wr (w2.heap.size + 1) v r → r = lensTo n' l 0 → LSt w wr n' l w2.heap.size w1.heap.size w2.heap.size 0 (.mk ky t0 t1 t2 t3 py capy sky agy lvy eny ksy) v r) := hid fun wr v r hb hv hr =>
   ⟨(prow_one hx2).keep (hb.block _ (by simp)), ho2.out.keep fun b b1 b2 => (hb.block b (by simp; omega)).trans (Below.heap_alloc _ _ _ b2), read_fresh hfr, hf2.out, hbel3.trans (hb.mono hbel3.size), hv, Nat.le_trans hbel.out.size hb1.out.size, hb2.out.size, Nat.le_refl _, hr⟩
  have hsk : Hid (sky = inL n' []) := hid (by
   have h1 := read_skips (read_fresh hfr)
   have h2 := hin.out []
   replace h1 : sky = true ↔ lang n' [] := h1
   rw [Bool.eq_iff_iff, h1, h2])
  obtain ⟨z6, -⟩ := cells_of hx2 6 _ rfl
  have hrow := hid (ILst.nil (w2.alloc (.cells #[.int .i64 ky, .int .u64 t0, .int .u64 t1, .int .u64 t2, .int .u64 t3, .slice py ksy.length capy, .bool sky, .bool agy, .bool lvy, .bool eny] 75)) (w2.heap.size + 1))
  have hl0 := hid (lens_zero n' l)
  clear hx2 hbel3 hfr y0 y1 y2 y3 y4 y5 y6 y7 y8
  cases sky
  ·have hst1 := hid (hst0.out _ _ _ (Below.refl _ _) hrow.out (by rw [hl0.out, ← hsk.out]; rfl))
   clear hst0 hrow
   go_wp2
   go_loopw [6, 26] (fun v i wr => ∃ (j : Nat) (x : Pt) (r : List Nat), j ≤ m ∧ i = .int .i64 j ∧ Hid (LSt w wr n' l w2.heap.size w1.heap.size w2.heap.size j x v r)) (fun _ i _ => m - (intOf i).toNat)
   case atStart => exact ⟨0, _, _, Nat.zero_le _, rfl, hst1⟩
   case round =>
    clear hst1
    obtain ⟨j, x, r, hj, rfl, hst⟩ := hrel
    by_cases hlt : j < m
    ·have hjl : j < l.length := by omega
     obtain ⟨tb, toff, rfl, hat⟩ := (hs.out.bel (show Bel w wr from hst.out.bel)).at (by omega)
     have t0' := hat j hjl
     clear hat
     have hc : l[j] ≤ 255 := hs.out.small _ (List.getElem_mem hjl)
     obtain ⟨B, hB⟩ : ∃ B, B = decide (l.take j = []) := ⟨_, rfl⟩
     have g0 : ((j : Int) == 0) = B := by
      rw [hB, Bool.eq_iff_iff, beq_iff_eq, decide_eq_true_eq, List.take_eq_nil_iff]
      constructor
      ·intro h; left; omega
      ·rintro (h | h)
       ·omega
       ·subst h; simp at hjl
     obtain ⟨v6, vc6, rfl, -⟩ := row_form hst.out.lst
     have hrl : r.length ≤ j + 1 := by rw [hst.out.res]; exact lens_le _ _ _
     have cP := step_of x hst.out.fit wr w2.heap.size 0 0 [x] w1.heap.size w2.heap.size (by simp) rfl rfl hst.out.row hst.out.own (Or.inr (Nat.le_refl _)) (by have := hst.out.row.lt; omega) l[j] B (by omega)
     have hstep := hid (fun e w9 (h : GivesStep wr w2.heap.size 0 [x] w1.heap.size w2.heap.size (stepP l[j] x B) e w9) => And.intro h.1 (hst.out.step hjl hB h))
     have hnxt := hid (lens_next n' l j)
     have htk := hid (show l.take (j + 1) ≠ [] by
      rw [Ne, List.take_eq_nil_iff]
      intro h
      rcases h with h | h
      ·omega
      ·rw [h] at hjl; simp at hjl)
     have hdead := hid (fun (h : ∀ v, ¬ lang n' (l.take (j + 1) ++ v)) => (lens_dead (t := n') (l := l) (j := j) (m := l.length) (fun q h1 h2 => by
      cases e : inL n' (l.take q) with
      | false => rfl
      | true =>
       have h3 := (hin.out _).1 e
       have h4 : l.take q = l.take (j + 1) ++ (l.take q).drop (j + 1) := by
        have := (List.take_append_drop (j + 1) (l.take q)).symm
        rw [List.take_take, Nat.min_eq_left (by omega)] at this
        exact this
       rw [h4] at h3
       exact absurd h3 (h _)) (by omega)))
     generalize l[j] = ch at *
     obtain ⟨kx, r0, r1, r2, r3, px, capx, skx, agx, lvx, enx, ksx⟩ := x
     obtain ⟨lv2, en2, ks2, hy⟩ := stepP_still ch B kx r0 r1 r2 r3 px capx skx agx lvx enx ksx
     rw [hy] at cP hstep
     have hlive : Hid (∀ w9, PRow w9 w2.heap.size [.mk kx r0 r1 r2 r3 px capx skx agx lv2 en2 ks2] → w9.cell? ⟨w2.heap.size, 8, none⟩ = some (.bool lv2) ∧ w9.cell? ⟨w2.heap.size, 9, none⟩ = some (.bool en2)) := hid fun w9 h => by
      obtain ⟨-, -, -, -, -, -, -, -, z8, z9⟩ := h.ten (j := 0) (by simp) (rfl : 0 = 0 * 10) rfl
      simp only [Nat.zero_add] at z8 z9
      exact ⟨z8, z9⟩
     unfold GivesStep at cP
     replace cP := hid cP
     replace hB := hid hB
     replace hy := hid hy
     clear hc
     cases lv2
     ·go_wp2_with (go_at_call 37; ((with_reducible refine cP.out.mono ?_); rintro e w9 hg; obtain ⟨rfl, hr9, ho9, hrd9, hf9, hb9, hl9⟩ := hstep.out e w9 hg; obtain ⟨q8, q9⟩ := hlive.out w9 hr9; clear hg; replace hr9 := hid hr9; replace ho9 := hid ho9; replace hrd9 := hid hrd9; replace hf9 := hid hf9; replace hb9 := hid hb9; replace hl9 := hid hl9))
      go_ret
      refine ⟨_, rfl, ?_, hb9.out⟩
      have hd := hdead.out fun v => read_dead hrd9.out htk.out rfl v
      rw [hL.out]
      unfold lens
      rw [hd, ← hst.out.res]
      exact hl9.out.low (by have := hst.out.row.lt; have := hst.out.hlo; have := hst.out.hlh; omega)
     ·have hen := hid (fun (h : Read n' (l.take (j + 1)) (.mk kx r0 r1 r2 r3 px capx skx agx true en2 ks2)) => (show en2 = true ↔ inL n' (l.take (j + 1)) = true from (read_ends h htk.out).trans (hin.out _).symm))
      cases en2
      ·go_wp2_with (go_at_call 37; ((with_reducible refine cP.out.mono ?_); rintro e w9 hg; obtain ⟨rfl, hr9, ho9, hrd9, hf9, hb9, hl9⟩ := hstep.out e w9 hg; obtain ⟨q8, q9⟩ := hlive.out w9 hr9; clear hg; replace hr9 := hid hr9; replace ho9 := hid ho9; replace hrd9 := hid hrd9; replace hf9 := hid hf9; replace hb9 := hid hb9; replace hl9 := hid hl9))
       go_roundw
       case rel => exact ⟨j + 1, _, r, by omega, by go_num, hid ⟨hr9.out, ho9.out, hrd9.out, hf9.out, hb9.out, hl9.out, hst.out.hlo, hst.out.hlh, hst.out.hbp, by rw [hnxt.out, if_neg (fun h => Bool.false_ne_true ((hen.out hrd9.out).2 h)), List.append_nil]; exact hst.out.res⟩⟩
       case measure => simp [intOf]; omega
      ·go_wp2_with (first | (go_at_call 37; ((with_reducible refine cP.out.mono ?_); rintro e w9 hg; obtain ⟨rfl, hr9, ho9, hrd9, hf9, hb9, hl9⟩ := hstep.out e w9 hg; obtain ⟨q8, q9⟩ := hlive.out w9 hr9; clear hg; replace hr9 := hid hr9; replace ho9 := hid ho9; replace hrd9 := hid hrd9; replace hf9 := hid hf9; replace hb9 := hid hb9; replace hl9 := hid hl9)) | (at_builtin; (refine wpList_append_own _ rfl _ _ 36 rfl (w2.heap.size + 1) 3 i0 (.int .i64 0) 1 8 Tryd.underlying36 hi hz0 hz1 hz2 rfl (by decide) _ _ _ rfl (World.ownsRow.alloc hl9.out _) ⟨_, 0, none⟩ 1 1 [_] rfl rfl (cell_one_new _ _ _) (by simp [Value.oneCell']) (by simp only [maxLen]; omega) (by omega) (by have := hr9.out.lt; simp; omega) ?_); intro v' wA hown' hgrow hnil; clear hnil; replace hown' := hid hown'; replace hgrow := hid hgrow))
       have hgr : World.grownBy (w9.alloc (.cells #[.int .i64 ((j : Int) + 1)] 3)) wA (Value.slice v6 r.length vc6).ownBlock := hgrow.out
       have hown2 : ILst wA (w2.heap.size + 1) v' (r ++ [j + 1]) := by
        unfold ILst
        rw [List.length_append, List.map_append]
        exact hown'.out
       have hlt9 : ∀ q, (Value.slice v6 r.length vc6).ownBlock = some q → w2.heap.size + 1 ≤ q := fun q e => (World.ownsRow.lt hl9.out q e).1
       have hkA : ∀ q, q < w9.heap.size → q ≤ w2.heap.size → wA.heap[q]? = w9.heap[q]? := fun q h1 h2 => (hgr.block q (by simp; omega) (fun e => by have := hlt9 q e.symm; omega)).trans (Below.heap_alloc _ _ _ h1)
       have hlo := hst.out.hlo
       have hlh := hst.out.hlh
       have hrl9 := hr9.out.lt
       have hbA : Below w.heap.size w wA := (hb9.out.alloc hb9.out.size _).grown hgr (by have := hb9.out.size; simp; omega) (fun q e => by have := hlt9 q e; omega)
       clear hgrow hown'
       go_roundw
       case rel => exact ⟨j + 1, _, r ++ [j + 1], by omega, by go_num, hid ⟨hr9.out.keep (hkA _ hrl9 (Nat.le_refl _)), ho9.out.keep fun q q1 q2 => hkA q (by omega) (by omega), hrd9.out, hf9.out, hbA, hown2, hlo, hlh, hst.out.hbp, by rw [hnxt.out, if_pos ((hen.out hrd9.out).1 (by first | rfl | trivial)), ← hst.out.res]⟩⟩
       case measure => simp [intOf]; omega
    ·have hjl : j = l.length := by omega
     go_wp2
     go_ret
     refine ⟨_, rfl, ?_, hst.out.bel⟩
     rw [hL.out]
     unfold lens
     rw [← hjl, ← hst.out.res]
     exact hst.out.lst.low (by have := hst.out.hlo; have := hst.out.hlh; omega)
  ·go_wp2_with (at_builtin; (refine wpList_append_own _ rfl _ _ 36 rfl _ 3 i0 (.int .i64 0) 1 8 Tryd.underlying36 hi hz0 hz1 hz2 rfl (by decide) _ _ _ rfl (hrow.out.alloc _) ⟨_, 0, none⟩ 1 1 [.int .i64 0] rfl rfl (cells_new (by simp)) (by simp [Value.oneCell']) (by simp only [maxLen, List.length_nil]; omega) (by simp only [List.length_nil]; omega) (by simp <;> omega) ?_); intro v' w9 hown' hgrow _; replace hown' := hid hown'; replace hgrow := hid hgrow)
   have hgr : World.grownBy ((w2.alloc (.cells #[.int .i64 ky, .int .u64 t0, .int .u64 t1, .int .u64 t2, .int .u64 t3, .slice py ksy.length capy, .bool true, .bool agy, .bool lvy, .bool eny] 75)).alloc (.cells #[.int .i64 0] 3)) w9 none := hgrow.out
   have hst1 := hid (hst0.out w9 v' [0] (((Below.refl _ _).alloc (Nat.le_refl _) _).grown hgr (by simp) (fun q e => by cases e)) hown'.out (by rw [hl0.out, ← hsk.out]; rfl))
   clear hst0 hrow hown' hgrow hgr
   go_loopw [6, 26] (fun v i wr => ∃ (j : Nat) (x : Pt) (r : List Nat), j ≤ m ∧ i = .int .i64 j ∧ Hid (LSt w wr n' l w2.heap.size w1.heap.size w2.heap.size j x v r)) (fun _ i _ => m - (intOf i).toNat)
   case atStart => exact ⟨0, _, _, Nat.zero_le _, rfl, hst1⟩
   case round =>
    clear hst1
    obtain ⟨j, x, r, hj, rfl, hst⟩ := hrel
    by_cases hlt : j < m
    ·have hjl : j < l.length := by omega
     obtain ⟨tb, toff, rfl, hat⟩ := (hs.out.bel (show Bel w wr from hst.out.bel)).at (by omega)
     have t0' := hat j hjl
     clear hat
     have hc : l[j] ≤ 255 := hs.out.small _ (List.getElem_mem hjl)
     obtain ⟨B, hB⟩ : ∃ B, B = decide (l.take j = []) := ⟨_, rfl⟩
     have g0 : ((j : Int) == 0) = B := by
      rw [hB, Bool.eq_iff_iff, beq_iff_eq, decide_eq_true_eq, List.take_eq_nil_iff]
      constructor
      ·intro h; left; omega
      ·rintro (h | h)
       ·omega
       ·subst h; simp at hjl
     obtain ⟨v6, vc6, rfl, -⟩ := row_form hst.out.lst
     have hrl : r.length ≤ j + 1 := by rw [hst.out.res]; exact lens_le _ _ _
     have cP := step_of x hst.out.fit wr w2.heap.size 0 0 [x] w1.heap.size w2.heap.size (by simp) rfl rfl hst.out.row hst.out.own (Or.inr (Nat.le_refl _)) (by have := hst.out.row.lt; omega) l[j] B (by omega)
     have hstep := hid (fun e w9 (h : GivesStep wr w2.heap.size 0 [x] w1.heap.size w2.heap.size (stepP l[j] x B) e w9) => And.intro h.1 (hst.out.step hjl hB h))
     have hnxt := hid (lens_next n' l j)
     have htk := hid (show l.take (j + 1) ≠ [] by
      rw [Ne, List.take_eq_nil_iff]
      intro h
      rcases h with h | h
      ·omega
      ·rw [h] at hjl; simp at hjl)
     have hdead := hid (fun (h : ∀ v, ¬ lang n' (l.take (j + 1) ++ v)) => (lens_dead (t := n') (l := l) (j := j) (m := l.length) (fun q h1 h2 => by
      cases e : inL n' (l.take q) with
      | false => rfl
      | true =>
       have h3 := (hin.out _).1 e
       have h4 : l.take q = l.take (j + 1) ++ (l.take q).drop (j + 1) := by
        have := (List.take_append_drop (j + 1) (l.take q)).symm
        rw [List.take_take, Nat.min_eq_left (by omega)] at this
        exact this
       rw [h4] at h3
       exact absurd h3 (h _)) (by omega)))
     generalize l[j] = ch at *
     obtain ⟨kx, r0, r1, r2, r3, px, capx, skx, agx, lvx, enx, ksx⟩ := x
     obtain ⟨lv2, en2, ks2, hy⟩ := stepP_still ch B kx r0 r1 r2 r3 px capx skx agx lvx enx ksx
     rw [hy] at cP hstep
     have hlive : Hid (∀ w9, PRow w9 w2.heap.size [.mk kx r0 r1 r2 r3 px capx skx agx lv2 en2 ks2] → w9.cell? ⟨w2.heap.size, 8, none⟩ = some (.bool lv2) ∧ w9.cell? ⟨w2.heap.size, 9, none⟩ = some (.bool en2)) := hid fun w9 h => by
      obtain ⟨-, -, -, -, -, -, -, -, z8, z9⟩ := h.ten (j := 0) (by simp) (rfl : 0 = 0 * 10) rfl
      simp only [Nat.zero_add] at z8 z9
      exact ⟨z8, z9⟩
     unfold GivesStep at cP
     replace cP := hid cP
     replace hB := hid hB
     replace hy := hid hy
     clear hc
     cases lv2
     ·go_wp2_with (go_at_call 37; ((with_reducible refine cP.out.mono ?_); rintro e w9 hg; obtain ⟨rfl, hr9, ho9, hrd9, hf9, hb9, hl9⟩ := hstep.out e w9 hg; obtain ⟨q8, q9⟩ := hlive.out w9 hr9; clear hg; replace hr9 := hid hr9; replace ho9 := hid ho9; replace hrd9 := hid hrd9; replace hf9 := hid hf9; replace hb9 := hid hb9; replace hl9 := hid hl9))
      go_ret
      refine ⟨_, rfl, ?_, hb9.out⟩
      have hd := hdead.out fun v => read_dead hrd9.out htk.out rfl v
      rw [hL.out]
      unfold lens
      rw [hd, ← hst.out.res]
      exact hl9.out.low (by have := hst.out.row.lt; have := hst.out.hlo; have := hst.out.hlh; omega)
     ·have hen := hid (fun (h : Read n' (l.take (j + 1)) (.mk kx r0 r1 r2 r3 px capx skx agx true en2 ks2)) => (show en2 = true ↔ inL n' (l.take (j + 1)) = true from (read_ends h htk.out).trans (hin.out _).symm))
      cases en2
      ·go_wp2_with (go_at_call 37; ((with_reducible refine cP.out.mono ?_); rintro e w9 hg; obtain ⟨rfl, hr9, ho9, hrd9, hf9, hb9, hl9⟩ := hstep.out e w9 hg; obtain ⟨q8, q9⟩ := hlive.out w9 hr9; clear hg; replace hr9 := hid hr9; replace ho9 := hid ho9; replace hrd9 := hid hrd9; replace hf9 := hid hf9; replace hb9 := hid hb9; replace hl9 := hid hl9))
       go_roundw
       case rel => exact ⟨j + 1, _, r, by omega, by go_num, hid ⟨hr9.out, ho9.out, hrd9.out, hf9.out, hb9.out, hl9.out, hst.out.hlo, hst.out.hlh, hst.out.hbp, by rw [hnxt.out, if_neg (fun h => Bool.false_ne_true ((hen.out hrd9.out).2 h)), List.append_nil]; exact hst.out.res⟩⟩
       case measure => simp [intOf]; omega
      ·go_wp2_with (first | (go_at_call 37; ((with_reducible refine cP.out.mono ?_); rintro e w9 hg; obtain ⟨rfl, hr9, ho9, hrd9, hf9, hb9, hl9⟩ := hstep.out e w9 hg; obtain ⟨q8, q9⟩ := hlive.out w9 hr9; clear hg; replace hr9 := hid hr9; replace ho9 := hid ho9; replace hrd9 := hid hrd9; replace hf9 := hid hf9; replace hb9 := hid hb9; replace hl9 := hid hl9)) | (at_builtin; (refine wpList_append_own _ rfl _ _ 36 rfl (w2.heap.size + 1) 3 i0 (.int .i64 0) 1 8 Tryd.underlying36 hi hz0 hz1 hz2 rfl (by decide) _ _ _ rfl (World.ownsRow.alloc hl9.out _) ⟨_, 0, none⟩ 1 1 [_] rfl rfl (cell_one_new _ _ _) (by simp [Value.oneCell']) (by simp only [maxLen]; omega) (by omega) (by have := hr9.out.lt; simp; omega) ?_); intro v' wA hown' hgrow hnil; clear hnil; replace hown' := hid hown'; replace hgrow := hid hgrow))
       have hgr : World.grownBy (w9.alloc (.cells #[.int .i64 ((j : Int) + 1)] 3)) wA (Value.slice v6 r.length vc6).ownBlock := hgrow.out
       have hown2 : ILst wA (w2.heap.size + 1) v' (r ++ [j + 1]) := by
        unfold ILst
        rw [List.length_append, List.map_append]
        exact hown'.out
       have hlt9 : ∀ q, (Value.slice v6 r.length vc6).ownBlock = some q → w2.heap.size + 1 ≤ q := fun q e => (World.ownsRow.lt hl9.out q e).1
       have hkA : ∀ q, q < w9.heap.size → q ≤ w2.heap.size → wA.heap[q]? = w9.heap[q]? := fun q h1 h2 => (hgr.block q (by simp; omega) (fun e => by have := hlt9 q e.symm; omega)).trans (Below.heap_alloc _ _ _ h1)
       have hlo := hst.out.hlo
       have hlh := hst.out.hlh
       have hrl9 := hr9.out.lt
       have hbA : Below w.heap.size w wA := (hb9.out.alloc hb9.out.size _).grown hgr (by have := hb9.out.size; simp; omega) (fun q e => by have := hlt9 q e; omega)
       clear hgrow hown'
       go_roundw
       case rel => exact ⟨j + 1, _, r ++ [j + 1], by omega, by go_num, hid ⟨hr9.out.keep (hkA _ hrl9 (Nat.le_refl _)), ho9.out.keep fun q q1 q2 => hkA q (by omega) (by omega), hrd9.out, hf9.out, hbA, hown2, hlo, hlh, hst.out.hbp, by rw [hnxt.out, if_pos ((hen.out hrd9.out).1 (by first | rfl | trivial)), ← hst.out.res]⟩⟩
       case measure => simp [intOf]; omega
    ·have hjl : j = l.length := by omega
     go_wp2
     go_ret
     refine ⟨_, rfl, ?_, hst.out.bel⟩
     rw [hL.out]
     unfold lens
     rw [← hjl, ← hst.out.res]
     exact hst.out.lst.low (by have := hst.out.hlo; have := hst.out.hlh; omega)
end Go.Proofs.YtobbifhflnlplaaDoor
namespace Go.Proofs.YtobbifhflnlplaaDoor
open Lib (hid)
open Go.RowKit
open Go.Tree7
open S7
open S5 (nl nl_length nl_small at_nl nl_at Gives idx idx_at ix ix_no ix_yes)
theorem ILst.cell {w : World} {B : Nat} {v : Value} {l : List Nat} (h : ILst w B v l) {k : Nat} (hk : k < l.length) : ∃ g cap, v = .slice (some ⟨g, 0, none⟩) l.length cap ∧ B ≤ g ∧ g < w.heap.size ∧ l.length ≤ cap ∧ w.cell? ⟨g, k, none⟩ = some (.int .i64 ((l[k] : Nat) : Int)) ∧ w.frozen? ⟨g, k, none⟩ = false := by
 rcases h.2 with ⟨h1, h2⟩ | ⟨g, cap, cur, rfl, h1, h2, h3, h4, h5, h6⟩
 ·omega
 ·refine ⟨g, cap, rfl, h1, (Array.getElem?_eq_some_iff.1 h2).1, h3, ?_, by simp [World.frozen?, h2]⟩
  have hc := World.ownsRow.cellAt h k (by omega)
  rw [hc, List.getElem?_map, List.getElem?_eq_getElem hk]
  rfl
theorem ILst.form {w : World} {B : Nat} {v : Value} {l : List Nat} (h : ILst w B v l) : ∃ p cap, v = .slice p l.length cap := by
 obtain ⟨p, cap, e, -⟩ := row_form h
 exact ⟨p, cap, e⟩
set_option maxRecDepth 10000 in
set_option maxHeartbeats 2000000 in
theorem xints_in {w : World} {B : Nat} {v : Value} {l : List Nat} (h : ILst w B v l) (hl : l.length ≤ 1000000) (x : Nat) :
  Calls Tryd.prog 41 #[v, .int .i64 x] w fun e w' => ∃ r : Int, e = .returned (.int .i64 r) ∧ (decide (0 ≤ r) = decide (x ∈ l)) ∧ Below w.heap.size w w' := by
 have hno : Hid ((∀ j (hj : j < l.length), l[j] ≠ x) → decide (x ∈ l) = false) := hid fun h => by
  rw [decide_eq_false_iff_not]
  intro hx
  obtain ⟨j, hj, e⟩ := List.getElem_of_mem hx
  exact h j hj e
 have hyes : Hid (∀ j (hj : j < l.length), l[j] = x → decide (x ∈ l) = true) := hid fun j hj e => by rw [decide_eq_true_eq, ← e]; exact List.getElem_mem hj
 generalize decide (x ∈ l) = D at *
 obtain ⟨p, cap, rfl⟩ := h.form
 obtain ⟨m, hm⟩ : ∃ m, l.length = m := ⟨_, rfl⟩
 rw [hm] at h hl ⊢
 replace h := hid h
 replace hm := hid hm
 go_enter Tryd.func41, Tryd.ntmps41
 go_wp2
 go_loopw [8] (fun i wr => ∃ k : Nat, k ≤ m ∧ i = .int .i64 k ∧ Hid (Below w.heap.size w wr) ∧ Hid (∀ j (hj : j < l.length), j < k → l[j] ≠ x)) (fun i _ => m - (intOf i).toNat)
 case atStart => exact ⟨0, Nat.zero_le _, rfl, hid (Below.refl _ _), hid fun j hj h => by omega⟩
 case round =>
  obtain ⟨k, hk, rfl, hB, hn⟩ := hrel
  by_cases hlt : k < m
  ·have hkl : k < l.length := by have := hm.out; omega
   obtain ⟨g, cap', e1, -, hg, -, hc, -⟩ := (show ILst w B (.slice p l.length cap) l by rw [hm.out]; exact h.out).cell hkl
   rw [hm.out] at e1
   simp only [Value.slice.injEq, true_and] at e1
   obtain ⟨rfl, rfl⟩ := e1
   have h1 := (hB.out.cell (p := ⟨g, k, none⟩) hg).trans hc
   by_cases e : l[k] = x
   ·have hy := hid (hyes.out k hkl e)
    rw [e] at h1
    clear e hc
    go_wp2
    go_ret
    exact ⟨(k : Int), rfl, by rw [hy.out, decide_eq_true_eq]; omega, hB.out⟩
   ·have hn2 : Hid (∀ j (hj : j < l.length), j < k + 1 → l[j] ≠ x) := hid fun j hj h => by
     by_cases e2 : j = k
     ·subst e2; exact e
     ·exact hn.out j hj (by omega)
    generalize l[k] = c at *
    have hq : ((x : Int) == c) = false := by rw [beq_eq_false_iff_ne]; omega
    clear e hc
    go_wp2
    go_roundw
    case rel => exact ⟨k + 1, by omega, by go_num, hB, hn2⟩
    case measure => simp [intOf]; omega
  ·have hx := hid (hno.out fun j hj => hn.out j hj (by have := hm.out; omega))
   go_wp2
   go_ret
   exact ⟨-1, rfl, by rw [hx.out]; rfl, hB.out⟩
theorem cints_in {w : World} {B : Nat} {v : Value} {l : List Nat} (h : ILst w B v l) (hl : l.length ≤ 1000000) (x : Nat) :
  Calls Tryd.prog 26 #[v, .int .i64 x] w fun e w' => e = .returned (.bool (decide (x ∈ l))) ∧ Below w.heap.size w w' := by
 have C := hid (xints_in h hl x)
 obtain ⟨p, cap, rfl⟩ := h.form
 generalize decide (x ∈ l) = D at *
 clear h hl
 go_enter Tryd.func26, Tryd.ntmps26
 go_wp2_with (go_at_call 41; (with_reducible refine C.out.mono ?_); rintro e w1 ⟨r, rfl, hr, hb⟩; replace hb := hid hb)
 go_ret
 exact ⟨ret_bool (by simp), hb.out⟩
def inB (m : Nat) (f : Int) : Bool := decide (m ≤ 4096) && (decide (0 ≤ f) && decide (f ≤ m))
theorem within_in {a : Option Addr} {m c : Nat} (f : Int) (hm : m ≤ 9223372036854775807) (w : World) : Calls Tryd.prog 22 #[.slice a m c, .int .i64 f] w fun e w' => e = .returned (.bool (inB m f)) ∧ Below w.heap.size w w' := by
 unfold inB
 go_enter Tryd.func22, Tryd.ntmps22
 go_wp2
 all_goals
  go_ret
  exact ⟨ret_bool (by simp [*] <;> omega), Below.refl _ _⟩
end Go.Proofs.YtobbifhflnlplaaDoor
namespace Go.Proofs.YtobbifhflnlplaaDoor
open Lib (hid)
open Go.RowKit
open Go.Tree7
open S7
open S5 (nl nl_length nl_small at_nl nl_at Gives idx idx_at ix ix_no ix_yes)
noncomputable def worksB (n : T) : Bool := rightB n && decide (weightT n ≤ 4000)
theorem worksB_iff (n : T) : worksB n = true ↔ rightB n = true ∧ weightT n ≤ 4000 := by unfold worksB; rw [Bool.and_eq_true, decide_eq_true_eq]
noncomputable def lensW (n : T) (l : List Nat) : List Nat := if worksB n = true then lens n l else []
theorem lengths_in {w : World} {n : T} (hT : T.In w w.heap.size n) {a : Option Addr} {m c : Nat} {l : List Nat} (hs : Src w a m c l) (hm : m ≤ 100000) :
  Calls Tryd.prog 23 #[.agg n.cells.toArray, .slice a m c] w fun e w' => ∃ v, e = .returned v ∧ ILst w' w.heap.size v (lensW n l) ∧ Below w.heap.size w w' := by
 unfold lensW
 by_cases h : worksB n = true
 ·rw [if_pos h]
  exact lengths_yes hT ((worksB_iff n).1 h).1 ((worksB_iff n).1 h).2 hs hm
 ·rw [if_neg h]
  exact (lengths_no hT _ (fun h2 => h ((worksB_iff n).2 h2))).mono fun e w' h => ⟨_, h.1, ILst.nil _ _, h.2⟩
theorem lensW_le (n : T) (l : List Nat) : (lensW n l).length ≤ l.length + 1 := by
 unfold lensW
 split
 ·exact lens_le _ _ _
 ·simp
theorem lens_mem (n : T) (l : List Nat) (k : Nat) : k ∈ lens n l ↔ k ≤ l.length ∧ inL n (l.take k) = true := by
 unfold lens lensTo
 rw [List.mem_filter, List.mem_range]
 exact ⟨fun h => ⟨by omega, h.2⟩, fun h => ⟨by omega, h.2⟩⟩
noncomputable def isB (n : T) (l : List Nat) : Bool := decide (l.length ≤ 4096) && (worksB n && inL n l)
theorem isB_len (n : T) (l : List Nat) : (inB l.length 0 && decide (l.length ∈ lensW n l)) = isB n l := by
 unfold isB inB
 have h1 : (decide ((0 : Int) ≤ 0) && decide ((0 : Int) ≤ (l.length : Int))) = true := by rw [Bool.and_eq_true, decide_eq_true_eq, decide_eq_true_eq]; omega
 rw [h1, Bool.and_true]
 congr 1
 rw [Bool.eq_iff_iff, decide_eq_true_eq, Bool.and_eq_true]
 unfold lensW
 by_cases h : worksB n = true
 ·rw [if_pos h, lens_mem, List.take_length]
  exact ⟨fun h2 => ⟨h, h2.2⟩, fun h2 => ⟨Nat.le_refl _, h2.2⟩⟩
 ·rw [if_neg h]
  exact ⟨fun h2 => (by cases h2), fun h2 => absurd h2.1 h⟩
set_option maxRecDepth 100000 in
set_option maxHeartbeats 8000000 in
theorem is_in {w : World} {n : T} (hT : T.In w w.heap.size n) {a : Option Addr} {m c : Nat} {l : List Nat} (hs : Src w a m c l) (hm : m ≤ 100000) :
  Calls Tryd.prog 12 #[.agg n.cells.toArray, .slice a m c] w fun e w' => e = .returned (.bool (isB n l)) ∧ Below w.heap.size w w' := by
 have hlm := hs.len
 rw [← isB_len]
 have hq := Bel.new w (.cells n.cells.toArray 27)
 have cW := hid (fun w => within_in (a := a) (m := m) (c := c) 0 (by omega) w)
 have cL : Hid (∀ w1, Below (w.alloc (.cells n.cells.toArray 27)).heap.size (w.alloc (.cells n.cells.toArray 27)) w1 → Calls Tryd.prog 23 #[.agg n.cells.toArray, .slice a m c] w1 fun e w' => ∃ v, e = .returned v ∧ ILst w' w1.heap.size v (lensW n l) ∧ Below w1.heap.size w1 w') := hid fun w1 hb => lengths_in (in_bel hT (Bel.step hq hb)) (hs.bel (Bel.step hq hb)) hm
 have hCC : Hid (∀ (w2 : World) (B : Nat) (v : Value), ILst w2 B v (lensW n l) → Calls Tryd.prog 26 #[v, .int .i64 l.length] w2 fun e w' => e = .returned (.bool (decide (l.length ∈ lensW n l))) ∧ Below w2.heap.size w2 w') := hid fun w2 B v h => cints_in h (by have := lensW_le n l; omega) _
 rw [hlm] at hCC ⊢
 have hbx := World.alloc_heap_new w (.cells n.cells.toArray 27)
 have hbel : Below w.heap.size w (w.alloc (.cells n.cells.toArray 27)) := (Below.refl _ _).alloc (Nat.le_refl _) _
 generalize lensW n l = L at *
 generalize inB m 0 = I at *
 have hmm : m ≤ 100000 := hm
 clear hT hq hs hlm
 cases n with
 | mk k s0 s1 s2 s3 p cap mn mx tx ks =>
  simp only [T.cells] at hbx hbel cL ⊢
  obtain ⟨z0, z1, z2, z3, z4, z5, z6, z7, z8⟩ := c9 hbx
  replace hbx := hid hbx
  replace hbel := hid hbel
  generalize decide (m ∈ L) = D at *
  go_enter Tryd.func12, Tryd.ntmps12
  go_wp2_with (first | (go_at_call 22; (with_reducible refine (cW.out _).mono ?_); rintro e w1 ⟨rfl, hb1⟩; obtain ⟨y0, y1, y2, y3, y4, y5, y6, y7, y8⟩ := c9 (kept_row hbx.out hb1); replace hb1 := hid hb1) | (go_at_call 23; (with_reducible refine (cL.out _ hb1.out).mono ?_); rintro e w2 ⟨v, rfl, hv, hb2⟩; obtain ⟨pv, cv, rfl⟩ := hv.form; have cC := hid (hCC.out _ _ _ hv); replace hv := hid hv; replace hb2 := hid hb2) | (go_at_call 26; (with_reducible refine cC.out.mono ?_); rintro e w3 ⟨rfl, hb3⟩; replace hb3 := hid hb3))
  ·have hI : I = true := by assumption
   go_ret
   exact ⟨ret_bool (by rw [hI]; rfl), hbel.out.trans ((hb1.out.mono hbel.out.size).trans ((hb2.out.mono (Nat.le_trans hbel.out.size hb1.out.size)).trans (hb3.out.mono (Nat.le_trans (Nat.le_trans hbel.out.size hb1.out.size) hb2.out.size))))⟩
  ·have hI : ¬ I = true := by assumption
   go_ret
   exact ⟨ret_bool (by rw [Bool.not_eq_true] at hI; rw [hI]; rfl), hbel.out.trans (hb1.out.mono hbel.out.size)⟩
end Go.Proofs.YtobbifhflnlplaaDoor
namespace Go.Proofs.YtobbifhflnlplaaDoor
open Lib (hid)
open Go.RowKit
open Go.Tree7
open S7
open S5 (nl nl_length nl_small at_nl nl_at Gives idx idx_at ix ix_no ix_yes)
theorem ILst.set {w : World} {B : Nat} {g cap : Nat} {l : List Nat} (h : ILst w B (.slice (some ⟨g, 0, none⟩) l.length cap) l) {k : Nat} (hk : k < l.length) (x : Nat) : ILst (w.setCell ⟨g, k, none⟩ (.int .i64 (x : Int))) B (.slice (some ⟨g, 0, none⟩) (l.set k x).length cap) (l.set k x) := by
 rcases h.2 with ⟨h1, h2⟩ | ⟨g', cap', cur, e, h1, h2, h3, h4, h5, h6⟩
 ·omega
 ·simp only [Value.slice.injEq, Option.some.injEq, Addr.mk.injEq, and_true, true_and] at e
  obtain ⟨rfl, rfl⟩ := e
  refine ⟨by simp, .inr ⟨g, cap, _, rfl, h1, box_set h2 k _, by simpa using h3, h4, by simpa using h5, ?_⟩⟩
  rw [List.length_set, List.map_set, ← h6, Array.toList_setIfInBounds, List.take_set]
  rfl
def fromP (tb toff c F : Nat) : Option Addr := if c = F then some ⟨tb, toff, none⟩ else some ⟨tb, toff + F, none⟩
theorem Src.from {w : World} {tb toff m c : Nat} {l : List Nat} (h : Src w (some ⟨tb, toff, none⟩) m c l) {F : Nat} (hF : F ≤ m) : Src w (fromP tb toff c F) (m - F) (c - F) (l.drop F) := by
 have hl := h.len
 have hc := h.cap
 unfold fromP
 split
 ·next e =>
  have e2 : l.drop F = [] := List.drop_eq_nil_of_le (by omega)
  rw [e2]
  exact ⟨by show 0 = m - F; omega, fun x hx => absurd hx List.not_mem_nil, fun e => (by cases e), fun ad e j u hu => (by simp at hu), by omega⟩
 ·have h2 : Src w (some ⟨tb, toff, none⟩) m c (l.take F ++ l.drop F) := by rw [List.take_append_drop]; exact h
  have h3 := h2.tail
  rw [List.length_take, Nat.min_eq_left (by omega), List.length_drop, hl] at h3
  exact h3
def mapTo (L : List Nat) (F j : Nat) : List Nat := (L.take j).map (· + F) ++ L.drop j
theorem mapTo_len (L : List Nat) (F : Nat) {j : Nat} (hj : j ≤ L.length) : (mapTo L F j).length = L.length := by
 unfold mapTo
 rw [List.length_append, List.length_map, List.length_take, List.length_drop]
 omega
theorem mapTo_at (L : List Nat) (F : Nat) {j : Nat} (hj : j < L.length) : (mapTo L F j)[j]'(by rw [mapTo_len L F (by omega)]; exact hj) = L[j] := by
 unfold mapTo
 rw [List.getElem_append_right (by rw [List.length_map, List.length_take]; omega)]
 simp only [List.length_map, List.length_take, List.getElem_drop]
 congr 1
 omega
theorem mapTo_set (L : List Nat) (F : Nat) {j : Nat} (hj : j < L.length) : (mapTo L F j).set j (L[j] + F) = mapTo L F (j + 1) := by
 unfold mapTo
 rw [List.set_append_right _ _ (by rw [List.length_map, List.length_take]; omega), List.length_map, List.length_take, Nat.min_eq_left (by omega), Nat.sub_self, List.drop_eq_getElem_cons hj, List.set_cons_zero, List.take_succ_eq_append_getElem hj, List.map_append, List.append_assoc]
 rfl
theorem mapTo_all (L : List Nat) (F : Nat) : mapTo L F L.length = L.map (· + F) := by
 unfold mapTo
 rw [List.take_length, List.drop_length, List.append_nil]
theorem lensW_small (n : T) (l : List Nat) : ∀ x ∈ lensW n l, x ≤ l.length := fun x hx => by
 unfold lensW at hx
 split at hx
 ·exact ((lens_mem n l x).1 hx).1
 ·cases hx
set_option maxRecDepth 100000 in
set_option maxHeartbeats 8000000 in
theorem ends_yes {w : World} {n : T} (hT : T.In w w.heap.size n) {tb toff m c : Nat} {l : List Nat} (hs : Src w (some ⟨tb, toff, none⟩) m c l) {F : Nat} (hF : F ≤ m) (hm : m ≤ 4096) :
  Calls Tryd.prog 10 #[.agg n.cells.toArray, .slice (some ⟨tb, toff, none⟩) m c, .int .i64 F] w fun e w' => ∃ v, e = .returned v ∧ ILst w' w.heap.size v ((lensW n (l.drop F)).map (· + F)) ∧ Below w.heap.size w w' := by
 have hlm := hs.len
 have hq := Bel.new w (.cells n.cells.toArray 27)
 have hcap := hs.cap
 have cW := hid (fun w => within_in (a := some ⟨tb, toff, none⟩) (m := m) (c := c) F (by omega) w)
 have hI : inB m F = true := by unfold inB; simp; omega
 rw [hI] at cW
 have cL : Hid (∀ w1, Below (w.alloc (.cells n.cells.toArray 27)).heap.size (w.alloc (.cells n.cells.toArray 27)) w1 → Calls Tryd.prog 23 #[.agg n.cells.toArray, .slice (fromP tb toff c F) (m - F) (c - F)] w1 fun e w' => ∃ v, e = .returned v ∧ ILst w' w1.heap.size v (lensW n (l.drop F)) ∧ Below w1.heap.size w1 w') := hid fun w1 hb => by
  exact lengths_in (in_bel hT (Bel.step hq hb)) ((hs.bel (Bel.step hq hb)).from hF) (by omega)
 have hP : (if c = F then some (⟨tb, toff, none⟩ : Addr) else some ⟨tb, toff + F, none⟩) = fromP tb toff c F := rfl
 have hle := lensW_le n (l.drop F)
 rw [List.length_drop] at hle
 have hsm := hid (lensW_small n (l.drop F))
 rw [List.length_drop, hlm] at hsm
 have hbx := World.alloc_heap_new w (.cells n.cells.toArray 27)
 have hbel : Below w.heap.size w (w.alloc (.cells n.cells.toArray 27)) := (Below.refl _ _).alloc (Nat.le_refl _) _
 generalize lensW n (l.drop F) = L at *
 generalize fromP tb toff c F = P at *
 clear hT hq hs hI
 cases n with
 | mk k s0 s1 s2 s3 p cap mn mx tx ks =>
  simp only [T.cells] at hbx hbel cL ⊢
  obtain ⟨z0, z1, z2, z3, z4, z5, z6, z7, z8⟩ := c9 hbx
  replace hbx := hid hbx
  replace hbel := hid hbel
  go_enter Tryd.func10, Tryd.ntmps10
  go_upto_region 3 with (first | (go_at_call 22; (with_reducible refine (cW.out _).mono ?_); rintro e w1 ⟨rfl, hb1⟩; obtain ⟨y0, y1, y2, y3, y4, y5, y6, y7, y8⟩ := c9 (kept_row hbx.out hb1); replace hb1 := hid hb1))
  have hq1 := hid (show Below (w.alloc (.cells #[.int .i64 k, .int .u64 s0, .int .u64 s1, .int .u64 s2, .int .u64 s3, .slice p ks.length cap, .int .i64 mn, .int .i64 mx, .string tx] 27)).heap.size (w.alloc (.cells #[.int .i64 k, .int .u64 s0, .int .u64 s1, .int .u64 s2, .int .u64 s3, .slice p ks.length cap, .int .i64 mn, .int .i64 mx, .string tx] 27)) w1.drew from hb1.out.drew)
  go_region_with (first | (go_at_call 23; ((with_reducible refine (cL.out _ (hq1.out)).mono ?_); rintro e w2 ⟨v, rfl, hv, hb2⟩; obtain ⟨pv, cv, rfl⟩ := hv.form; replace hv := hid hv; replace hb2 := hid hb2)))
  have hb0 : Below w.heap.size w w2 := (hbel.out.trans (hb1.out.mono hbel.out.size)).trans (((Below.refl _ w1).drew).trans hb2.out |>.mono (Nat.le_trans hbel.out.size hb1.out.size))
  have hst0 : Hid (ILst w2 w.heap.size (.slice pv L.length cv) (mapTo L F 0)) := hid (hv.out.low (Nat.le_trans hbel.out.size hb1.out.size))
  have hq4 : L.length ≤ 4097 := by omega
  replace hb0 := hid hb0
  clear hv
  go_wp2
  go_loopw [20] (fun i wr => ∃ j : Nat, j ≤ L.length ∧ i = .int .i64 j ∧ Hid (Below w.heap.size w wr) ∧ Hid (ILst wr w.heap.size (.slice pv L.length cv) (mapTo L F j))) (fun i _ => L.length - (intOf i).toNat)
  case atStart => exact ⟨0, Nat.zero_le _, rfl, hb0, hst0⟩
  case round =>
   clear hst0 hb0
   obtain ⟨j, hj, rfl, hb0, hst⟩ := hrel
   by_cases hlt : j < L.length
   ·have hml := mapTo_len L F hj
    obtain ⟨g, cap', e1, hg0, hg, -, hc, hf⟩ := (show ILst wr w.heap.size (.slice pv (mapTo L F j).length cv) (mapTo L F j) by rw [hml]; exact hst.out).cell (k := j) (by omega)
    rw [hml] at e1
    simp only [Value.slice.injEq, true_and] at e1
    obtain ⟨rfl, rfl⟩ := e1
    rw [mapTo_at L F hlt] at hc
    have hx := hsm.out _ (List.getElem_mem hlt)
    have hnx : Hid (ILst (wr.setCell ⟨g, j, none⟩ (.int .i64 ((L[j] + F : Nat) : Int))) w.heap.size (.slice (some ⟨g, 0, none⟩) L.length cv) (mapTo L F (j + 1))) := hid (by
     have := (show ILst wr w.heap.size (.slice (some ⟨g, 0, none⟩) (mapTo L F j).length cv) (mapTo L F j) by rw [hml]; exact hst.out).set (k := j) (by omega) (L[j] + F)
     rw [List.length_set, hml, mapTo_set L F hlt] at this
     exact this)
    generalize L[j] = x at *
    have k1 : IntKind.i64.wrap ((x : Int) + F) = ((x + F : Nat) : Int) := by rw [IntWalk.i64_in _ ⟨by omega, by omega⟩]; omega
    clear hst
    clear hml
    go_wp2
    go_roundw
    case rel => exact ⟨j + 1, by omega, by go_num, hid (hb0.out.setCell (p := ⟨g, j, none⟩) hg0 _), hnx⟩
    case measure => simp [intOf]; omega
   ·obtain rfl : j = L.length := by omega
    go_wp2
    go_ret
    refine ⟨_, rfl, ?_, hb0.out⟩
    have := hst.out
    rw [mapTo_all] at this
    unfold ILst at this ⊢
    rw [List.length_map] at this ⊢
    exact this
end Go.Proofs.YtobbifhflnlplaaDoor
