/- Texts merged: S10R4, S10R5, S10R5s. -/

import Derived.Test.YtobbifhflnlplaaDoorS10R3
import Derived.Test.YtobbifhflnlplaaDoorMX
import Derived.Test.YtobbifhflnlplaaDoorWE
import Derived.Test.YtobbifhflnlplaaDoorWG
namespace Go.Proofs.YtobbifhflnlplaaDoor
open Lib (hid)
open Go.RowKit
open Go.Tree7
open S7
open S5 (nl nl_length nl_small at_nl nl_at Gives idx idx_at ix ix_no ix_yes)
def LstR (w : World) (B : Nat) (v : Value) (ks : List T) : Prop := w.ownsRow B 32 9 v ks.length (ks.flatMap T.cells)
theorem LstR.keep {w w' : World} {B : Nat} {v : Value} {ks : List T} (h : LstR w B v ks) (hk : ∀ g, v.ownBlock = some g → g < w.heap.size → w'.heap[g]? = w.heap[g]?) : LstR w' B v ks := own_keep2 h hk
theorem LstR.fr {w w' : World} {B : Nat} {v : Value} {ks : List T} {X : Nat → Prop} (h : LstR w B v ks) (hf : Fr X w w') (hX : ∀ g, v.ownBlock = some g → ¬ X g) : LstR w' B v ks :=
 h.keep fun g hg hl => hf.block g hl (hX g hg)
theorem LstR.alloc {w : World} {B : Nat} {v : Value} {ks : List T} (h : LstR w B v ks) (o : Obj) : LstR (w.alloc o) B v ks := World.ownsRow.alloc h o
theorem LstR.nil (w : World) (B : Nat) : LstR w B (.slice none 0 0) [] := World.ownsRow_nil _ _ _ _
theorem LstR.lt {w : World} {B : Nat} {v : Value} {ks : List T} (h : LstR w B v ks) {g : Nat} (hg : v.ownBlock = some g) : B ≤ g ∧ g < w.heap.size := World.ownsRow.lt h g hg
theorem LstR.form {w : World} {B : Nat} {v : Value} {ks : List T} (h : LstR w B v ks) : (v = .slice none 0 0 ∧ ks = []) ∨ ∃ g cap, v = .slice (some ⟨g, 0, none⟩) ks.length cap ∧ B ≤ g ∧ g < w.heap.size ∧ ks.length ≤ cap ∧ cap ≤ maxLen := by
 rcases h.2 with ⟨e, h0⟩ | ⟨g, cap', cur, e, hb, hg, h1, h2, h3, h4⟩
 ·exact .inl ⟨e, List.eq_nil_of_length_eq_zero h0⟩
 ·exact .inr ⟨g, cap', e, hb, (Array.getElem?_eq_some_iff.1 hg).1, h1, h2⟩
theorem LstR.cell {w : World} {B g cap : Nat} {ks : List T} (h : LstR w B (.slice (some ⟨g, 0, none⟩) ks.length cap) ks) (i : Nat) (hi : i < ks.length) (q : Nat) (hq : q < 9) : w.cell? ⟨g, i * 9 + q, none⟩ = (ks[i].cells)[q]? := by
 rcases h.2 with ⟨e, h0⟩ | ⟨g', cap', cur, e, hb, hg, h1, h2, h3, h4⟩
 ·simp at e
 ·simp only [Value.slice.injEq, Option.some.injEq, Addr.mk.injEq, and_true, true_and] at e
  obtain ⟨rfl, rfl⟩ := e
  rw [cell_of_row _ _ _ _ _ (0, 0) hg]
  have h5 := flat9 ks i q hi hq
  rw [← h4, List.getElem?_take, if_pos (by omega)] at h5
  rw [← h5]
  simp
def GivesR (B : Nat) (v : Value) (l : List T) (w : World) (e : Ending) (w' : World) : Prop :=
 ∃ v', e = .returned v' ∧ LstR w' B v' l ∧ Fr (fun b => v.ownBlock = some b) w w' ∧ (v'.ownBlock = v.ownBlock ∨ ∃ g, v'.ownBlock = some g ∧ w.heap.size ≤ g)
theorem GivesR.below {B : Nat} {v : Value} {l l0 : List T} {w w' : World} {e : Ending} (h0 : LstR w B v l0) (hB : B ≤ w.heap.size) (h : GivesR B v l w e w') : Below B w w' := by
 obtain ⟨v', -, -, hf, -⟩ := h
 exact hf.below hB fun g hg => (h0.lt hg).1
theorem GivesR.trans {B : Nat} {v v1 : Value} {l1 l2 : List T} {w w1 w2 : World} {e : Ending} (_ : LstR w1 B v1 l1) (hf : Fr (fun b => v.ownBlock = some b) w w1) (ho : v1.ownBlock = v.ownBlock ∨ ∃ g, v1.ownBlock = some g ∧ w.heap.size ≤ g) (h : GivesR B v1 l2 w1 e w2) : GivesR B v l2 w e w2 := by
 obtain ⟨v2, e2, h2, hf2, ho2⟩ := h
 refine ⟨v2, e2, h2, hf.trans hf2 fun k hk => ?_, ?_⟩
 ·rcases ho with ho | ⟨g, hg, hl⟩
  ·exact .inl (ho ▸ hk)
  ·rw [hg] at hk; cases hk; exact .inr hl
 ·rcases ho2 with ho2 | ⟨g, hg, hl⟩
  ·rw [ho2]; exact ho
  ·exact .inr ⟨g, hg, Nat.le_trans hf.size hl⟩
theorem own_next {v v1 v2 : Value} {w wr w1 : World} {bx : Obj} (hf : Fr (fun b => v.ownBlock = some b) w wr) (ho : v1.ownBlock = v.ownBlock ∨ ∃ g, v1.ownBlock = some g ∧ w.heap.size ≤ g) (hf2 : Fr (fun b => v1.ownBlock = some b) (wr.alloc bx) w1) (ho2 : v2.ownBlock = v1.ownBlock ∨ ∃ g, v2.ownBlock = some g ∧ (wr.alloc bx).heap.size ≤ g) :
  Fr (fun b => v.ownBlock = some b) w w1 ∧ (v2.ownBlock = v.ownBlock ∨ ∃ g, v2.ownBlock = some g ∧ w.heap.size ≤ g) := by
 have h1 := (hf.alloc bx).size
 refine ⟨(hf.alloc bx).trans hf2 fun k hk => ?_, ?_⟩
 ·rcases ho with ho | ⟨g, hg, hl⟩
  ·exact .inl (ho ▸ hk)
  ·rw [hg] at hk; cases hk; exact .inr hl
 ·rcases ho2 with ho2 | ⟨g, hg, hl⟩
  ·rw [ho2]; exact ho
  ·exact .inr ⟨g, hg, Nat.le_trans h1 hl⟩
theorem br_len : ∀ (t : T) (l : List T), l.length ≤ (brD t l).length := by
 refine T.ind fun k u0 u1 u2 u3 p cap mn mx tx ks ih => ?_
 intro l
 rw [brD_mk]
 split
 ·exact Nat.le_refl _
 ·split
  ·next h0 h3 =>
   clear h0 h3
   induction ks generalizing l with
   | nil => exact Nat.le_refl _
   | cons y ys ih2 =>
    rw [List.foldl_cons]
    exact Nat.le_trans (ih y (by simp) l) (ih2 (fun t ht => ih t (List.mem_cons_of_mem _ ht)) _)
  ·split
   ·exact Nat.le_refl _
   ·simp
theorem br_take (ks : List T) (l : List T) {j : Nat} (hj : j < ks.length) : (ks.take (j + 1)).foldl (fun l x => brD x l) l = brD ks[j] ((ks.take j).foldl (fun l x => brD x l) l) := by
 rw [List.take_succ_eq_append_getElem hj, List.foldl_append, List.foldl_cons, List.foldl_nil]
theorem br_take_le (ks : List T) (l : List T) (j : Nat) : ((ks.take j).foldl (fun l x => brD x l) l).length ≤ (ks.foldl (fun l x => brD x l) l).length := by
 have h : ∀ (xs : List T) (l : List T), l.length ≤ (xs.foldl (fun l x => brD x l) l).length := by
  intro xs
  induction xs with
  | nil => exact fun l => Nat.le_refl _
  | cons y ys ih => exact fun l => Nat.le_trans (br_len y l) (ih _)
 conv => rhs; rw [← List.take_append_drop j ks, List.foldl_append]
 exact h _ _
end Go.Proofs.YtobbifhflnlplaaDoor
namespace Go.Proofs.YtobbifhflnlplaaDoor
open Lib (hid)
open Go.RowKit
open Go.Tree7
open S7
open S5 (nl nl_length nl_small at_nl nl_at Gives idx idx_at ix ix_no ix_yes)
theorem br_inn {w0 : World} {B0 : Nat} : ∀ t : T, T.In w0 B0 t → ∀ l : List T, (∀ x ∈ l, T.In w0 B0 x) → ∀ x ∈ brD t l, T.In w0 B0 x := by
 refine T.ind fun k u0 u1 u2 u3 p cap mn mx tx ks ih => ?_
 intro hT l hl
 rw [brD_mk]
 split
 ·exact hl
 ·split
  ·next h0 h3 =>
   clear h0 h3
   have hk : ∀ y ∈ ks, T.In w0 B0 y := fun y hy => by
    obtain ⟨i, hi, rfl⟩ := List.getElem_of_mem hy
    obtain ⟨-, -, h, -⟩ := T.kid hT hi
    exact h
   clear hT
   induction ks generalizing l with
   | nil => exact hl
   | cons y ys ih2 =>
    rw [List.foldl_cons]
    exact ih2 (fun t ht => ih t (List.mem_cons_of_mem _ ht)) _ (ih y (by simp) (hk y (by simp)) l hl) (fun z hz => hk z (List.mem_cons_of_mem _ hz))
  ·split
   ·exact hl
   ·intro x hx
    rcases List.mem_append.1 hx with h | h
    ·exact hl x h
    ·rw [List.mem_singleton.1 h]; exact hT
theorem take_inn {w0 : World} {B0 : Nat} (ks : List T) (hk : ∀ y ∈ ks, T.In w0 B0 y) (l : List T) (hl : ∀ x ∈ l, T.In w0 B0 x) : ∀ x ∈ ks.foldl (fun l x => brD x l) l, T.In w0 B0 x := by
 induction ks generalizing l with
 | nil => exact hl
 | cons y ys ih =>
  rw [List.foldl_cons]
  exact ih (fun z hz => hk z (List.mem_cons_of_mem _ hz)) _ (br_inn y (hk y (by simp)) l hl)
set_option maxRecDepth 100000 in
set_option maxHeartbeats 4000000 in
theorem br_in {w0 : World} {B0 : Nat} (hn0 : B0 ≤ w0.heap.size) : ∀ t : T, T.In w0 B0 t → ∀ (l : List T) (v : Value) (w : World), (∀ x ∈ l, T.In w0 B0 x) → LstR w B0 v l → Below B0 w0 w → (brD t l).length ≤ 805306376000 → Calls Tryd.prog 66 #[v, .agg t.cells.toArray] w (GivesR B0 v (brD t l) w) := by
 refine T.ind fun ka a0 a1 a2 a3 pa capa mna mxa txa ksa ih => ?_
 intro hT l v w hl hL hB0 hlen
 have hB0w : B0 ≤ w.heap.size := Nat.le_trans hn0 hB0.size
 have hla : ksa.length ≤ 9223372036854775807 := by cases hT with | mk h1 h2 => unfold maxLen at h2; omega
 have hbx := World.alloc_heap_new w (.cells #[.int .i64 ka, .int .u64 a0, .int .u64 a1, .int .u64 a2, .int .u64 a3, .slice pa ksa.length capa, .int .i64 mna, .int .i64 mxa, .string txa] 32)
 have hf0 : Fr (fun b => v.ownBlock = some b) w (w.alloc (.cells #[.int .i64 ka, .int .u64 a0, .int .u64 a1, .int .u64 a2, .int .u64 a3, .slice pa ksa.length capa, .int .i64 mna, .int .i64 mxa, .string txa] 32)) := (Fr.refl _ w).alloc _
 have hG : ∃ G, G = GivesR B0 v (brD (.mk ka a0 a1 a2 a3 pa capa mna mxa txa ksa) l) w := ⟨_, rfl⟩
 obtain ⟨G, hG⟩ := hG
 rw [← hG]
 rw [brD_mk] at hlen hG
 simp only [T.cells]
 obtain ⟨y0, y1, y2, y3, y4, y5, y6, y7, y8⟩ := c9 hbx
 replace hT := hid hT
 replace hbx := hid hbx
 replace ih := hid ih
 replace hB0 := hid hB0
 replace hl := hid hl
 by_cases hk0 : ka = 0
 ·have g0 : (ka == 0) = true := by rw [beq_iff_eq]; exact hk0
  rw [if_pos hk0] at hG hlen
  replace hG := hid hG
  replace hL := hid hL
  replace hf0 := hid hf0
  clear hk0
  go_enter Tryd.func66, Tryd.ntmps66
  go_wp2
  rw [hG.out]
  exact ⟨v, rfl, hL.out.alloc _, hf0.out, .inl rfl⟩
 have g0 : (ka == 0) = false := by rw [beq_eq_false_iff_ne]; exact hk0
 rw [if_neg hk0] at hG hlen
 clear hk0
 by_cases hk3 : ka = 3
 ·have g3 : (ka == 3) = true := by rw [beq_iff_eq]; exact hk3
  rw [if_pos hk3] at hG hlen
  clear hk3
  have hkl : ∀ y ∈ ksa, T.In w0 B0 y := fun y hy => by
   obtain ⟨i, hi, rfl⟩ := List.getElem_of_mem hy
   obtain ⟨-, -, h, -⟩ := T.kid hT.out hi
   exact h
  obtain ⟨F, hF⟩ : ∃ F : Nat → List T, F = fun j => (ksa.take j).foldl (fun l x => brD x l) l := ⟨_, rfl⟩
  have hF0 : F 0 = l := by rw [hF]; rfl
  have hFn : F ksa.length = ksa.foldl (fun l x => brD x l) l := by rw [hF]; simp only [List.take_length]
  have hFs : ∀ j (h : j < ksa.length), F (j + 1) = brD ksa[j] (F j) := fun j h => by rw [hF]; exact br_take ksa l h
  have hFl : ∀ j, (F j).length ≤ 805306376000 := fun j => by rw [hF]; exact Nat.le_trans (br_take_le ksa l j) hlen
  have hFi : ∀ j, ∀ x ∈ F j, T.In w0 B0 x := fun j => by rw [hF]; exact take_inn _ (fun y hy => hkl y (List.mem_of_mem_take hy)) l hl.out
  rw [← hFn] at hG
  clear hF hFn hkl hlen
  replace hG := hid hG
  replace hF0 := hid hF0
  replace hFs := hid hFs
  replace hFl := hid hFl
  replace hFi := hid hFi
  have hbelow : Hid (∀ wr, Fr (fun b => v.ownBlock = some b) w wr → Below B0 w0 wr) := hid fun wr h => hB0.out.trans (h.below hB0w fun g hg => (hL.lt hg).1)
  have hL0 : Hid (LstR (w.alloc (.cells #[.int .i64 ka, .int .u64 a0, .int .u64 a1, .int .u64 a2, .int .u64 a3, .slice pa ksa.length capa, .int .i64 mna, .int .i64 mxa, .string txa] 32)) B0 v (F 0)) := hid (by rw [hF0.out]; exact hL.alloc _)
  replace hL := hid hL
  replace hf0 := hid hf0
  go_enter Tryd.func66, Tryd.ntmps66
  go_wp2
  go_loopw [0, 19] (fun lv i wr => ∃ j : Nat, j ≤ ksa.length ∧ i = .int .i64 j ∧ Hid (LstR wr B0 lv (F j)) ∧ Hid (Fr (fun b => v.ownBlock = some b) w wr) ∧ Hid (lv.ownBlock = v.ownBlock ∨ ∃ g, lv.ownBlock = some g ∧ w.heap.size ≤ g)) (fun _ i _ => ksa.length - (intOf i).toNat)
  case atStart => exact ⟨0, Nat.zero_le _, rfl, hL0, hf0, hid (.inl rfl)⟩
  case round =>
   clear hL0 y0 y1 y2 y3 y4 y5 y6 y7 y8
   obtain ⟨j, hj, rfl, hLj, hfj, hoj⟩ := hrel
   by_cases hlt : j < ksa.length
   ·obtain ⟨b, o, hkid, hp, hb, hc⟩ := T.kid hT.out hlt
    have hBw : Below B0 w0 wr := hbelow.out wr hfj.out
    have hcl : ∀ q, q < 9 → wr.cell? ⟨b, o + j * 9 + q, none⟩ = (ksa[j].cells)[q]? := fun q hq => by
     rw [← hc q hq]
     exact hBw.cell (p := ⟨b, o + j * 9 + q, none⟩) hb
    have hBr : B0 ≤ wr.heap.size := Nat.le_trans hB0w hfj.out.size
    have hs := hFs.out j hlt
    have cK := fun bx => ih.out ksa[j] (List.getElem_mem hlt) hkid (F j) u0 (wr.alloc bx) (hFi.out j) (hLj.out.alloc bx) (hBw.alloc hBr bx) (by rw [← hs]; exact hFl.out (j + 1))
    rw [← hs] at cK
    clear hc hkid hBw hs
    subst hp
    generalize ksa[j] = kd at *
    obtain ⟨kc, c0, c1, c2, c3, pc, capc, mnc, mxc, txc, ksc⟩ := kd
    simp only [T.cells] at hcl cK
    obtain ⟨q0, q1, q2, q3, q4, q5, q6, q7, q8⟩ := nine_of hcl
    clear hcl
    replace cK := hid (cK (.cells #[.int .i64 kc, .int .u64 c0, .int .u64 c1, .int .u64 c2, .int .u64 c3, .slice pc ksc.length capc, .int .i64 mnc, .int .i64 mxc, .string txc] 32))
    go_wp2_with (go_at_call 66; (with_reducible refine cK.out.mono ?_); rintro e w1 ⟨v2, rfl, h2, hf2, ho2⟩; replace h2 := hid h2; replace hf2 := hid hf2; replace ho2 := hid ho2)
    go_roundw
    case rel => exact ⟨j + 1, by omega, by go_num, h2, hid (own_next hfj.out hoj.out hf2.out ho2.out).1, hid (own_next hfj.out hoj.out hf2.out ho2.out).2⟩
    case measure => simp [intOf]; omega
   ·obtain rfl : j = ksa.length := by omega
    go_wp2
    rw [hG.out]
    exact ⟨_, rfl, hLj.out, hfj.out, hoj.out⟩
 ·have g3 : (ka == 3) = false := by rw [beq_eq_false_iff_ne]; exact hk3
  rw [if_neg hk3] at hG hlen
  clear hk3
  have hsl : ∃ (pv : Option Addr) (cv : Nat), v = .slice pv l.length cv ∧ l.length ≤ cv ∧ cv ≤ maxLen := by
   rcases hL.form with ⟨rfl, rfl⟩ | ⟨g, cap, rfl, -, -, h1, h2⟩
   ·exact ⟨none, 0, rfl, Nat.le_refl _, by decide⟩
   ·exact ⟨_, cap, rfl, h1, h2⟩
  obtain ⟨pv, cv, rfl, hlc, hcm⟩ := hsl
  have hcell : ∀ j (h : j < l.length), ∃ g, pv = some ⟨g, 0, none⟩ ∧ g < w.heap.size ∧ ∀ q, q < 9 → w.cell? ⟨g, j * 9 + q, none⟩ = (l[j].cells)[q]? := fun j h => by
   rcases hL.form with ⟨e, rfl⟩ | ⟨g, cap, e, -, hg, h1, h2⟩
   ·simp at h
   ·simp only [Value.slice.injEq, true_and] at e
    obtain ⟨rfl, rfl⟩ := e
    exact ⟨g, rfl, hg, fun q hq => hL.cell j h q hq⟩
  obtain ⟨t, ht⟩ : ∃ t, t = T.mk ka a0 a1 a2 a3 pa capa mna mxa txa ksa := ⟨_, rfl⟩
  have htc : t.cells.toArray = #[.int .i64 ka, .int .u64 a0, .int .u64 a1, .int .u64 a2, .int .u64 a3, .slice pa ksa.length capa, .int .i64 mna, .int .i64 mxa, .string txa] := by rw [ht]; rfl
  rw [← ht] at hT hG hlen
  clear ht ih hla
  have hll : l.length ≤ 9223372036854775807 := by unfold maxLen at hcm; omega
  have hb0 := hid (Bel.new w (.cells #[.int .i64 ka, .int .u64 a0, .int .u64 a1, .int .u64 a2, .int .u64 a3, .slice pa ksa.length capa, .int .i64 mna, .int .i64 mxa, .string txa] 32))
  have hsame : Hid (∀ j (h : j < l.length) wr, Below B0 w0 wr → Calls Tryd.prog 86 #[.agg l[j].cells.toArray, .agg t.cells.toArray] wr fun e w' => e = .returned (.bool (sameD l[j] t)) ∧ Below wr.heap.size wr w') := hid fun j h wr hw => same10_in hn0 l[j] (hl.out _ (List.getElem_mem h)) t hT.out wr hw
  rw [htc] at hsame
  have hno : Hid ((∀ i (h : i < l.length), sameD l[i] t = false) → GivesR B0 (.slice pv l.length cv) (l ++ [t]) w = G) := hid fun h => by
   rw [hG, if_neg]
   rw [Bool.not_eq_true, List.any_eq_false]
   intro x hx
   obtain ⟨i, hi, rfl⟩ := List.getElem_of_mem hx
   rw [h i hi]
   decide
  have hyes : Hid (∀ i (h : i < l.length), sameD l[i] t = true → GivesR B0 (.slice pv l.length cv) l w = G) := hid fun i h he => by
   rw [hG, if_pos]
   exact List.any_eq_true.2 ⟨_, List.getElem_mem h, he⟩
  have hlen2 : Hid ((∀ i (h : i < l.length), sameD l[i] t = false) → l.length + 1 ≤ 805306376000) := hid fun h => by
   rw [if_neg] at hlen
   ·simpa using hlen
   rw [Bool.not_eq_true, List.any_eq_false]
   intro x hx
   obtain ⟨i, hi, rfl⟩ := List.getElem_of_mem hx
   rw [h i hi]
   decide
  replace hcell := hid hcell
  replace hL := hid hL
  replace hf0 := hid hf0
  replace htc := hid htc
  clear hG hlen
  go_enter Tryd.func66, Tryd.ntmps66
  go_wp2
  go_loopw [30] (fun i wr => ∃ j : Nat, j ≤ l.length ∧ i = .int .i64 j ∧ Hid (Bel (w.alloc (.cells #[.int .i64 ka, .int .u64 a0, .int .u64 a1, .int .u64 a2, .int .u64 a3, .slice pa ksa.length capa, .int .i64 mna, .int .i64 mxa, .string txa] 32)) wr) ∧ Hid (∀ i (h : i < l.length), i < j → sameD l[i] t = false)) (fun i _ => l.length - (intOf i).toNat)
  case atStart => exact ⟨0, Nat.zero_le _, rfl, hid (Bel.refl _), hid fun i h1 h2 => by omega⟩
  case round =>
   clear y0 y1 y2 y3 y4 y5 y6 y7 y8
   obtain ⟨j, hj, rfl, hB, hso⟩ := hrel
   have hbxr := hid (kept_row hbx.out hB.out)
   obtain ⟨y0, y1, y2, y3, y4, y5, y6, y7, y8⟩ := c9 hbxr.out
   have hsz := lt_box hbxr.out
   by_cases hlt : j < l.length
   ·obtain ⟨g, rfl, hgw, hcl⟩ := hcell.out j hlt
    have hww : Below B0 w0 wr := hB0.out.trans ((bel_bel hb0.out hB.out : Below _ w wr).mono hB0w)
    have hcl2 : ∀ q, q < 9 → wr.cell? ⟨g, j * 9 + q, none⟩ = (l[j].cells)[q]? := fun q hq => by
     rw [← hcl q hq]
     exact Below.cell (bel_bel hb0.out hB.out) (p := ⟨g, j * 9 + q, none⟩) hgw
    have cK := fun bx => hsame.out j hlt (wr.alloc bx) (hww.alloc (by omega) bx)
    have hy := hid (hyes.out j hlt)
    have hn : Hid (sameD l[j] t = false → ∀ i (h : i < l.length), i < j + 1 → sameD l[i] t = false) := hid fun h i h1 h2 => by
     by_cases e : i = j
     ·subst e; exact h
     ·exact hso.out i h1 (by omega)
    clear hcl hww
    generalize l[j] = x at *
    obtain ⟨R, hR⟩ : ∃ R, sameD x t = R := ⟨_, rfl⟩
    rw [hR] at cK hy hn
    clear hR
    obtain ⟨kc, c0, c1, c2, c3, pc, capc, mnc, mxc, txc, ksc⟩ := x
    simp only [T.cells] at hcl2 cK
    obtain ⟨q0, q1, q2, q3, q4, q5, q6, q7, q8⟩ := nine_of hcl2
    clear hcl2
    replace cK := hid (cK (.cells #[.int .i64 kc, .int .u64 c0, .int .u64 c1, .int .u64 c2, .int .u64 c3, .slice pc ksc.length capc, .int .i64 mnc, .int .i64 mxc, .string txc] 32))
    cases R
    ·go_wp2_with (go_at_call 86; (with_reducible refine cK.out.mono ?_); rintro e w1 ⟨rfl, hb1⟩; replace hb1 := hid hb1)
     go_roundw
     case rel => exact ⟨j + 1, by omega, by go_num, hid (bel_bel hB.out (bel_bel (Bel.new _ _) hb1.out)), hid (hn.out trivial)⟩
     case measure => simp [intOf]; omega
    ·go_wp2_with (go_at_call 86; (with_reducible refine cK.out.mono ?_); rintro e w1 ⟨rfl, hb1⟩; replace hb1 := hid hb1)
     rw [← hy.out trivial]
     have hbw : Below w.heap.size w _ := bel_bel hb0.out (bel_bel hB.out (bel_bel (Bel.new _ _) hb1.out))
     exact ⟨_, rfl, hL.out.keep (fun g hg hl => hbw.block g hl), Fr.of_bel hbw, .inl rfl⟩
   ·obtain rfl : j = l.length := by omega
    have hall : ∀ i (h : i < l.length), sameD l[i] t = false := fun i h => hso.out i h h
    have hGe := hid (hno.out hall)
    have h80 := hlen2.out hall
    have hLr : Hid (LstR wr B0 (.slice pv l.length cv) l) := hid (hL.out.keep (fun g hg hl => Below.block (bel_bel hb0.out hB.out) g hl))
    have hfr : Hid (Fr (fun b => (Value.slice pv l.length cv).ownBlock = some b) w wr) := hid (Fr.of_bel (bel_bel hb0.out hB.out))
    have hBr : B0 ≤ wr.heap.size := by omega
    clear hall hso hyes hsame hcell
    obtain ⟨i0, hi, hz0, hz1, hz2⟩ := info_parts infoRN
    replace hi := hid hi
    replace hz0 := hid hz0
    replace hz1 := hid hz1
    replace hz2 := hid hz2
    have hone := hid (cells_one' (T.mk ka a0 a1 a2 a3 pa capa mna mxa txa ksa))
    go_wp2_with (at_builtin; (refine wpList_append_own_at _ rfl _ _ 30 rfl B0 32 i0 (.agg #[.int .i64 0, .int .u64 0, .int .u64 0, .int .u64 0, .int .u64 0, .slice none 0 0, .int .i64 0, .int .i64 0, .string ⟨#[]⟩]) 9 96 Tryd.underlying30 hi.out hz0.out hz1.out hz2.out rfl (by decide) _ l.length (l.flatMap T.cells) rfl (hLr.out.alloc _) ⟨_, 0, none⟩ 1 1 [.int .i64 ka, .int .u64 a0, .int .u64 a1, .int .u64 a2, .int .u64 a3, .slice pa ksa.length capa, .int .i64 mna, .int .i64 mxa, .string txa] rfl rfl (cells_new (by simp)) hone.out (by simp [maxLen]; omega) (by omega) (by simp <;> omega) ?_; intro v3 w9 h9 hg9 hnil9 hat9; clear hnil9; replace h9 := hid h9; replace hg9 := hid hg9; replace hat9 := hid hat9))
    rw [← hGe.out]
    refine ⟨v3, rfl, ?_, ?_, ?_⟩
    ·unfold LstR
     rw [List.flatMap_append, List.length_append]
     have e9 : [t].flatMap T.cells = [.int .i64 ka, .int .u64 a0, .int .u64 a1, .int .u64 a2, .int .u64 a3, .slice pa ksa.length capa, .int .i64 mna, .int .i64 mxa, .string txa] := by
      rw [List.flatMap_cons, List.flatMap_nil, List.append_nil]
      exact congrArg Array.toList htc.out
     rw [e9]
     exact h9.out
    ·exact (hfr.out.alloc _).trans (Fr.of_grown (X := fun b => (Value.slice pv l.length cv).ownBlock = some b) hg9.out (fun g e => e)) (fun b hb => .inl hb)
    ·rcases hat9.out with h | h
     ·exact .inl h
     ·exact .inr ⟨_, h, by first | omega | (simp <;> omega)⟩
end Go.Proofs.YtobbifhflnlplaaDoor
namespace Go.Proofs.YtobbifhflnlplaaDoor
open Lib (hid)
open Go.RowKit
open Go.Tree7
open S7
open S5 (nl nl_length nl_small at_nl nl_at Gives idx idx_at ix ix_no ix_yes)
theorem same_strip : ∀ a b : T, sameD a.strip b.strip = sameD a b := by
 refine T.ind fun k u0 u1 u2 u3 p cap mn mx tx ks ih => ?_
 intro b
 obtain ⟨k', v0, v1, v2, v3, p', cap', mn', mx', tx', ks'⟩ := b
 rw [T.strip_mk, T.strip_mk, sameD_mk, sameD_mk]
 simp only [List.length_map]
 congr 1
 induction ks generalizing ks' with
 | nil => rfl
 | cons y ys ih2 =>
  cases ks' with
  | nil => rfl
  | cons z zs =>
   simp only [List.map_cons, List.zip_cons_cons, List.all_cons]
   rw [ih y (by simp) z, ih2 (fun t ht => ih t (List.mem_cons_of_mem _ ht)) zs]
theorem none_strip : noneT.strip = noneT := by rw [T.strip_mk]; rfl
theorem br_strip : ∀ (t : T) (l : List T), (brD t l).map T.strip = brD t.strip (l.map T.strip) := by
 refine T.ind fun k u0 u1 u2 u3 p cap mn mx tx ks ih => ?_
 intro l
 rw [T.strip_mk, brD_mk, brD_mk]
 by_cases h0 : k = 0
 ·rw [if_pos h0, if_pos h0]
 rw [if_neg h0, if_neg h0]
 by_cases h3 : k = 3
 ·rw [if_pos h3, if_pos h3]
  clear h0 h3
  induction ks generalizing l with
  | nil => rfl
  | cons y ys ih2 =>
   rw [List.foldl_cons, List.map_cons, List.foldl_cons, ← ih y (by simp) l]
   exact ih2 (fun t ht => ih t (List.mem_cons_of_mem _ ht)) _
 rw [if_neg h3, if_neg h3]
 have e : (l.map T.strip).any (fun x => sameD x (.mk k u0 u1 u2 u3 none 0 mn mx tx (ks.map T.strip))) = l.any (fun x => sameD x (.mk k u0 u1 u2 u3 p cap mn mx tx ks)) := by
  rw [List.any_map]
  congr 1
  funext x
  show sameD x.strip _ = _
  rw [← same_strip x, T.strip_mk]
 rw [e]
 split
 ·rfl
 ·rw [List.map_append, List.map_cons, List.map_nil, T.strip_mk]
theorem altOf_strip (l : List T) : (altOf l).strip = altOf (l.map T.strip) := by
 match l with
 | [] => exact none_strip
 | [x] => rfl
 | x :: y :: l => simp only [altOf, List.map_cons, nodeT, T.strip_mk]
theorem alt_strip (a b : T) : (altD a b).strip = altD a.strip b.strip := by
 unfold altD
 rw [altOf_strip, br_strip, br_strip]
 rfl
theorem kind_strip (t : T) : kindT t.strip = kindT t := by cases t; rw [T.strip_mk]; rfl
theorem parts_strip (t : T) : (partsT t).map T.strip = partsT t.strip := by
 unfold partsT
 rw [kind_strip]
 split
 ·cases t; rw [T.strip_mk]; rfl
 ·rfl
theorem built_in {w : World} {B : Nat} {S : Nat → Prop} {p : Option Addr} {cap : Nat} {L : List T} {k mn mx : Int} (hL : LstR w B (.slice p L.length cap) L) (hi : ∀ x ∈ L, T.InP w S x)
  (hg : ∀ g, (Value.slice p L.length cap).ownBlock = some g → S g) (hf : (Lit.int .i64 k).wf = true ∧ (Lit.int .i64 mn).wf = true ∧ (Lit.int .i64 mx).wf = true) : T.InP w S (.mk k 0 0 0 0 p cap mn mx ⟨#[]⟩ L) := by
 have hs : L.length ≤ cap ∧ cap ≤ maxLen ∧ ∀ i (h : i < L.length), ∃ g, p = some ⟨g, 0, none⟩ ∧ g < w.heap.size ∧ ∀ q, q < 9 → w.cell? ⟨g, i * 9 + q, none⟩ = (L[i].cells)[q]? := by
  rcases hL.form with ⟨e, rfl⟩ | ⟨g, cap', e, -, hgl, h1, h2⟩
  ·simp only [Value.slice.injEq] at e
   obtain ⟨-, -, rfl⟩ := e
   exact ⟨by simp, by decide, fun i h => by simp at h⟩
  ·simp only [Value.slice.injEq, true_and] at e
   obtain ⟨rfl, rfl⟩ := e
   exact ⟨h1, h2, fun i h => ⟨g, rfl, hgl, fun q hq => hL.cell i h q hq⟩⟩
 refine .mk hs.1 hs.2.1 ⟨hf.1, ⟨by decide, by decide, by decide, by decide⟩, hf.2.1, hf.2.2, by decide⟩ (fun i h => ?_) hi
 obtain ⟨g, rfl, -, hc⟩ := hs.2.2 i h
 refine ⟨_, rfl, hg g rfl, fun j hj => ?_⟩
 have e : (⟨g, 0, none⟩ : Addr).add (i * 9 + j) = ⟨g, i * 9 + j, none⟩ := by unfold Addr.add; split <;> simp_all
 rw [e]
 exact hc j hj
def GivesP (P : Nat → Prop) (w : World) (m : T) (e : Ending) (w' : World) : Prop := ∃ t, e = .returned (.agg t.cells.toArray) ∧ t.strip = m ∧ T.InP w' (fun b => P b ∨ (w.heap.size ≤ b ∧ b < w'.heap.size)) t ∧ Below w.heap.size w w'
theorem none_in (w : World) (S : Nat → Prop) : T.InP w S noneT := .mk (by simp) (by decide) ⟨by decide, ⟨by decide, by decide, by decide, by decide⟩, by decide, by decide, by decide⟩ (fun i hi => by simp at hi) (fun t ht => by simp at ht)
theorem inp_later {P : Nat → Prop} {w W : World} {x : T} (h : T.InP w P x) (hP : ∀ b, P b → b < w.heap.size) (hb : Below w.heap.size w W) : T.InP W (fun b => P b ∨ (w.heap.size ≤ b ∧ b < W.heap.size)) x :=
 (h.keep fun b hp => hb.block b (hP b hp)).imp fun _ hp => .inl hp
theorem inp_kids {P : Nat → Prop} {w : World} {t : T} (h : T.InP w P t) : ∀ x ∈ kidsT t, T.InP w P x := by cases h with | mk _ _ _ _ h => exact h
theorem br_inP {w0 : World} {P : Nat → Prop} : ∀ t : T, T.InP w0 P t → ∀ l : List T, (∀ x ∈ l, T.InP w0 P x) → ∀ x ∈ brD t l, T.InP w0 P x := by
 refine T.ind fun k u0 u1 u2 u3 p cap mn mx tx ks ih => ?_
 intro hT l hl
 rw [brD_mk]
 split
 ·exact hl
 ·split
  ·next h0 h3 =>
   clear h0 h3
   have hk : ∀ y ∈ ks, T.InP w0 P y := inp_kids hT
   clear hT
   induction ks generalizing l with
   | nil => exact hl
   | cons y ys ih2 =>
    rw [List.foldl_cons]
    exact ih2 (fun t ht => ih t (List.mem_cons_of_mem _ ht)) _ (ih y (by simp) (hk y (by simp)) l hl) (fun z hz => hk z (List.mem_cons_of_mem _ hz))
  ·split
   ·exact hl
   ·intro x hx
    rcases List.mem_append.1 hx with h | h
    ·exact hl x h
    ·rw [List.mem_singleton.1 h]; exact hT
theorem box3 (w : World) (c0 c1 c2 : Array Value) (t : TypeId) : Bel w (((w.alloc (.cells c0 t)).alloc (.cells c1 t)).alloc (.cells c2 t)) ∧ (((w.alloc (.cells c0 t)).alloc (.cells c1 t)).alloc (.cells c2 t)).heap[w.heap.size]? = some (.cells c0 t (0, 0)) ∧
  (((w.alloc (.cells c0 t)).alloc (.cells c1 t)).alloc (.cells c2 t)).heap[w.heap.size + 1]? = some (.cells c1 t (0, 0)) ∧ (((w.alloc (.cells c0 t)).alloc (.cells c1 t)).alloc (.cells c2 t)).heap[w.heap.size + 1 + 1]? = some (.cells c2 t (0, 0)) := by
 refine ⟨Bel.alloc (Bel.alloc (Bel.new w _) _) _, (Below.heap_alloc _ _ _ (by simp; omega)).trans ((Below.heap_alloc _ _ _ (by simp)).trans (World.alloc_heap_new _ _)), (Below.heap_alloc _ _ _ (by simp)).trans ?_, ?_⟩
 ·have := World.alloc_heap_new (w.alloc (.cells c0 t)) (.cells c1 t)
  rw [World.size_alloc] at this
  exact this
 ·have := World.alloc_heap_new ((w.alloc (.cells c0 t)).alloc (.cells c1 t)) (.cells c2 t)
  rw [World.size_alloc, World.size_alloc] at this
  exact this
end Go.Proofs.YtobbifhflnlplaaDoor
