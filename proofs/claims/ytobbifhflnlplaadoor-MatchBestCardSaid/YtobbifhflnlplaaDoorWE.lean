/- Texts merged: W15, W16, W17, W18, W19, W20, W21. -/
import Derived.BigQuiet
import Derived.Test.YtobbifhflnlplaaDoorWC
import Derived.Test.YtobbifhflnlplaaDoorMA
import Derived.Test.YtobbifhflnlplaaDoorS7D
namespace Go.Proofs.YtobbifhflnlplaaDoor
open Lib (hid)
open Go.RowKit
open Go.Tree7
open S7
open S5 (nl nl_length nl_small at_nl nl_at Gives idx idx_at ix ix_no ix_yes)
theorem take_of_cells {cur : Array Value} {l : List T} (h : ∀ i (hi : i < l.length), ∀ q, q < 9 → cur[i * 9 + q]? = (l[i].cells)[q]?) : cur.toList.take (l.length * 9) = l.flatMap T.cells := by
 apply List.ext_getElem?
 intro j
 rw [List.getElem?_take]
 split
 ·rename_i hj
  have hi : j / 9 < l.length := by omega
  have h1 := h (j / 9) hi (j % 9) (Nat.mod_lt _ (by decide))
  have h2 := flat9 l (j / 9) (j % 9) hi (Nat.mod_lt _ (by decide))
  rw [show j / 9 * 9 + j % 9 = j by omega] at h1 h2
  rw [h2, ← h1]
  simp
 ·rw [List.getElem?_eq_none (by rw [cells_len9]; omega)]
theorem Lst.nrow {w : World} {B g cap : Nat} {n : Nat} {ks : List T} (h : Lst w B (.slice (some ⟨g, 0, none⟩) n cap) ks) : NRowAt w g ks := by
 have hn : ∀ v, Lst w B v ks → ∀ g n cap, v = .slice (some ⟨g, 0, none⟩) n cap → NRowAt w g ks := fun v h g n cap e => by
  rcases h.2 with ⟨e', h0⟩ | ⟨g', cap', cur, e', hb, hg, h1, h2, h3, h4⟩
  ·rw [e] at e'; simp at e'
  ·rw [e] at e'
   simp only [Value.slice.injEq, Option.some.injEq, Addr.mk.injEq, and_true] at e'
   obtain ⟨rfl, rfl, rfl⟩ := e'
   refine ⟨cur, hg, fun i hi q hq => ?_⟩
   have h5 := flat9 ks i q hi hq
   rw [← h4, List.getElem?_take, if_pos (by omega)] at h5
   rw [← h5]
   simp
 exact hn _ h g n cap rfl
theorem set_size {w : World} {b : Nat} {cs : Array Value} {t : TypeId} (h : w.heap[b]? = some (.cells cs t (0, 0))) (q : Nat) (v : Value) : ∃ cs', (w.setCell ⟨b, q, none⟩ v).heap[b]? = some (.cells cs' t (0, 0)) ∧ cs'.size = cs.size :=
 ⟨_, box_set h q v, Array.size_setIfInBounds⟩
theorem Lst.set {w : World} {B g cap : Nat} {ks : List T} (h : Lst w B (.slice (some ⟨g, 0, none⟩) ks.length cap) ks) {j : Nat} (hj : j < ks.length) (t : T) {d0 d1 d2 d3 d4 d5 d6 d7 d8 : Value} (ht : t.cells = [d0, d1, d2, d3, d4, d5, d6, d7, d8]) (W' : World)
  (hW : W' = (((((((((w.setCell ⟨g, j * 9, none⟩ d0).setCell ⟨g, j * 9 + 1, none⟩ d1).setCell ⟨g, j * 9 + 2, none⟩ d2).setCell ⟨g, j * 9 + 3, none⟩ d3).setCell ⟨g, j * 9 + 4, none⟩ d4).setCell ⟨g, j * 9 + 5, none⟩ d5).setCell ⟨g, j * 9 + 6, none⟩ d6).setCell ⟨g, j * 9 + 7, none⟩ d7).setCell ⟨g, j * 9 + 8, none⟩ d8)) :
  Lst W' B (.slice (some ⟨g, 0, none⟩) ks.length cap) (ks.set j t) ∧ W'.heap.size = w.heap.size ∧ (∀ k, k ≠ g → W'.heap[k]? = w.heap[k]?) ∧ ∀ n, n ≤ g → Below n w W' := by
 obtain ⟨h1, h2, h3, h4⟩ := h.nrow.set hj t ht W' hW
 refine ⟨?_, h2, h3, h4⟩
 obtain ⟨cur2, hg2, hc2⟩ := h1
 refine ⟨by rw [cells_len9], ?_⟩
 rcases h.2 with ⟨e', h0⟩ | ⟨g', cap', cur, e', hb, hg, k1, k2, k3, k4⟩
 ·simp at e'
 ·simp only [Value.slice.injEq, Option.some.injEq, Addr.mk.injEq, and_true, true_and] at e'
  obtain ⟨rfl, rfl⟩ := e'
  refine .inr ⟨g, cap, cur2, by rw [List.length_set], hb, hg2, by rw [List.length_set]; exact k1, k2, ?_, take_of_cells hc2⟩
  obtain ⟨e0, a0, s0⟩ := set_size hg (j * 9) d0
  obtain ⟨e1, a1, s1⟩ := set_size a0 (j * 9 + 1) d1
  obtain ⟨e2, a2, s2⟩ := set_size a1 (j * 9 + 2) d2
  obtain ⟨e3, a3, s3⟩ := set_size a2 (j * 9 + 3) d3
  obtain ⟨e4, a4, s4⟩ := set_size a3 (j * 9 + 4) d4
  obtain ⟨e5, a5, s5⟩ := set_size a4 (j * 9 + 5) d5
  obtain ⟨e6, a6, s6⟩ := set_size a5 (j * 9 + 6) d6
  obtain ⟨e7, a7, s7⟩ := set_size a6 (j * 9 + 7) d7
  obtain ⟨e8, a8, s8⟩ := set_size a7 (j * 9 + 8) d8
  rw [← hW, hg2] at a8
  have e9 : cur2 = e8 := by
   have := Option.some.inj a8
   injection this
  rw [e9, s8, s7, s6, s5, s4, s3, s2, s1, s0]
  exact k3
def repT (a b : Int) (g : Nat) (x : T) : T := .mk 4 0 0 0 0 (some ⟨g, 0, none⟩) 1 a b ⟨#[]⟩ [x]
set_option maxRecDepth 100000 in
set_option maxHeartbeats 8000000 in
theorem repeat_in {B bg o gp pc : Nat} {cur : Array Value} {qs : List T} {x : T} (a b : Int) (w : World) (hg : w.heap[bg]? = some (.cells cur 70 (0, 0))) (hc1 : cur[o + 1]? = some (.slice (some ⟨gp, 0, none⟩) (qs ++ [x]).length pc))
  (hP : Lst w B (.slice (some ⟨gp, 0, none⟩) (qs ++ [x]).length pc) (qs ++ [x])) :
  Calls Tryd.prog 50 #[.pointer (some ⟨bg, o, none⟩), .int .i64 a, .int .i64 b] w fun e w' => e = .returned (.tuple #[]) ∧ Lst w' B (.slice (some ⟨gp, 0, none⟩) (qs ++ [x]).length pc) (qs ++ [repT a b w.heap.size x]) ∧ Fr (fun k => k = gp) w w' ∧ w'.heap[w.heap.size]? = some (.cells x.cells.toArray 27 (0, 0)) := by
 have hlen : (qs ++ [x]).length = qs.length + 1 := by simp
 obtain ⟨hgp, hcap⟩ : gp < w.heap.size ∧ qs.length + 1 ≤ 9223372036854775807 := by
  rcases hP.form with ⟨e, -⟩ | ⟨g, cp, e, -, h1, h2, h3⟩
  ·simp at e
  ·simp only [Value.slice.injEq, Option.some.injEq, Addr.mk.injEq, and_true, true_and] at e
   obtain ⟨rfl, rfl⟩ := e
   refine ⟨h1, ?_⟩
   rw [hlen] at h2
   unfold maxLen at h3
   omega
 have y1 := (cells_of hg (o + 1) _ hc1).1
 have hcell : ∀ q, q < 9 → w.cell? ⟨gp, qs.length * 9 + q, none⟩ = (x.cells)[q]? := fun q hq => by
  have := hP.nrow.cell (i := qs.length) (by simp) hq
  simpa using this
 have hfr : ∀ q, w.frozen? ⟨gp, q, none⟩ = false := fun q => hP.nrow.frozen q
 rw [hlen] at y1
 have hset : Hid (∀ (t : T) {d0 d1 d2 d3 d4 d5 d6 d7 d8 : Value}, t.cells = [d0, d1, d2, d3, d4, d5, d6, d7, d8] → ∀ (w1 W' : World), Bel w w1 → W' = (((((((((w1.setCell ⟨gp, qs.length * 9, none⟩ d0).setCell ⟨gp, qs.length * 9 + 1, none⟩ d1).setCell ⟨gp, qs.length * 9 + 2, none⟩ d2).setCell ⟨gp, qs.length * 9 + 3, none⟩ d3).setCell ⟨gp, qs.length * 9 + 4, none⟩ d4).setCell ⟨gp, qs.length * 9 + 5, none⟩ d5).setCell ⟨gp, qs.length * 9 + 6, none⟩ d6).setCell ⟨gp, qs.length * 9 + 7, none⟩ d7).setCell ⟨gp, qs.length * 9 + 8, none⟩ d8) →
   Lst W' B (.slice (some ⟨gp, 0, none⟩) (qs ++ [x]).length pc) (qs ++ [t]) ∧ W'.heap.size = w1.heap.size ∧ (∀ k, k ≠ gp → W'.heap[k]? = w1.heap[k]?) ∧ ∀ n, n ≤ gp → Below n w1 W') := hid (fun t {d0 d1 d2 d3 d4 d5 d6 d7 d8} ht w1 W' hb hW => by
  obtain ⟨h1, h2⟩ := (hP.bel hb).set (j := qs.length) (by simp) t ht W' hW
  refine ⟨?_, h2⟩
  have e : (qs ++ [x]).set qs.length t = qs ++ [t] := by simp
  rw [e] at h1
  exact h1)
 clear hP hc1 hg
 obtain ⟨n, hn⟩ : ∃ n, n = qs.length := ⟨_, rfl⟩
 rw [hlen]
 rw [hlen] at hset
 rw [← hn] at hcell hset y1 hcap ⊢
 clear hlen
 have hG : ∃ G : Ending → World → Prop, G = fun e w' => e = .returned (.tuple #[]) ∧ Lst w' B (.slice (some ⟨gp, 0, none⟩) (n + 1) pc) (qs ++ [repT a b w.heap.size x]) ∧ Fr (fun k => k = gp) w w' ∧ w'.heap[w.heap.size]? = some (.cells x.cells.toArray 27 (0, 0)) := ⟨_, rfl⟩
 obtain ⟨G, hG⟩ := hG
 rw [← hG]
 replace hG := hid hG
 clear hn
 obtain ⟨k, u0, u1, u2, u3, px, cx, mn, mx, tx, ts⟩ := x
 simp only [T.cells] at hcell
 obtain ⟨c0, c1, c2, c3, c4, c5, c6, c7, c8⟩ := nine_of hcell
 have f0 := hfr (n * 9); have f1 := hfr (n * 9 + 1); have f2 := hfr (n * 9 + 2); have f3 := hfr (n * 9 + 3); have f4 := hfr (n * 9 + 4); have f5 := hfr (n * 9 + 5); have f6 := hfr (n * 9 + 6); have f7 := hfr (n * 9 + 7); have f8 := hfr (n * 9 + 8)
 clear hcell hfr
 go_enter Tryd.func50, Tryd.ntmps50
 go_wp2
 go_quiet (fail)
 generalize hwq : World.drewN w _ = wq at *
 have hsz : wq.heap.size = w.heap.size := by rw [← hwq]; rfl
 have hbq : Bel w wq := by rw [← hwq]; exact below_drewN (Below.refl _ _) _
 have hce : ∀ a, wq.cell? a = w.cell? a := fun a => by rw [← hwq]; rfl
 have hfe : ∀ a, wq.frozen? a = w.frozen? a := fun a => by rw [← hwq]; rfl
 replace c0 := (hce _).trans c0; replace f0 := (hfe _).trans f0; replace c1 := (hce _).trans c1; replace f1 := (hfe _).trans f1; replace c2 := (hce _).trans c2; replace f2 := (hfe _).trans f2; replace c3 := (hce _).trans c3; replace f3 := (hfe _).trans f3; replace c4 := (hce _).trans c4; replace f4 := (hfe _).trans f4; replace c5 := (hce _).trans c5; replace f5 := (hfe _).trans f5; replace c6 := (hce _).trans c6; replace f6 := (hfe _).trans f6; replace c7 := (hce _).trans c7; replace f7 := (hfe _).trans f7; replace c8 := (hce _).trans c8; replace f8 := (hfe _).trans f8
 clear hce hfe
 replace hgp : gp < wq.heap.size := by omega
 clear hwq
 replace hsz := hid hsz
 replace hbq := hid hbq
 go_wp2
 obtain ⟨r1, r2, r3, r4⟩ := hset.out (repT a b wq.heap.size (.mk k u0 u1 u2 u3 px cx mn mx tx ts)) (d0 := .int .i64 4) (d1 := .int .u64 0) (d2 := .int .u64 0) (d3 := .int .u64 0) (d4 := .int .u64 0) (d5 := .slice (some ⟨wq.heap.size, 0, none⟩) 1 1) (d6 := .int .i64 a) (d7 := .int .i64 b) (d8 := .string ⟨#[]⟩) rfl wq _ hbq.out rfl
 generalize hW : World.setCell _ (⟨gp, n * 9 + 8, none⟩ : Addr) _ = W9 at *
 clear hW
 refine bodyPost_end (v := .tuple #[]) (by simp [results, Tryd.results50, go_sem]) rfl ?_
 rw [hG.out, ← hsz.out]
 refine ⟨rfl, r1.keep (fun g hg hl => Below.heap_alloc _ _ _ hl), Fr.alloc ((Fr.of_bel hbq.out).trans (Y := fun k => k = gp) ⟨(r4 0 (Nat.zero_le _)).os, (r4 0 (Nat.zero_le _)).tape, (r4 0 (Nat.zero_le _)).output, by rw [r2]; exact Nat.le_refl _, fun k _ h => r3 k h⟩ (fun k h => .inl h)) _, ?_⟩
 rw [← r2]
 exact World.alloc_heap_new _ _
end Go.Proofs.YtobbifhflnlplaaDoor
namespace Go.Proofs.YtobbifhflnlplaaDoor
open Lib (hid)
open Go.RowKit
open Go.Tree7
open S7
open S5 (nl nl_length nl_small at_nl nl_at Gives idx idx_at ix ix_no ix_yes)
structure Gr where
 bp : Option Addr
 bc : Nat
 bs : List T
 pp : Option Addr
 pc : Nat
 ps : List T
def Gr.bv (g : Gr) : Value := .slice g.bp g.bs.length g.bc
def Gr.pv (g : Gr) : Value := .slice g.pp g.ps.length g.pc
def Gr.cells (g : Gr) : List Value := [g.bv, g.pv]
def Gr.blks (g : Gr) : List Nat := g.bv.ownBlock.toList ++ g.pv.ownBlock.toList
def Free (w : World) (B : Nat) (R : List Nat) (b : Nat) : Prop := b < w.heap.size ∧ b ∉ R ∧ B ≤ b
structure GrIn (w : World) (B : Nat) (R : List Nat) (g : Gr) : Prop where
 bl : Lst w B g.bv g.bs
 pl : Lst w B g.pv g.ps
 bn : g.bs.length ≤ 601
 pn : g.ps.length ≤ 601
 bt : ∀ t ∈ g.bs, T.InP w (Free w B R) t
 pt : ∀ t ∈ g.ps, T.InP w (Free w B R) t
theorem inP_fr {w w' : World} {B : Nat} {R R' : List Nat} {X : Nat → Prop} {t : T} (h : T.InP w (Free w B R) t) (hf : Fr X w w') (hX : ∀ b, X b → b ∈ R) (hR : ∀ b ∈ R', b ∈ R ∨ w.heap.size ≤ b) : T.InP w' (Free w' B R') t :=
 (h.keep fun b hb => hf.block b hb.1 (fun hx => hb.2.1 (hX b hx))).imp fun b hb => ⟨Nat.lt_of_lt_of_le hb.1 hf.size, fun hm => (by
  rcases hR b hm with h1 | h1
  ·exact hb.2.1 h1
  ·have := hb.1; omega), hb.2.2⟩
theorem GrIn.fr {w w' : World} {B : Nat} {R R' : List Nat} {X : Nat → Prop} {g : Gr} (h : GrIn w B R g) (hf : Fr X w w') (hg : ∀ b ∈ g.blks, ¬ X b) (hX : ∀ b, X b → b ∈ R) (hR : ∀ b ∈ R', b ∈ R ∨ w.heap.size ≤ b) : GrIn w' B R' g :=
 ⟨h.bl.fr hf fun b hb => hg b (by simp [Gr.blks, hb]), h.pl.fr hf fun b hb => hg b (by simp [Gr.blks, hb]), h.bn, h.pn, fun t ht => inP_fr (h.bt t ht) hf hX hR, fun t ht => inP_fr (h.pt t ht) hf hX hR⟩
def GRow (w : World) (B gb gc : Nat) (gl : List Gr) : Prop :=
 ∃ cur, w.heap[gb]? = some (.cells cur 70 (0, 0)) ∧ B ≤ gb ∧ gl.length ≤ gc ∧ gc ≤ maxLen ∧ cur.size = gc * 2 ∧ cur.toList.take (gl.length * 2) = gl.reverse.flatMap Gr.cells
theorem gcells_len (gl : List Gr) : (gl.flatMap Gr.cells).length = gl.length * 2 := by
 induction gl with
 | nil => rfl
 | cons g l ih => rw [List.flatMap_cons, List.length_append, ih, List.length_cons]; simp [Gr.cells]; omega
theorem GRow.owns {w : World} {B gb gc : Nat} {gl : List Gr} (h : GRow w B gb gc gl) : w.ownsRow B 70 2 (.slice (some ⟨gb, 0, none⟩) gl.length gc) gl.length (gl.reverse.flatMap Gr.cells) := by
 obtain ⟨cur, h1, h2, h3, h4, h5, h6⟩ := h
 exact ⟨by rw [gcells_len, List.length_reverse], .inr ⟨gb, gc, cur, rfl, h2, h1, h3, h4, h5, h6⟩⟩
theorem GRow.of_owns {w : World} {B n : Nat} {v : Value} {gl : List Gr} (h : w.ownsRow B 70 2 v n (gl.reverse.flatMap Gr.cells)) (hn : n = gl.length) (h0 : 0 < gl.length) : ∃ gb gc, v = .slice (some ⟨gb, 0, none⟩) gl.length gc ∧ GRow w B gb gc gl := by
 subst hn
 rcases h.2 with ⟨-, e⟩ | ⟨gb, gc, cur, e, h2, h1, h3, h4, h5, h6⟩
 ·omega
 ·exact ⟨gb, gc, e, cur, h1, h2, h3, h4, h5, h6⟩
theorem GRow.top {w : World} {B gb gc : Nat} {g : Gr} {rest : List Gr} (h : GRow w B gb gc (g :: rest)) : ∃ cur, w.heap[gb]? = some (.cells cur 70 (0, 0)) ∧ cur[rest.length * 2]? = some g.bv ∧ cur[rest.length * 2 + 1]? = some g.pv ∧
  ∀ (w' : World) (g' : Gr), w'.heap[gb]? = some (.cells ((cur.setIfInBounds (rest.length * 2) g'.bv).setIfInBounds (rest.length * 2 + 1) g'.pv) 70 (0, 0)) → GRow w' B gb gc (g' :: rest) := by
 obtain ⟨cur, h1, h2, h3, h4, h5, h6⟩ := h
 have hl : (rest.reverse.flatMap Gr.cells).length = rest.length * 2 := by rw [gcells_len, List.length_reverse]
 rw [List.length_cons] at h3 h6
 rw [List.reverse_cons, List.flatMap_append] at h6
 simp only [List.flatMap_cons, List.flatMap_nil, List.append_nil] at h6
 have hat : ∀ q, q < 2 → cur[rest.length * 2 + q]? = g.cells[q]? := fun q hq => by
  have e : (cur.toList.take ((rest.length + 1) * 2))[rest.length * 2 + q]? = g.cells[q]? := by
   rw [h6, List.getElem?_append_right (by omega), hl, Nat.add_sub_cancel_left]
  rw [List.getElem?_take, if_pos (by omega)] at e
  rw [← e]
  simp
 refine ⟨cur, h1, hat 0 (by decide), hat 1 (by decide), fun w' g' hw => ⟨_, hw, h2, by rw [List.length_cons]; exact h3, h4, by simp only [Array.size_setIfInBounds]; exact h5, ?_⟩⟩
 rw [List.length_cons, List.reverse_cons, List.flatMap_append]
 simp only [List.flatMap_cons, List.flatMap_nil, List.append_nil]
 apply List.ext_getElem?
 intro j
 rw [List.getElem?_take]
 have hsz : rest.length * 2 + 1 < cur.size := by have := (Array.getElem?_eq_some_iff.1 (show cur[rest.length * 2 + 1]? = some g.pv from hat 1 (by decide))).1; exact this
 split
 ·rename_i hj
  rcases Nat.lt_or_ge j (rest.length * 2) with h7 | h7
  ·rw [List.getElem?_append_left (by omega)]
   have e : (cur.toList.take ((rest.length + 1) * 2))[j]? = (rest.reverse.flatMap Gr.cells)[j]? := by rw [h6, List.getElem?_append_left (by omega)]
   rw [List.getElem?_take, if_pos hj] at e
   rw [← e, Array.getElem?_toList, Array.getElem?_toList, Array.getElem?_setIfInBounds_ne (by omega), Array.getElem?_setIfInBounds_ne (by omega)]
  ·rw [List.getElem?_append_right (by omega), hl]
   have : j = rest.length * 2 ∨ j = rest.length * 2 + 1 := by omega
   rcases this with rfl | rfl
   ·rw [Nat.sub_self, Array.getElem?_toList, Array.getElem?_setIfInBounds_ne (by omega), Array.getElem?_setIfInBounds_self, if_pos (by omega)]
    rfl
   ·rw [Nat.add_sub_cancel_left, Array.getElem?_toList, Array.getElem?_setIfInBounds_self, if_pos (by rw [Array.size_setIfInBounds]; omega)]
    rfl
 ·rw [List.getElem?_eq_none]
  rw [List.length_append, hl]
  simp [Gr.cells]
  omega
end Go.Proofs.YtobbifhflnlplaaDoor
namespace Go.Proofs.YtobbifhflnlplaaDoor
open Lib (hid)
open Go.RowKit
open Go.Tree7
open S7
open S5 (nl nl_length nl_small at_nl nl_at Gives idx idx_at ix ix_no ix_yes)
def cutL {α : Type} (l : List α) : List α := if l.length ≤ 601 then l else l.take 600 ++ l.getLast?.toList
theorem cutL_snoc {α : Type} (l : List α) (x : α) : cutL (l ++ [x]) = l.take 600 ++ [x] := by
 unfold cutL
 split
 ·rename_i h
  rw [List.length_append] at h
  simp only [List.length_cons, List.length_nil] at h
  rw [List.take_of_length_le (by omega)]
 ·rename_i h
  rw [List.length_append] at h
  simp only [List.length_cons, List.length_nil] at h
  rw [List.take_append_of_le_length (by omega)]
  simp
theorem cutL_take {α : Type} (l : List α) : (cutL l).take 600 = l.take 600 := by
 unfold cutL
 split
 ·rfl
 ·rename_i h
  rw [List.take_append_of_le_length (by rw [List.length_take]; omega), List.take_take]
  simp
theorem cutL_small {α : Type} {l : List α} (h : l.length ≤ 601) : cutL l = l := by unfold cutL; rw [if_pos h]
theorem cutL_one {α : Type} (l : List α) : (cutL l).length = 1 ↔ l.length = 1 := by
 unfold cutL
 split
 ·rfl
 ·rename_i h
  rw [List.length_append, List.length_take]
  omega
def cutT : T → T
 | .mk k u0 u1 u2 u3 _ _ mn mx tx ks => .mk k u0 u1 u2 u3 none 0 mn mx tx (cutL (ks.attach.map fun ⟨t, _⟩ => cutT t))
theorem cutT_mk (k u0 u1 u2 u3 : Int) (p : Option Addr) (cap : Nat) (mn mx : Int) (tx : ByteArray) (ks : List T) : cutT (.mk k u0 u1 u2 u3 p cap mn mx tx ks) = .mk k u0 u1 u2 u3 none 0 mn mx tx (cutL (ks.map cutT)) := by
 rw [cutT]
 simp
theorem cutT_leaf (f : Nat → Bool) : cutT (leafT f) = leafT f := by
 unfold leafT
 rw [cutT_mk]
 rfl
theorem cutT_name (tx : ByteArray) : cutT (tN tx) = tN tx := by
 unfold tN
 rw [cutT_mk]
 rfl
theorem cutT_atom {l : List Nat} {k n : Nat} {t : T} (h : Atm l k t n) : cutT t = t := by
 cases h with
 | br => exact cutT_leaf _
 | dot => exact cutT_leaf _
 | name => exact cutT_name _
 | byte => exact cutT_leaf _
theorem cutT_rep (a b : Int) (t : T) : cutT (tR a b t) = tR a b (cutT t) := by
 unfold tR
 rw [cutT_mk]
 rfl
theorem cutT_small : ∀ t : T, t.size ≤ 601 → cutT t = t.strip := by
 refine T.ind fun k u0 u1 u2 u3 p cap mn mx tx ks ih => ?_
 intro h
 rw [T.size_mk] at h
 rw [cutT_mk, T.strip_mk]
 have h1 : ks.map cutT = ks.map T.strip := List.map_congr_left fun t ht => ih t ht (by
  obtain ⟨i, hi, rfl⟩ := List.getElem_of_mem ht
  have h1 := sum_take ks hi
  have h2 := sum_le ks (i + 1)
  omega)
 have h2 : ks.length ≤ 600 := by have := len_sum ks (Nat.le_refl _); rw [List.take_of_length_le (Nat.le_refl _)] at this; omega
 rw [h1, cutL_small (by rw [List.length_map]; omega)]
def levs (d lv : Nat) (t : T) : List Nat := (preT d lv t).map Prod.fst
theorem levs_succ (d lv : Nat) (t : T) : levs (d + 1) lv t = lv :: t.kids.flatMap (levs d (lv + 1)) := by
 unfold levs
 rw [preT, List.map_cons, List.map_flatMap]
theorem levs_pos (d lv : Nat) (t : T) : 1 ≤ (levs d lv t).length := by
 cases d <;> simp [levs, preT]
theorem flat_take {α β : Type} {f g : α → List β} {n : Nat} : ∀ (l : List α), (∀ x ∈ l, ∀ m, m ≤ n → (f x).take m = (g x).take m) → ∀ m, m ≤ n → (l.flatMap f).take m = (l.flatMap g).take m
 | [], _, m, _ => rfl
 | x :: l, h, m, hm => by
  have h1 := h x (by simp) m hm
  have h2 := congrArg List.length h1
  rw [List.length_take, List.length_take] at h2
  rw [List.flatMap_cons, List.flatMap_cons, List.take_append, List.take_append, h1, flat_take l (fun y hy => h y (by simp [hy])) (m - (f x).length) (by omega)]
  congr 1
  rw [flat_take l (fun y hy => h y (by simp [hy])) (m - (f x).length) (by omega) |>.symm]
  have : m - (f x).length = m - (g x).length := by omega
  rw [this]
  exact flat_take l (fun y hy => h y (by simp [hy])) _ (by omega)
theorem flat_long {α β : Type} {f : α → List β} (hf : ∀ x, 1 ≤ (f x).length) : ∀ l : List α, l.length ≤ (l.flatMap f).length
 | [] => Nat.zero_le _
 | x :: l => by
  rw [List.flatMap_cons, List.length_append, List.length_cons]
  have := hf x
  have := flat_long hf l
  omega
theorem flat_cut {α β : Type} {f : α → List β} (hf : ∀ x, 1 ≤ (f x).length) (l : List α) {m : Nat} (hm : m ≤ 600) : ((cutL l).flatMap f).take m = (l.flatMap f).take m := by
 rcases Nat.lt_or_ge 601 l.length with h | h
 ·have e1 : (cutL l).flatMap f = (l.take 600).flatMap f ++ l.getLast?.toList.flatMap f := by
   unfold cutL
   rw [if_neg (by omega), List.flatMap_append]
  have e2 : l.flatMap f = (l.take 600).flatMap f ++ (l.drop 600).flatMap f := by rw [← List.flatMap_append, List.take_append_drop]
  have h3 : m ≤ ((l.take 600).flatMap f).length := by
   have := flat_long hf (l.take 600)
   rw [List.length_take] at this
   omega
  rw [e1, e2, List.take_append_of_le_length h3, List.take_append_of_le_length h3]
 ·rw [cutL_small h]
theorem levs_cut : ∀ (d lv : Nat) (t : T) (m : Nat), m ≤ 601 → (levs d lv (cutT t)).take m = (levs d lv t).take m := by
 intro d
 induction d with
 | zero => intro lv t m _; rfl
 | succ d ih =>
  intro lv t m hm
  rw [levs_succ, levs_succ]
  cases m with
  | zero => rfl
  | succ m =>
   rw [List.take_succ_cons, List.take_succ_cons]
   congr 1
   cases t with
   | mk k u0 u1 u2 u3 p cap mn mx tx ks =>
    rw [cutT_mk]
    simp only [T.kids]
    rw [flat_cut (levs_pos d (lv + 1)) _ (by omega), List.flatMap_map]
    exact flat_take (n := 600) ks (fun x _ m hm => ih (lv + 1) x m (by omega)) m (by omega)
theorem allT_levs (t : T) : (allT t).map Prod.fst = (levs 24 1 t).take 601 := by
 unfold allT levs
 rw [List.map_take]
theorem allT_cut (t : T) : (allT (cutT t)).map Prod.fst = (allT t).map Prod.fst := by
 rw [allT_levs, allT_levs]
 exact levs_cut 24 1 t 601 (Nat.le_refl _)
theorem deepOf_cut (t : T) : deepOf (allT (cutT t)) = deepOf (allT t) := by unfold deepOf; rw [allT_cut]
theorem count_cut (t : T) : (allT (cutT t)).length = (allT t).length := by
 have := congrArg List.length (allT_cut t)
 simpa using this
theorem deepOf_le {l : List (Nat × T)} {n : Nat} : deepOf l ≤ n ↔ ∀ x ∈ l, x.1 ≤ n := by
 have h : ∀ (l : List Nat) (a : Nat), l.foldl max a ≤ n ↔ a ≤ n ∧ ∀ x ∈ l, x ≤ n := by
  intro l
  induction l with
  | nil => intro a; simp
  | cons y l ih =>
   intro a
   rw [List.foldl_cons, ih]
   constructor
   ·rintro ⟨h1, h2⟩
    refine ⟨by omega, fun x hx => ?_⟩
    rcases List.mem_cons.1 hx with rfl | hx
    ·omega
    ·exact h2 x hx
   ·rintro ⟨h1, h2⟩
    have := h2 y (by simp)
    exact ⟨by omega, fun x hx => h2 x (by simp [hx])⟩
 unfold deepOf
 rw [h]
 simp
theorem small_of {t : T} (h1 : deepOf (allT t) ≤ 24) (h2 : (allT t).length ≤ 600) : deep t ≤ 24 ∧ t.size ≤ 600 := by
 rw [deepOf_le] at h1
 have e : allT t = preT 24 1 t := by
  unfold allT
  apply List.take_of_length_le
  unfold allT at h2
  rw [List.length_take] at h2
  omega
 rw [e] at h1 h2
 have h3 := deep_of 24 1 t rfl h1
 have h4 := (pre_small (P := fun _ => True) 24 1 t (by omega) (all_true t)).2
 exact ⟨by omega, by omega⟩
end Go.Proofs.YtobbifhflnlplaaDoor
namespace Go.Proofs.YtobbifhflnlplaaDoor
open Lib (hid)
open Go.RowKit
open Go.Tree7
open S7
open S5 (nl nl_length nl_small at_nl nl_at Gives idx idx_at ix ix_no ix_yes)
def GrRel (g : Gr) (o : Op) : Prop := g.bs.map T.strip = cutL (o.1.map cutT) ∧ g.ps.map T.strip = cutL (o.2.map cutT)
def RelL : List Gr → List Op → Prop
 | [], [] => True
 | g :: gl, o :: p => GrRel g o ∧ RelL gl p
 | _, _ => False
theorem RelL.len : ∀ {gl : List Gr} {p : List Op}, RelL gl p → gl.length = p.length
 | [], [], _ => rfl
 | _ :: _, _ :: _, h => by rw [List.length_cons, List.length_cons, RelL.len h.2]
 | [], _ :: _, h => h.elim
 | _ :: _, [], h => h.elim
def joinC (kd : Int) : List T → T
 | [x] => cutT x
 | l => .mk kd 0 0 0 0 none 0 0 0 ⟨#[]⟩ (cutL (l.map cutT))
theorem rowT_strip {kd : Int} {pp : Option Addr} {pc : Nat} {ps : List T} {l : List T} (h : ps.map T.strip = cutL (l.map cutT)) : (rowT kd pp pc ps).strip = joinC kd l := by
 have hl : ps.length = 1 ↔ l.length = 1 := by
  have := congrArg List.length h
  rw [List.length_map] at this
  rw [this, cutL_one, List.length_map]
 by_cases h1 : l.length = 1
 ·have h2 := hl.2 h1
  match l, h1, ps, h2 with
  | [x], _, [y], _ =>
   have e : cutL ([x].map cutT) = [cutT x] := rfl
   rw [e] at h
   simp only [List.map_cons, List.map_nil, List.cons.injEq, and_true] at h
   exact h
 ·rw [rowT_ne (fun h => h1 (hl.1 h)), T.strip_mk, h]
  match l, h1 with
  | [], _ => rfl
  | [x], h1 => exact absurd rfl h1
  | x :: y :: l, _ => rfl
theorem catT_cut (l : List T) : joinC 2 l = cutT (catT l) := by
 unfold catT tC joinC
 match l with
 | [] => rw [cutT_mk]
 | [x] => rfl
 | x :: y :: l => simp only [cutT_mk]
theorem rel_row {pp : Option Addr} {pc : Nat} {ps : List T} {l : List T} (h : ps.map T.strip = cutL (l.map cutT)) : (rowT 2 pp pc ps).strip = cutT (catT l) := by
 rw [rowT_strip h, catT_cut]
theorem rel_snoc {bs l : List T} {x y : T} (h : bs.map T.strip = cutL (l.map cutT)) (hx : x.strip = cutT y) : (bs.take 600 ++ [x]).map T.strip = cutL ((l ++ [y]).map cutT) := by
 rw [List.map_append, List.map_append, List.map_take, h, cutL_take]
 simp only [List.map_cons, List.map_nil]
 rw [cutL_snoc, hx]
theorem rel_closed {bp pp : Option Addr} {bc pc : Nat} {bs ps : List T} {o : Op} (h1 : bs.map T.strip = cutL (o.1.map cutT)) (h2 : ps.map T.strip = cutL (o.2.map cutT)) : (rowT 3 bp bc (bs.take 600 ++ [rowT 2 pp pc ps])).strip = cutT (closedT o) := by
 have h3 := rel_snoc h1 (rel_row (pp := pp) (pc := pc) h2)
 rw [rowT_strip h3]
 obtain ⟨bl, pl⟩ := o
 unfold closedT
 cases bl with
 | nil => rfl
 | cons x l =>
  rw [if_neg (by simp)]
  unfold tA
  rw [cutT_mk]
  cases l <;> rfl
theorem rowT_in {w : World} {B : Nat} {S : Nat → Prop} {kd : Int} {pp : Option Addr} {pc : Nat} {ps : List T} (hk : (Lit.int .i64 kd).wf = true) (hL : Lst w B (.slice pp ps.length pc) ps) (ht : ∀ t ∈ ps, T.InP w S t) (hb : ∀ b, (Value.slice pp ps.length pc).ownBlock = some b → S b) : T.InP w S (rowT kd pp pc ps) := by
 by_cases h1 : ps.length = 1
 ·match ps, h1 with
  | [x], _ => exact ht x (by simp)
 ·rw [rowT_ne h1]
  have hfit : fits kd 0 0 0 0 0 0 ⟨#[]⟩ := ⟨hk, ⟨by decide, by decide, by decide, by decide⟩, by decide, by decide, by decide⟩
  rcases hL.form with ⟨e, e2⟩ | ⟨g, cp, e, hBg, hgw, hc1, hc2⟩
  ·subst e2
   simp only [Value.slice.injEq] at e
   obtain ⟨rfl, -, rfl⟩ := e
   exact .mk (Nat.le_refl _) (Nat.zero_le _) hfit (fun i hi => by simp at hi) ht
  ·simp only [Value.slice.injEq, true_and] at e
   obtain ⟨rfl, rfl⟩ := e
   refine .mk hc1 hc2 hfit (fun i hi => ⟨⟨g, 0, none⟩, rfl, hb g rfl, fun j hj => ?_⟩) ht
   have e : (⟨g, 0, none⟩ : Addr).add (i * 9 + j) = ⟨g, i * 9 + j, none⟩ := by unfold Addr.add; split <;> simp_all
   rw [e]
   exact hL.cell i hi j hj
def Rb (br gb : Nat) (gl : List Gr) : List Nat := gb :: br :: gl.flatMap Gr.blks
structure Rdr (w0 : World) (B br : Nat) (s : ByteArray) (w : World) (gb gc : Nat) (gl : List Gr) (p : List Op) : Prop where
 box : w.heap[br]? = some (.cells #[.string s, .slice (some ⟨gb, 0, none⟩) gl.length gc] 66 (0, 0))
 row : GRow w B gb gc gl
 each : ∀ g ∈ gl, GrIn w B (Rb br gb gl) g
 sep : (Rb br gb gl).Nodup
 low : B ≤ br
 bel : Below B w0 w
 base : B ≤ w.heap.size
 rel : RelL gl p
theorem Rb_lt {w : World} {B br gb gc : Nat} {gl : List Gr} (hbr : br < w.heap.size ∧ B ≤ br) (hrow : GRow w B gb gc gl) {R : List Nat} (he : ∀ g ∈ gl, GrIn w B R g) : ∀ b ∈ Rb br gb gl, B ≤ b ∧ b < w.heap.size := by
 intro b hb
 unfold Rb at hb
 simp only [List.mem_cons, List.mem_flatMap] at hb
 rcases hb with rfl | rfl | ⟨g, hg, hb⟩
 ·obtain ⟨cur, h1, h2, -⟩ := hrow
  exact ⟨h2, (Array.getElem?_eq_some_iff.1 h1).1⟩
 ·exact ⟨hbr.2, hbr.1⟩
 ·unfold Gr.blks at hb
  rcases List.mem_append.1 hb with hb | hb
  ·exact (he g hg).bl.lt (by simpa using hb)
  ·exact (he g hg).pl.lt (by simpa using hb)
theorem Rdr.lt {w0 : World} {B br : Nat} {s : ByteArray} {w : World} {gb gc : Nat} {gl : List Gr} {p : List Op} (h : Rdr w0 B br s w gb gc gl p) : ∀ b ∈ Rb br gb gl, B ≤ b ∧ b < w.heap.size :=
 Rb_lt ⟨(Array.getElem?_eq_some_iff.1 h.box).1, h.low⟩ h.row h.each
theorem Rdr.next {w0 : World} {B br : Nat} {s : ByteArray} {w w' : World} {gb gc : Nat} {gl : List Gr} {p : List Op} (h : Rdr w0 B br s w gb gc gl p) (hb : Bel w w') : Rdr w0 B br s w' gb gc gl p where
 box := kept_row h.box hb
 row := by obtain ⟨cur, h1, h2⟩ := h.row; exact ⟨cur, kept_row h1 hb, h2⟩
 each := fun g hg => (h.each g hg).fr (X := fun _ => False) (Fr.of_bel hb) (fun _ _ h => h) (fun _ h => h.elim) (fun b hb => .inl hb)
 sep := h.sep
 low := h.low
 bel := h.bel.trans (hb.mono h.base)
 base := Nat.le_trans h.base hb.size
 rel := h.rel
theorem Rdr.top {w0 : World} {B br : Nat} {s : ByteArray} {w w' : World} {gb gc : Nat} {g g' : Gr} {rest : List Gr} {o o' : Op} {p : List Op} (h : Rdr w0 B br s w gb gc (g :: rest) (o :: p)) {X : Nat → Prop} (hf : Fr X w w')
  (hX : ∀ b, X b → b = gb ∨ b ∈ g.blks) (hrow : GRow w' B gb gc (g' :: rest)) (hbl : Lst w' B g'.bv g'.bs) (hpl : Lst w' B g'.pv g'.ps) (hbn : g'.bs.length ≤ 601) (hpn : g'.ps.length ≤ 601)
  (hnew : ∀ b ∈ g'.blks, b ∈ g.blks ∨ w.heap.size ≤ b) (hnd : g'.blks.Nodup) (hbt : ∀ t ∈ g'.bs, T.InP w' (Free w' B (Rb br gb (g' :: rest))) t) (hpt : ∀ t ∈ g'.ps, T.InP w' (Free w' B (Rb br gb (g' :: rest))) t) (hrel : GrRel g' o') :
  Rdr w0 B br s w' gb gc (g' :: rest) (o' :: p) := by
 have hlt := h.lt
 have hsep := h.sep
 unfold Rb at hlt hsep
 simp only [List.flatMap_cons, List.nodup_cons, List.mem_cons, List.mem_append, not_or, List.nodup_append] at hsep hlt
 obtain ⟨⟨s1, s2, s3⟩, ⟨s4, s5⟩, s6, s7, s8⟩ := hsep
 have hXR : ∀ b, X b → b ∈ Rb br gb (g :: rest) := fun b hb => by
  unfold Rb
  simp only [List.flatMap_cons, List.mem_cons, List.mem_append]
  rcases hX b hb with h | h
  ·exact .inl h
  ·exact .inr (.inr (.inl h))
 have hRR : ∀ b ∈ Rb br gb (g' :: rest), b ∈ Rb br gb (g :: rest) ∨ w.heap.size ≤ b := fun b hb => by
  unfold Rb at hb ⊢
  simp only [List.flatMap_cons, List.mem_cons, List.mem_append] at hb ⊢
  rcases hb with h | h | h | h
  ·exact .inl (.inl h)
  ·exact .inl (.inr (.inl h))
  ·rcases hnew b h with h | h
   ·exact .inl (.inr (.inr (.inl h)))
   ·exact .inr h
  ·exact .inl (.inr (.inr (.inr h)))
 have hbrX : ¬ X br := fun hx => by
  rcases hX br hx with h | h
  ·exact s1 h.symm
  ·exact s4 h
 refine ⟨?_, hrow, fun x hx => ?_, ?_, h.low, h.bel.trans (hf.below h.base fun b hb => (hlt b ?_).1), Nat.le_trans h.base hf.size, ⟨hrel, h.rel.2⟩⟩
 ·rw [hf.block br (Array.getElem?_eq_some_iff.1 h.box).1 hbrX]
  exact h.box
 ·rcases List.mem_cons.1 hx with rfl | hx
  ·exact ⟨hbl, hpl, hbn, hpn, hbt, hpt⟩
  ·refine (h.each x (by simp [hx])).fr hf (fun b hb hxb => ?_) hXR hRR
   have hbr : b ∈ rest.flatMap Gr.blks := List.mem_flatMap.2 ⟨x, hx, hb⟩
   rcases hX b hxb with h | h
   ·subst h; exact s3 hbr
   ·exact s8 b h b hbr rfl
 ·unfold Rb
  simp only [List.flatMap_cons, List.nodup_cons, List.mem_cons, List.mem_append, not_or, List.nodup_append]
  have hn : ∀ b ∈ g'.blks, ∀ c, c ∉ g.blks → c < w.heap.size → b ≠ c := fun b hb c hc hcl e => by
   subst e
   rcases hnew b hb with h | h
   ·exact hc h
   ·omega
  have hgb := (hlt gb (.inl rfl)).2
  have hbr := (hlt br (.inr (.inl rfl))).2
  refine ⟨⟨s1, fun h => hn gb h gb s2 hgb rfl, s3⟩, ⟨fun h => hn br h br s4 hbr rfl, s5⟩, hnd, s7, fun b hb c hc e => ?_⟩
  exact hn b hb c (fun hcg => s8 c hcg c hc rfl) (hlt c (.inr (.inr (.inr hc)))).2 e
 ·rcases hX b hb with h | h
  ·exact .inl h
  ·exact .inr (.inr (.inl h))
end Go.Proofs.YtobbifhflnlplaaDoor
namespace Go.Proofs.YtobbifhflnlplaaDoor
open Lib (hid)
open Go.RowKit
open Go.Tree7
open S7
open S5 (nl nl_length nl_small at_nl nl_at Gives idx idx_at ix ix_no ix_yes)
theorem mem_Rb {br gb b : Nat} {g : Gr} {rest : List Gr} : b ∈ Rb br gb (g :: rest) ↔ b = gb ∨ b = br ∨ b ∈ g.blks ∨ b ∈ rest.flatMap Gr.blks := by
 unfold Rb
 simp only [List.flatMap_cons, List.mem_cons, List.mem_append]
theorem mem_blks {g : Gr} {b : Nat} : b ∈ g.blks ↔ g.bv.ownBlock = some b ∨ g.pv.ownBlock = some b := by
 unfold Gr.blks
 simp
theorem Rdr.apart {w0 : World} {B br : Nat} {s : ByteArray} {w : World} {gb gc : Nat} {g : Gr} {rest : List Gr} {p : List Op} (h : Rdr w0 B br s w gb gc (g :: rest) p) : gb ≠ br ∧ (∀ b ∈ g.blks, b ≠ gb ∧ b ≠ br ∧ b ∉ rest.flatMap Gr.blks) ∧ (∀ b, g.bv.ownBlock = some b → g.pv.ownBlock ≠ some b) ∧ g.blks.Nodup := by
 have hsep := h.sep
 unfold Rb at hsep
 simp only [List.flatMap_cons, List.nodup_cons, List.mem_cons, List.mem_append, not_or, List.nodup_append] at hsep
 obtain ⟨⟨s1, s2, s3⟩, ⟨s4, s5⟩, s6, s7, s8⟩ := hsep
 refine ⟨s1, fun b hb => ⟨fun e => s2 (e ▸ hb), fun e => s4 (e ▸ hb), fun hr => s8 b hb b hr rfl⟩, fun b h1 h2 => ?_, s6⟩
 unfold Gr.blks at s6
 rw [h1, h2] at s6
 simp at s6
theorem nodup_blks {g : Gr} (h : ∀ b, g.bv.ownBlock = some b → g.pv.ownBlock ≠ some b) : g.blks.Nodup := by
 unfold Gr.blks
 cases h1 : g.bv.ownBlock with
 | none => cases g.pv.ownBlock <;> simp
 | some b =>
  cases h2 : g.pv.ownBlock with
  | none => simp
  | some c =>
   have := h b h1
   rw [h2] at this
   simp only [ne_eq, Option.some.injEq] at this
   simp
   exact fun e => this e.symm
section
variable {w0 : World} {B br : Nat} {s : ByteArray} {w w' : World} {gb gc : Nat} {g : Gr} {rest : List Gr} {o : Op} {p : List Op}
theorem Rdr.cutB (h : Rdr w0 B br s w gb gc (g :: rest) (o :: p)) {bv' : Value} (hrow : ∀ g' : Gr, g'.bv = bv' → g'.pv = .slice none 0 0 → GRow w' B gb gc (g' :: rest)) (hL : Lst w' B bv' (g.bs.take 600 ++ [rowT 2 g.pp g.pc g.ps]))
  (hf : Fr (fun b => b = gb ∨ g.bv.ownBlock = some b) w w') (hn : bv'.ownBlock = g.bv.ownBlock ∨ ∃ b, bv'.ownBlock = some b ∧ w.heap.size ≤ b) : ∃ g' : Gr, g'.bs = g.bs.take 600 ++ [rowT 2 g.pp g.pc g.ps] ∧ g'.bv = bv' ∧ g'.ps = [] ∧ g'.pv = .slice none 0 0 ∧ Rdr w0 B br s w' gb gc (g' :: rest) ((o.1 ++ [catT o.2], []) :: p) := by
 obtain ⟨pv2, cv2, rfl, -⟩ := row_form hL
 have hg := h.each g (by simp)
 obtain ⟨a1, a2, a3, a4⟩ := h.apart
 refine ⟨⟨pv2, cv2, g.bs.take 600 ++ [rowT 2 g.pp g.pc g.ps], none, 0, []⟩, rfl, rfl, rfl, rfl, ?_⟩
 have hX : ∀ b, (b = gb ∨ g.bv.ownBlock = some b) → b = gb ∨ b ∈ g.blks := fun b hb => hb.imp id fun e => mem_blks.2 (.inl e)
 have hlt := h.lt
 have hnew : ∀ b ∈ (⟨pv2, cv2, g.bs.take 600 ++ [rowT 2 g.pp g.pc g.ps], none, 0, []⟩ : Gr).blks, b ∈ g.blks ∨ w.heap.size ≤ b := fun b hb => by
  rcases mem_blks.1 hb with e | e
  ·rcases hn with hn | ⟨c, hc, hcl⟩
   ·exact .inl (mem_blks.2 (.inl (hn ▸ e)))
   ·have := Option.some.inj (hc.symm.trans e)
    exact .inr (by omega)
  ·cases e
 have hRR : ∀ b ∈ Rb br gb ((⟨pv2, cv2, g.bs.take 600 ++ [rowT 2 g.pp g.pc g.ps], none, 0, []⟩ : Gr) :: rest), b ∈ Rb br gb (g :: rest) ∨ w.heap.size ≤ b := fun b hb => by
  rcases mem_Rb.1 hb with e | e | e | e
  ·exact .inl (mem_Rb.2 (.inl e))
  ·exact .inl (mem_Rb.2 (.inr (.inl e)))
  ·rcases hnew b e with e | e
   ·exact .inl (mem_Rb.2 (.inr (.inr (.inl e))))
   ·exact .inr e
  ·exact .inl (mem_Rb.2 (.inr (.inr (.inr e))))
 have hXR : ∀ b, (b = gb ∨ g.bv.ownBlock = some b) → b ∈ Rb br gb (g :: rest) := fun b hb => by
  rcases hX b hb with e | e
  ·exact mem_Rb.2 (.inl e)
  ·exact mem_Rb.2 (.inr (.inr (.inl e)))
 refine h.top hf hX (hrow _ rfl rfl) hL (Lst.nil _ _) (by rw [List.length_append, List.length_take]; simp only [List.length_cons, List.length_nil]; omega) (Nat.zero_le _) hnew (nodup_blks fun b _ e => by cases e) (fun t ht => ?_) (fun t ht => by simp at ht) ⟨rel_snoc h.rel.1.1 (rel_row h.rel.1.2), rfl⟩
 rcases List.mem_append.1 ht with ht | ht
 ·exact inP_fr (hg.bt t (List.mem_of_mem_take ht)) hf hXR hRR
 ·simp only [List.mem_cons, List.not_mem_nil, or_false] at ht
  subst ht
  have hpX : ∀ b, g.pv.ownBlock = some b → ¬ (b = gb ∨ g.bv.ownBlock = some b) := fun b hb => by
   rintro (e | e)
   ·exact (a2 b (mem_blks.2 (.inr hb))).1 e
   ·exact a3 b e hb
  refine rowT_in (by decide) (hg.pl.fr hf hpX) (fun t ht => inP_fr (hg.pt t ht) hf hXR hRR) (fun b hb => ?_)
  have hbm : b ∈ g.blks := mem_blks.2 (.inr hb)
  have hbl := (hlt b (mem_Rb.2 (.inr (.inr (.inl hbm))))).2
  refine ⟨Nat.lt_of_lt_of_le hbl hf.size, fun hm => ?_, (hlt b (mem_Rb.2 (.inr (.inr (.inl hbm))))).1⟩
  rcases mem_Rb.1 hm with e | e | e | e
  ·exact (a2 b hbm).1 e
  ·exact (a2 b hbm).2.1 e
  ·rcases mem_blks.1 e with e | e
   ·rcases hn with hn | ⟨c, hc, hcl⟩
    ·exact a3 b (hn ▸ e) hb
    ·have := Option.some.inj (hc.symm.trans e)
     omega
   ·cases e
  ·exact (a2 b hbm).2.2 e
theorem Rdr.pieces (h : Rdr w0 B br s w gb gc (g :: rest) (o :: p)) {X : Nat → Prop} {pv' : Value} {ps' : List T} {o' : Op} (hf : Fr X w w') (hX : ∀ b, X b → b = gb ∨ g.pv.ownBlock = some b) (hrow : ∀ g' : Gr, g'.bv = g.bv → g'.pv = pv' → GRow w' B gb gc (g' :: rest)) (hL : Lst w' B pv' ps') (hlen : ps'.length ≤ 601)
  (hn : pv'.ownBlock = g.pv.ownBlock ∨ ∃ b, pv'.ownBlock = some b ∧ w.heap.size ≤ b)
  (ht : ∀ R' : List Nat, (∀ b ∈ R', b ∈ Rb br gb (g :: rest) ∨ pv'.ownBlock = some b) → ∀ t ∈ ps', T.InP w' (Free w' B R') t) (hrel : GrRel ⟨g.bp, g.bc, g.bs, none, 0, ps'⟩ o') : ∃ g' : Gr, Rdr w0 B br s w' gb gc (g' :: rest) (o' :: p) := by
 obtain ⟨pv2, cv2, rfl, -⟩ := row_form hL
 have hg := h.each g (by simp)
 obtain ⟨a1, a2, a3, a4⟩ := h.apart
 refine ⟨⟨g.bp, g.bc, g.bs, pv2, cv2, ps'⟩, ?_⟩
 have hX2 : ∀ b, X b → b = gb ∨ b ∈ g.blks := fun b hb => (hX b hb).imp id fun e => mem_blks.2 (.inr e)
 have hlt := h.lt
 have hnp : ∀ b, (Value.slice pv2 ps'.length cv2).ownBlock = some b → g.pv.ownBlock = some b ∨ w.heap.size ≤ b := fun b e => by
  rcases hn with hn | ⟨c, hc, hcl⟩
  ·exact .inl (hn ▸ e)
  ·rw [hc] at e
   have := Option.some.inj e
   exact .inr (by omega)
 have hnew : ∀ b ∈ (⟨g.bp, g.bc, g.bs, pv2, cv2, ps'⟩ : Gr).blks, b ∈ g.blks ∨ w.heap.size ≤ b := fun b hb => by
  rcases mem_blks.1 hb with e | e
  ·exact .inl (mem_blks.2 (.inl e))
  ·exact (hnp b e).imp (fun e => mem_blks.2 (.inr e)) id
 have hXR : ∀ b, X b → b ∈ Rb br gb (g :: rest) := fun b hb => by
  rcases hX2 b hb with e | e
  ·exact mem_Rb.2 (.inl e)
  ·exact mem_Rb.2 (.inr (.inr (.inl e)))
 have hRR : ∀ b ∈ Rb br gb ((⟨g.bp, g.bc, g.bs, pv2, cv2, ps'⟩ : Gr) :: rest), b ∈ Rb br gb (g :: rest) ∨ w.heap.size ≤ b := fun b hb => by
  rcases mem_Rb.1 hb with e | e | e | e
  ·exact .inl (mem_Rb.2 (.inl e))
  ·exact .inl (mem_Rb.2 (.inr (.inl e)))
  ·rcases hnew b e with e | e
   ·exact .inl (mem_Rb.2 (.inr (.inr (.inl e))))
   ·exact .inr e
  ·exact .inl (mem_Rb.2 (.inr (.inr (.inr e))))
 have hbX : ∀ b, g.bv.ownBlock = some b → ¬ X b := fun b hb hx => by
  rcases hX b hx with e | e
  ·exact (a2 b (mem_blks.2 (.inl hb))).1 e
  ·exact a3 b hb e
 refine h.top hf hX2 (hrow _ rfl rfl) (hg.bl.fr hf hbX) hL hg.bn hlen hnew (nodup_blks fun b e1 e2 => ?_) (fun t ht => inP_fr (hg.bt t ht) hf hXR hRR) (ht _ fun b hb => ?_) hrel
 ·rcases hnp b e2 with e | e
  ·exact a3 b e1 e
  ·have := (hlt b (mem_Rb.2 (.inr (.inr (.inl (mem_blks.2 (.inl e1))))))).2
   omega
 ·rcases mem_Rb.1 hb with e | e | e | e
  ·exact .inl (mem_Rb.2 (.inl e))
  ·exact .inl (mem_Rb.2 (.inr (.inl e)))
  ·rcases mem_blks.1 e with e | e
   ·exact .inl (mem_Rb.2 (.inr (.inr (.inl (mem_blks.2 (.inl e))))))
   ·exact .inr e
  ·exact .inl (mem_Rb.2 (.inr (.inr (.inr e))))
end
end Go.Proofs.YtobbifhflnlplaaDoor
namespace Go.Proofs.YtobbifhflnlplaaDoor
open Lib (hid)
open Go.RowKit
open Go.Tree7
open S7
open S5 (nl nl_length nl_small at_nl nl_at Gives idx idx_at ix ix_no ix_yes)
theorem set_same {cur : Array Value} {i : Nat} {v : Value} (h : cur[i]? = some v) : cur.setIfInBounds i v = cur := by
 apply Array.ext_getElem?
 intro j
 rw [Array.getElem?_setIfInBounds]
 split
 ·rename_i e
  subst e
  split
  ·exact h.symm
  ·rw [Array.getElem?_eq_none (by omega)]
 ·rfl
theorem setCell_block {w : World} {b : Nat} {cs : Array Value} {t : TypeId} (h : w.heap[b]? = some (.cells cs t (0, 0))) (q : Nat) (v : Value) : (w.setCell ⟨b, q, none⟩ v).heap[b]? = some (.cells (cs.setIfInBounds q v) t (0, 0)) := box_set h q v
section
variable {w0 : World} {B br : Nat} {s : ByteArray} {w w' : World} {gb gc : Nat} {g : Gr} {rest : List Gr} {o : Op} {p : List Op}
theorem Rdr.cut_in (h : Rdr w0 B br s w gb gc (g :: rest) (o :: p)) : Calls Tryd.prog 46 #[.pointer (some ⟨gb, rest.length * 2, none⟩)] w fun e w' => e = .returned (.tuple #[]) ∧ ∃ g', Rdr w0 B br s w' gb gc (g' :: rest) ((o.1 ++ [catT o.2], []) :: p) := by
 obtain ⟨cur, h1, h2, h3, hrow⟩ := h.row.top
 have hg := h.each g (by simp)
 obtain ⟨a1, a2, a3, a4⟩ := h.apart
 have hne : g.bv.ownBlock ≠ some gb := fun e => (a2 gb (mem_blks.2 (.inl e))).1 rfl
 refine (Go.Proofs.YtobbifhflnlplaaDoor.cut_in w h1 h2 h3 hg.bl hg.pl hne h.base hg.bn).mono ?_
 rintro e w' ⟨bv', k1, k2, k3, k4, rfl⟩
 obtain ⟨g', -, -, -, -, h5⟩ := h.cutB (fun g' e1 e2 => hrow w' g' (by rw [e1, e2]; exact k1)) k2 k3 k4
 exact ⟨rfl, g', h5⟩
theorem Rdr.add (h : Rdr w0 B br s w gb gc (g :: rest) (o :: p)) {t x : T} {v' : Value} {w1 : World} (hL : Lst w1 B v' (g.ps.take 600 ++ [t])) (hf : Fr (fun b => g.pv.ownBlock = some b) w w1) (hn : v'.ownBlock = g.pv.ownBlock ∨ ∃ b, v'.ownBlock = some b ∧ w.heap.size ≤ b)
  (ht : T.InP w (Free w B (Rb br gb (g :: rest))) t) (hx : t.strip = cutT x) : ∃ g', Rdr w0 B br s (w1.setCell ⟨gb, rest.length * 2 + 1, none⟩ v') gb gc (g' :: rest) ((o.1, o.2 ++ [x]) :: p) := by
 obtain ⟨cur, h1, h2, h3, hrow⟩ := h.row.top
 have hg := h.each g (by simp)
 obtain ⟨a1, a2, a3, a4⟩ := h.apart
 have hlt := h.lt
 have hgb := (hlt gb (mem_Rb.2 (.inl rfl))).2
 have hgbX : ¬ g.pv.ownBlock = some gb := fun e => (a2 gb (mem_blks.2 (.inr e))).1 rfl
 have k1 : w1.heap[gb]? = some (.cells cur 70 (0, 0)) := (hf.block gb hgb hgbX).trans h1
 have hF : Fr (fun b => b = gb ∨ g.pv.ownBlock = some b) w (w1.setCell ⟨gb, rest.length * 2 + 1, none⟩ v') := (hf.mono fun b e => .inr e).set (.inl (.inl rfl)) v'
 have hv : ∀ b, v'.ownBlock = some b → b ≠ gb := fun b e eb => by
  subst eb
  rcases hn with hn | ⟨c, hc, hcl⟩
  ·exact hgbX (hn ▸ e)
  ·rw [hc] at e
   have := Option.some.inj e
   omega
 refine h.pieces hF (fun b hb => hb) (fun g' e1 e2 => hrow _ g' ?_) (hL.keep fun b hb hl => Below.heap_setCell _ _ _ _ (hv b hb)) (by rw [List.length_append, List.length_take]; simp only [List.length_cons, List.length_nil]; omega) hn (fun R' hR t' ht' => ?_) ⟨h.rel.1.1, rel_snoc h.rel.1.2 hx⟩
 ·rw [e1, e2, set_same h2]
  exact setCell_block k1 _ _
 ·have hRR : ∀ b ∈ R', b ∈ Rb br gb (g :: rest) ∨ w.heap.size ≤ b := fun b hb => by
   rcases hR b hb with e | e
   ·exact .inl e
   ·rcases hn with hn | ⟨c, hc, hcl⟩
    ·exact .inl (mem_Rb.2 (.inr (.inr (.inl (mem_blks.2 (.inr (hn ▸ e)))))))
    ·rw [hc] at e
     have := Option.some.inj e
     exact .inr (by omega)
  have hXR : ∀ b, (b = gb ∨ g.pv.ownBlock = some b) → b ∈ Rb br gb (g :: rest) := fun b hb => by
   rcases hb with e | e
   ·exact mem_Rb.2 (.inl e)
   ·exact mem_Rb.2 (.inr (.inr (.inl (mem_blks.2 (.inr e)))))
  rcases List.mem_append.1 ht' with ht' | ht'
  ·exact inP_fr (hg.pt t' (List.mem_of_mem_take ht')) hF hXR hRR
  ·simp only [List.mem_cons, List.not_mem_nil, or_false] at ht'
   subst ht'
   exact inP_fr ht hF hXR hRR
theorem Rdr.rep_in {bs ps : List T} {x : T} (h : Rdr w0 B br s w gb gc (g :: rest) ((bs, ps ++ [x]) :: p)) {a b : Int} (ha : (Lit.int .i64 a).wf = true) (hb : (Lit.int .i64 b).wf = true) :
  Calls Tryd.prog 50 #[.pointer (some ⟨gb, rest.length * 2, none⟩), .int .i64 a, .int .i64 b] w fun e w' => e = .returned (.tuple #[]) ∧ ∃ g', Rdr w0 B br s w' gb gc (g' :: rest) ((bs, ps ++ [tR a b x]) :: p) := by
 obtain ⟨cur, h1, h2, h3, hrow⟩ := h.row.top
 have hg := h.each g (by simp)
 obtain ⟨a1, a2, a3, a4⟩ := h.apart
 have hlt := h.lt
 have hrel := h.rel.1.2
 simp only [List.map_append, List.map_cons, List.map_nil] at hrel
 rw [cutL_snoc] at hrel
 obtain ⟨qs, y, hps, hqs, hy⟩ : ∃ qs y, g.ps = qs ++ [y] ∧ qs.map T.strip = (ps.map cutT).take 600 ∧ y.strip = cutT x := by
  rw [List.map_eq_append_iff] at hrel
  obtain ⟨l1, l2, e1, e2, e3⟩ := hrel
  rw [List.map_eq_singleton_iff] at e3
  obtain ⟨y, rfl, e3⟩ := e3
  exact ⟨l1, y, e1, e2, e3⟩
 have hpl := hg.pl
 have hpv : g.pv = .slice g.pp (qs ++ [y]).length g.pc := by unfold Gr.pv; rw [hps]
 rw [hpv, hps] at hpl
 rw [hpv] at h3
 obtain ⟨gp, hgp⟩ : ∃ gp, g.pp = some ⟨gp, 0, none⟩ := by
  rcases hpl.form with ⟨-, e⟩ | ⟨gp, cp, e, -⟩
  ·simp at e
  ·simp only [Value.slice.injEq] at e
   exact ⟨gp, e.1⟩
 rw [hgp] at hpl h3 hpv
 have hown : g.pv.ownBlock = some gp := by rw [hpv]; rfl
 refine (repeat_in a b w h1 h3 hpl).mono ?_
 rintro e w' ⟨rfl, k1, k2, k3⟩
 refine ⟨rfl, ?_⟩
 have hgb := (hlt gb (mem_Rb.2 (.inl rfl))).2
 have hgpR : gp ∈ Rb br gb (g :: rest) := mem_Rb.2 (.inr (.inr (.inl (mem_blks.2 (.inr hown)))))
 have hne : gb ≠ gp := fun e => (a2 gp (mem_blks.2 (.inr hown))).1 e.symm
 have kg : w'.heap[gb]? = some (.cells cur 70 (0, 0)) := (k2.block gb hgb hne).trans h1
 have hlen : (qs ++ [repT a b w.heap.size y]).length = (qs ++ [y]).length := by simp
 rw [← hlen] at k1
 refine h.pieces k2 (fun c hc => .inr (by rw [hown, hc])) (fun g' e1 e2 => hrow _ g' ?_) k1 (by rw [hlen, ← hps]; exact hg.pn) (.inl (by rw [hown]; rfl)) (fun R' hR t' ht' => ?_) ⟨h.rel.1.1, ?_⟩
 ·rw [e1, e2, set_same h2, set_same (by rw [hlen]; exact h3)]
  exact kg
 ·have hRR : ∀ c ∈ R', c ∈ Rb br gb (g :: rest) ∨ w.heap.size ≤ c := fun c hc => by
   rcases hR c hc with e | e
   ·exact .inl e
   ·have := Option.some.inj (show some gp = some c from e)
    exact .inl (this ▸ hgpR)
  have hXR : ∀ c, c = gp → c ∈ Rb br gb (g :: rest) := fun c hc => hc ▸ hgpR
  rcases List.mem_append.1 ht' with ht' | ht'
  ·exact inP_fr (hg.pt t' (by rw [hps]; simp [ht'])) k2 hXR hRR
  ·simp only [List.mem_cons, List.not_mem_nil, or_false] at ht'
   subst ht'
   have hyI := inP_fr (hg.pt y (by rw [hps]; simp)) k2 hXR hRR
   refine .mk (Nat.le_refl _) (by unfold maxLen; omega) ⟨by decide, ⟨by decide, by decide, by decide, by decide⟩, ha, hb, by decide⟩ (fun i hi => ⟨⟨w.heap.size, 0, none⟩, rfl, ⟨(Array.getElem?_eq_some_iff.1 k3).1, fun hm => ?_, h.base⟩, fun j hj => ?_⟩) (fun t ht => ?_)
   ·rcases hR w.heap.size hm with e | e
    ·have h9 := (hlt w.heap.size e).2; omega
    ·have := Option.some.inj (show some gp = some w.heap.size from e)
     have := (hlt _ hgpR).2
     omega
   ·obtain rfl : i = 0 := by simpa using hi
    have e : (⟨w.heap.size, 0, none⟩ : Addr).add (0 * 9 + j) = ⟨w.heap.size, j, none⟩ := by unfold Addr.add; split <;> simp_all
    rw [e, cell_of_row _ _ _ _ _ (0, 0) k3]
    simp
   ·simp only [List.mem_cons, List.not_mem_nil, or_false] at ht
    subst ht
    exact hyI
 ·simp only [List.map_append, List.map_cons, List.map_nil]
  rw [cutL_snoc, hqs, cutT_rep]
  unfold repT tR
  rw [T.strip_mk]
  simp only [List.map_cons, List.map_nil]
  rw [hy]
end
end Go.Proofs.YtobbifhflnlplaaDoor
namespace Go.Proofs.YtobbifhflnlplaaDoor
open Lib (hid)
open Go.RowKit
open Go.Tree7
open S7
open S5 (nl nl_length nl_small at_nl nl_at Gives idx idx_at ix ix_no ix_yes)
theorem GRow.tail {w : World} {B gb gc : Nat} {g : Gr} {rest : List Gr} (h : GRow w B gb gc (g :: rest)) : GRow w B gb gc rest := by
 obtain ⟨cur, h1, h2, h3, h4, h5, h6⟩ := h
 refine ⟨cur, h1, h2, by rw [List.length_cons] at h3; omega, h4, h5, ?_⟩
 rw [List.length_cons, List.reverse_cons, List.flatMap_append] at h6
 have h7 := congrArg (List.take (rest.length * 2)) h6
 rw [List.take_take, Nat.min_eq_left (by omega), List.take_append_of_le_length (by rw [gcells_len, List.length_reverse]; omega), List.take_of_length_le (l := rest.reverse.flatMap Gr.cells) (by rw [gcells_len, List.length_reverse]; omega)] at h7
 exact h7
structure Pop (w0 : World) (B br : Nat) (s : ByteArray) (w : World) (gb gc : Nat) (rest : List Gr) (p : List Op) (t : T) : Prop where
 box : w.heap[br]? = some (.cells #[.string s, .slice (some ⟨gb, 0, none⟩) (rest.length + 1) gc] 66 (0, 0))
 row : GRow w B gb gc rest
 each : ∀ g ∈ rest, GrIn w B (Rb br gb rest) g
 sep : (Rb br gb rest).Nodup
 low : B ≤ br
 bel : Below B w0 w
 base : B ≤ w.heap.size
 rel : RelL rest p
 tree : T.InP w (Free w B (Rb br gb rest)) t
section
variable {w0 : World} {B br : Nat} {s : ByteArray} {w w' : World} {gb gc : Nat} {g : Gr} {rest : List Gr} {o : Op} {p : List Op}
theorem Rdr.whole_in (h : Rdr w0 B br s w gb gc (g :: rest) (o :: p)) : Calls Tryd.prog 32 #[.pointer (some ⟨gb, rest.length * 2, none⟩)] w fun e w' => ∃ t, e = .returned (.agg t.cells.toArray) ∧ t.strip = cutT (closedT o) ∧ Pop w0 B br s w' gb gc rest p t := by
 obtain ⟨cur, h1, h2, h3, hrow⟩ := h.row.top
 have hg := h.each g (by simp)
 obtain ⟨a1, a2, a3, a4⟩ := h.apart
 have hne : g.bv.ownBlock ≠ some gb := fun e => (a2 gb (mem_blks.2 (.inl e))).1 rfl
 have hlt := h.lt
 refine (Go.Proofs.YtobbifhflnlplaaDoor.whole_in w h1 h2 h3 hg.bl hg.pl hne h.base hg.bn).mono ?_
 rintro e w' ⟨bp', bc', rfl, k1, k2, hf, hn⟩
 have hsep := h.sep
 unfold Rb at hsep
 simp only [List.flatMap_cons, List.nodup_cons, List.mem_cons, List.mem_append, not_or, List.nodup_append] at hsep
 obtain ⟨⟨s1, s2, s3⟩, ⟨s4, s5⟩, s6, s7, s8⟩ := hsep
 have hXR : ∀ b, (b = gb ∨ (Value.slice g.bp g.bs.length g.bc).ownBlock = some b) → b ∈ Rb br gb (g :: rest) := fun b hb => by
  rcases hb with e | e
  ·exact mem_Rb.2 (.inl e)
  ·exact mem_Rb.2 (.inr (.inr (.inl (mem_blks.2 (.inl e)))))
 have hRR : ∀ b ∈ Rb br gb rest, b ∈ Rb br gb (g :: rest) ∨ w.heap.size ≤ b := fun b hb => by
  unfold Rb at hb
  simp only [List.mem_cons] at hb
  rcases hb with e | e | e
  ·exact .inl (mem_Rb.2 (.inl e))
  ·exact .inl (mem_Rb.2 (.inr (.inl e)))
  ·exact .inl (mem_Rb.2 (.inr (.inr (.inr e))))
 -- a block of the innermost group is free now
 have hfree : ∀ b, b ∈ g.blks → Free w' B (Rb br gb rest) b := fun b hb => ⟨Nat.lt_of_lt_of_le (hlt b (mem_Rb.2 (.inr (.inr (.inl hb))))).2 hf.size, fun hm => (by
  unfold Rb at hm
  simp only [List.mem_cons] at hm
  rcases hm with e | e | e
  ·exact (a2 b hb).1 e
  ·exact (a2 b hb).2.1 e
  ·exact (a2 b hb).2.2 e), (hlt b (mem_Rb.2 (.inr (.inr (.inl hb))))).1⟩
 have hpX : ∀ b, g.pv.ownBlock = some b → ¬ (b = gb ∨ (Value.slice g.bp g.bs.length g.bc).ownBlock = some b) := fun b hb => by
  rintro (e | e)
  ·exact (a2 b (mem_blks.2 (.inr hb))).1 e
  ·exact a3 b e hb
 refine ⟨_, rfl, rel_closed h.rel.1.1 h.rel.1.2, ?_, (hrow w' ⟨bp', bc', g.bs.take 600 ++ [rowT 2 g.pp g.pc g.ps], none, 0, []⟩ k1).tail, fun x hx => ?_, ?_, h.low, h.bel.trans (hf.below h.base fun b hb => (hlt b (hXR b hb)).1), Nat.le_trans h.base hf.size, h.rel.2, ?_⟩
 ·rw [hf.block br (Array.getElem?_eq_some_iff.1 h.box).1 (by
   rintro (e | e)
   ·exact s1 e.symm
   ·exact s4 (mem_blks.2 (.inl e)))]
  exact h.box
 ·refine (h.each x (by simp [hx])).fr hf (fun b hb hxb => ?_) hXR hRR
  have hbr : b ∈ rest.flatMap Gr.blks := List.mem_flatMap.2 ⟨x, hx, hb⟩
  rcases hxb with e | e
  ·subst e; exact s3 hbr
  ·exact s8 b (mem_blks.2 (.inl e)) b hbr rfl
 ·unfold Rb
  simp only [List.nodup_cons, List.mem_cons, not_or]
  exact ⟨⟨s1, s3⟩, s5, s7⟩
 ·refine rowT_in (by decide) k2 (fun t ht => ?_) (fun b hb => ?_)
  ·rcases List.mem_append.1 ht with ht | ht
   ·exact inP_fr (hg.bt t (List.mem_of_mem_take ht)) hf hXR hRR
   ·simp only [List.mem_cons, List.not_mem_nil, or_false] at ht
    subst ht
    exact rowT_in (by decide) (hg.pl.fr hf hpX) (fun t ht => inP_fr (hg.pt t ht) hf hXR hRR) (fun b hb => hfree b (mem_blks.2 (.inr hb)))
  ·rcases hn with hn | ⟨c, hc, hcl⟩
   ·exact hfree b (mem_blks.2 (.inl (hn ▸ hb)))
   ·rw [hc] at hb
    have := Option.some.inj hb
    refine ⟨(k2.lt (this ▸ hc)).2, fun hm => ?_, (k2.lt (this ▸ hc)).1⟩
    rcases hRR b hm with e | e
    ·have := (hlt b e).2; omega
    ·have hm2 := hm
     unfold Rb at hm2
     simp only [List.mem_cons] at hm2
     rcases hm2 with e2 | e2 | e2
     ·have := (hlt gb (mem_Rb.2 (.inl rfl))).2; omega
     ·have := (hlt br (mem_Rb.2 (.inr (.inl rfl)))).2; omega
     ·have := (hlt b (mem_Rb.2 (.inr (.inr (.inr e2))))).2; omega
theorem Pop.known {t : T} (h : Pop w0 B br s w gb gc rest p t) : Rdr w0 B br s (w.setCell ⟨br, 1, none⟩ (.slice (some ⟨gb, 0, none⟩) rest.length gc)) gb gc rest p ∧ T.InP (w.setCell ⟨br, 1, none⟩ (.slice (some ⟨gb, 0, none⟩) rest.length gc)) (Free (w.setCell ⟨br, 1, none⟩ (.slice (some ⟨gb, 0, none⟩) rest.length gc)) B (Rb br gb rest)) t := by
 have hF : Fr (fun b => b = br) w (w.setCell ⟨br, 1, none⟩ (.slice (some ⟨gb, 0, none⟩) rest.length gc)) := (Fr.refl (fun b => b = br) w).set (a := ⟨br, 1, none⟩) (.inl rfl) _
 have hsep := h.sep
 unfold Rb at hsep
 simp only [List.nodup_cons, List.mem_cons, not_or] at hsep
 obtain ⟨⟨s1, s2⟩, s3, s4⟩ := hsep
 have hXR : ∀ b, b = br → b ∈ Rb br gb rest := fun b e => by subst e; simp [Rb]
 refine ⟨⟨box_set h.box 1 _, ?_, fun g hg => (h.each g hg).fr hF (fun b hb e => s3 (e ▸ List.mem_flatMap.2 ⟨g, hg, hb⟩)) hXR (fun b hb => .inl hb), h.sep, h.low, h.bel.trans (hF.below h.base fun b e => e ▸ h.low), Nat.le_trans h.base hF.size, h.rel⟩, inP_fr h.tree hF hXR (fun b hb => .inl hb)⟩
 obtain ⟨cur, k1, k2⟩ := h.row
 exact ⟨cur, (hF.block gb (Array.getElem?_eq_some_iff.1 k1).1 s1).trans k1, k2⟩
theorem Rdr.opened {gl : List Gr} (h : Rdr w0 B br s w gb gc gl p) {v' : Value} {w1 : World} (_ : gl ≠ []) (hL : w1.ownsRow B 70 2 v' (gl.length + 1) (gl.reverse.flatMap Gr.cells ++ [.slice none 0 0, .slice none 0 0])) (hf : Fr (fun b => b = gb) w w1) (hn : v'.ownBlock = some gb ∨ ∃ b, v'.ownBlock = some b ∧ w.heap.size ≤ b) :
  ∃ gb' gc', Rdr w0 B br s (w1.setCell ⟨br, 1, none⟩ v') gb' gc' ((⟨none, 0, [], none, 0, []⟩ : Gr) :: gl) (([], []) :: p) := by
 have hlt := h.lt
 have hsep := h.sep
 unfold Rb at hsep
 simp only [List.nodup_cons, List.mem_cons, not_or] at hsep
 obtain ⟨⟨s1, s2⟩, s3, s4⟩ := hsep
 have e2 : (gl.reverse.flatMap Gr.cells ++ [.slice none 0 0, .slice none 0 0]) = ((⟨none, 0, [], none, 0, []⟩ : Gr) :: gl).reverse.flatMap Gr.cells := by
  rw [List.reverse_cons, List.flatMap_append]
  rfl
 rw [e2] at hL
 obtain ⟨gb', gc', rfl, hrow⟩ := GRow.of_owns hL (by simp) (by simp)
 refine ⟨gb', gc', ?_⟩
 have hgb' : gb' = gb ∨ w.heap.size ≤ gb' := by
  rcases hn with hn | ⟨b, hb, hl⟩
  ·exact .inl (Option.some.inj hn)
  ·have := Option.some.inj hb
   exact .inr (by show w.heap.size ≤ gb'; rw [show gb' = b from this]; exact hl)
 have hbrl := (hlt br (by simp [Rb])).2
 have hgbl := (hlt gb (by simp [Rb])).2
 have hbr' : gb' ≠ br := by
  rcases hgb' with e | e
  ·rw [e]; exact s1
  ·omega
 have hF : Fr (fun b => b = gb ∨ b = br) w (w1.setCell ⟨br, 1, none⟩ (.slice (some ⟨gb', 0, none⟩) ((⟨none, 0, [], none, 0, []⟩ : Gr) :: gl).length gc')) := (hf.mono fun b e => .inl e).set (.inl (.inr rfl)) _
 have hXR : ∀ b, (b = gb ∨ b = br) → b ∈ Rb br gb gl := fun b e => by rcases e with e | e <;> subst e <;> simp [Rb]
 have hRR : ∀ b ∈ Rb br gb' ((⟨none, 0, [], none, 0, []⟩ : Gr) :: gl), b ∈ Rb br gb gl ∨ w.heap.size ≤ b := fun b hb => by
  rcases mem_Rb.1 hb with e | e | e | e
  ·rcases hgb' with e3 | e3
   ·exact .inl (by rw [e, e3]; simp [Rb])
   ·exact .inr (by omega)
  ·exact .inl (by rw [e]; simp [Rb])
  ·simp [Gr.blks, Gr.bv, Gr.pv, Value.ownBlock] at e
  ·exact .inl (by unfold Rb; simp only [List.mem_cons]; exact .inr (.inr e))
 have hmem : ∀ b, b ∈ gl.flatMap Gr.blks → b ∈ Rb br gb gl := fun b hb => by unfold Rb; simp only [List.mem_cons]; exact .inr (.inr hb)
 refine ⟨?_, ?_, fun x hx => ?_, ?_, h.low, h.bel.trans (hF.below h.base fun b hb => (hlt b (hXR b hb)).1), Nat.le_trans h.base hF.size, ⟨⟨rfl, rfl⟩, h.rel⟩⟩
 ·exact box_set ((hf.block br hbrl (fun e => s1 e.symm)).trans h.box) 1 _
 ·obtain ⟨cur, k1, k2⟩ := hrow
  exact ⟨cur, (Below.heap_setCell _ _ _ _ hbr').trans k1, k2⟩
 ·rcases List.mem_cons.1 hx with rfl | hx
  ·exact ⟨Lst.nil _ _, Lst.nil _ _, Nat.zero_le _, Nat.zero_le _, fun t ht => by simp at ht, fun t ht => by simp at ht⟩
  ·refine (h.each x hx).fr hF (fun b hb e => ?_) hXR hRR
   have hbm := List.mem_flatMap.2 ⟨x, hx, hb⟩
   rcases e with e | e
   ·exact s2 (e ▸ hbm)
   ·exact s3 (e ▸ hbm)
 ·unfold Rb
  have e4 : ((⟨none, 0, [], none, 0, []⟩ : Gr) :: gl).flatMap Gr.blks = gl.flatMap Gr.blks := rfl
  rw [e4]
  simp only [List.nodup_cons, List.mem_cons, not_or]
  refine ⟨⟨hbr', fun hm => ?_⟩, s3, s4⟩
  rcases hgb' with e | e
  ·exact s2 (e ▸ hm)
  ·have := (hlt _ (hmem _ hm)).2; omega
end
end Go.Proofs.YtobbifhflnlplaaDoor
