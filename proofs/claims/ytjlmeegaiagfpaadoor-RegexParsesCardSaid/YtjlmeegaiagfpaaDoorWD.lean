/- Texts of earlier layers, merged: W13, W14. -/
import Derived.Test.YtjlmeegaiagfpaaDoorWC
namespace Go.Proofs.YtjlmeegaiagfpaaDoor
open Go.RowKit
open Go.Tree7
open S7
open S5 (nl nl_length nl_small at_nl nl_at Gives idx idx_at ix ix_no ix_yes)
theorem nxt_of {w w1 : World} {v v' : Value} (h : v'.ownBlock = v.ownBlock ∨ ∃ g, v'.ownBlock = some g ∧ w1.heap.size ≤ g) (hs : w.heap.size ≤ w1.heap.size) : v'.ownBlock = v.ownBlock ∨ ∃ g, v'.ownBlock = some g ∧ w.heap.size ≤ g := by
  rcases h with h | ⟨g, h, hg⟩
  · exact .inl h
  · exact .inr ⟨g, h, Nat.le_trans hs hg⟩
theorem Lst.bel {w w' : World} {B : Nat} {v : Value} {ks : List T} (h : Lst w B v ks) (hb : Bel w w') : Lst w' B v ks := h.keep fun g _ hl => hb.block g hl
set_option maxRecDepth 100000 in
set_option maxHeartbeats 8000000 in
theorem cut_in {B bg o : Nat} {cur : Array Value} {bp pp : Option Addr} {bc pc : Nat} {bs ps : List T} (w : World) (hg : w.heap[bg]? = some (.cells cur 54 (0, 0))) (hc0 : cur[o]? = some (.slice bp bs.length bc)) (hc1 : cur[o + 1]? = some (.slice pp ps.length pc))
    (hB : Lst w B (.slice bp bs.length bc) bs) (hP : Lst w B (.slice pp ps.length pc) ps) (hne : (Value.slice bp bs.length bc).ownBlock ≠ some bg) (hBw : B ≤ w.heap.size) (hn : bs.length ≤ 601) :
    Calls Tryd.prog 36 #[.pointer (some ⟨bg, o, none⟩)] w fun e w' => ∃ bv', w'.heap[bg]? = some (.cells ((cur.setIfInBounds o bv').setIfInBounds (o + 1) (.slice none 0 0)) 54 (0, 0)) ∧ Lst w' B bv' (bs.take 600 ++ [rowT 2 pp pc ps]) ∧ Fr (fun b => b = bg ∨ (Value.slice bp bs.length bc).ownBlock = some b) w w' ∧ ((bv'.ownBlock = (Value.slice bp bs.length bc).ownBlock) ∨ ∃ g, bv'.ownBlock = some g ∧ w.heap.size ≤ g) ∧ e = .returned (.tuple #[]) := by
  have cJ : ∀ w', Bel w w' → Calls Tryd.prog 43 #[.int .i64 2, .slice pp ps.length pc] w' fun e w'' => e = .returned (.agg (rowT 2 pp pc ps).cells.toArray) ∧ Below w'.heap.size w' w'' := fun w' hb => joined_in 2 w' (hP.bel hb)
  have cW : ∀ w', Bel w w' → Calls Tryd.prog 42 #[.slice bp bs.length bc, .agg (rowT 2 pp pc ps).cells.toArray] w' (GivesLst B (.slice bp bs.length bc) (bs.take 600 ++ [rowT 2 pp pc ps]) w') := fun w' hb => with_in _ w' (hB.bel hb) (Nat.le_trans hBw hb.size) hn
  generalize rowT 2 pp pc ps = x at *
  obtain ⟨k, u0, u1, u2, u3, px, cx, mn, mx, tx, ts⟩ := x
  simp only [T.cells] at cJ cW
  replace cJ := Lib.hid cJ
  replace cW := Lib.hid cW
  replace hc0 := Lib.hid hc0
  replace hc1 := Lib.hid hc1
  replace hne := Lib.hid hne
  have hq := Lib.hid (show Bel w w.drew from (Below.refl _ _).drew)
  clear hB hP hBw hn
  go_enter Tryd.func36, Tryd.ntmps36
  go_wp2
  have y4 := (cells_of hg o _ hc0.out).1
  have y8 := (cells_of hg (o + 1) _ hc1.out).1
  go_region_with (first | (go_at_call 43; go_loud ((with_reducible refine (cJ.out _ hq.out).mono ?_); rintro e w1 ⟨rfl, hb1⟩; have hq1 := Lib.hid (Bel.step hq.out hb1); have hk1 : w1.heap[bg]? = some (.cells cur 54 (0, 0)) := kept_row (show w.drew.heap[bg]? = _ from hg) hb1; have x4 := (cells_of hk1 o _ hc0.out).1; clear hb1)) | (go_at_call 42; (with_reducible refine (cW.out _ hq1.out).mono ?_); rintro e w2 ⟨bv', rfl, hL2, hF2, hN2⟩; obtain ⟨pv2, cv2, rfl, -⟩ := row_form hL2; have hF3 := Lib.hid ((Fr.of_bel (X := fun b => b = bg ∨ (Value.slice bp bs.length bc).ownBlock = some b) hq1.out).trans hF2 (fun k hk => .inl (.inr hk))); have hk2 : w2.heap[bg]? = some (.cells cur 54 (0, 0)) := (hF2.block bg (Array.getElem?_eq_some_iff.1 hk1).1 (fun e => hne.out e)).trans hk1; have hN3 := Lib.hid (nxt_of hN2 hq1.out.size); clear hF2 hN2; obtain ⟨y6, f6⟩ := cells_of hk2 o _ hc0.out; replace hL2 := Lib.hid hL2))
  all_goals
    have hk3 := box_set hk2 o (.slice pv2 (bs.take 600 ++ [T.mk k u0 u1 u2 u3 px cx mn mx tx ts]).length cv2)
    have hc3 : (cur.setIfInBounds o (.slice pv2 (bs.take 600 ++ [T.mk k u0 u1 u2 u3 px cx mn mx tx ts]).length cv2))[o + 1]? = some (.slice pp ps.length pc) := by rw [Array.getElem?_setIfInBounds_ne (by omega)]; exact hc1.out
    obtain ⟨y7, f7⟩ := cells_of hk3 (o + 1) _ hc3
    simp only [List.length_append, List.length_take, List.length_cons, List.length_nil, Nat.zero_add] at y7 f7
    replace hk3 := Lib.hid hk3
    clear hc3
    go_wp2
    refine bodyPost_end (v := .tuple #[]) (by simp [results, Tryd.results36, go_sem]) rfl ?_
    refine ⟨_, ?_, hL2.out.keep fun g hg2 hl => ?_, (hF3.out.set (.inl (.inl rfl)) _).set (.inl (.inl rfl)) _, hN3.out, rfl⟩
    · have := box_set hk3.out (o + 1) (.slice none 0 0)
      simpa using this
    · have hgb : g ≠ bg := fun e => by
        subst e
        rcases hN3.out with h | ⟨g', h, hg'⟩
        · exact hne.out (h ▸ hg2)
        · rw [h] at hg2
          have := Option.some.inj hg2
          have := (Array.getElem?_eq_some_iff.1 hg).1
          omega
      rw [Below.heap_setCell _ _ _ _ hgb, Below.heap_setCell _ _ _ _ hgb]
end Go.Proofs.YtjlmeegaiagfpaaDoor

namespace Go.Proofs.YtjlmeegaiagfpaaDoor
open Go.RowKit
open Go.Tree7
open S7
open S5 (nl nl_length nl_small at_nl nl_at Gives idx idx_at ix ix_no ix_yes)
theorem cur_at {cur : Array Value} {o : Nat} {v x y : Value} (h : cur[o]? = some v) : ((cur.setIfInBounds o x).setIfInBounds (o + 1) y)[o]? = some x := by
  rw [Array.getElem?_setIfInBounds_ne (by omega), Array.getElem?_setIfInBounds_self, if_pos (Array.getElem?_eq_some_iff.1 h).1]
/-- What whole gives back: the expression's tree; the group's branches lie in a row of their own. -/
def GivesWhole (B bg o : Nat) (cur : Array Value) (bv : Value) (l : List T) (w : World) (e : Ending) (w' : World) : Prop :=
  ∃ bp' bc', e = .returned (.agg (rowT 3 bp' bc' l).cells.toArray) ∧ w'.heap[bg]? = some (.cells ((cur.setIfInBounds o (.slice bp' l.length bc')).setIfInBounds (o + 1) (.slice none 0 0)) 54 (0, 0)) ∧ Lst w' B (.slice bp' l.length bc') l ∧ Fr (fun b => b = bg ∨ bv.ownBlock = some b) w w' ∧ ((Value.slice bp' l.length bc').ownBlock = bv.ownBlock ∨ ∃ g, (Value.slice bp' l.length bc').ownBlock = some g ∧ w.heap.size ≤ g)
set_option maxRecDepth 100000 in
set_option maxHeartbeats 8000000 in
theorem whole_in {B bg o : Nat} {cur : Array Value} {bp pp : Option Addr} {bc pc : Nat} {bs ps : List T} (w : World) (hg : w.heap[bg]? = some (.cells cur 54 (0, 0))) (hc0 : cur[o]? = some (.slice bp bs.length bc)) (hc1 : cur[o + 1]? = some (.slice pp ps.length pc))
    (hB : Lst w B (.slice bp bs.length bc) bs) (hP : Lst w B (.slice pp ps.length pc) ps) (hne : (Value.slice bp bs.length bc).ownBlock ≠ some bg) (hBw : B ≤ w.heap.size) (hn : bs.length ≤ 601) :
    Calls Tryd.prog 19 #[.pointer (some ⟨bg, o, none⟩)] w (GivesWhole B bg o cur (.slice bp bs.length bc) (bs.take 600 ++ [rowT 2 pp pc ps]) w) := by
  have hlt := (Array.getElem?_eq_some_iff.1 hg).1
  have hbA : Bel w (w.alloc (.cells #[.int .i64 0, .int .u64 0, .int .u64 0, .int .u64 0, .int .u64 0, .slice none 0 0, .int .i64 0, .int .i64 0, .string ⟨#[]⟩] 28)) := (Below.refl _ _).alloc (Nat.le_refl _) _
  have cC := (cut_in (w.alloc (.cells #[.int .i64 0, .int .u64 0, .int .u64 0, .int .u64 0, .int .u64 0, .slice none 0 0, .int .i64 0, .int .i64 0, .string ⟨#[]⟩] 28)) (kept_row hg hbA) hc0 hc1 (hB.bel hbA) (hP.bel hbA) hne (Nat.le_trans hBw hbA.size) hn)
  obtain ⟨l, hl⟩ : ∃ l, l = bs.take 600 ++ [rowT 2 pp pc ps] := ⟨_, rfl⟩
  rw [← hl] at cC ⊢
  clear hl
  replace cC := Lib.hid cC
  have hfar : Hid (¬ (w.heap.size = bg ∨ (Value.slice bp bs.length bc).ownBlock = some w.heap.size)) := Lib.hid (by
    rintro (h | h)
    · omega
    · have := (hB.lt h).2; omega)
  have hG : ∃ G, G = GivesWhole B bg o cur (.slice bp bs.length bc) l w := ⟨_, rfl⟩
  obtain ⟨G, hG⟩ := hG
  rw [← hG]
  replace hG := Lib.hid hG
  replace hc0 := Lib.hid hc0
  replace hbA := Lib.hid hbA
  clear hc1 hB hP hne hBw hn hg
  go_enter Tryd.func19, Tryd.ntmps19
  go_wp2_with (first | (go_at_call 36; (with_reducible refine cC.out.mono ?_); rintro e w1 ⟨bv', hk1, hL1, hF1, hN1, rfl⟩; obtain ⟨pv2, cv2, rfl, -⟩ := row_form hL1; have cJ := joined_in 3 w1 hL1; obtain ⟨xj, hxj⟩ : ∃ x, x = rowT 3 pv2 cv2 l := ⟨_, rfl⟩; rw [← hxj] at cJ; obtain ⟨k, u0, u1, u2, u3, px, cx, mn, mx, tx, ts⟩ := xj; simp only [T.cells] at cJ; replace cJ := Lib.hid cJ; replace hxj := Lib.hid hxj; have hx1 := Lib.hid ((hF1.block w.heap.size (by simp) hfar.out).trans (World.alloc_heap_new w (.cells #[.int .i64 0, .int .u64 0, .int .u64 0, .int .u64 0, .int .u64 0, .slice none 0 0, .int .i64 0, .int .i64 0, .string ⟨#[]⟩] 28))); have yb := (cells_of hk1 o _ (cur_at hc0.out)).1; have hz1 : w.heap.size < w1.heap.size := Nat.lt_of_lt_of_le (by simp) hF1.size; have hk1 := Lib.hid hk1; replace hL1 := Lib.hid hL1; replace hF1 := Lib.hid hF1; replace hN1 := Lib.hid hN1) | (go_at_call 43; (with_reducible refine cJ.out.mono ?_); rintro e w2 ⟨rfl, hb2⟩; have hx2 := Lib.hid (kept_row hx1.out hb2); have hz2 : w.heap.size < w2.heap.size := Nat.lt_of_lt_of_le hz1 hb2.size; have hkx := cells_of hx2.out; obtain ⟨y0, f0⟩ := hkx 0 _ rfl; obtain ⟨y1, f1⟩ := hkx 1 _ rfl; obtain ⟨y2, f2⟩ := hkx 2 _ rfl; obtain ⟨y3, f3⟩ := hkx 3 _ rfl; obtain ⟨y4, f4⟩ := hkx 4 _ rfl; obtain ⟨y5, f5⟩ := hkx 5 _ rfl; obtain ⟨y6, f6⟩ := hkx 6 _ rfl; obtain ⟨y7, f7⟩ := hkx 7 _ rfl; obtain ⟨y8, f8⟩ := hkx 8 _ rfl; clear hkx; replace hb2 := Lib.hid hb2))
  obtain ⟨q1, q2, q3, q4⟩ := set9 (b := w.heap.size) (d0 := .int .i64 k) (d1 := .int .u64 u0) (d2 := .int .u64 u1) (d3 := .int .u64 u2) (d4 := .int .u64 u3) (d5 := (.slice px ts.length cx)) (d6 := .int .i64 mn) (d7 := .int .i64 mx) (d8 := .string tx) hx2.out _ rfl
  generalize hW : World.setCell _ (⟨w.heap.size, 8, none⟩ : Addr) _ = W9 at *
  clear hW
  have hk9 := cells_of q1
  obtain ⟨z0, -⟩ := hk9 0 _ rfl
  obtain ⟨z1, -⟩ := hk9 1 _ rfl
  obtain ⟨z2, -⟩ := hk9 2 _ rfl
  obtain ⟨z3, -⟩ := hk9 3 _ rfl
  obtain ⟨z4, -⟩ := hk9 4 _ rfl
  obtain ⟨z5, -⟩ := hk9 5 _ rfl
  obtain ⟨z6, -⟩ := hk9 6 _ rfl
  obtain ⟨z7, -⟩ := hk9 7 _ rfl
  obtain ⟨z8, -⟩ := hk9 8 _ rfl
  clear hk9
  refine bodyPost_ret (v := .agg #[.int .i64 k, .int .u64 u0, .int .u64 u1, .int .u64 u2, .int .u64 u3, (.slice px ts.length cx), .int .i64 mn, .int .i64 mx, .string tx]) (by simp [results, Tryd.results19, go_sem, z0, z1, z2, z3, z4, z5, z6, z7, z8]) rfl ?_
  rw [hG.out]
  have hgk := (Array.getElem?_eq_some_iff.1 hk1.out).1
  refine ⟨pv2, cv2, by rw [← hxj.out]; rfl, (q3 bg (by omega)).trans (kept_row hk1.out hb2.out), (hL1.out.bel hb2.out).keep fun g hgo hl => q3 g (fun e => ?_), ?_, nxt_of hN1.out hbA.out.size⟩
  · subst e
    rcases hN1.out with h | ⟨g', h, hg'⟩
    · exact hfar.out (.inr (h ▸ hgo))
    · rw [h] at hgo
      have := Option.some.inj hgo
      rw [World.size_alloc] at hg'
      omega
  · exact (((Fr.of_bel hbA.out).trans hF1.out (fun k h => .inl h)).step hb2.out).trans (Y := fun k => k = w.heap.size) ⟨(q4 0 (Nat.zero_le _)).os, (q4 0 (Nat.zero_le _)).tape, (q4 0 (Nat.zero_le _)).output, by rw [q2]; exact Nat.le_refl _, fun k _ h => q3 k h⟩ (fun k h => .inr (by omega))
end Go.Proofs.YtjlmeegaiagfpaaDoor
