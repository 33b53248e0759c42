/- MatchBest: texts merged. -/
import Derived.Test.YtobbifhflnlplaaDoorRE
import Derived.Test.YtobbifhflnlplaaDoorPG
namespace Go.Proofs.YtobbifhflnlplaaDoor
open Lib (hid)
open Go.RowKit
open Go.Tree7
open S7
open S5 (nl nl_length nl_small at_nl nl_at Gives idx idx_at ix ix_no ix_yes)
def lastD (l : List Nat) : Nat := l.foldl (fun _ x => x) 0
theorem lastD_snoc (l : List Nat) (x : Nat) : lastD (l ++ [x]) = x := by unfold lastD; rw [List.foldl_append]; rfl
def cutM (most : Int) (m : Nat) : Nat := min most.toNat m
theorem longest_no {w : World} {n : T} {a : Option Addr} {m c : Nat} {most : Int} (hm : m ≤ 4096) (h : most < 1) :
  Calls Tryd.prog 17 #[.agg n.cells.toArray, .slice a m c, .int .i64 0, .int .i64 most] w fun e w' => e = .returned (.int .i64 0) ∧ Below w.heap.size w w' := by
 have hq := Bel.new w (.cells n.cells.toArray 27)
 have cW := hid (fun w => within_in (a := a) (m := m) (c := c) 0 (by omega) w)
 have hI : inB m 0 = true := by unfold inB; simp; omega
 rw [hI] at cW
 obtain ⟨kn, n0, n1, n2, n3, pn, capn, mnn, mxn, txn, ksn⟩ := n
 simp only [T.cells] at hq ⊢
 replace hq := hid hq
 clear hI
 go_enter Tryd.func17, Tryd.ntmps17
 go_wp2_with (go_at_call 22; (with_reducible refine (cW.out _).mono ?_); rintro e w1 ⟨rfl, hb⟩; replace hb := hid (show Bel _ w1 from hb))
 go_ret
 exact ⟨rfl, bel_bel hq.out hb.out⟩
set_option maxRecDepth 100000 in
set_option maxHeartbeats 4000000 in
theorem longest_yes {w : World} {n : T} (hT : T.In w w.heap.size n) {a : Option Addr} {m c : Nat} {l : List Nat} (hs : Src w a m c l) (hm : m ≤ 4096) {most : Int} (h : 1 ≤ most) :
  Calls Tryd.prog 17 #[.agg n.cells.toArray, .slice a m c, .int .i64 0, .int .i64 most] w fun e w' => e = .returned (.int .i64 (lastD (lensW n (l.take (cutM most m))) : Nat)) ∧ Below w.heap.size w w' := by
 have hq := Bel.new w (.cells n.cells.toArray 27)
 have hbx := World.alloc_heap_new w (.cells n.cells.toArray 27)
 have hlm := hs.len
 have hcm := hs.cap
 have cW := hid (fun w => within_in (a := a) (m := m) (c := c) 0 (by omega) w)
 have hI : inB m 0 = true := by unfold inB; simp; omega
 rw [hI] at cW
 obtain ⟨M, rfl⟩ : ∃ M : Nat, most = M := ⟨most.toNat, by omega⟩
 obtain ⟨K, hK⟩ : ∃ K, K = cutM M m := ⟨_, rfl⟩
 have hKe : K = min M m := by rw [hK]; unfold cutM; rw [Int.toNat_natCast]
 rw [← hK]
 have hsr : ∀ W, Bel w W → Src W a K c (l.take K) := fun W hb => by
  have h2 : Src W a m c (l.take K ++ l.drop K) := by rw [List.take_append_drop]; exact hs.bel hb
  have h3 := h2.head
  rw [List.length_take, Nat.min_eq_left (by omega)] at h3
  exact h3
 have cL : Hid (∀ W, Bel w W → Calls Tryd.prog 23 #[.agg n.cells.toArray, .slice a K c] W fun e w' => ∃ v, e = .returned v ∧ ILst w' W.heap.size v (lensW n (l.take K)) ∧ Below W.heap.size W w') := hid fun W hb => lengths_in (in_bel hT hb) (hsr W hb) (by omega)
 have hLl : (lensW n (l.take K)).length ≤ 5000 := by
  have := lensW_le n (l.take K)
  rw [List.length_take] at this
  omega
 generalize lensW n (l.take K) = L at *
 clear hs hsr hT hK hI
 obtain ⟨kn, n0, n1, n2, n3, pn, capn, mnn, mxn, txn, ksn⟩ := n
 simp only [T.cells] at hq hbx cL ⊢
 obtain ⟨y0, y1, y2, y3, y4, y5, y6, y7, y8⟩ := c9 hbx
 replace hq := hid hq
 replace hbx := hid hbx
 have g1 : ¬ (M : Int) < 1 := by omega
 by_cases hMm : M ≤ m
 ·have hk1 : (K : Int) ≤ c := by omega
  have hk2 : K ≤ c := by omega
  have hk3 : c ≤ maxLen ∨ True := .inr trivial
  clear hk3
  obtain rfl : K = M := by omega
  clear hKe
  go_enter Tryd.func17, Tryd.ntmps17
  go_upto_region 5 with (go_at_call 22; (with_reducible refine (cW.out _).mono ?_); rintro e w1 ⟨rfl, hb⟩; have hb1 := hid (show Bel _ w1 from hb); have hx1 := hid (kept_row hbx.out hb); clear hb y0 y1 y2 y3 y4 y5 y6 y7 y8; obtain ⟨y0, y1, y2, y3, y4, y5, y6, y7, y8⟩ := c9 hx1.out)
  refine wp_region_held_drew (S := fun W => Bel w1 W) (by kernel_rfl) (Below.refl _ _).drew (fun hHeld => ?_)
  refine wpAnyH_take (i := 0) (v := ?v0u1) rfl (by kernel_rfl) (by kernel_rfl) (by kernel_rfl) (fun _ _ _ h => h) (Or.inl ⟨by kernel_rfl, ?h0u1⟩) hHeld ?r0u1
  case h0u1 => (intro wq hSw; obtain ⟨y0, y1, y2, y3, y4, y5, y6, y7, y8⟩ := c9 (kept_row hx1.out hSw); go_simp <;> with_reducible rfl)
  try simp only [Go.Last.pt]
  refine wpAnyH_take (i := 1) (v := ?v1u2) rfl (by kernel_rfl) (by kernel_rfl) (by kernel_rfl) (fun _ _ _ h => h) (Or.inl ⟨by kernel_rfl, ?h1u2⟩) hHeld ?r1u2
  case h1u2 => (intro wq hSw; go_simp <;> with_reducible rfl)
  try simp only [Go.Last.pt]
  refine wpAnyH_take (i := 2) (v := ?v2u3) rfl (by kernel_rfl) (by kernel_rfl) (by kernel_rfl) (fun _ _ _ h => h) (Or.inl ⟨by kernel_rfl, ?h2u3⟩) hHeld ?r2u3
  case h2u3 => (intro wq hSw; go_simp <;> with_reducible rfl)
  try simp only [Go.Last.pt]
  refine wpAnyH_take (i := 3) (v := ?v3u4) rfl (by kernel_rfl) (by kernel_rfl) (by kernel_rfl) (fun _ _ _ h => h) (Or.inl ⟨by kernel_rfl, ?h3u4⟩) hHeld ?r3u4
  case h3u4 => (intro wq hSw; go_simp <;> with_reducible rfl)
  try simp only [Go.Last.pt]
  refine wpAnyH_take (i := 4) (v := ?v4u5) rfl (by kernel_rfl) (by kernel_rfl) (by kernel_rfl) (fun _ _ _ h => h) (Or.inl ⟨by kernel_rfl, ?h4u5⟩) hHeld ?r4u5
  case h4u5 => (intro wq hSw; go_simp <;> with_reducible rfl)
  try simp only [Go.Last.pt]
  refine wpAnyH_take (i := 9) (v := ?v9u6) rfl (by kernel_rfl) (by kernel_rfl) (by kernel_rfl) (fun _ _ _ h => h) (Or.inl ⟨by kernel_rfl, ?h9u6⟩) hHeld ?r9u6
  case h9u6 => (intro wq hSw; go_simp <;> with_reducible rfl)
  try simp only [Go.Last.pt]
  refine Go.Last.held 5 (by kernel_rfl) rfl (fun K hK => ?_)
  go_simp
  rw [if_neg (by omega)]
  try dsimp only
  refine hK.out _ _ (hHeld) (fun hHeld2 => ?_)
  clear hK K hHeld
  have hHeld := hHeld2
  clear hHeld2
  try simp only [Go.Last.pt]
  refine Go.Last.held 6 (by kernel_rfl) rfl (fun K hK => ?_)
  go_simp
  try dsimp only
  refine hK.out _ _ (hHeld) (fun hHeld2 => ?_)
  clear hK K hHeld
  have hHeld := hHeld2
  clear hHeld2
  try simp only [Go.Last.pt]
  refine Go.Last.held 7 (by kernel_rfl) rfl (fun K hK => ?_)
  go_simp
  (go_at_call 23; (with_reducible refine (cL.out _ (bel_bel (bel_bel hq.out hb1.out) hHeld)).mono ?_); rintro e w2 ⟨v, rfl, hv, hb2⟩; obtain ⟨pv, cv, rfl⟩ := hv.form; replace hv := hid hv)
  try dsimp only
  refine hK.out _ _ (bel_bel hHeld hb2) (fun hHeld2 => ?_)
  clear hK K hHeld
  have hHeld := hHeld2
  clear hHeld2
  try simp only [Go.Last.pt]
  refine Go.Last.held 8 (by kernel_rfl) rfl (fun K hK => ?_)
  go_simp
  try dsimp only
  refine hK.out _ _ (hHeld) (fun hHeld2 => ?_)
  clear hK K hHeld
  have hHeld := hHeld2
  clear hHeld2
  try simp only [Go.Last.pt]
  refine wpAnyH_done (by kernel_rfl) ?_ _
  skip
  
  all_goals
   go_wp2
   go_loopw [10, 33] (fun lg i wr => ∃ j : Nat, j ≤ L.length ∧ i = .int .i64 j ∧ lg = .int .i64 (lastD (L.take j) : Nat) ∧ Hid (Bel w2 wr)) (fun _ i _ => L.length - (intOf i).toNat)
   case atStart => exact ⟨0, Nat.zero_le _, rfl, rfl, hid (Bel.refl _)⟩
   case round =>
    obtain ⟨j, hj, rfl, rfl, hB⟩ := hrel
    by_cases hlt : j < L.length
    ·obtain ⟨g, cap, e, -, hgl, -, hc⟩ := hv.out.cell hlt
     simp only [Value.slice.injEq, true_and] at e
     obtain ⟨rfl, rfl⟩ := e
     have hc2 := (Below.cell (show Below w2.heap.size w2 wr from hB.out) (p := ⟨g, j, none⟩) hgl).trans hc.1
     have hnx := hid (show lastD (L.take (j + 1)) = L[j] by rw [List.take_succ_eq_append_getElem hlt, lastD_snoc])
     clear hc
     go_wp2
     go_roundw
     case rel => exact ⟨j + 1, by omega, by go_num, by rw [hnx.out], hB⟩
     case measure => simp [intOf]; omega
    ·obtain rfl : j = L.length := by omega
     go_wp2
     go_ret
     exact ⟨by rw [List.take_length]; rfl, bel_bel (bel_bel hq.out hb1.out) (bel_bel hHeld hB.out)⟩
 ·obtain rfl : K = m := by omega
  clear hKe
  go_enter Tryd.func17, Tryd.ntmps17
  go_upto_region 5 with (go_at_call 22; (with_reducible refine (cW.out _).mono ?_); rintro e w1 ⟨rfl, hb⟩; have hb1 := hid (show Bel _ w1 from hb); have hx1 := hid (kept_row hbx.out hb); clear hb y0 y1 y2 y3 y4 y5 y6 y7 y8; obtain ⟨y0, y1, y2, y3, y4, y5, y6, y7, y8⟩ := c9 hx1.out)
  refine wp_region_held_drew (S := fun W => Bel w1 W) (by kernel_rfl) (Below.refl _ _).drew (fun hHeld => ?_)
  refine wpAnyH_take (i := 0) (v := ?v0u7) rfl (by kernel_rfl) (by kernel_rfl) (by kernel_rfl) (fun _ _ _ h => h) (Or.inl ⟨by kernel_rfl, ?h0u7⟩) hHeld ?r0u7
  case h0u7 => (intro wq hSw; obtain ⟨y0, y1, y2, y3, y4, y5, y6, y7, y8⟩ := c9 (kept_row hx1.out hSw); go_simp <;> with_reducible rfl)
  try simp only [Go.Last.pt]
  refine wpAnyH_take (i := 1) (v := ?v1u8) rfl (by kernel_rfl) (by kernel_rfl) (by kernel_rfl) (fun _ _ _ h => h) (Or.inl ⟨by kernel_rfl, ?h1u8⟩) hHeld ?r1u8
  case h1u8 => (intro wq hSw; go_simp <;> with_reducible rfl)
  try simp only [Go.Last.pt]
  refine wpAnyH_take (i := 2) (v := ?v2u9) rfl (by kernel_rfl) (by kernel_rfl) (by kernel_rfl) (fun _ _ _ h => h) (Or.inl ⟨by kernel_rfl, ?h2u9⟩) hHeld ?r2u9
  case h2u9 => (intro wq hSw; go_simp <;> with_reducible rfl)
  try simp only [Go.Last.pt]
  refine wpAnyH_take (i := 3) (v := ?v3u10) rfl (by kernel_rfl) (by kernel_rfl) (by kernel_rfl) (fun _ _ _ h => h) (Or.inl ⟨by kernel_rfl, ?h3u10⟩) hHeld ?r3u10
  case h3u10 => (intro wq hSw; go_simp <;> with_reducible rfl)
  try simp only [Go.Last.pt]
  refine wpAnyH_take (i := 4) (v := ?v4u11) rfl (by kernel_rfl) (by kernel_rfl) (by kernel_rfl) (fun _ _ _ h => h) (Or.inl ⟨by kernel_rfl, ?h4u11⟩) hHeld ?r4u11
  case h4u11 => (intro wq hSw; go_simp <;> with_reducible rfl)
  try simp only [Go.Last.pt]
  refine wpAnyH_take (i := 9) (v := ?v9u12) rfl (by kernel_rfl) (by kernel_rfl) (by kernel_rfl) (fun _ _ _ h => h) (Or.inl ⟨by kernel_rfl, ?h9u12⟩) hHeld ?r9u12
  case h9u12 => (intro wq hSw; go_simp <;> with_reducible rfl)
  try simp only [Go.Last.pt]
  refine Go.Last.held 5 (by kernel_rfl) rfl (fun K hK => ?_)
  go_simp
  rw [if_pos (by omega)]
  try dsimp only
  refine hK.out _ _ (hHeld) (fun hHeld2 => ?_)
  clear hK K hHeld
  have hHeld := hHeld2
  clear hHeld2
  try simp only [Go.Last.pt]
  refine Go.Last.held 6 (by kernel_rfl) rfl (fun K hK => ?_)
  go_simp
  try dsimp only
  refine hK.out _ _ (hHeld) (fun hHeld2 => ?_)
  clear hK K hHeld
  have hHeld := hHeld2
  clear hHeld2
  try simp only [Go.Last.pt]
  refine Go.Last.held 7 (by kernel_rfl) rfl (fun K hK => ?_)
  go_simp
  (go_at_call 23; (with_reducible refine (cL.out _ (bel_bel (bel_bel hq.out hb1.out) hHeld)).mono ?_); rintro e w2 ⟨v, rfl, hv, hb2⟩; obtain ⟨pv, cv, rfl⟩ := hv.form; replace hv := hid hv)
  try dsimp only
  refine hK.out _ _ (bel_bel hHeld hb2) (fun hHeld2 => ?_)
  clear hK K hHeld
  have hHeld := hHeld2
  clear hHeld2
  try simp only [Go.Last.pt]
  refine Go.Last.held 8 (by kernel_rfl) rfl (fun K hK => ?_)
  go_simp
  try dsimp only
  refine hK.out _ _ (hHeld) (fun hHeld2 => ?_)
  clear hK K hHeld
  have hHeld := hHeld2
  clear hHeld2
  try simp only [Go.Last.pt]
  refine wpAnyH_done (by kernel_rfl) ?_ _
  skip
  
  all_goals
   go_wp2
   go_loopw [10, 33] (fun lg i wr => ∃ j : Nat, j ≤ L.length ∧ i = .int .i64 j ∧ lg = .int .i64 (lastD (L.take j) : Nat) ∧ Hid (Bel w2 wr)) (fun _ i _ => L.length - (intOf i).toNat)
   case atStart => exact ⟨0, Nat.zero_le _, rfl, rfl, hid (Bel.refl _)⟩
   case round =>
    obtain ⟨j, hj, rfl, rfl, hB⟩ := hrel
    by_cases hlt : j < L.length
    ·obtain ⟨g, cap, e, -, hgl, -, hc⟩ := hv.out.cell hlt
     simp only [Value.slice.injEq, true_and] at e
     obtain ⟨rfl, rfl⟩ := e
     have hc2 := (Below.cell (show Below w2.heap.size w2 wr from hB.out) (p := ⟨g, j, none⟩) hgl).trans hc.1
     have hnx := hid (show lastD (L.take (j + 1)) = L[j] by rw [List.take_succ_eq_append_getElem hlt, lastD_snoc])
     clear hc
     go_wp2
     go_roundw
     case rel => exact ⟨j + 1, by omega, by go_num, by rw [hnx.out], hB⟩
     case measure => simp [intOf]; omega
    ·obtain rfl : j = L.length := by omega
     go_wp2
     go_ret
     exact ⟨by rw [List.take_length]; rfl, bel_bel (bel_bel hq.out hb1.out) (bel_bel hHeld hB.out)⟩
end Go.Proofs.YtobbifhflnlplaaDoor

namespace Go.Proofs.YtobbifhflnlplaaDoor
open Lib (hid)
open Go.RowKit
open Go.Tree7
open S7
open S5 (nl nl_length nl_small at_nl nl_at Gives idx idx_at ix ix_no ix_yes)
def RowIn (w : World) (p : Option Addr) (l : List T) : Prop := ∀ i (_ : i < l.length), ∃ b o, p = some ⟨b, o, none⟩ ∧ b < w.heap.size ∧ ∀ j, j < 9 → w.cell? ⟨b, o + i * 9 + j, none⟩ = (l[i].cells)[j]?
noncomputable def lngT (most : Int) (m : Nat) (l : List Nat) (n : T) : Nat := if most < 1 then 0 else lastD (lensW n (l.take (cutM most m)))
theorem longest_in {w : World} {n : T} (hT : T.In w w.heap.size n) {a : Option Addr} {m c : Nat} {l : List Nat} (hs : Src w a m c l) (hm : m ≤ 4096) (most : Int) :
  Calls Tryd.prog 17 #[.agg n.cells.toArray, .slice a m c, .int .i64 0, .int .i64 most] w fun e w' => e = .returned (.int .i64 (lngT most m l n : Nat)) ∧ Below w.heap.size w w' := by
 unfold lngT
 by_cases h : most < 1
 ·rw [if_pos h]; exact longest_no hm h
 ·rw [if_neg h]; exact longest_yes hT hs hm (by omega)
def bst (g : Nat → Nat) : Nat → Nat × Int
 | 0 => (0, -1)
 | j + 1 => if (bst g j).1 < g j then (g j, (j : Int)) else bst g j
set_option maxRecDepth 100000 in
set_option maxHeartbeats 4000000 in
theorem best_in {w : World} {ks : List T} {p : Option Addr} {cap : Nat} (hrow : RowIn w p ks) (hin : ∀ x ∈ ks, T.In w w.heap.size x) (hk : ks.length ≤ 1000000) {a : Option Addr} {m c : Nat} {l : List Nat} (hs : Src w a m c l) (hm : m ≤ 4096) (most : Int)
  (g : Nat → Nat) (hg : ∀ j (h : j < ks.length), g j = lngT most m l ks[j]) :
  Calls Tryd.prog 18 #[.slice p ks.length cap, .slice a m c, .int .i64 0, .int .i64 most] w fun e w' => e = .returned (.tuple #[.int .i64 ((bst g ks.length).1 : Nat), .int .i64 (bst g ks.length).2]) ∧ Below w.heap.size w w' := by
 have cL : Hid (∀ j (h : j < ks.length) W, Bel w W → Calls Tryd.prog 17 #[.agg ks[j].cells.toArray, .slice a m c, .int .i64 0, .int .i64 most] W fun e w' => e = .returned (.int .i64 (g j : Nat)) ∧ Below W.heap.size W w') := hid fun j h W hb => by
  rw [hg j h]
  exact longest_in (in_bel (hin _ (List.getElem_mem h)) hb) (hs.bel hb) hm most
 have hb0 : Hid (bst g 0 = (0, -1)) := hid rfl
 have hbn : Hid (∀ j, bst g (j + 1) = if (bst g j).1 < g j then (g j, (j : Int)) else bst g j) := hid fun j => rfl
 generalize bst g = B at *
 clear hin hs hg hm
 replace hrow := hid hrow
 go_enter Tryd.func18, Tryd.ntmps18
 go_wp2
 go_loopw [10, 11, 17] (fun x y i wr => ∃ j : Nat, j ≤ ks.length ∧ i = .int .i64 j ∧ x = .int .i64 ((B j).1 : Nat) ∧ y = .int .i64 (B j).2 ∧ Hid (Bel w wr)) (fun _ _ i _ => ks.length - (intOf i).toNat)
 case atStart => exact ⟨0, Nat.zero_le _, rfl, by rw [hb0.out]; rfl, by rw [hb0.out], hid (Bel.refl _)⟩
 case round =>
  obtain ⟨j, hj, rfl, rfl, rfl, hB⟩ := hrel
  by_cases hlt : j < ks.length
  ·obtain ⟨b, o, rfl, hbl, hc⟩ := hrow.out j hlt
   have hcl : ∀ q, q < 9 → wr.cell? ⟨b, o + j * 9 + q, none⟩ = (ks[j].cells)[q]? := fun q hq => (Below.cell (show Below w.heap.size w wr from hB.out) (p := ⟨b, o + j * 9 + q, none⟩) hbl).trans (hc q hq)
   have cK := fun W (hb : Bel w W) => cL.out j hlt W hb
   have hn := hid (hbn.out j)
   clear hc
   generalize ks[j] = kd at *
   generalize g j = G at *
   generalize hP : B j = P at *
   obtain ⟨P1, P2⟩ := P
   replace hP := hid hP
   have hn2 := hn.out
   dsimp only at hn2 ⊢
   replace hn := hid hn2
   obtain ⟨kc, c0, c1, c2, c3, pc, capc, mnc, mxc, txc, ksc⟩ := kd
   simp only [T.cells] at hcl cK
   obtain ⟨q0, q1, q2, q3, q4, q5, q6, q7, q8⟩ := nine_of hcl
   clear hcl
   replace cK := hid (cK (wr.alloc (.cells #[.int .i64 kc, .int .u64 c0, .int .u64 c1, .int .u64 c2, .int .u64 c3, .slice pc ksc.length capc, .int .i64 mnc, .int .i64 mxc, .string txc] 27)) (Bel.alloc hB.out _))
   have hB2 := hid (Bel.alloc hB.out (.cells #[.int .i64 kc, .int .u64 c0, .int .u64 c1, .int .u64 c2, .int .u64 c3, .slice pc ksc.length capc, .int .i64 mnc, .int .i64 mxc, .string txc] 27))
   by_cases hgt : P1 < G
   ·have hn3 := hid (hn.out.trans (if_pos hgt))
    clear hn
    go_wp2_with (go_at_call 17; (with_reducible refine cK.out.mono ?_); rintro e w1 ⟨rfl, hb⟩; replace hb := hid (show Bel _ w1 from hb))
    go_roundw
    case rel => exact ⟨j + 1, by omega, by go_num, by rw [hn3.out], by rw [hn3.out], hid (bel_bel hB2.out hb.out)⟩
    case measure => simp [intOf]; omega
   ·have hn3 := hid (hn.out.trans (if_neg hgt))
    clear hn
    go_wp2_with (go_at_call 17; (with_reducible refine cK.out.mono ?_); rintro e w1 ⟨rfl, hb⟩; replace hb := hid (show Bel _ w1 from hb))
    go_roundw
    case rel => exact ⟨j + 1, by omega, by go_num, by rw [hn3.out], by rw [hn3.out], hid (bel_bel hB2.out hb.out)⟩
    case measure => simp [intOf]; omega
  ·obtain rfl : j = ks.length := by omega
   go_wp2
   refine bodyPost_ret (v := .tuple #[.int .i64 ((B ks.length).1 : Nat), .int .i64 (B ks.length).2]) (by simp [results, Tryd.results18, go_sem]) rfl ?_
   exact ⟨rfl, hB.out⟩
end Go.Proofs.YtobbifhflnlplaaDoor

namespace Go.Proofs.YtobbifhflnlplaaDoor
open Lib (hid)
open Go.RowKit
open Go.Tree7
open S7
open S5 (nl nl_length nl_small at_nl nl_at Gives idx idx_at ix ix_no ix_yes)
def fst10 (g : Nat → Bool) : Nat → Int
 | 0 => -1
 | j + 1 => if fst10 g j = -1 then (if g j = true then (j : Int) else -1) else fst10 g j
theorem fst_none (g : Nat → Bool) : ∀ n, (∀ i, i < n → g i = false) → fst10 g n = -1
 | 0, _ => rfl
 | n + 1, h => by
  rw [fst10, if_pos (fst_none g n fun i hi => h i (by omega)), h n (by omega)]
  rfl
theorem fst_at (g : Nat → Bool) {j : Nat} (h : ∀ i, i < j → g i = false) (hj : g j = true) : ∀ n, j < n → fst10 g n = j
 | 0, hn => by omega
 | n + 1, hn => by
  by_cases e : n = j
  ·subst e
   rw [fst10, if_pos (fst_none g n h), if_pos hj]
  ·have := fst_at g h hj n (by omega)
   rw [fst10, this, if_neg (by omega)]
theorem least1_in {w : World} {n : T} {bt : Nat} {a : Option Addr} {m c : Nat} {R : Bool} (hbt : w.heap[bt]? = some (.cells #[.slice a m c] 28 (0, 0)))
  (cI : ∀ W, Bel w W → Calls Tryd.prog 12 #[.agg n.cells.toArray, .slice a m c] W fun e w' => e = .returned (.bool R) ∧ Below W.heap.size W w') :
  Calls Tryd.prog 30 #[.agg n.cells.toArray, .pointer (some ⟨bt, 0, none⟩)] w fun e w' => e = .returned (.bool R) ∧ Below w.heap.size w w' := by
 have hB2 := Bel.new w (.cells n.cells.toArray 27)
 have hk9 := World.alloc_heap_new w (.cells n.cells.toArray 27)
 have cK := hid (cI _ hB2)
 obtain ⟨ht0, -⟩ := cells_of (kept_row hbt hB2) 0 _ rfl
 clear cI hbt
 obtain ⟨kc, c0, c1, c2, c3, pc, capc, mnc, mxc, txc, ksc⟩ := n
 simp only [T.cells] at hB2 hk9 cK ht0 ⊢
 obtain ⟨k0, k1, k2, k3, k4, k5, k6, k7, k8⟩ := c9 hk9
 replace hB2 := hid hB2
 clear hk9
 go_enter Tryd.func30, Tryd.ntmps30
 go_wp2_with (go_at_call 12; (with_reducible refine cK.out.mono ?_); rintro e w1 ⟨rfl, hb⟩; replace hb := hid (show Bel _ w1 from hb))
 go_ret
 exact ⟨rfl, bel_bel hB2.out hb.out⟩
set_option maxRecDepth 100000 in
set_option maxHeartbeats 4000000 in
theorem least_index {w : World} {ks : List T} {p : Option Addr} {cap : Nat} (hrow : RowIn w p ks) (hk : ks.length ≤ 1000000) {bt : Nat} {a : Option Addr} {m c : Nat} {g : Nat → Bool} (hbt : w.heap[bt]? = some (.cells #[.slice a m c] 28 (0, 0)))
  (cI : ∀ j (h : j < ks.length) W, Bel w W → Calls Tryd.prog 12 #[.agg ks[j].cells.toArray, .slice a m c] W fun e w' => e = .returned (.bool (g j)) ∧ Below W.heap.size W w') :
  Calls Tryd.prog 29 #[.slice p ks.length cap, .func (.func 30) #[] #[.pointer (some ⟨bt, 0, none⟩)]] w fun e w' => e = .returned (.int .i64 (fst10 g ks.length)) ∧ Below w.heap.size w w' := by
 obtain ⟨F, hF⟩ : ∃ F, F = fst10 g ks.length := ⟨_, rfl⟩
 have hno : Hid ((∀ i, i < ks.length → g i = false) → F = -1) := hid fun h => by rw [hF]; exact fst_none g _ h
 have hyes : Hid (∀ j, j < ks.length → (∀ i, i < j → g i = false) → g j = true → F = j) := hid fun j hj h h1 => by rw [hF]; exact fst_at g h h1 _ hj
 rw [← hF]
 clear hF
 replace hrow := hid hrow
 replace hbt := hid hbt
 replace cI := hid cI
 go_enter Tryd.func29, Tryd.ntmps29
 go_wp2
 go_loopw [8] (fun i wr => ∃ j : Nat, j ≤ ks.length ∧ i = .int .i64 j ∧ Hid (Bel w wr) ∧ Hid (∀ i, i < j → g i = false)) (fun i _ => ks.length - (intOf i).toNat)
 case atStart => exact ⟨0, Nat.zero_le _, rfl, hid (Bel.refl _), hid fun i hi => by omega⟩
 case round =>
  obtain ⟨j, hj, rfl, hB, hso⟩ := hrel
  by_cases hlt : j < ks.length
  ·obtain ⟨b, o, rfl, hbl, hc⟩ := hrow.out j hlt
   have hcl : ∀ q, q < 9 → wr.cell? ⟨b, o + j * 9 + q, none⟩ = (ks[j].cells)[q]? := fun q hq => (Below.cell (show Below w.heap.size w wr from hB.out) (p := ⟨b, o + j * 9 + q, none⟩) hbl).trans (hc q hq)
   have cK := fun W (hb : Bel w W) => least1_in (n := ks[j]) (R := g j) (kept_row hbt.out hb) fun W' hb' => cI.out j hlt W' (bel_bel hb hb')
   have hy := hid (hyes.out j hlt hso.out)
   have hs2 : Hid (g j = false → ∀ i, i < j + 1 → g i = false) := hid fun h i hi => by
    by_cases e : i = j
    ·rw [e]; exact h
    ·exact hso.out i (by omega)
   clear hc
   generalize ks[j] = kd at *
   generalize g j = R at *
   obtain ⟨kc, c0, c1, c2, c3, pc, capc, mnc, mxc, txc, ksc⟩ := kd
   simp only [T.cells] at hcl cK
   obtain ⟨q0, q1, q2, q3, q4, q5, q6, q7, q8⟩ := nine_of hcl
   clear hcl
   replace cK := hid (cK wr hB.out)
   cases R
   ·go_wp2_with (go_at_call 30; (with_reducible refine cK.out.mono ?_); rintro e w1 ⟨rfl, hb⟩; replace hb := hid (show Bel wr w1 from hb))
    go_roundw
    case rel => exact ⟨j + 1, by omega, by go_num, hid (bel_bel hB.out hb.out), hid (hs2.out (by first | rfl | trivial))⟩
    case measure => simp [intOf]; omega
   ·have hF := hy.out (by first | rfl | trivial)
    replace hF := hid hF
    go_wp2_with (go_at_call 30; (with_reducible refine cK.out.mono ?_); rintro e w1 ⟨rfl, hb⟩; replace hb := hid (show Bel wr w1 from hb))
    go_ret
    exact ⟨by rw [hF.out]; rfl, bel_bel hB.out hb.out⟩
  ·obtain rfl : j = ks.length := by omega
   have hF := hid (hno.out hso.out)
   go_wp2
   go_ret
   exact ⟨by rw [hF.out]; rfl, hB.out⟩
set_option maxRecDepth 100000 in
set_option maxHeartbeats 4000000 in
theorem least10_in {w : World} {ks : List T} {p : Option Addr} {cap : Nat} (hrow : RowIn w p ks) (hin : ∀ x ∈ ks, T.In w w.heap.size x) (hk : ks.length ≤ 1000000) {a : Option Addr} {m c : Nat} {l : List Nat} (hs : Src w a m c l) (hm : m ≤ 4096) (g : Nat → Bool) (hg : ∀ j (h : j < ks.length), g j = isB ks[j] l) :
  Calls Tryd.prog 19 #[.slice p ks.length cap, .slice a m c] w fun e w' => e = .returned (.int .i64 (fst10 g ks.length)) ∧ Below w.heap.size w w' := by
 have hq := Bel.new w (.cells #[.slice a m c] 28)
 have hbt := World.alloc_heap_new w (.cells #[.slice a m c] 28)
 have hrow2 : RowIn (w.alloc (.cells #[.slice a m c] 28)) p ks := fun i hi => by
  obtain ⟨b, o, e, hl, hc⟩ := hrow i hi
  exact ⟨b, o, e, by simp; omega, fun j hj => (Below.cell (show Below w.heap.size w _ from hq) (p := ⟨b, o + i * 9 + j, none⟩) hl).trans (hc j hj)⟩
 have cX := hid (least_index (cap := cap) hrow2 hk (bt := w.heap.size) hbt (g := g) fun j h W hb => by
  rw [hg j h]
  exact is_in (in_bel (hin _ (List.getElem_mem h)) (bel_bel hq hb)) (hs.bel (bel_bel hq hb)) (by omega))
 replace hq := hid hq
 clear hrow hin hs hg hrow2
 go_enter Tryd.func19, Tryd.ntmps19
 go_wp2_with (go_at_call 29; (with_reducible refine cX.out.mono ?_); rintro e w1 ⟨rfl, hb⟩; replace hb := hid (show Bel _ w1 from hb))
 go_ret
 exact ⟨rfl, bel_bel hq.out hb.out⟩
end Go.Proofs.YtobbifhflnlplaaDoor

namespace Go.Proofs.YtobbifhflnlplaaDoor
open Lib (hid)
open Go.RowKit
open Go.Tree7
open S7
open S5 (nl nl_length nl_small at_nl nl_at Gives idx idx_at ix ix_no ix_yes)
theorem inL_strip11 {t : T} (h : T.All okd t) (w : List Nat) : inL t.strip w = inL t w := by rw [Bool.eq_iff_iff, inL_iff (okd_strip t h), inL_iff h, lang_strip]
theorem lens_strip11 {t : T} (h : T.All okd t) (l : List Nat) : lens t.strip l = lens t l := by
 unfold lens lensTo
 congr 1
 funext k
 exact inL_strip11 h _
def ownF (most : Int) (l : List Nat) : Nat := l.foldl (fun (o e : Nat) => if o < e ∧ (e : Int) ≤ most then e else o) 0
theorem ownF_snoc (most : Int) (l : List Nat) (x : Nat) : ownF most (l ++ [x]) = if ownF most l < x ∧ (x : Int) ≤ most then x else ownF most l := by unfold ownF; rw [List.foldl_append]; rfl
def preB (t : T) (l : List Nat) (j : Nat) : List Nat := (List.range j).filter fun k => inL t (l.take k)
theorem preB_next (t : T) (l : List Nat) (j : Nat) : preB t l (j + 1) = if inL t (l.take j) = true then preB t l j ++ [j] else preB t l j := by
 unfold preB
 rw [List.range_succ, List.filter_append]
 simp only [List.filter_cons, List.filter_nil]
 split
 ·rfl
 ·rw [List.append_nil]
theorem lastD_lt (t : T) (l : List Nat) : ∀ j, lastD (preB t l j) = 0 ∨ lastD (preB t l j) < j
 | 0 => .inl rfl
 | j + 1 => by
  rw [preB_next]
  split
  ·rw [lastD_snoc]; omega
  ·have := lastD_lt t l j; omega
theorem own_last (t : T) (l : List Nat) (M : Nat) : ∀ j, ownF M (preB t l j) = lastD (preB t l (min j (M + 1)))
 | 0 => by rw [Nat.zero_min]; rfl
 | j + 1 => by
  have ih := own_last t l M j
  by_cases h : j ≤ M
  ·rw [Nat.min_eq_left (by omega)] at ih ⊢
   rw [preB_next]
   split
   ·rw [ownF_snoc, lastD_snoc, ih]
    have := lastD_lt t l j
    split <;> omega
   ·exact ih
  ·rw [Nat.min_eq_right (by omega)] at ih ⊢
   rw [preB_next]
   split
   ·rw [ownF_snoc, if_neg (by omega)]; exact ih
   ·exact ih
theorem own_zero (most : Int) (h : most < 1) : ∀ l : List Nat, ownF most l = 0 := by
 intro l
 unfold ownF
 have : ∀ (l : List Nat), l.foldl (fun (o e : Nat) => if o < e ∧ (e : Int) ≤ most then e else o) 0 = 0 := by
  intro l
  induction l with
  | nil => rfl
  | cons x xs ih =>
   rw [List.foldl_cons, if_neg (by omega)]
   exact ih
 exact this l
theorem lens_take10 (t : T) (l : List Nat) {k : Nat} (hk : k ≤ l.length) : lens t (l.take k) = preB t l (k + 1) := by
 unfold lens lensTo preB
 rw [List.length_take, Nat.min_eq_left hk]
 refine List.filter_congr fun x hx => ?_
 rw [List.mem_range] at hx
 rw [List.take_take, Nat.min_eq_left (by omega)]
theorem own_is {n : T} (hK : worksB n = true) {l : List Nat} {m : Nat} (hm : l.length = m) (most : Int) : ownF most (lens n l) = lngT most m l n := by
 unfold lngT lensW
 rw [if_pos hK]
 by_cases h : most < 1
 ·rw [if_pos h, own_zero most h]
 ·rw [if_neg h]
  obtain ⟨M, rfl⟩ : ∃ M : Nat, most = M := ⟨most.toNat, by omega⟩
  have e1 : lens n l = preB n l (m + 1) := by
   have := lens_take10 n l (Nat.le_refl l.length)
   rw [List.take_length] at this
   rw [this, hm]
  have e2 : cutM (M : Int) m = min M m := by unfold cutM; rw [Int.toNat_natCast]
  rw [e1, own_last, e2, lens_take10 n l (by omega)]
  congr 2
  omega
theorem own_not {n : T} (hK : worksB n = false) {l : List Nat} {m : Nat} (most : Int) : lngT most m l n = 0 := by
 unfold lngT lensW
 rw [hK]
 split
 ·rfl
 ·rfl
end Go.Proofs.YtobbifhflnlplaaDoor
