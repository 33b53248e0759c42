/- RegexBack, walked. -/
import Derived.Test.YtjlmeegaiagfpaaGreatDoorW37
import Derived.Test.YtjlmeegaiagfpaaGreatDoorS7C
namespace Go.Proofs.YtjlmeegaiagfpaaGreatDoor
open Go.RowKit
open Go.Tree7
open S7
open S5 (nl nl_length nl_small at_nl nl_at Gives idx idx_at ix ix_no ix_yes)
theorem zero_strip : T.zero.strip = T.zero := by unfold T.zero; rw [T.strip_mk]; rfl
theorem right_tree {t a : T} (hp : Pl t) (h1 : deepOf (allT t) ≤ 24) (h2 : (allT t).length ≤ 600) (ha : a.strip = t.strip) : rightB a = true := by
  obtain ⟨h3, h4⟩ := small_of h1 h2
  rw [right_of_strip ha, rightB_iff]
  exact pl_right hp h3 h4
theorem plain_tree {t a : T} (hp : Pl t) (h1 : deepOf (allT t) ≤ 24) (h2 : (allT t).length ≤ 600) (ha : a.strip = t.strip) : plainT a = true := by
  unfold plainT
  have h : padB a = false := by
    rw [padB_iff, ← simp_iff, simp_of_strip ha, ha]
    exact (simp_iff t).2 (pl_all hp).1
  rw [right_tree hp h1 h2 ha, h]
  rfl
theorem pl_yes {w : World} {t : T} (hT : T.In w w.heap.size t) (h : plainT t = true) : Calls Tryz.prog 8 #[.agg t.cells.toArray] w fun e w' => e = .returned (.bool true) ∧ Below w.heap.size w w' := by
  have := plain_in8 hT
  rw [h] at this
  exact this
theorem text_yes {w : World} {t : T} {s : ByteArray} (hT : T.In w w.heap.size t) (hTab : S1.Tab w) (h : rightB t = true) (hs : strN (T.txt t) = s) : Calls Tryz.prog 9 #[.agg t.cells.toArray] w fun e w' => e = .returned (.string s) ∧ Below w.heap.size w w' := by
  have := text_in hT hTab
  unfold textS at this
  rw [if_pos h, hs] at this
  exact this
theorem same_yes {w : World} {a b : T} (hT : T.In w w.heap.size a) (hT' : T.In w w.heap.size b) (h : sameT a b = true) : Calls Tryz.prog 11 #[.agg a.cells.toArray, .agg b.cells.toArray] w fun e w' => e = .returned (.bool true) ∧ Below w.heap.size w w' := by
  have := same_in hT hT'
  rw [h] at this
  exact this
theorem right_any {w : World} {t : T} {R : Bool} (hT : T.In w w.heap.size t) (h : rightB t = R) : ∀ w', Bel w w' → Calls Tryz.prog 7 #[.agg t.cells.toArray] w' fun e w'' => e = .returned (.bool R) ∧ Below w'.heap.size w' w'' := fun w' hb => by
  have := right_in (in_bel hT hb)
  rw [h] at this
  exact this
/-- The text of a tree without Cats of one kid, and how it is read. -/
theorem back_of {w : World} {n : T} (hT : T.In w w.heap.size n) (hR : rightB n = true) : ∃ s : ByteArray, Run (nl s) [([], [])] false 0 (.tree (T.simp n)) ∧ deepOf (allT (T.simp n)) ≤ 24 ∧ (allT (T.simp n)).length ≤ 600 ∧ Pl (T.simp n) ∧ (T.simp n).strip = T.simp n ∧ (∀ m : T, m.strip = T.simp n → strN (T.txt m) = s) ∧ s.size + 3 ≤ 2413 * (T.simp n).size := by
  have hr := (rightB_iff n).1 hR
  have hA := T.All.and (right_all hr).1 (in_wf4 n hT)
  obtain ⟨hp, -, -⟩ := simp_plain hA
  obtain ⟨h1, -⟩ := rightB_simp hT hR
  have h2 := (rightB_iff _).1 h1
  have h3 := right_all h2
  obtain ⟨o, fr, ho, hst⟩ := back_simp hA
  have hstr := (pl_all hp).2.2
  have hsm : ∀ x ∈ T.txt (T.simp n), x ≤ 255 := txt_small h3.1
  have hn : nl (strN (T.txt (T.simp n))) = T.txt (T.simp n) := S5.nl_strN hsm
  refine ⟨strN (T.txt (T.simp n)), ?_, deepOf_le.2 fun x hx => (h2.1 x hx).1, h2.2, hp, hstr, fun m hm => ?_, ?_⟩
  · rw [hn]
    refine sts_run hst ?_
    rw [← ho]
    exact .tree o fr _ rfl
  · rw [← txt_strip m, hm]
  · rw [← nl_length, hn]
    exact txt_len h3.1
set_option maxRecDepth 100000 in
set_option maxHeartbeats 8000000 in
theorem regexBack_in {n : T} {V : Nat → Value} (w : World) (hT : T.In w w.heap.size n) (hS : Six w V) (hTb : S1.Tab w) : Calls Tryz.prog 3 #[.agg n.cells.toArray] w fun e w' => e = .returned (.bool true) ∧ Below w.heap.size w w' := by
  have hq0 : Bel w (w.alloc (.cells n.cells.toArray 27)) := Bel.new _ _
  have cA := Lib.hid (alive_in _ (hS.bel hq0))
  have hx0 := Lib.hid (World.alloc_heap_new w (.cells n.cells.toArray 27))
  obtain ⟨L, hL⟩ : ∃ L : Nat, L = 700 - n.size := ⟨_, rfl⟩
  have c7 := of_left (n := 700) (c := 700) hT (by decide) (by decide) rfl
  rw [← hL] at c7
  replace hq0 := Lib.hid hq0
  replace c7 := Lib.hid c7
  by_cases h7 : L = 0
  · subst h7
    have hTn := hT
    obtain ⟨k, u0, u1, u2, u3, p, cap, mn, mx, tx, ks⟩ := n
    clear hT hS hL hTn hTb
    simp only [T.cells] at *
    go_enter Tryz.func3, Tryz.ntmps3
    go_wp2_with (first | (go_at_call 4; (with_reducible refine cA.out.mono ?_); rintro e w1 ⟨rfl, hb⟩; have hbn := Lib.hid (kept_row hx0.out hb); have hk := cells_of hbn.out; have y0 := (hk 0 _ rfl).1; have y1 := (hk 1 _ rfl).1; have y2 := (hk 2 _ rfl).1; have y3 := (hk 3 _ rfl).1; have y4 := (hk 4 _ rfl).1; have y5 := (hk 5 _ rfl).1; have y6 := (hk 6 _ rfl).1; have y7 := (hk 7 _ rfl).1; have y8 := (hk 8 _ rfl).1; clear hk; have hln := lt_of_box hbn.out; have hq1 := Lib.hid (Bel.step hq0.out hb); clear hb) | (go_at_call 5; (with_reducible refine (c7.out _ hq1.out).mono ?_); rintro e w2 ⟨⟨k7, u07, u17, u27, u37, p7, cap7, mn7, mx7, tx7, ks7⟩, rfl, hb⟩; simp only [T.cells]; clear y0 y1 y2 y3 y4 y5 y6 y7 y8; replace hbn := Lib.hid (kept_row hbn.out hb); have hk := cells_of hbn.out; have y0 := (hk 0 _ rfl).1; have y1 := (hk 1 _ rfl).1; have y2 := (hk 2 _ rfl).1; have y3 := (hk 3 _ rfl).1; have y4 := (hk 4 _ rfl).1; have y5 := (hk 5 _ rfl).1; have y6 := (hk 6 _ rfl).1; have y7 := (hk 7 _ rfl).1; have y8 := (hk 8 _ rfl).1; clear hk; have hln := lt_of_box hbn.out; replace hbn := Lib.hid (kept_alloc hbn.out (.cells #[.int .i64 k7, .int .u64 u07, .int .u64 u17, .int .u64 u27, .int .u64 u37, .slice p7 ks7.length cap7, .int .i64 mn7, .int .i64 mx7, .string tx7] 31)); have hq2 := Lib.hid (Bel.alloc (Bel.step hq1.out hb) (.cells #[.int .i64 k7, .int .u64 u07, .int .u64 u17, .int .u64 u27, .int .u64 u37, .slice p7 ks7.length cap7, .int .i64 mn7, .int .i64 mx7, .string tx7] 31)); clear hb hq1))
    go_ret
    exact ⟨rfl, hq2.out⟩
  have g7 : decide ((L : Int) ≤ 0) = false := by rw [decide_eq_false_iff_not]; omega
  generalize (L : Int) = d7 at *
  have hsz : n.size < 700 := by omega
  have cS := fun w' (hb : Bel w w') => simple_in (in_bel hT hb)
  obtain ⟨R, hR⟩ : ∃ R, rightB n = R := ⟨_, rfl⟩
  have cT := Lib.hid (right_any hT hR)
  cases R
  · unfold simpT at cS
    rw [if_neg (by rw [hR]; decide)] at cS
    replace cS := Lib.hid cS
    clear hT hS hL hTb hR h7 hsz
    obtain ⟨k, u0, u1, u2, u3, p, cap, mn, mx, tx, ks⟩ := n
    simp only [T.cells] at *
    go_enter Tryz.func3, Tryz.ntmps3
    go_wp2_with (first | (go_at_call 4; (with_reducible refine cA.out.mono ?_); rintro e w1 ⟨rfl, hb⟩; have hbn := Lib.hid (kept_row hx0.out hb); have hk := cells_of hbn.out; have y0 := (hk 0 _ rfl).1; have y1 := (hk 1 _ rfl).1; have y2 := (hk 2 _ rfl).1; have y3 := (hk 3 _ rfl).1; have y4 := (hk 4 _ rfl).1; have y5 := (hk 5 _ rfl).1; have y6 := (hk 6 _ rfl).1; have y7 := (hk 7 _ rfl).1; have y8 := (hk 8 _ rfl).1; clear hk; have hln := lt_of_box hbn.out; have hq1 := Lib.hid (Bel.step hq0.out hb); clear hb) | (go_at_call 5; (with_reducible refine (c7.out _ hq1.out).mono ?_); rintro e w2 ⟨⟨k7, u07, u17, u27, u37, p7, cap7, mn7, mx7, tx7, ks7⟩, rfl, hb⟩; simp only [T.cells]; clear y0 y1 y2 y3 y4 y5 y6 y7 y8; replace hbn := Lib.hid (kept_row hbn.out hb); have hk := cells_of hbn.out; have y0 := (hk 0 _ rfl).1; have y1 := (hk 1 _ rfl).1; have y2 := (hk 2 _ rfl).1; have y3 := (hk 3 _ rfl).1; have y4 := (hk 4 _ rfl).1; have y5 := (hk 5 _ rfl).1; have y6 := (hk 6 _ rfl).1; have y7 := (hk 7 _ rfl).1; have y8 := (hk 8 _ rfl).1; clear hk; have hln := lt_of_box hbn.out; replace hbn := Lib.hid (kept_alloc hbn.out (.cells #[.int .i64 k7, .int .u64 u07, .int .u64 u17, .int .u64 u27, .int .u64 u37, .slice p7 ks7.length cap7, .int .i64 mn7, .int .i64 mx7, .string tx7] 31)); have hq2 := Lib.hid (Bel.alloc (Bel.step hq1.out hb) (.cells #[.int .i64 k7, .int .u64 u07, .int .u64 u17, .int .u64 u27, .int .u64 u37, .slice p7 ks7.length cap7, .int .i64 mn7, .int .i64 mx7, .string tx7] 31)); clear hb hq1) | (go_at_call 6; (with_reducible refine (cS.out _ hq2.out).mono ?_); rintro e w3 ⟨⟨kp, u0p, u1p, u2p, u3p, pp, capp, mnp, mxp, txp, ksp⟩, rfl, hb, hsi, hss⟩; obtain ⟨rfl, -⟩ := strip_parts (hss.trans zero_strip.symm); simp only [T.cells]; clear y0 y1 y2 y3 y4 y5 y6 y7 y8; replace hbn := Lib.hid (kept_row hbn.out hb); have hk := cells_of hbn.out; have y0 := (hk 0 _ rfl).1; have y1 := (hk 1 _ rfl).1; have y2 := (hk 2 _ rfl).1; have y3 := (hk 3 _ rfl).1; have y4 := (hk 4 _ rfl).1; have y5 := (hk 5 _ rfl).1; have y6 := (hk 6 _ rfl).1; have y7 := (hk 7 _ rfl).1; have y8 := (hk 8 _ rfl).1; clear hk; have hln := lt_of_box hbn.out; replace hbn := Lib.hid (kept_alloc hbn.out (.cells #[.int .i64 0, .int .u64 u0p, .int .u64 u1p, .int .u64 u2p, .int .u64 u3p, .slice pp ksp.length capp, .int .i64 mnp, .int .i64 mxp, .string txp] 27)); have hbp := Lib.hid (World.alloc_heap_new w3 (.cells #[.int .i64 0, .int .u64 u0p, .int .u64 u1p, .int .u64 u2p, .int .u64 u3p, .slice pp ksp.length capp, .int .i64 mnp, .int .i64 mxp, .string txp] 27)); have hq3 := Lib.hid (Bel.alloc (Bel.step hq2.out hb) (.cells #[.int .i64 0, .int .u64 u0p, .int .u64 u1p, .int .u64 u2p, .int .u64 u3p, .slice pp ksp.length capp, .int .i64 mnp, .int .i64 mxp, .string txp] 27)); clear hb hsi hq2 hss) | (go_at_call 7; (with_reducible refine (cT.out _ hq3.out).mono ?_); rintro e w4 ⟨rfl, hb⟩; clear y0 y1 y2 y3 y4 y5 y6 y7 y8; replace hbp := Lib.hid (kept_row hbp.out hb); have hk := cells_of hbp.out; have y0 := (hk 0 _ rfl).1; have y1 := (hk 1 _ rfl).1; have y2 := (hk 2 _ rfl).1; have y3 := (hk 3 _ rfl).1; have y4 := (hk 4 _ rfl).1; have y5 := (hk 5 _ rfl).1; have y6 := (hk 6 _ rfl).1; have y7 := (hk 7 _ rfl).1; have y8 := (hk 8 _ rfl).1; clear hk; have hq4 := Lib.hid (Bel.step hq3.out hb); clear hb hq3))
    go_ret
    exact ⟨rfl, hq4.out⟩
  · unfold simpT at cS
    rw [if_pos hR] at cS
    obtain ⟨s, hrun, hd, hc, hpl, hst, htxt, hlen⟩ := back_of hT hR
    obtain ⟨-, hls⟩ := rightB_simp hT hR
    have hs9 : s.size ≤ 99990000 := by omega
    have cP := Lib.hid (fun w' (hb : Bel w w') => parse_tree hrun hd hc (by omega) w' (hS.bel hb))
    rw [hst] at cP
    have hrt : Hid (∀ m : T, m.strip = T.simp n → rightB m = true) := Lib.hid fun m hm => right_tree hpl hd hc (by rw [hst]; exact hm)
    have hpt : Hid (∀ m : T, m.strip = T.simp n → plainT m = true) := Lib.hid fun m hm => plain_tree hpl hd hc (by rw [hst]; exact hm)
    have hsm : Hid (∀ a b : T, a.strip = T.simp n → b.strip = T.simp n → sameT a b = true) := Lib.hid fun a b ha hb => same_of hpl hd hc (by rw [hst]; exact ha) (by rw [hst]; exact hb)
    have htx := Lib.hid htxt
    have hTab : Hid (∀ w', Bel w w' → S1.Tab w') := Lib.hid fun w' hb => hTb.below hb hTb.1
    have ge : ((s.size : Int) == (s.size : Int)) = true := by simp
    replace cS := Lib.hid cS
    clear hS hL hTb hR h7 hsz hrun hd hc hpl hst htxt hlen hls
    generalize T.simp n = st at *
    clear hT
    obtain ⟨k, u0, u1, u2, u3, p, cap, mn, mx, tx, ks⟩ := n
    simp only [T.cells] at *
    go_enter Tryz.func3, Tryz.ntmps3
    go_wp2_with (first | (go_at_call 4; (with_reducible refine cA.out.mono ?_); rintro e w1 ⟨rfl, hb⟩; have hbn := Lib.hid (kept_row hx0.out hb); have hk := cells_of hbn.out; have y0 := (hk 0 _ rfl).1; have y1 := (hk 1 _ rfl).1; have y2 := (hk 2 _ rfl).1; have y3 := (hk 3 _ rfl).1; have y4 := (hk 4 _ rfl).1; have y5 := (hk 5 _ rfl).1; have y6 := (hk 6 _ rfl).1; have y7 := (hk 7 _ rfl).1; have y8 := (hk 8 _ rfl).1; clear hk; have hln := lt_of_box hbn.out; have hq1 := Lib.hid (Bel.step hq0.out hb); clear hb) | (go_at_call 5; (with_reducible refine (c7.out _ hq1.out).mono ?_); rintro e w2 ⟨⟨k7, u07, u17, u27, u37, p7, cap7, mn7, mx7, tx7, ks7⟩, rfl, hb⟩; simp only [T.cells]; clear y0 y1 y2 y3 y4 y5 y6 y7 y8; replace hbn := Lib.hid (kept_row hbn.out hb); have hk := cells_of hbn.out; have y0 := (hk 0 _ rfl).1; have y1 := (hk 1 _ rfl).1; have y2 := (hk 2 _ rfl).1; have y3 := (hk 3 _ rfl).1; have y4 := (hk 4 _ rfl).1; have y5 := (hk 5 _ rfl).1; have y6 := (hk 6 _ rfl).1; have y7 := (hk 7 _ rfl).1; have y8 := (hk 8 _ rfl).1; clear hk; have hln := lt_of_box hbn.out; replace hbn := Lib.hid (kept_alloc hbn.out (.cells #[.int .i64 k7, .int .u64 u07, .int .u64 u17, .int .u64 u27, .int .u64 u37, .slice p7 ks7.length cap7, .int .i64 mn7, .int .i64 mx7, .string tx7] 31)); have hq2 := Lib.hid (Bel.alloc (Bel.step hq1.out hb) (.cells #[.int .i64 k7, .int .u64 u07, .int .u64 u17, .int .u64 u27, .int .u64 u37, .slice p7 ks7.length cap7, .int .i64 mn7, .int .i64 mx7, .string tx7] 31)); clear hb hq1) | (go_at_call 6; (with_reducible refine (cS.out _ hq2.out).mono ?_); rintro e w3 ⟨⟨kp, u0p, u1p, u2p, u3p, pp, capp, mnp, mxp, txp, ksp⟩, rfl, hb, hsi, hss⟩; simp only [T.cells]; clear y0 y1 y2 y3 y4 y5 y6 y7 y8; replace hbn := Lib.hid (kept_row hbn.out hb); have hk := cells_of hbn.out; have y0 := (hk 0 _ rfl).1; have y1 := (hk 1 _ rfl).1; have y2 := (hk 2 _ rfl).1; have y3 := (hk 3 _ rfl).1; have y4 := (hk 4 _ rfl).1; have y5 := (hk 5 _ rfl).1; have y6 := (hk 6 _ rfl).1; have y7 := (hk 7 _ rfl).1; have y8 := (hk 8 _ rfl).1; clear hk; have hln := lt_of_box hbn.out; replace hbn := Lib.hid (kept_alloc hbn.out (.cells #[.int .i64 kp, .int .u64 u0p, .int .u64 u1p, .int .u64 u2p, .int .u64 u3p, .slice pp ksp.length capp, .int .i64 mnp, .int .i64 mxp, .string txp] 27)); have hbp := Lib.hid (World.alloc_heap_new w3 (.cells #[.int .i64 kp, .int .u64 u0p, .int .u64 u1p, .int .u64 u2p, .int .u64 u3p, .slice pp ksp.length capp, .int .i64 mnp, .int .i64 mxp, .string txp] 27)); have hTp := Lib.hid (box_in hsi (.cells #[.int .i64 kp, .int .u64 u0p, .int .u64 u1p, .int .u64 u2p, .int .u64 u3p, .slice pp ksp.length capp, .int .i64 mnp, .int .i64 mxp, .string txp] 27)); have hq3 := Lib.hid (Bel.alloc (Bel.step hq2.out hb) (.cells #[.int .i64 kp, .int .u64 u0p, .int .u64 u1p, .int .u64 u2p, .int .u64 u3p, .slice pp ksp.length capp, .int .i64 mnp, .int .i64 mxp, .string txp] 27)); replace hss := Lib.hid hss; clear hb hsi hq2) | (go_at_call 7; (with_reducible refine (cT.out _ hq3.out).mono ?_); rintro e w4 ⟨rfl, hb⟩; clear y0 y1 y2 y3 y4 y5 y6 y7 y8; replace hbp := Lib.hid (kept_row hbp.out hb); have hk := cells_of hbp.out; have y0 := (hk 0 _ rfl).1; have y1 := (hk 1 _ rfl).1; have y2 := (hk 2 _ rfl).1; have y3 := (hk 3 _ rfl).1; have y4 := (hk 4 _ rfl).1; have y5 := (hk 5 _ rfl).1; have y6 := (hk 6 _ rfl).1; have y7 := (hk 7 _ rfl).1; have y8 := (hk 8 _ rfl).1; clear hk; have hlp := lt_of_box hbp.out; replace hTp := Lib.hid (in_bel hTp.out hb); have cL := pl_yes hTp.out (hpt.out _ hss.out); simp only [T.cells] at cL; replace cL := Lib.hid cL; have hq4 := Lib.hid (Bel.step hq3.out hb); clear hb hq3) | (go_at_call 8; (with_reducible refine cL.out.mono ?_); rintro e w5 ⟨rfl, hb⟩; clear y0 y1 y2 y3 y4 y5 y6 y7 y8; replace hbp := Lib.hid (kept_row hbp.out hb); have hk := cells_of hbp.out; have y0 := (hk 0 _ rfl).1; have y1 := (hk 1 _ rfl).1; have y2 := (hk 2 _ rfl).1; have y3 := (hk 3 _ rfl).1; have y4 := (hk 4 _ rfl).1; have y5 := (hk 5 _ rfl).1; have y6 := (hk 6 _ rfl).1; have y7 := (hk 7 _ rfl).1; have y8 := (hk 8 _ rfl).1; clear hk; replace hTp := Lib.hid (in_bel hTp.out hb); have hq5 := Lib.hid (Bel.step hq4.out hb); have cX := text_yes hTp.out (hTab.out _ hq5.out) (hrt.out _ hss.out) (htx.out _ hss.out); simp only [T.cells] at cX; replace cX := Lib.hid cX; clear hb hq4 cL) | (go_at_call 9; (with_reducible refine cX.out.mono ?_); rintro e w6 ⟨rfl, hb⟩; clear y0 y1 y2 y3 y4 y5 y6 y7 y8; replace hbp := Lib.hid (kept_row hbp.out hb); replace hTp := Lib.hid (in_bel hTp.out hb); have hq6 := Lib.hid (Bel.step hq5.out hb); clear hb hq5 cX) | (go_at_call 10; (with_reducible refine (cP.out _ hq6.out).mono ?_); rintro e w7 ⟨hb, m, hm1, hm2, rfl⟩; obtain ⟨kb, u0b, u1b, u2b, u3b, pb, capb, mnb, mxb, txb, ksb⟩ := m; simp only; replace hbp := Lib.hid (kept_row hbp.out hb); have hk := cells_of hbp.out; have y0 := (hk 0 _ rfl).1; have y1 := (hk 1 _ rfl).1; have y2 := (hk 2 _ rfl).1; have y3 := (hk 3 _ rfl).1; have y4 := (hk 4 _ rfl).1; have y5 := (hk 5 _ rfl).1; have y6 := (hk 6 _ rfl).1; have y7 := (hk 7 _ rfl).1; have y8 := (hk 8 _ rfl).1; clear hk; have hlp := lt_of_box hbp.out; replace hbp := Lib.hid (kept_alloc hbp.out (.cells #[.int .i64 kb, .int .u64 u0b, .int .u64 u1b, .int .u64 u2b, .int .u64 u3b, .slice pb ksb.length capb, .int .i64 mnb, .int .i64 mxb, .string txb] 27)); replace hTp := Lib.hid (in_bel (in_bel hTp.out hb) (Bel.new _ (.cells #[.int .i64 kb, .int .u64 u0b, .int .u64 u1b, .int .u64 u2b, .int .u64 u3b, .slice pb ksb.length capb, .int .i64 mnb, .int .i64 mxb, .string txb] 27))); have hTb := Lib.hid (in_bel hm2 (Bel.new w7 (.cells #[.int .i64 kb, .int .u64 u0b, .int .u64 u1b, .int .u64 u2b, .int .u64 u3b, .slice pb ksb.length capb, .int .i64 mnb, .int .i64 mxb, .string txb] 27))); have hq7 := Lib.hid (Bel.alloc (Bel.step hq6.out hb) (.cells #[.int .i64 kb, .int .u64 u0b, .int .u64 u1b, .int .u64 u2b, .int .u64 u3b, .slice pb ksb.length capb, .int .i64 mnb, .int .i64 mxb, .string txb] 27)); have cM := same_yes hTb.out hTp.out (hsm.out _ _ hm1 hss.out); simp only [T.cells] at cM; replace cM := Lib.hid cM; clear hb hm1 hm2 hq6) | (go_at_call 11; (with_reducible refine cM.out.mono ?_); rintro e w8 ⟨rfl, hb⟩; have hq8 := Lib.hid (Bel.step hq7.out hb); clear hb hq7 cM))
    go_ret
    exact ⟨rfl, hq8.out⟩
end Go.Proofs.YtjlmeegaiagfpaaGreatDoor
