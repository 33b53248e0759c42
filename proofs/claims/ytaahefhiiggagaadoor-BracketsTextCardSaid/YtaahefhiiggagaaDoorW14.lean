/- BracketsText. -/
import Derived.Test.YtaahefhiiggagaaDoorW13
namespace Go.Proofs.YtaahefhiiggagaaDoor
open Go.RowKit
open S5 (nl nl_length nl_small at_nl nl_at Rd Sp Gives Two errV nl_strN nl_inj nl_append sp_small Bld)
open S1 (Blk4 SetBox BoolRow wd noS oneS spanS orS notS minusS spU eqB el spAll spCells)
set_option maxHeartbeats 1000000 in
theorem dot_in (w : World) : Calls Tryd.prog 10 #[] w fun e w' => e = .returned (.agg #[.int .u64 (S1.wd (notS (oneS 10)) 0), .int .u64 (S1.wd (notS (oneS 10)) 1), .int .u64 (S1.wd (notS (oneS 10)) 2), .int .u64 (S1.wd (notS (oneS 10)) 3)]) ∧ Below w.heap.size w w' := by
  have cO : ∀ w, Calls Tryd.prog 15 #[.int .u8 10] w fun e w' => e = .returned (.agg #[.int .u64 (S1.wd (oneS 10) 0), .int .u64 (S1.wd (oneS 10) 1), .int .u64 (S1.wd (oneS 10) 2), .int .u64 (S1.wd (oneS 10) 3)]) ∧ Below w.heap.size w w' := fun w => S1.one_in 10 (by decide) w
  replace cO := Lib.hid cO
  have cN := Lib.hid (fun w => S1.not_in (oneS 10) w)
  go_enter Tryd.func10, Tryd.ntmps10
  go_wp2_with fail
  obtain ⟨W, hW, bx, hB⟩ := S1.boxes1 w 24 (.int .u64 0) (.int .u64 0) (.int .u64 0) (.int .u64 0)
  rw [hW]
  clear hW
  obtain ⟨⟨g0, g1, g2, g3⟩, y0, y1, y2, y3⟩ := bx.facts
  go_wp2_with (first | (go_at_call 15; (with_reducible refine (cO.out _).mono ?_); rintro e w1 ⟨rfl, h1⟩; replace bx := bx.bel h1; replace hB := hB.trans (h1.mono hB.size); clear h1; clear g0 g1 g2 g3 y0 y1 y2 y3; obtain ⟨⟨g0, g1, g2, g3⟩, y0, y1, y2, y3⟩ := bx.facts) | (go_at_call 19; (with_reducible refine (cN.out _).mono ?_); rintro e w1 ⟨rfl, h1⟩; replace bx := bx.bel h1; replace hB := hB.trans (h1.mono hB.size); clear h1; clear g0 g1 g2 g3 y0 y1 y2 y3; obtain ⟨⟨g0, g1, g2, g3⟩, y0, y1, y2, y3⟩ := bx.facts))
  obtain ⟨W3, hW3, hb3, hB3⟩ := stored bx hB (Nat.le_refl _) (.int .u64 (S1.wd (notS (oneS 10)) 0)) (.int .u64 (S1.wd (notS (oneS 10)) 1)) (.int .u64 (S1.wd (notS (oneS 10)) 2)) (.int .u64 (S1.wd (notS (oneS 10)) 3))
  obtain ⟨⟨c0, c1, c2, c3⟩, -⟩ := hb3.facts
  rw [hW3]
  refine bodyPost_ret (v := (.agg #[.int .u64 (S1.wd (notS (oneS 10)) 0), .int .u64 (S1.wd (notS (oneS 10)) 1), .int .u64 (S1.wd (notS (oneS 10)) 2), .int .u64 (S1.wd (notS (oneS 10)) 3)])) (by simp [results, Tryd.results10, go_sem, c0, c1, c2, c3]) rfl ?_
  exact ⟨rfl, hB3⟩
theorem ten_in (w : World) : Calls Tryd.prog 12 #[.int .i64 10, .int .i64 10] w fun e w' => e = .returned (.agg #[.int .u64 (S1.wd (spanS 10 10) 0), .int .u64 (S1.wd (spanS 10 10) 1), .int .u64 (S1.wd (spanS 10 10) 2), .int .u64 (S1.wd (spanS 10 10) 3)]) ∧ Below w.heap.size w w' := S1.refspan_in 10 10 (by decide) (by decide) w
theorem both_in (w : World) : Calls Tryd.prog 11 #[(.agg #[.int .u64 (S1.wd (spanS 0 255) 0), .int .u64 (S1.wd (spanS 0 255) 1), .int .u64 (S1.wd (spanS 0 255) 2), .int .u64 (S1.wd (spanS 0 255) 3)]), (.agg #[.int .u64 (S1.wd (spanS 10 10) 0), .int .u64 (S1.wd (spanS 10 10) 1), .int .u64 (S1.wd (spanS 10 10) 2), .int .u64 (S1.wd (spanS 10 10) 3)]), .int .i64 2] w fun e w' => e = .returned (.agg #[.int .u64 (S1.wd (notS (oneS 10)) 0), .int .u64 (S1.wd (notS (oneS 10)) 1), .int .u64 (S1.wd (notS (oneS 10)) 2), .int .u64 (S1.wd (notS (oneS 10)) 3)]) ∧ Below w.heap.size w w' := by
  have h := S1.both2_in (spanS 0 255) (spanS 10 10) w
  obtain ⟨h0, h1, h2, h3⟩ := wd_same (f := minusS (spanS 0 255) (spanS 10 10)) (g := notS (oneS 10)) (fun c hc => by
    rw [Bool.eq_iff_iff]
    simp [minusS, S1.andS, notS, spanS, oneS]
    omega)
  rw [h0, h1, h2, h3] at h
  exact h
set_option maxRecDepth 100000 in
set_option maxHeartbeats 8000000 in
theorem bracketsText_in (f : Nat → Bool) {a b : ByteArray} (ha : a.size ≤ 9223372036854775807) (hb : b.size ≤ 9223372036854775807) {E1 E2 E4 : Value} (w : World) (hT : Thr w E1 E2 E4) (hTab : S1.Tab w) :
    Calls Tryd.prog 3 #[(.agg #[.int .u64 (S1.wd (f) 0), .int .u64 (S1.wd (f) 1), .int .u64 (S1.wd (f) 2), .int .u64 (S1.wd (f) 3)]), .string a, .string b] w fun e w' => e = .returned (.bool true) ∧ Below w.heap.size w w' := by
  have cA := Lib.hid (fun w' (hb : Below w.heap.size w w') => alive_in w' (hT.bel hb))
  by_cases h1 : 100 < a.size
  · clear hT hTab
    go_enter Tryd.func3, Tryd.ntmps3
    go_wp2_with fail
    obtain ⟨W, hW, bx, hB⟩ := S1.boxes1 w 24 (.int .u64 (S1.wd (f) 0)) (.int .u64 (S1.wd (f) 1)) (.int .u64 (S1.wd (f) 2)) (.int .u64 (S1.wd (f) 3))
    rw [hW]
    clear hW
    obtain ⟨⟨g0, g1, g2, g3⟩, y0, y1, y2, y3⟩ := bx.facts
    go_wp2_with (go_at_call 6; (with_reducible refine (cA.out _ hB).mono ?_); rintro e w1 ⟨rfl, h1⟩; replace bx := bx.bel h1; replace hB := hB.trans (h1.mono hB.size); clear h1; clear g0 g1 g2 g3 y0 y1 y2 y3; obtain ⟨⟨g0, g1, g2, g3⟩, y0, y1, y2, y3⟩ := bx.facts)
    go_ret
    exact ⟨rfl, hB⟩
  by_cases h2 : 100 < b.size
  · have ha1 : a.size ≤ 100 := by omega
    clear hT hTab
    go_enter Tryd.func3, Tryd.ntmps3
    go_wp2_with fail
    obtain ⟨W, hW, bx, hB⟩ := S1.boxes1 w 24 (.int .u64 (S1.wd (f) 0)) (.int .u64 (S1.wd (f) 1)) (.int .u64 (S1.wd (f) 2)) (.int .u64 (S1.wd (f) 3))
    rw [hW]
    clear hW
    obtain ⟨⟨g0, g1, g2, g3⟩, y0, y1, y2, y3⟩ := bx.facts
    go_wp2_with (go_at_call 6; (with_reducible refine (cA.out _ hB).mono ?_); rintro e w1 ⟨rfl, h1⟩; replace bx := bx.bel h1; replace hB := hB.trans (h1.mono hB.size); clear h1; clear g0 g1 g2 g3 y0 y1 y2 y3; obtain ⟨⟨g0, g1, g2, g3⟩, y0, y1, y2, y3⟩ := bx.facts)
    go_ret
    exact ⟨rfl, hB⟩
  have ha' : a.size ≤ 100 := by omega
  have hb' : b.size ≤ 100 := by omega
  clear ha hb h1 h2
  obtain ⟨f', hf, hR⟩ := br_text f (nl a) (nl b)
  have hsz : (strN (txtB f)).size = (txtB f).length := strN_size _
  have hln := txtB_len f
  have hnl : nl (a ++ strN (txtB f) ++ b) = nl a ++ txtB f ++ nl b := by rw [nl_append, nl_append, nl_strN (txtB_small f)]
  rw [← hnl, nl_length, ← hsz] at hR
  have cT := Lib.hid (fun w' (hb : Below w.heap.size w w') => text_in f w' (hTab.below hb hTab.1))
  have cQ := Lib.hid (fun w => rtext_in f w)
  generalize strN (txtB f) = P at *
  have hP : P.size ≤ 2400 := by omega
  have cR := fun w' (hb : Below w.heap.size w w') => bread_in (by simp [ByteArray.size_append]; omega) hR w' (hT.bel hb)
  have eR : ((a.size + P.size : Nat) : Int) = (a.size : Int) + P.size := by omega
  simp only [outV_ok _ _ _ hf, Gives] at cR
  rw [eR] at cR
  replace cR := Lib.hid cR
  have cD := Lib.hid dot_in
  have cF := Lib.hid full_in
  have cG := Lib.hid ten_in
  have cB := Lib.hid both_in
  have eq := fun w => S1.eq28 (wd f 0) (wd f 1) (wd f 2) (wd f 3) (wd f 0) (wd f 1) (wd f 2) (wd f 3) w
  have eq2 := fun w => S1.eq28 (wd (notS (oneS 10)) 0) (wd (notS (oneS 10)) 1) (wd (notS (oneS 10)) 2) (wd (notS (oneS 10)) 3) (wd (notS (oneS 10)) 0) (wd (notS (oneS 10)) 1) (wd (notS (oneS 10)) 2) (wd (notS (oneS 10)) 3) w
  simp only [beq_self_eq_true, Bool.and_true] at eq eq2
  generalize notS (oneS 10) = D at *
  clear hf hR hsz hln hnl eR hT hTab
  go_enter Tryd.func3, Tryd.ntmps3
  go_wp2_with fail
  obtain ⟨W, hW, bx, hB⟩ := S1.boxes1 w 24 (.int .u64 (S1.wd (f) 0)) (.int .u64 (S1.wd (f) 1)) (.int .u64 (S1.wd (f) 2)) (.int .u64 (S1.wd (f) 3))
  rw [hW]
  clear hW
  obtain ⟨⟨g0, g1, g2, g3⟩, y0, y1, y2, y3⟩ := bx.facts
  go_wp2_with (first | (go_at_call 6; (with_reducible refine (cA.out _ hB).mono ?_); rintro e w1 ⟨rfl, h1⟩; replace bx := bx.bel h1; replace hB := hB.trans (h1.mono hB.size); clear h1; clear g0 g1 g2 g3 y0 y1 y2 y3; obtain ⟨⟨g0, g1, g2, g3⟩, y0, y1, y2, y3⟩ := bx.facts) | (go_at_call 7; (with_reducible refine (cT.out _ hB).mono ?_); rintro e w2 ⟨rfl, h1⟩; replace bx := bx.bel h1; replace hB := hB.trans (h1.mono hB.size); clear h1; clear g0 g1 g2 g3 y0 y1 y2 y3; obtain ⟨⟨g0, g1, g2, g3⟩, y0, y1, y2, y3⟩ := bx.facts) | (go_at_call 8; (with_reducible refine (cR.out _ hB).mono ?_); rintro e w3 ⟨rfl, h1⟩; replace bx := (bx.bel h1).alloc (.cells #[.int .u64 (S1.wd (f) 0), .int .u64 (S1.wd (f) 1), .int .u64 (S1.wd (f) 2), .int .u64 (S1.wd (f) 3)] 24); replace hB := (hB.trans (h1.mono hB.size)).alloc (hB.trans (h1.mono hB.size)).size (.cells #[.int .u64 (S1.wd (f) 0), .int .u64 (S1.wd (f) 1), .int .u64 (S1.wd (f) 2), .int .u64 (S1.wd (f) 3)] 24); have b8 := S1.Blk4.new w3 24 (.int .u64 (S1.wd (f) 0)) (.int .u64 (S1.wd (f) 1)) (.int .u64 (S1.wd (f) 2)) (.int .u64 (S1.wd (f) 3)); clear h1; clear g0 g1 g2 g3 y0 y1 y2 y3; obtain ⟨⟨g0, g1, g2, g3⟩, y0, y1, y2, y3⟩ := bx.facts; obtain ⟨⟨k0, k1, k2, k3⟩, -⟩ := b8.facts) | (go_at_call 9; (with_reducible refine (cQ.out _).mono ?_); rintro e w4 ⟨rfl, h1⟩; clear k0 k1 k2 k3; replace bx := bx.bel h1; replace b8 := b8.bel h1; replace hB := hB.trans (h1.mono hB.size); clear h1; clear g0 g1 g2 g3 y0 y1 y2 y3; obtain ⟨⟨g0, g1, g2, g3⟩, y0, y1, y2, y3⟩ := bx.facts; obtain ⟨⟨k0, k1, k2, k3⟩, -⟩ := b8.facts) | (go_at_call 10; (with_reducible refine (cD.out _).mono ?_); rintro e w5 ⟨rfl, h1⟩; replace hB := hB.trans (h1.mono hB.size); clear h1) | (go_at_call 12; (with_reducible refine (cF.out _).mono ?_); rintro e w6 ⟨rfl, h1⟩; replace hB := hB.trans (h1.mono hB.size); clear h1) | (go_at_call 12; (with_reducible refine (cG.out _).mono ?_); rintro e w7 ⟨rfl, h1⟩; replace hB := hB.trans (h1.mono hB.size); clear h1) | (go_at_call 11; (with_reducible refine (cB.out _).mono ?_); rintro e w8 ⟨rfl, h1⟩; replace hB := hB.trans (h1.mono hB.size); clear h1))
  go_ret
  exact ⟨ret_bool (by first | rfl | simp), hB⟩
end Go.Proofs.YtaahefhiiggagaaDoor
