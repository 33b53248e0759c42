/- A bracket expression: the program's Read. -/
import Derived.Test.YtaahefhiiggagaaDoorW4
import Derived.Test.YtaahefhiiggagaaDoorS1W4
namespace Go.Proofs.YtaahefhiiggagaaDoor
open Go.RowKit
open S5 (nl nl_length nl_small at_nl nl_at Rd Sp Gives Two errV)
open S1 (Blk4 SetBox wd noS oneS spanS orS notS spU eqB)
set_option maxRecDepth 10000 in
set_option maxHeartbeats 1000000 in
theorem bread_out {s : ByteArray} {i : Int} (hi : i < 0 ∨ (s.size : Int) ≤ i) (hm : s.size ≤ 99990) {E2 : Value} (w : World) (hE : w.cell? ⟨0, 0, none⟩ = some (.iface 105 E2)) :
    Gives 8 #[.string s, .int .i64 i] (.tuple #[(.agg #[.int .u64 0, .int .u64 0, .int .u64 0, .int .u64 0]), .int .i64 s.size, .iface 105 E2]) w := by
  have hg := World.block_lt_of_cell? _ _ hE
  unfold Gives
  obtain ⟨W, hW, hb, hB⟩ := S1.boxes1 w 24 (.int .u64 0) (.int .u64 0) (.int .u64 0) (.int .u64 0)
  have hE2 := (hB.cell (p := ⟨0, 0, none⟩) hg).trans hE
  obtain ⟨⟨g0, g1, g2, g3⟩, y0, y1, y2, y3⟩ := hb.facts
  rcases hi with hi | hi
  all_goals
    have gd : decide ((s.size : Int) ≤ i) = true ∨ decide (i < 0) = true := by simp; omega
    go_enter Tryd.func8, Tryd.ntmps8
    go_wp2
    all_goals first | (exfalso; omega) | skip
    all_goals
      go_region
      go_wp2
      obtain ⟨W3, hW3, hb3, hB3⟩ := stored hb hB (Nat.le_refl _) (.int .u64 0) (.int .u64 0) (.int .u64 0) (.int .u64 0)
      obtain ⟨⟨c0, c1, c2, c3⟩, -⟩ := hb3.facts
      rw [hW3]
      refine bodyPost_ret (v := .tuple #[(.agg #[.int .u64 0, .int .u64 0, .int .u64 0, .int .u64 0]), .int .i64 s.size, .iface 105 E2]) (by simp [results, Tryd.results8, go_sem, c0, c1, c2, c3]) rfl ?_
      first | exact ⟨rfl, hB3⟩ | exact ⟨rfl, hB3.drew⟩
set_option maxRecDepth 10000 in
set_option maxHeartbeats 1000000 in
theorem bread_other {s : ByteArray} {k c : Nat} (h0 : (nl s)[k]? = some c) (hc : c ≠ 91) (hm : s.size ≤ 99990) {E4 : Value} (w : World) (hE : w.cell? ⟨1, 0, none⟩ = some (.iface 105 E4)) :
    Gives 8 #[.string s, .int .i64 k] (.tuple #[(.agg #[.int .u64 0, .int .u64 0, .int .u64 0, .int .u64 0]), .int .i64 k, .iface 105 E4]) w := by
  have hg := World.block_lt_of_cell? _ _ hE
  obtain ⟨hlt, hat⟩ := at_nl h0
  have hx : ((c : Int) == 91) = false := by simp; omega
  have hx2 : ((c : Int) != 91) = true := by simp; omega
  clear h0 hc
  unfold Gives
  obtain ⟨W, hW, hb, hB⟩ := S1.boxes1 w 24 (.int .u64 0) (.int .u64 0) (.int .u64 0) (.int .u64 0)
  have hE2 := (hB.cell (p := ⟨1, 0, none⟩) hg).trans hE
  obtain ⟨⟨g0, g1, g2, g3⟩, y0, y1, y2, y3⟩ := hb.facts
  go_enter Tryd.func8, Tryd.ntmps8
  go_wp2
  go_region
  go_wp2
  obtain ⟨W3, hW3, hb3, hB3⟩ := stored hb hB (Nat.le_refl _) (.int .u64 0) (.int .u64 0) (.int .u64 0) (.int .u64 0)
  obtain ⟨⟨c0, c1, c2, c3⟩, -⟩ := hb3.facts
  rw [hW3]
  refine bodyPost_ret (v := .tuple #[(.agg #[.int .u64 0, .int .u64 0, .int .u64 0, .int .u64 0]), .int .i64 k, .iface 105 E4]) (by simp [results, Tryd.results8, go_sem, c0, c1, c2, c3]) rfl ?_
  first | exact ⟨rfl, hB3⟩ | exact ⟨rfl, hB3.drew⟩
set_option maxRecDepth 10000 in
set_option maxHeartbeats 1000000 in
theorem bread_pos {s : ByteArray} {k : Nat} {q0 q1 q2 q3 t : Int} {V : Value} (h0 : (nl s)[k]? = some 91) (hn : (nl s)[k + 1]? ≠ some 94) (hm : s.size ≤ 99990) (w : World) (C : ∀ w', Below w.heap.size w w' → Gives 26 #[.string s, .int .i64 (k + 1)] (.tuple #[.agg #[.int .u64 q0, .int .u64 q1, .int .u64 q2, .int .u64 q3], .int .i64 t, V]) w') :
    Gives 8 #[.string s, .int .i64 k] (.tuple #[.agg #[.int .u64 q0, .int .u64 q1, .int .u64 q2, .int .u64 q3], .int .i64 t, V]) w := by
  obtain ⟨hlt, hat⟩ := at_nl h0
  have I := Lib.hid (fun w => is_in (s := s) (i := (k : Int) + 1) (d := 94) (k := k + 1) (c := 94) (r := false) rfl rfl hm (by simp [hn]) w)
  unfold Gives at C ⊢
  replace C := Lib.hid C
  clear h0 hn
  go_enter Tryd.func8, Tryd.ntmps8
  go_wp2_with fail
  obtain ⟨W, hW, hb, hB⟩ := S1.boxes1 w 24 (.int .u64 0) (.int .u64 0) (.int .u64 0) (.int .u64 0)
  rw [hW]
  clear hW
  obtain ⟨⟨g0, g1, g2, g3⟩, y0, y1, y2, y3⟩ := hb.facts
  go_wp2_with (first | (go_at_call 25; (with_reducible refine (I.out _).mono ?_); rintro e w1 ⟨rfl, rfl⟩) | (go_at_call 26; (with_reducible refine (C.out _ hB).mono ?_); rintro e w1 ⟨rfl, h1⟩; replace hb := hb.bel h1; replace hB := hB.trans (h1.mono hB.size); clear h1; clear g0 g1 g2 g3 y0 y1 y2 y3; obtain ⟨⟨g0, g1, g2, g3⟩, y0, y1, y2, y3⟩ := hb.facts))
  obtain ⟨W3, hW3, hb3, hB3⟩ := stored hb hB (Nat.le_refl _) (.int .u64 q0) (.int .u64 q1) (.int .u64 q2) (.int .u64 q3)
  obtain ⟨⟨c0, c1, c2, c3⟩, -⟩ := hb3.facts
  rw [hW3]
  refine bodyPost_ret (v := .tuple #[.agg #[.int .u64 q0, .int .u64 q1, .int .u64 q2, .int .u64 q3], .int .i64 t, V]) (by simp [results, Tryd.results8, go_sem, c0, c1, c2, c3]) rfl ?_
  first | exact ⟨rfl, hB3⟩ | exact ⟨rfl, hB3.drew⟩
set_option maxRecDepth 10000 in
set_option maxHeartbeats 1000000 in
theorem bread_bad {s : ByteArray} {k : Nat} {t : Int} {V : Value} (h0 : (nl s)[k]? = some 91) (hn : (nl s)[k + 1]? = some 94) (hm : s.size ≤ 99990) (w : World) (C : ∀ w', Below w.heap.size w w' → Gives 26 #[.string s, .int .i64 (k + 2)] (.tuple #[(.agg #[.int .u64 0, .int .u64 0, .int .u64 0, .int .u64 0]), .int .i64 t, .iface 105 V]) w') :
    Gives 8 #[.string s, .int .i64 k] (.tuple #[(.agg #[.int .u64 0, .int .u64 0, .int .u64 0, .int .u64 0]), .int .i64 t, .iface 105 V]) w := by
  obtain ⟨hlt, hat⟩ := at_nl h0
  have hlt2 := len_le hn
  have I := Lib.hid (fun w => is_in (s := s) (i := (k : Int) + 1) (d := 94) (k := k + 1) (c := 94) (r := true) rfl rfl hm (by simp [hn]) w)
  unfold Gives at C ⊢
  replace C := Lib.hid C
  clear h0 hn
  go_enter Tryd.func8, Tryd.ntmps8
  go_wp2_with fail
  obtain ⟨W, hW, hb, hB⟩ := S1.boxes1 w 24 (.int .u64 0) (.int .u64 0) (.int .u64 0) (.int .u64 0)
  rw [hW]
  clear hW
  obtain ⟨⟨g0, g1, g2, g3⟩, y0, y1, y2, y3⟩ := hb.facts
  go_wp2_with (first | (go_at_call 25; (with_reducible refine (I.out _).mono ?_); rintro e w1 ⟨rfl, rfl⟩) | (go_at_call 26; (with_reducible refine (C.out _ hB).mono ?_); rintro e w1 ⟨rfl, h1⟩; replace hb := hb.bel h1; replace hB := hB.trans (h1.mono hB.size); clear h1; replace hb := hb.alloc (.cells #[.int .u64 0, .int .u64 0, .int .u64 0, .int .u64 0] 24); replace hB := hB.alloc hB.size (.cells #[.int .u64 0, .int .u64 0, .int .u64 0, .int .u64 0] 24); clear g0 g1 g2 g3 y0 y1 y2 y3; obtain ⟨⟨g0, g1, g2, g3⟩, y0, y1, y2, y3⟩ := hb.facts))
  obtain ⟨W3, hW3, hb3, hB3⟩ := stored hb hB (Nat.le_refl _) (.int .u64 0) (.int .u64 0) (.int .u64 0) (.int .u64 0)
  obtain ⟨⟨c0, c1, c2, c3⟩, -⟩ := hb3.facts
  rw [hW3]
  refine bodyPost_ret (v := .tuple #[(.agg #[.int .u64 0, .int .u64 0, .int .u64 0, .int .u64 0]), .int .i64 t, .iface 105 V]) (by simp [results, Tryd.results8, go_sem, c0, c1, c2, c3]) rfl ?_
  first | exact ⟨rfl, hB3⟩ | exact ⟨rfl, hB3.drew⟩
set_option maxRecDepth 10000 in
set_option maxHeartbeats 1000000 in
theorem bread_not {s : ByteArray} {k : Nat} {t : Int} {f : Nat → Bool} (h0 : (nl s)[k]? = some 91) (hn : (nl s)[k + 1]? = some 94) (hm : s.size ≤ 99990) (w : World) (C : ∀ w', Below w.heap.size w w' → Gives 26 #[.string s, .int .i64 (k + 2)] (.tuple #[(.agg #[.int .u64 (S1.wd (f) 0), .int .u64 (S1.wd (f) 1), .int .u64 (S1.wd (f) 2), .int .u64 (S1.wd (f) 3)]), .int .i64 t, .nilIface]) w') :
    Gives 8 #[.string s, .int .i64 k] (.tuple #[(.agg #[.int .u64 (S1.wd (notS f) 0), .int .u64 (S1.wd (notS f) 1), .int .u64 (S1.wd (notS f) 2), .int .u64 (S1.wd (notS f) 3)]), .int .i64 t, .nilIface]) w := by
  obtain ⟨hlt, hat⟩ := at_nl h0
  have hlt2 := len_le hn
  have I := Lib.hid (fun w => is_in (s := s) (i := (k : Int) + 1) (d := 94) (k := k + 1) (c := 94) (r := true) rfl rfl hm (by simp [hn]) w)
  have O := Lib.hid (fun w => S1.not_in f w)
  unfold Gives at C ⊢
  replace C := Lib.hid C
  clear h0 hn
  go_enter Tryd.func8, Tryd.ntmps8
  go_wp2_with fail
  obtain ⟨W, hW, hb, hB⟩ := S1.boxes1 w 24 (.int .u64 0) (.int .u64 0) (.int .u64 0) (.int .u64 0)
  rw [hW]
  clear hW
  obtain ⟨⟨g0, g1, g2, g3⟩, y0, y1, y2, y3⟩ := hb.facts
  go_wp2_with (first | (go_at_call 25; (with_reducible refine (I.out _).mono ?_); rintro e w1 ⟨rfl, rfl⟩) | (go_at_call 26; (with_reducible refine (C.out _ hB).mono ?_); rintro e w1 ⟨rfl, h1⟩; replace hb := hb.bel h1; replace hB := hB.trans (h1.mono hB.size); clear h1; replace hb := hb.alloc (.cells #[.int .u64 (S1.wd (f) 0), .int .u64 (S1.wd (f) 1), .int .u64 (S1.wd (f) 2), .int .u64 (S1.wd (f) 3)] 24); replace hB := hB.alloc hB.size (.cells #[.int .u64 (S1.wd (f) 0), .int .u64 (S1.wd (f) 1), .int .u64 (S1.wd (f) 2), .int .u64 (S1.wd (f) 3)] 24); clear g0 g1 g2 g3 y0 y1 y2 y3; obtain ⟨⟨g0, g1, g2, g3⟩, y0, y1, y2, y3⟩ := hb.facts) | (go_at_call 19; (with_reducible refine (O.out _).mono ?_); rintro e w1 ⟨rfl, h1⟩; replace hb := hb.bel h1; replace hB := hB.trans (h1.mono hB.size); clear h1; clear g0 g1 g2 g3 y0 y1 y2 y3; obtain ⟨⟨g0, g1, g2, g3⟩, y0, y1, y2, y3⟩ := hb.facts))
  obtain ⟨W3, hW3, hb3, hB3⟩ := stored hb hB (Nat.le_refl _) (.int .u64 (S1.wd (notS f) 0)) (.int .u64 (S1.wd (notS f) 1)) (.int .u64 (S1.wd (notS f) 2)) (.int .u64 (S1.wd (notS f) 3))
  obtain ⟨⟨c0, c1, c2, c3⟩, -⟩ := hb3.facts
  rw [hW3]
  refine bodyPost_ret (v := .tuple #[(.agg #[.int .u64 (S1.wd (notS f) 0), .int .u64 (S1.wd (notS f) 1), .int .u64 (S1.wd (notS f) 2), .int .u64 (S1.wd (notS f) 3)]), .int .i64 t, .nilIface]) (by simp [results, Tryd.results8, go_sem, c0, c1, c2, c3]) rfl ?_
  first | exact ⟨rfl, hB3⟩ | exact ⟨rfl, hB3.drew⟩

theorem bread_in {s : ByteArray} (hm : s.size ≤ 99990) {E1 E2 E4 : Value} {i : Int} {f : Nat → Bool} {t : Int} {e : Nat} (h : Br (nl s) i f t e) (w : World) (hT : Thr w E1 E2 E4) :
    Gives 8 #[.string s, .int .i64 i] (outV E1 E2 E4 f t e) w := by
  have hn := nl_length s
  cases h with
  | outside _ h1 => rw [hn] at h1 ⊢; exact bread_out h1 hm w hT.two.short
  | other k c h1 h2 => exact bread_other h1 h2 hm w hT.two.form
  | ok k ps _ h1 h2 h3 => 
    refine bread_pos h1 h2 hm w fun w' hb => ?_
    have := items_in hm (E1 := E1) (E2 := E2) (E4 := E4) h3 (by have := len_le h1; omega) w' (hT.bel hb)
    exact this
  | okNot k ps _ h1 h2 h3 =>
    refine bread_not h1 h2 hm w fun w' hb => ?_
    have := items_in hm (E1 := E1) (E2 := E2) (E4 := E4) h3 (by have := len_le h2; omega) w' (hT.bel hb)
    exact this
  | bad k ps _ _ h1 h2 h3 h4 =>
    rw [outV_err _ _ _ _ _ h4]
    refine bread_pos h1 h2 hm w fun w' hb => ?_
    have := items_in hm (E1 := E1) (E2 := E2) (E4 := E4) h3 (by have := len_le h1; omega) w' (hT.bel hb)
    rw [outV_err _ _ _ _ _ h4] at this
    exact this
  | badNot k ps _ _ h1 h2 h3 h4 =>
    rw [outV_err _ _ _ _ _ h4]
    refine bread_bad h1 h2 hm w fun w' hb => ?_
    have := items_in hm (E1 := E1) (E2 := E2) (E4 := E4) h3 (by have := len_le h2; omega) w' (hT.bel hb)
    rw [outV_err _ _ _ _ _ h4] at this
    exact this
end Go.Proofs.YtaahefhiiggagaaDoor
