/- One item: the program's item. -/
import Derived.Test.YtaahefhiiggagaaDoorW1
import Derived.Test.YtaahefhiiggagaaDoorS1W4
namespace Go.Proofs.YtaahefhiiggagaaDoor
open Go.RowKit
open S5 (nl nl_length nl_small at_nl nl_at Rd Sp Gives Two errV)
open S1 (Blk4 wd noS oneS spanS)
theorem stored {w a : World} {b B : Nat} {t : TypeId} {v0 v1 v2 v3 : Value} (h : Blk4 w b t v0 v1 v2 v3) (hb : Below B a w) (hB : B ≤ b) (u0 u1 u2 u3 : Value) :
    ∃ W, (((w.setCell ⟨b, 0, none⟩ u0).setCell ⟨b, 1, none⟩ u1).setCell ⟨b, 2, none⟩ u2).setCell ⟨b, 3, none⟩ u3 = W ∧ Blk4 W b t u0 u1 u2 u3 ∧ Below B a W :=
  ⟨_, rfl, h.set u0 u1 u2 u3, S1.below_set4 hb hB u0 u1 u2 u3⟩
theorem len_le {s : ByteArray} {k c : Nat} (h : (nl s)[k]? = some c) : k < s.size := (at_nl h).1
set_option maxRecDepth 10000 in
set_option maxHeartbeats 1000000 in
theorem item_bad1 {s : ByteArray} {k : Nat} {t : Int} {V : Value} (w : World) (C : ∀ w', Below w.heap.size w w' → Gives 52 #[.string s, .int .i64 k] (.tuple #[.int .u8 0, .int .i64 t, .iface 105 V]) w') :
    Gives 41 #[.string s, .int .i64 k] (.tuple #[(.agg #[.int .u64 0, .int .u64 0, .int .u64 0, .int .u64 0]), .int .i64 t, .iface 105 V]) w := by
  unfold Gives at *
  have C := Lib.hid C
  go_enter Tryd.func41, Tryd.ntmps41
  go_wp2_with fail
  obtain ⟨W, hW, hb, hB⟩ := S1.boxes1 w 24 (.int .u64 0) (.int .u64 0) (.int .u64 0) (.int .u64 0)
  rw [hW]
  replace C := Lib.hid (C.out W hB)
  clear hW
  go_wp2_with (go_at_call 52; (with_reducible refine C.out.mono ?_); rintro e w1 ⟨rfl, h1⟩; replace hb := hb.bel h1; replace hB := hB.trans (h1.mono hB.size); clear h1; obtain ⟨⟨y0, y1, y2, y3⟩, z0, z1, z2, z3⟩ := hb.facts)
  obtain ⟨W3, hW3, hb3, hB3⟩ := stored hb hB (Nat.le_refl _) (.int .u64 0) (.int .u64 0) (.int .u64 0) (.int .u64 0)
  obtain ⟨⟨c0, c1, c2, c3⟩, -⟩ := hb3.facts
  rw [hW3]
  refine bodyPost_ret (v := .tuple #[(.agg #[.int .u64 0, .int .u64 0, .int .u64 0, .int .u64 0]), .int .i64 t, .iface 105 V]) (by simp [results, Tryd.results41, go_sem, c0, c1, c2, c3]) rfl ?_
  first | exact ⟨rfl, hB3⟩ | exact ⟨rfl, hB3.drew⟩
set_option maxRecDepth 10000 in
set_option maxHeartbeats 1000000 in
theorem item_one {s : ByteArray} {k n c : Nat} (hc : c ≤ 255) (hm : s.size ≤ 99990) (hn : (nl s)[n]? ≠ some 45) (w : World) (C : ∀ w', Below w.heap.size w w' → Gives 52 #[.string s, .int .i64 k] (.tuple #[.int .u8 c, .int .i64 n, .nilIface]) w') :
    Gives 41 #[.string s, .int .i64 k] (.tuple #[(.agg #[.int .u64 (S1.wd (oneS c) 0), .int .u64 (S1.wd (oneS c) 1), .int .u64 (S1.wd (oneS c) 2), .int .u64 (S1.wd (oneS c) 3)]), .int .i64 n, .nilIface]) w := by
  have I := Lib.hid (fun w => is_in (s := s) (i := (n : Int)) (d := 45) (k := n) (c := 45) (r := false) rfl rfl hm (by simp [hn]) w)
  have O := Lib.hid (fun w => S1.one_in c hc w)
  clear hn
  unfold Gives at *
  have C := Lib.hid C
  go_enter Tryd.func41, Tryd.ntmps41
  go_wp2_with fail
  obtain ⟨W, hW, hb, hB⟩ := S1.boxes1 w 24 (.int .u64 0) (.int .u64 0) (.int .u64 0) (.int .u64 0)
  rw [hW]
  replace C := Lib.hid (C.out W hB)
  clear hW
  go_wp2_with (first | (go_at_call 52; (with_reducible refine C.out.mono ?_); rintro e w1 ⟨rfl, h1⟩; replace hb := hb.bel h1; replace hB := hB.trans (h1.mono hB.size); clear h1; obtain ⟨⟨y0, y1, y2, y3⟩, z0, z1, z2, z3⟩ := hb.facts) | (go_at_call 25; (with_reducible refine (I.out _).mono ?_); rintro e w1 ⟨rfl, rfl⟩) | (go_at_call 15; (with_reducible refine (O.out _).mono ?_); rintro e w1 ⟨rfl, h1⟩; replace hb := hb.bel h1; replace hB := hB.trans (h1.mono hB.size); clear h1; obtain ⟨⟨y0, y1, y2, y3⟩, z0, z1, z2, z3⟩ := hb.facts))
  obtain ⟨W3, hW3, hb3, hB3⟩ := stored hb hB (Nat.le_refl _) (.int .u64 (S1.wd (oneS c) 0)) (.int .u64 (S1.wd (oneS c) 1)) (.int .u64 (S1.wd (oneS c) 2)) (.int .u64 (S1.wd (oneS c) 3))
  obtain ⟨⟨c0, c1, c2, c3⟩, -⟩ := hb3.facts
  rw [hW3]
  refine bodyPost_ret (v := .tuple #[(.agg #[.int .u64 (S1.wd (oneS c) 0), .int .u64 (S1.wd (oneS c) 1), .int .u64 (S1.wd (oneS c) 2), .int .u64 (S1.wd (oneS c) 3)]), .int .i64 n, .nilIface]) (by simp [results, Tryd.results41, go_sem, c0, c1, c2, c3]) rfl ?_
  first | exact ⟨rfl, hB3⟩ | exact ⟨rfl, hB3.drew⟩
set_option maxRecDepth 10000 in
set_option maxHeartbeats 1000000 in
theorem item_bad2 {s : ByteArray} {k n c : Nat} {t : Int} {V : Value} (hm : s.size ≤ 99990) (hn : (nl s)[n]? = some 45) (w : World) (C : ∀ w', Below w.heap.size w w' → Gives 52 #[.string s, .int .i64 k] (.tuple #[.int .u8 c, .int .i64 n, .nilIface]) w')
    (C2 : ∀ w', Below w.heap.size w w' → Gives 52 #[.string s, .int .i64 (n + 1)] (.tuple #[.int .u8 0, .int .i64 t, .iface 105 V]) w') :
    Gives 41 #[.string s, .int .i64 k] (.tuple #[(.agg #[.int .u64 0, .int .u64 0, .int .u64 0, .int .u64 0]), .int .i64 t, .iface 105 V]) w := by
  have I := Lib.hid (fun w => is_in (s := s) (i := (n : Int)) (d := 45) (k := n) (c := 45) (r := true) rfl rfl hm (by simp [hn]) w)
  have hlt := len_le hn
  clear hn
  unfold Gives at *
  have C2 := Lib.hid C2
  have C := Lib.hid C
  go_enter Tryd.func41, Tryd.ntmps41
  go_wp2_with fail
  obtain ⟨W, hW, hb, hB⟩ := S1.boxes1 w 24 (.int .u64 0) (.int .u64 0) (.int .u64 0) (.int .u64 0)
  rw [hW]
  replace C := Lib.hid (C.out W hB)
  clear hW
  go_wp2_with (first | (go_at_call 52; (with_reducible refine C.out.mono ?_); rintro e w1 ⟨rfl, h1⟩; replace hb := hb.bel h1; replace hB := hB.trans (h1.mono hB.size); clear h1; obtain ⟨⟨y0, y1, y2, y3⟩, z0, z1, z2, z3⟩ := hb.facts) | (go_at_call 25; (with_reducible refine (I.out _).mono ?_); rintro e w1 ⟨rfl, rfl⟩) | (go_at_call 52; (with_reducible refine (C2.out _ hB).mono ?_); rintro e w1 ⟨rfl, h1⟩; replace hb := hb.bel h1; replace hB := hB.trans (h1.mono hB.size); clear h1; obtain ⟨⟨y0, y1, y2, y3⟩, z0, z1, z2, z3⟩ := hb.facts))
  obtain ⟨W3, hW3, hb3, hB3⟩ := stored hb hB (Nat.le_refl _) (.int .u64 0) (.int .u64 0) (.int .u64 0) (.int .u64 0)
  obtain ⟨⟨c0, c1, c2, c3⟩, -⟩ := hb3.facts
  rw [hW3]
  refine bodyPost_ret (v := .tuple #[(.agg #[.int .u64 0, .int .u64 0, .int .u64 0, .int .u64 0]), .int .i64 t, .iface 105 V]) (by simp [results, Tryd.results41, go_sem, c0, c1, c2, c3]) rfl ?_
  first | exact ⟨rfl, hB3⟩ | exact ⟨rfl, hB3.drew⟩
set_option maxRecDepth 10000 in
set_option maxHeartbeats 1000000 in
theorem item_down {s : ByteArray} {k n c d m : Nat} {E1 : Value} (hc : c ≤ 255) (hd : d < c) (hm : s.size ≤ 99990) (hn : (nl s)[n]? = some 45) (w : World) (hE : w.cell? ⟨2, 0, none⟩ = some (.iface 105 E1)) (C : ∀ w', Below w.heap.size w w' → Gives 52 #[.string s, .int .i64 k] (.tuple #[.int .u8 c, .int .i64 n, .nilIface]) w')
    (C2 : ∀ w', Below w.heap.size w w' → Gives 52 #[.string s, .int .i64 (n + 1)] (.tuple #[.int .u8 d, .int .i64 m, .nilIface]) w') :
    Gives 41 #[.string s, .int .i64 k] (.tuple #[(.agg #[.int .u64 0, .int .u64 0, .int .u64 0, .int .u64 0]), .int .i64 (n + 1), .iface 105 E1]) w := by
  have I := Lib.hid (fun w => is_in (s := s) (i := (n : Int)) (d := 45) (k := n) (c := 45) (r := true) rfl rfl hm (by simp [hn]) w)
  have hlt := len_le hn
  have hg := World.block_lt_of_cell? _ _ hE
  have hcd : decide ((d : Int) < c) = true := by simp; omega
  clear hn
  unfold Gives at *
  have C2 := Lib.hid C2
  have C := Lib.hid C
  go_enter Tryd.func41, Tryd.ntmps41
  go_wp2_with fail
  obtain ⟨W, hW, hb, hB⟩ := S1.boxes1 w 24 (.int .u64 0) (.int .u64 0) (.int .u64 0) (.int .u64 0)
  rw [hW]
  replace C := Lib.hid (C.out W hB)
  clear hW
  go_wp2_with (first | (go_at_call 52; (with_reducible refine C.out.mono ?_); rintro e w1 ⟨rfl, h1⟩; replace hb := hb.bel h1; replace hB := hB.trans (h1.mono hB.size); clear h1; obtain ⟨⟨y0, y1, y2, y3⟩, z0, z1, z2, z3⟩ := hb.facts) | (go_at_call 25; (with_reducible refine (I.out _).mono ?_); rintro e w1 ⟨rfl, rfl⟩) | (go_at_call 52; (with_reducible refine (C2.out _ hB).mono ?_); rintro e w1 ⟨rfl, h1⟩; replace hb := hb.bel h1; replace hB := hB.trans (h1.mono hB.size); clear h1; obtain ⟨⟨y0, y1, y2, y3⟩, z0, z1, z2, z3⟩ := hb.facts))
  have hE2 := (hB.cell (p := ⟨2, 0, none⟩) hg).trans hE
  go_region
  go_wp2
  obtain ⟨W3, hW3, hb3, hB3⟩ := stored hb hB (Nat.le_refl _) (.int .u64 0) (.int .u64 0) (.int .u64 0) (.int .u64 0)
  obtain ⟨⟨c0, c1, c2, c3⟩, -⟩ := hb3.facts
  rw [hW3]
  refine bodyPost_ret (v := .tuple #[(.agg #[.int .u64 0, .int .u64 0, .int .u64 0, .int .u64 0]), .int .i64 (n + 1), .iface 105 E1]) (by simp [results, Tryd.results41, go_sem, c0, c1, c2, c3]) rfl ?_
  first | exact ⟨rfl, hB3⟩ | exact ⟨rfl, hB3.drew⟩
set_option maxRecDepth 10000 in
set_option maxHeartbeats 1000000 in
theorem item_span {s : ByteArray} {k n c d m : Nat} (hc : c ≤ 255) (hd8 : d ≤ 255) (hd : c ≤ d) (hm : s.size ≤ 99990) (hn : (nl s)[n]? = some 45) (w : World) (C : ∀ w', Below w.heap.size w w' → Gives 52 #[.string s, .int .i64 k] (.tuple #[.int .u8 c, .int .i64 n, .nilIface]) w')
    (C2 : ∀ w', Below w.heap.size w w' → Gives 52 #[.string s, .int .i64 (n + 1)] (.tuple #[.int .u8 d, .int .i64 m, .nilIface]) w') :
    Gives 41 #[.string s, .int .i64 k] (.tuple #[(.agg #[.int .u64 (S1.wd (spanS c d) 0), .int .u64 (S1.wd (spanS c d) 1), .int .u64 (S1.wd (spanS c d) 2), .int .u64 (S1.wd (spanS c d) 3)]), .int .i64 m, .nilIface]) w := by
  have I := Lib.hid (fun w => is_in (s := s) (i := (n : Int)) (d := 45) (k := n) (c := 45) (r := true) rfl rfl hm (by simp [hn]) w)
  have O := Lib.hid (fun w => S1.span_in c d hc hd8 w)
  have hlt := len_le hn
  have hcd : decide ((d : Int) < c) = false := by simp; omega
  clear hn
  unfold Gives at *
  have C2 := Lib.hid C2
  have C := Lib.hid C
  go_enter Tryd.func41, Tryd.ntmps41
  go_wp2_with fail
  obtain ⟨W, hW, hb, hB⟩ := S1.boxes1 w 24 (.int .u64 0) (.int .u64 0) (.int .u64 0) (.int .u64 0)
  rw [hW]
  replace C := Lib.hid (C.out W hB)
  clear hW
  go_wp2_with (first | (go_at_call 52; (with_reducible refine C.out.mono ?_); rintro e w1 ⟨rfl, h1⟩; replace hb := hb.bel h1; replace hB := hB.trans (h1.mono hB.size); clear h1; obtain ⟨⟨y0, y1, y2, y3⟩, z0, z1, z2, z3⟩ := hb.facts) | (go_at_call 25; (with_reducible refine (I.out _).mono ?_); rintro e w1 ⟨rfl, rfl⟩) | (go_at_call 52; (with_reducible refine (C2.out _ hB).mono ?_); rintro e w1 ⟨rfl, h1⟩; replace hb := hb.bel h1; replace hB := hB.trans (h1.mono hB.size); clear h1; obtain ⟨⟨y0, y1, y2, y3⟩, z0, z1, z2, z3⟩ := hb.facts) | (go_at_call 53; (with_reducible refine (O.out _).mono ?_); rintro e w1 ⟨rfl, h1⟩; replace hb := hb.bel h1; replace hB := hB.trans (h1.mono hB.size); clear h1; obtain ⟨⟨y0, y1, y2, y3⟩, z0, z1, z2, z3⟩ := hb.facts))
  obtain ⟨W3, hW3, hb3, hB3⟩ := stored hb hB (Nat.le_refl _) (.int .u64 (S1.wd (spanS c d) 0)) (.int .u64 (S1.wd (spanS c d) 1)) (.int .u64 (S1.wd (spanS c d) 2)) (.int .u64 (S1.wd (spanS c d) 3))
  obtain ⟨⟨c0, c1, c2, c3⟩, -⟩ := hb3.facts
  rw [hW3]
  refine bodyPost_ret (v := .tuple #[(.agg #[.int .u64 (S1.wd (spanS c d) 0), .int .u64 (S1.wd (spanS c d) 1), .int .u64 (S1.wd (spanS c d) 2), .int .u64 (S1.wd (spanS c d) 3)]), .int .i64 m, .nilIface]) (by simp [results, Tryd.results41, go_sem, c0, c1, c2, c3]) rfl ?_
  first | exact ⟨rfl, hB3⟩ | exact ⟨rfl, hB3.drew⟩
end Go.Proofs.YtaahefhiiggagaaDoor
