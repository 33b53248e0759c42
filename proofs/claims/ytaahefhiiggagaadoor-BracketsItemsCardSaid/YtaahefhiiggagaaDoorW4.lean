/- The items: the program's items. -/
import Derived.Test.YtaahefhiiggagaaDoorW3
namespace Go.Proofs.YtaahefhiiggagaaDoor
open Go.RowKit
open S5 (nl nl_length nl_small at_nl nl_at Rd Sp Gives Two errV)
open S1 (Blk4 SetBox wd noS oneS spanS orS spU eqB)
/-- What a reader gives back. -/
def outV (E1 E2 E4 : Value) (f : Nat → Bool) (t : Int) (e : Nat) : Value :=
  if e = 0 then .tuple #[(.agg #[.int .u64 (S1.wd (f) 0), .int .u64 (S1.wd (f) 1), .int .u64 (S1.wd (f) 2), .int .u64 (S1.wd (f) 3)]), .int .i64 t, .nilIface] else .tuple #[(.agg #[.int .u64 0, .int .u64 0, .int .u64 0, .int .u64 0]), .int .i64 t, .iface 105 (errT E1 E2 E4 e)]
theorem outV_err (E1 E2 E4 : Value) (f : Nat → Bool) (t : Int) {e : Nat} (he : e ≠ 0) : outV E1 E2 E4 f t e = .tuple #[(.agg #[.int .u64 0, .int .u64 0, .int .u64 0, .int .u64 0]), .int .i64 t, .iface 105 (errT E1 E2 E4 e)] := if_neg he
theorem below_set4' {B : Nat} {a w : World} (h : Below B a w) {b : Nat} (hb : B ≤ b) (u0 u1 u2 u3 : Value) :
    Below B a ((((w.setCell ⟨b, 0, none⟩ u0).setCell ⟨b, 1, none⟩ u1).setCell ⟨b, 2, none⟩ u2).setCell ⟨b, 3, none⟩ u3) := S1.below_set4 h hb u0 u1 u2 u3
set_option maxRecDepth 10000 in
set_option maxHeartbeats 8000000 in
theorem items_in {s : ByteArray} (hm : s.size ≤ 99990) {E1 E2 E4 : Value} {k0 : Nat} {P : List (Nat × Nat)} {t : Int} {e : Nat} (h : Its (nl s) true k0 P t e) (hk0 : k0 ≤ s.size) (w : World) (hT : Thr w E1 E2 E4) :
    Gives 26 #[.string s, .int .i64 k0] (outV E1 E2 E4 (spU P) t e) w := by
  unfold Gives
  go_enter Tryd.func26, Tryd.ntmps26
  go_wp2_with fail
  obtain ⟨W, hW, b0, b1, hB⟩ := S1.boxes2 w 24 24 (.int .u64 0) (.int .u64 0) (.int .u64 0) (.int .u64 0) (.int .u64 0) (.int .u64 0) (.int .u64 0) (.int .u64 0)
  rw [hW]
  clear hW
  have b1 : SetBox W (w.heap.size + 1) 24 (spU []) := by
    have : SetBox W (w.heap.size + 1) 24 noS := by unfold SetBox; simp only [S1.no_wd]; exact b1
    exact this.congr fun c _ => by simp [noS, spU]
  replace hT := Lib.hid hT
  go_loopw [1] (fun i wr => ∃ (k : Nat) (acc ps : List (Nat × Nat)), i = .int .i64 k ∧ k ≤ s.size ∧ Its (nl s) acc.isEmpty k ps t e ∧ acc ++ ps = P ∧ (∀ p ∈ acc, p.1 ≤ p.2 ∧ p.2 ≤ 255) ∧ Blk4 wr w.heap.size 24 (.int .u64 0) (.int .u64 0) (.int .u64 0) (.int .u64 0) ∧ SetBox wr (w.heap.size + 1) 24 (spU acc) ∧ Below w.heap.size w wr) (fun i _ => s.size - (intOf i).toNat)
  case atStart => exact ⟨k0, [], P, rfl, hk0, h, rfl, by simp, b0, b1, hB⟩
  case round =>
    clear b0 b1 hB h hk0
    obtain ⟨k, acc, ps, rfl, hks, hI, hP, hok, b0, b1, hB⟩ := hrel
    have cE := fun w => S1.empty_in (spU acc) w
    rw [acc_empty hok] at cE
    generalize hB0 : acc.isEmpty = B at hI cE
    obtain ⟨⟨f0, f1, f2, f3⟩, z0, z1, z2, z3⟩ := b1.blk.facts
    obtain ⟨⟨g0, g1, g2, g3⟩, y0, y1, y2, y3⟩ := b0.facts
    cases hI with
    | close _ h1 =>
      obtain rfl : acc = P := by simpa using hP
      have I := Lib.hid (fun w => is_in (s := s) (i := (k : Int)) (d := 93) (k := k) (c := 93) (r := true) rfl rfl hm (by simp [h1]) w)
      replace cE := Lib.hid cE
      have hks2 := len_le h1
      clear h1
      go_wp2_with (first | (go_at_call 40; (with_reducible refine (cE.out _).mono ?_); rintro e w1 ⟨rfl, h1⟩; replace b0 := b0.bel h1; replace b1 := S1.Blk4.bel b1 h1; replace hB := hB.trans (h1.mono hB.size); clear h1; clear f0 f1 f2 f3 z0 z1 z2 z3 g0 g1 g2 g3 y0 y1 y2 y3; obtain ⟨⟨f0, f1, f2, f3⟩, z0, z1, z2, z3⟩ := S1.Blk4.facts b1; obtain ⟨⟨g0, g1, g2, g3⟩, y0, y1, y2, y3⟩ := b0.facts) | (go_at_call 25; (with_reducible refine (I.out _).mono ?_); rintro e w1 ⟨rfl, rfl⟩))
      obtain ⟨W3, hW3, hb3, hB3⟩ := stored b0 hB (Nat.le_refl _) (.int .u64 (S1.wd (spU acc) 0)) (.int .u64 (S1.wd (spU acc) 1)) (.int .u64 (S1.wd (spU acc) 2)) (.int .u64 (S1.wd (spU acc) 3))
      obtain ⟨⟨c0, c1, c2, c3⟩, -⟩ := hb3.facts
      rw [hW3]
      refine bodyPost_ret (v := .tuple #[(.agg #[.int .u64 (S1.wd (spU acc) 0), .int .u64 (S1.wd (spU acc) 1), .int .u64 (S1.wd (spU acc) 2), .int .u64 (S1.wd (spU acc) 3)]), .int .i64 (k + 1), .nilIface]) (by simp [results, Tryd.results26, go_sem, c0, c1, c2, c3]) rfl ?_
      exact ⟨rfl, hB3⟩
    | bad1 _ _ _ _ h1 h2 h3 =>
      replace cE := Lib.hid cE
      have cI := Lib.hid (it_bad1 hm hT.out h2 h3)
      have hOut := Lib.hid (outV_err E1 E2 E4 (spU P) t (e := e) h3)
      unfold ItOut Gives at cI
      clear h2 h3
      cases B with
      | true =>
        clear h1
        go_wp2_with (first | (go_at_call 40; (with_reducible refine (cE.out _).mono ?_); rintro e w1 ⟨rfl, h1⟩; replace b0 := b0.bel h1; replace b1 := S1.Blk4.bel b1 h1; replace hB := hB.trans (h1.mono hB.size); clear h1; clear f0 f1 f2 f3 z0 z1 z2 z3 g0 g1 g2 g3 y0 y1 y2 y3; obtain ⟨⟨f0, f1, f2, f3⟩, z0, z1, z2, z3⟩ := S1.Blk4.facts b1; obtain ⟨⟨g0, g1, g2, g3⟩, y0, y1, y2, y3⟩ := b0.facts) | (go_at_call 41; (with_reducible refine (cI.out _ hB).mono ?_); rintro e w1 ⟨rfl, h1⟩; replace b0 := b0.bel h1; replace b1 := S1.Blk4.bel b1 h1; replace hB := hB.trans (h1.mono hB.size); clear h1; replace b0 := b0.alloc (.cells #[.int .u64 0, .int .u64 0, .int .u64 0, .int .u64 0] 24); replace b1 := S1.Blk4.alloc b1 (.cells #[.int .u64 0, .int .u64 0, .int .u64 0, .int .u64 0] 24); replace hB := hB.alloc hB.size (.cells #[.int .u64 0, .int .u64 0, .int .u64 0, .int .u64 0] 24); clear f0 f1 f2 f3 z0 z1 z2 z3 g0 g1 g2 g3 y0 y1 y2 y3; obtain ⟨⟨f0, f1, f2, f3⟩, z0, z1, z2, z3⟩ := S1.Blk4.facts b1; obtain ⟨⟨g0, g1, g2, g3⟩, y0, y1, y2, y3⟩ := b0.facts))
        obtain ⟨W3, hW3, hb3, hB3⟩ := stored b0 hB (Nat.le_refl _) (.int .u64 0) (.int .u64 0) (.int .u64 0) (.int .u64 0)
        obtain ⟨⟨c0, c1, c2, c3⟩, -⟩ := hb3.facts
        rw [hW3]
        refine bodyPost_ret (v := .tuple #[(.agg #[.int .u64 0, .int .u64 0, .int .u64 0, .int .u64 0]), .int .i64 t, .iface 105 (errT E1 E2 E4 e)]) (by simp [results, Tryd.results26, go_sem, c0, c1, c2, c3]) rfl ?_
        exact ⟨by rw [hOut.out], hB3⟩
      | false =>
        have I := Lib.hid (fun w => is_in (s := s) (i := (k : Int)) (d := 93) (k := k) (c := 93) (r := false) rfl rfl hm (by simpa using h1) w)
        clear h1
        go_wp2_with (first | (go_at_call 40; (with_reducible refine (cE.out _).mono ?_); rintro e w1 ⟨rfl, h1⟩; replace b0 := b0.bel h1; replace b1 := S1.Blk4.bel b1 h1; replace hB := hB.trans (h1.mono hB.size); clear h1; clear f0 f1 f2 f3 z0 z1 z2 z3 g0 g1 g2 g3 y0 y1 y2 y3; obtain ⟨⟨f0, f1, f2, f3⟩, z0, z1, z2, z3⟩ := S1.Blk4.facts b1; obtain ⟨⟨g0, g1, g2, g3⟩, y0, y1, y2, y3⟩ := b0.facts) | (go_at_call 25; (with_reducible refine (I.out _).mono ?_); rintro e w1 ⟨rfl, rfl⟩) | (go_at_call 41; (with_reducible refine (cI.out _ hB).mono ?_); rintro e w1 ⟨rfl, h1⟩; replace b0 := b0.bel h1; replace b1 := S1.Blk4.bel b1 h1; replace hB := hB.trans (h1.mono hB.size); clear h1; replace b0 := b0.alloc (.cells #[.int .u64 0, .int .u64 0, .int .u64 0, .int .u64 0] 24); replace b1 := S1.Blk4.alloc b1 (.cells #[.int .u64 0, .int .u64 0, .int .u64 0, .int .u64 0] 24); replace hB := hB.alloc hB.size (.cells #[.int .u64 0, .int .u64 0, .int .u64 0, .int .u64 0] 24); clear f0 f1 f2 f3 z0 z1 z2 z3 g0 g1 g2 g3 y0 y1 y2 y3; obtain ⟨⟨f0, f1, f2, f3⟩, z0, z1, z2, z3⟩ := S1.Blk4.facts b1; obtain ⟨⟨g0, g1, g2, g3⟩, y0, y1, y2, y3⟩ := b0.facts))
        obtain ⟨W3, hW3, hb3, hB3⟩ := stored b0 hB (Nat.le_refl _) (.int .u64 0) (.int .u64 0) (.int .u64 0) (.int .u64 0)
        obtain ⟨⟨c0, c1, c2, c3⟩, -⟩ := hb3.facts
        rw [hW3]
        refine bodyPost_ret (v := .tuple #[(.agg #[.int .u64 0, .int .u64 0, .int .u64 0, .int .u64 0]), .int .i64 t, .iface 105 (errT E1 E2 E4 e)]) (by simp [results, Tryd.results26, go_sem, c0, c1, c2, c3]) rfl ?_
        exact ⟨by rw [hOut.out], hB3⟩
    | one _ _ c n ps _ _ h1 h2 h3 hps =>
      replace cE := Lib.hid cE
      have hn8 : n ≤ s.size := (by obtain ⟨n2, q1, q2, q3⟩ := one_next h2; have := nl_length s; omega)
      have hlt : k < n := (by obtain ⟨n2, q1, q2, q3⟩ := one_next h2; omega)
      have hok2 : ∀ p ∈ acc ++ [(c, c)], p.1 ≤ p.2 ∧ p.2 ≤ 255 := fun p hp => by
        rcases List.mem_append.1 hp with hp | hp
        · exact hok p hp
        · obtain rfl : p = (c, c) := by simpa using hp
          exact ⟨Nat.le_refl _, one_small (nl_small s) h2⟩
      have hne : (acc ++ [(c, c)]).isEmpty = false := by cases acc <;> rfl
      have cI := Lib.hid (it_one hm hT.out h2 h3)
      have cO := fun w => S1.or_in (spU acc) (spU [(c, c)]) w
      rw [← spU_app] at cO
      replace cO := Lib.hid cO
      unfold ItOut Gives at cI
      clear h2 h3
      cases B with
      | true =>
        clear h1
        go_wp2_with (first | (go_at_call 40; (with_reducible refine (cE.out _).mono ?_); rintro e w1 ⟨rfl, h1⟩; replace b0 := b0.bel h1; replace b1 := S1.Blk4.bel b1 h1; replace hB := hB.trans (h1.mono hB.size); clear h1; clear f0 f1 f2 f3 z0 z1 z2 z3 g0 g1 g2 g3 y0 y1 y2 y3; obtain ⟨⟨f0, f1, f2, f3⟩, z0, z1, z2, z3⟩ := S1.Blk4.facts b1; obtain ⟨⟨g0, g1, g2, g3⟩, y0, y1, y2, y3⟩ := b0.facts) | (go_at_call 41; (with_reducible refine (cI.out _ hB).mono ?_); rintro e w1 ⟨rfl, h1⟩; replace b0 := b0.bel h1; replace b1 := S1.Blk4.bel b1 h1; replace hB := hB.trans (h1.mono hB.size); clear h1; replace b0 := b0.alloc (.cells #[.int .u64 (S1.wd (spU [(c, c)]) 0), .int .u64 (S1.wd (spU [(c, c)]) 1), .int .u64 (S1.wd (spU [(c, c)]) 2), .int .u64 (S1.wd (spU [(c, c)]) 3)] 24); replace b1 := S1.Blk4.alloc b1 (.cells #[.int .u64 (S1.wd (spU [(c, c)]) 0), .int .u64 (S1.wd (spU [(c, c)]) 1), .int .u64 (S1.wd (spU [(c, c)]) 2), .int .u64 (S1.wd (spU [(c, c)]) 3)] 24); replace hB := hB.alloc hB.size (.cells #[.int .u64 (S1.wd (spU [(c, c)]) 0), .int .u64 (S1.wd (spU [(c, c)]) 1), .int .u64 (S1.wd (spU [(c, c)]) 2), .int .u64 (S1.wd (spU [(c, c)]) 3)] 24); clear f0 f1 f2 f3 z0 z1 z2 z3 g0 g1 g2 g3 y0 y1 y2 y3; obtain ⟨⟨f0, f1, f2, f3⟩, z0, z1, z2, z3⟩ := S1.Blk4.facts b1; obtain ⟨⟨g0, g1, g2, g3⟩, y0, y1, y2, y3⟩ := b0.facts) | (go_at_call 34; (with_reducible refine (cO.out _).mono ?_); rintro e w2 ⟨rfl, h1⟩; replace b0 := b0.bel h1; replace b1 := S1.Blk4.bel b1 h1; replace hB := hB.trans (h1.mono hB.size); clear h1; clear f0 f1 f2 f3 z0 z1 z2 z3 g0 g1 g2 g3 y0 y1 y2 y3; obtain ⟨⟨f0, f1, f2, f3⟩, z0, z1, z2, z3⟩ := S1.Blk4.facts b1; obtain ⟨⟨g0, g1, g2, g3⟩, y0, y1, y2, y3⟩ := b0.facts))
        have hfin := below_set4' hB (b := w.heap.size + 1) (by omega) (.int .u64 (S1.wd (spU (acc ++ [(c, c)])) 0)) (.int .u64 (S1.wd (spU (acc ++ [(c, c)])) 1)) (.int .u64 (S1.wd (spU (acc ++ [(c, c)])) 2)) (.int .u64 (S1.wd (spU (acc ++ [(c, c)])) 3))
        have hbx : SetBox _ (w.heap.size + 1) 24 (spU (acc ++ [(c, c)])) := S1.Blk4.set b1 (.int .u64 (S1.wd (spU (acc ++ [(c, c)])) 0)) (.int .u64 (S1.wd (spU (acc ++ [(c, c)])) 1)) (.int .u64 (S1.wd (spU (acc ++ [(c, c)])) 2)) (.int .u64 (S1.wd (spU (acc ++ [(c, c)])) 3))
        have hb0 := b0.other (b' := w.heap.size + 1) (by omega) (.int .u64 (S1.wd (spU (acc ++ [(c, c)])) 0)) (.int .u64 (S1.wd (spU (acc ++ [(c, c)])) 1)) (.int .u64 (S1.wd (spU (acc ++ [(c, c)])) 2)) (.int .u64 (S1.wd (spU (acc ++ [(c, c)])) 3))
        go_roundw
        case rel => exact ⟨n, acc ++ [(c, c)], ps, rfl, hn8, by rw [hne]; exact hps, by rw [← hP]; simp, hok2, hb0, hbx, hfin⟩
        case measure => simp [intOf]; omega
      | false =>
        have I := Lib.hid (fun w => is_in (s := s) (i := (k : Int)) (d := 93) (k := k) (c := 93) (r := false) rfl rfl hm (by simpa using h1) w)
        clear h1
        go_wp2_with (first | (go_at_call 40; (with_reducible refine (cE.out _).mono ?_); rintro e w1 ⟨rfl, h1⟩; replace b0 := b0.bel h1; replace b1 := S1.Blk4.bel b1 h1; replace hB := hB.trans (h1.mono hB.size); clear h1; clear f0 f1 f2 f3 z0 z1 z2 z3 g0 g1 g2 g3 y0 y1 y2 y3; obtain ⟨⟨f0, f1, f2, f3⟩, z0, z1, z2, z3⟩ := S1.Blk4.facts b1; obtain ⟨⟨g0, g1, g2, g3⟩, y0, y1, y2, y3⟩ := b0.facts) | (go_at_call 25; (with_reducible refine (I.out _).mono ?_); rintro e w1 ⟨rfl, rfl⟩) | (go_at_call 41; (with_reducible refine (cI.out _ hB).mono ?_); rintro e w1 ⟨rfl, h1⟩; replace b0 := b0.bel h1; replace b1 := S1.Blk4.bel b1 h1; replace hB := hB.trans (h1.mono hB.size); clear h1; replace b0 := b0.alloc (.cells #[.int .u64 (S1.wd (spU [(c, c)]) 0), .int .u64 (S1.wd (spU [(c, c)]) 1), .int .u64 (S1.wd (spU [(c, c)]) 2), .int .u64 (S1.wd (spU [(c, c)]) 3)] 24); replace b1 := S1.Blk4.alloc b1 (.cells #[.int .u64 (S1.wd (spU [(c, c)]) 0), .int .u64 (S1.wd (spU [(c, c)]) 1), .int .u64 (S1.wd (spU [(c, c)]) 2), .int .u64 (S1.wd (spU [(c, c)]) 3)] 24); replace hB := hB.alloc hB.size (.cells #[.int .u64 (S1.wd (spU [(c, c)]) 0), .int .u64 (S1.wd (spU [(c, c)]) 1), .int .u64 (S1.wd (spU [(c, c)]) 2), .int .u64 (S1.wd (spU [(c, c)]) 3)] 24); clear f0 f1 f2 f3 z0 z1 z2 z3 g0 g1 g2 g3 y0 y1 y2 y3; obtain ⟨⟨f0, f1, f2, f3⟩, z0, z1, z2, z3⟩ := S1.Blk4.facts b1; obtain ⟨⟨g0, g1, g2, g3⟩, y0, y1, y2, y3⟩ := b0.facts) | (go_at_call 34; (with_reducible refine (cO.out _).mono ?_); rintro e w2 ⟨rfl, h1⟩; replace b0 := b0.bel h1; replace b1 := S1.Blk4.bel b1 h1; replace hB := hB.trans (h1.mono hB.size); clear h1; clear f0 f1 f2 f3 z0 z1 z2 z3 g0 g1 g2 g3 y0 y1 y2 y3; obtain ⟨⟨f0, f1, f2, f3⟩, z0, z1, z2, z3⟩ := S1.Blk4.facts b1; obtain ⟨⟨g0, g1, g2, g3⟩, y0, y1, y2, y3⟩ := b0.facts))
        have hfin := below_set4' hB (b := w.heap.size + 1) (by omega) (.int .u64 (S1.wd (spU (acc ++ [(c, c)])) 0)) (.int .u64 (S1.wd (spU (acc ++ [(c, c)])) 1)) (.int .u64 (S1.wd (spU (acc ++ [(c, c)])) 2)) (.int .u64 (S1.wd (spU (acc ++ [(c, c)])) 3))
        have hbx : SetBox _ (w.heap.size + 1) 24 (spU (acc ++ [(c, c)])) := S1.Blk4.set b1 (.int .u64 (S1.wd (spU (acc ++ [(c, c)])) 0)) (.int .u64 (S1.wd (spU (acc ++ [(c, c)])) 1)) (.int .u64 (S1.wd (spU (acc ++ [(c, c)])) 2)) (.int .u64 (S1.wd (spU (acc ++ [(c, c)])) 3))
        have hb0 := b0.other (b' := w.heap.size + 1) (by omega) (.int .u64 (S1.wd (spU (acc ++ [(c, c)])) 0)) (.int .u64 (S1.wd (spU (acc ++ [(c, c)])) 1)) (.int .u64 (S1.wd (spU (acc ++ [(c, c)])) 2)) (.int .u64 (S1.wd (spU (acc ++ [(c, c)])) 3))
        go_roundw
        case rel => exact ⟨n, acc ++ [(c, c)], ps, rfl, hn8, by rw [hne]; exact hps, by rw [← hP]; simp, hok2, hb0, hbx, hfin⟩
        case measure => simp [intOf]; omega
    | bad2 _ _ c n _ _ h1 h2 h3 h4 h5 =>
      replace cE := Lib.hid cE
      have cI := Lib.hid (it_bad2 hm hT.out h2 h3 h4 h5)
      have hOut := Lib.hid (outV_err E1 E2 E4 (spU P) t (e := e) h5)
      unfold ItOut Gives at cI
      clear h2 h3 h4 h5
      cases B with
      | true =>
        clear h1
        go_wp2_with (first | (go_at_call 40; (with_reducible refine (cE.out _).mono ?_); rintro e w1 ⟨rfl, h1⟩; replace b0 := b0.bel h1; replace b1 := S1.Blk4.bel b1 h1; replace hB := hB.trans (h1.mono hB.size); clear h1; clear f0 f1 f2 f3 z0 z1 z2 z3 g0 g1 g2 g3 y0 y1 y2 y3; obtain ⟨⟨f0, f1, f2, f3⟩, z0, z1, z2, z3⟩ := S1.Blk4.facts b1; obtain ⟨⟨g0, g1, g2, g3⟩, y0, y1, y2, y3⟩ := b0.facts) | (go_at_call 41; (with_reducible refine (cI.out _ hB).mono ?_); rintro e w1 ⟨rfl, h1⟩; replace b0 := b0.bel h1; replace b1 := S1.Blk4.bel b1 h1; replace hB := hB.trans (h1.mono hB.size); clear h1; replace b0 := b0.alloc (.cells #[.int .u64 0, .int .u64 0, .int .u64 0, .int .u64 0] 24); replace b1 := S1.Blk4.alloc b1 (.cells #[.int .u64 0, .int .u64 0, .int .u64 0, .int .u64 0] 24); replace hB := hB.alloc hB.size (.cells #[.int .u64 0, .int .u64 0, .int .u64 0, .int .u64 0] 24); clear f0 f1 f2 f3 z0 z1 z2 z3 g0 g1 g2 g3 y0 y1 y2 y3; obtain ⟨⟨f0, f1, f2, f3⟩, z0, z1, z2, z3⟩ := S1.Blk4.facts b1; obtain ⟨⟨g0, g1, g2, g3⟩, y0, y1, y2, y3⟩ := b0.facts))
        obtain ⟨W3, hW3, hb3, hB3⟩ := stored b0 hB (Nat.le_refl _) (.int .u64 0) (.int .u64 0) (.int .u64 0) (.int .u64 0)
        obtain ⟨⟨c0, c1, c2, c3⟩, -⟩ := hb3.facts
        rw [hW3]
        refine bodyPost_ret (v := .tuple #[(.agg #[.int .u64 0, .int .u64 0, .int .u64 0, .int .u64 0]), .int .i64 t, .iface 105 (errT E1 E2 E4 e)]) (by simp [results, Tryd.results26, go_sem, c0, c1, c2, c3]) rfl ?_
        exact ⟨by rw [hOut.out], hB3⟩
      | false =>
        have I := Lib.hid (fun w => is_in (s := s) (i := (k : Int)) (d := 93) (k := k) (c := 93) (r := false) rfl rfl hm (by simpa using h1) w)
        clear h1
        go_wp2_with (first | (go_at_call 40; (with_reducible refine (cE.out _).mono ?_); rintro e w1 ⟨rfl, h1⟩; replace b0 := b0.bel h1; replace b1 := S1.Blk4.bel b1 h1; replace hB := hB.trans (h1.mono hB.size); clear h1; clear f0 f1 f2 f3 z0 z1 z2 z3 g0 g1 g2 g3 y0 y1 y2 y3; obtain ⟨⟨f0, f1, f2, f3⟩, z0, z1, z2, z3⟩ := S1.Blk4.facts b1; obtain ⟨⟨g0, g1, g2, g3⟩, y0, y1, y2, y3⟩ := b0.facts) | (go_at_call 25; (with_reducible refine (I.out _).mono ?_); rintro e w1 ⟨rfl, rfl⟩) | (go_at_call 41; (with_reducible refine (cI.out _ hB).mono ?_); rintro e w1 ⟨rfl, h1⟩; replace b0 := b0.bel h1; replace b1 := S1.Blk4.bel b1 h1; replace hB := hB.trans (h1.mono hB.size); clear h1; replace b0 := b0.alloc (.cells #[.int .u64 0, .int .u64 0, .int .u64 0, .int .u64 0] 24); replace b1 := S1.Blk4.alloc b1 (.cells #[.int .u64 0, .int .u64 0, .int .u64 0, .int .u64 0] 24); replace hB := hB.alloc hB.size (.cells #[.int .u64 0, .int .u64 0, .int .u64 0, .int .u64 0] 24); clear f0 f1 f2 f3 z0 z1 z2 z3 g0 g1 g2 g3 y0 y1 y2 y3; obtain ⟨⟨f0, f1, f2, f3⟩, z0, z1, z2, z3⟩ := S1.Blk4.facts b1; obtain ⟨⟨g0, g1, g2, g3⟩, y0, y1, y2, y3⟩ := b0.facts))
        obtain ⟨W3, hW3, hb3, hB3⟩ := stored b0 hB (Nat.le_refl _) (.int .u64 0) (.int .u64 0) (.int .u64 0) (.int .u64 0)
        obtain ⟨⟨c0, c1, c2, c3⟩, -⟩ := hb3.facts
        rw [hW3]
        refine bodyPost_ret (v := .tuple #[(.agg #[.int .u64 0, .int .u64 0, .int .u64 0, .int .u64 0]), .int .i64 t, .iface 105 (errT E1 E2 E4 e)]) (by simp [results, Tryd.results26, go_sem, c0, c1, c2, c3]) rfl ?_
        exact ⟨by rw [hOut.out], hB3⟩
    | down _ _ c n d m h1 h2 h3 h4 h5 =>
      replace cE := Lib.hid cE
      have cI := Lib.hid (it_down hm hT.out h2 h3 h4 h5)
      have hOut := Lib.hid (outV_err E1 E2 E4 (spU P) (n + 1) (e := 1) (by decide))
      unfold ItOut Gives at cI
      clear h2 h3 h4 h5
      cases B with
      | true =>
        clear h1
        go_wp2_with (first | (go_at_call 40; (with_reducible refine (cE.out _).mono ?_); rintro e w1 ⟨rfl, h1⟩; replace b0 := b0.bel h1; replace b1 := S1.Blk4.bel b1 h1; replace hB := hB.trans (h1.mono hB.size); clear h1; clear f0 f1 f2 f3 z0 z1 z2 z3 g0 g1 g2 g3 y0 y1 y2 y3; obtain ⟨⟨f0, f1, f2, f3⟩, z0, z1, z2, z3⟩ := S1.Blk4.facts b1; obtain ⟨⟨g0, g1, g2, g3⟩, y0, y1, y2, y3⟩ := b0.facts) | (go_at_call 41; (with_reducible refine (cI.out _ hB).mono ?_); rintro e w1 ⟨rfl, h1⟩; replace b0 := b0.bel h1; replace b1 := S1.Blk4.bel b1 h1; replace hB := hB.trans (h1.mono hB.size); clear h1; replace b0 := b0.alloc (.cells #[.int .u64 0, .int .u64 0, .int .u64 0, .int .u64 0] 24); replace b1 := S1.Blk4.alloc b1 (.cells #[.int .u64 0, .int .u64 0, .int .u64 0, .int .u64 0] 24); replace hB := hB.alloc hB.size (.cells #[.int .u64 0, .int .u64 0, .int .u64 0, .int .u64 0] 24); clear f0 f1 f2 f3 z0 z1 z2 z3 g0 g1 g2 g3 y0 y1 y2 y3; obtain ⟨⟨f0, f1, f2, f3⟩, z0, z1, z2, z3⟩ := S1.Blk4.facts b1; obtain ⟨⟨g0, g1, g2, g3⟩, y0, y1, y2, y3⟩ := b0.facts))
        obtain ⟨W3, hW3, hb3, hB3⟩ := stored b0 hB (Nat.le_refl _) (.int .u64 0) (.int .u64 0) (.int .u64 0) (.int .u64 0)
        obtain ⟨⟨c0, c1, c2, c3⟩, -⟩ := hb3.facts
        rw [hW3]
        refine bodyPost_ret (v := .tuple #[(.agg #[.int .u64 0, .int .u64 0, .int .u64 0, .int .u64 0]), .int .i64 (n + 1), .iface 105 (errT E1 E2 E4 1)]) (by simp [results, Tryd.results26, go_sem, c0, c1, c2, c3]) rfl ?_
        exact ⟨by rw [hOut.out], hB3⟩
      | false =>
        have I := Lib.hid (fun w => is_in (s := s) (i := (k : Int)) (d := 93) (k := k) (c := 93) (r := false) rfl rfl hm (by simpa using h1) w)
        clear h1
        go_wp2_with (first | (go_at_call 40; (with_reducible refine (cE.out _).mono ?_); rintro e w1 ⟨rfl, h1⟩; replace b0 := b0.bel h1; replace b1 := S1.Blk4.bel b1 h1; replace hB := hB.trans (h1.mono hB.size); clear h1; clear f0 f1 f2 f3 z0 z1 z2 z3 g0 g1 g2 g3 y0 y1 y2 y3; obtain ⟨⟨f0, f1, f2, f3⟩, z0, z1, z2, z3⟩ := S1.Blk4.facts b1; obtain ⟨⟨g0, g1, g2, g3⟩, y0, y1, y2, y3⟩ := b0.facts) | (go_at_call 25; (with_reducible refine (I.out _).mono ?_); rintro e w1 ⟨rfl, rfl⟩) | (go_at_call 41; (with_reducible refine (cI.out _ hB).mono ?_); rintro e w1 ⟨rfl, h1⟩; replace b0 := b0.bel h1; replace b1 := S1.Blk4.bel b1 h1; replace hB := hB.trans (h1.mono hB.size); clear h1; replace b0 := b0.alloc (.cells #[.int .u64 0, .int .u64 0, .int .u64 0, .int .u64 0] 24); replace b1 := S1.Blk4.alloc b1 (.cells #[.int .u64 0, .int .u64 0, .int .u64 0, .int .u64 0] 24); replace hB := hB.alloc hB.size (.cells #[.int .u64 0, .int .u64 0, .int .u64 0, .int .u64 0] 24); clear f0 f1 f2 f3 z0 z1 z2 z3 g0 g1 g2 g3 y0 y1 y2 y3; obtain ⟨⟨f0, f1, f2, f3⟩, z0, z1, z2, z3⟩ := S1.Blk4.facts b1; obtain ⟨⟨g0, g1, g2, g3⟩, y0, y1, y2, y3⟩ := b0.facts))
        obtain ⟨W3, hW3, hb3, hB3⟩ := stored b0 hB (Nat.le_refl _) (.int .u64 0) (.int .u64 0) (.int .u64 0) (.int .u64 0)
        obtain ⟨⟨c0, c1, c2, c3⟩, -⟩ := hb3.facts
        rw [hW3]
        refine bodyPost_ret (v := .tuple #[(.agg #[.int .u64 0, .int .u64 0, .int .u64 0, .int .u64 0]), .int .i64 (n + 1), .iface 105 (errT E1 E2 E4 1)]) (by simp [results, Tryd.results26, go_sem, c0, c1, c2, c3]) rfl ?_
        exact ⟨by rw [hOut.out], hB3⟩
    | span _ _ c n d m ps _ _ h1 h2 h3 h4 h5 hps =>
      replace cE := Lib.hid cE
      have hn8 : m ≤ s.size := (by obtain ⟨n2, q1, q2, q3⟩ := one_next h4; have := nl_length s; omega)
      have hlt : k < m := (by obtain ⟨n2, q1, q2, q3⟩ := one_next h4; obtain ⟨n3, q4, q5, q6⟩ := one_next h2; omega)
      have hok2 : ∀ p ∈ acc ++ [(c, d)], p.1 ≤ p.2 ∧ p.2 ≤ 255 := fun p hp => by
        rcases List.mem_append.1 hp with hp | hp
        · exact hok p hp
        · obtain rfl : p = (c, d) := by simpa using hp
          exact ⟨h5, one_small (nl_small s) h4⟩
      have hne : (acc ++ [(c, d)]).isEmpty = false := by cases acc <;> rfl
      have cI := Lib.hid (it_span hm hT.out h2 h3 h4 h5)
      have cO := fun w => S1.or_in (spU acc) (spU [(c, d)]) w
      rw [← spU_app] at cO
      replace cO := Lib.hid cO
      unfold ItOut Gives at cI
      clear h2 h3 h4 h5
      cases B with
      | true =>
        clear h1
        go_wp2_with (first | (go_at_call 40; (with_reducible refine (cE.out _).mono ?_); rintro e w1 ⟨rfl, h1⟩; replace b0 := b0.bel h1; replace b1 := S1.Blk4.bel b1 h1; replace hB := hB.trans (h1.mono hB.size); clear h1; clear f0 f1 f2 f3 z0 z1 z2 z3 g0 g1 g2 g3 y0 y1 y2 y3; obtain ⟨⟨f0, f1, f2, f3⟩, z0, z1, z2, z3⟩ := S1.Blk4.facts b1; obtain ⟨⟨g0, g1, g2, g3⟩, y0, y1, y2, y3⟩ := b0.facts) | (go_at_call 41; (with_reducible refine (cI.out _ hB).mono ?_); rintro e w1 ⟨rfl, h1⟩; replace b0 := b0.bel h1; replace b1 := S1.Blk4.bel b1 h1; replace hB := hB.trans (h1.mono hB.size); clear h1; replace b0 := b0.alloc (.cells #[.int .u64 (S1.wd (spU [(c, d)]) 0), .int .u64 (S1.wd (spU [(c, d)]) 1), .int .u64 (S1.wd (spU [(c, d)]) 2), .int .u64 (S1.wd (spU [(c, d)]) 3)] 24); replace b1 := S1.Blk4.alloc b1 (.cells #[.int .u64 (S1.wd (spU [(c, d)]) 0), .int .u64 (S1.wd (spU [(c, d)]) 1), .int .u64 (S1.wd (spU [(c, d)]) 2), .int .u64 (S1.wd (spU [(c, d)]) 3)] 24); replace hB := hB.alloc hB.size (.cells #[.int .u64 (S1.wd (spU [(c, d)]) 0), .int .u64 (S1.wd (spU [(c, d)]) 1), .int .u64 (S1.wd (spU [(c, d)]) 2), .int .u64 (S1.wd (spU [(c, d)]) 3)] 24); clear f0 f1 f2 f3 z0 z1 z2 z3 g0 g1 g2 g3 y0 y1 y2 y3; obtain ⟨⟨f0, f1, f2, f3⟩, z0, z1, z2, z3⟩ := S1.Blk4.facts b1; obtain ⟨⟨g0, g1, g2, g3⟩, y0, y1, y2, y3⟩ := b0.facts) | (go_at_call 34; (with_reducible refine (cO.out _).mono ?_); rintro e w2 ⟨rfl, h1⟩; replace b0 := b0.bel h1; replace b1 := S1.Blk4.bel b1 h1; replace hB := hB.trans (h1.mono hB.size); clear h1; clear f0 f1 f2 f3 z0 z1 z2 z3 g0 g1 g2 g3 y0 y1 y2 y3; obtain ⟨⟨f0, f1, f2, f3⟩, z0, z1, z2, z3⟩ := S1.Blk4.facts b1; obtain ⟨⟨g0, g1, g2, g3⟩, y0, y1, y2, y3⟩ := b0.facts))
        have hfin := below_set4' hB (b := w.heap.size + 1) (by omega) (.int .u64 (S1.wd (spU (acc ++ [(c, d)])) 0)) (.int .u64 (S1.wd (spU (acc ++ [(c, d)])) 1)) (.int .u64 (S1.wd (spU (acc ++ [(c, d)])) 2)) (.int .u64 (S1.wd (spU (acc ++ [(c, d)])) 3))
        have hbx : SetBox _ (w.heap.size + 1) 24 (spU (acc ++ [(c, d)])) := S1.Blk4.set b1 (.int .u64 (S1.wd (spU (acc ++ [(c, d)])) 0)) (.int .u64 (S1.wd (spU (acc ++ [(c, d)])) 1)) (.int .u64 (S1.wd (spU (acc ++ [(c, d)])) 2)) (.int .u64 (S1.wd (spU (acc ++ [(c, d)])) 3))
        have hb0 := b0.other (b' := w.heap.size + 1) (by omega) (.int .u64 (S1.wd (spU (acc ++ [(c, d)])) 0)) (.int .u64 (S1.wd (spU (acc ++ [(c, d)])) 1)) (.int .u64 (S1.wd (spU (acc ++ [(c, d)])) 2)) (.int .u64 (S1.wd (spU (acc ++ [(c, d)])) 3))
        go_roundw
        case rel => exact ⟨m, acc ++ [(c, d)], ps, rfl, hn8, by rw [hne]; exact hps, by rw [← hP]; simp, hok2, hb0, hbx, hfin⟩
        case measure => simp [intOf]; omega
      | false =>
        have I := Lib.hid (fun w => is_in (s := s) (i := (k : Int)) (d := 93) (k := k) (c := 93) (r := false) rfl rfl hm (by simpa using h1) w)
        clear h1
        go_wp2_with (first | (go_at_call 40; (with_reducible refine (cE.out _).mono ?_); rintro e w1 ⟨rfl, h1⟩; replace b0 := b0.bel h1; replace b1 := S1.Blk4.bel b1 h1; replace hB := hB.trans (h1.mono hB.size); clear h1; clear f0 f1 f2 f3 z0 z1 z2 z3 g0 g1 g2 g3 y0 y1 y2 y3; obtain ⟨⟨f0, f1, f2, f3⟩, z0, z1, z2, z3⟩ := S1.Blk4.facts b1; obtain ⟨⟨g0, g1, g2, g3⟩, y0, y1, y2, y3⟩ := b0.facts) | (go_at_call 25; (with_reducible refine (I.out _).mono ?_); rintro e w1 ⟨rfl, rfl⟩) | (go_at_call 41; (with_reducible refine (cI.out _ hB).mono ?_); rintro e w1 ⟨rfl, h1⟩; replace b0 := b0.bel h1; replace b1 := S1.Blk4.bel b1 h1; replace hB := hB.trans (h1.mono hB.size); clear h1; replace b0 := b0.alloc (.cells #[.int .u64 (S1.wd (spU [(c, d)]) 0), .int .u64 (S1.wd (spU [(c, d)]) 1), .int .u64 (S1.wd (spU [(c, d)]) 2), .int .u64 (S1.wd (spU [(c, d)]) 3)] 24); replace b1 := S1.Blk4.alloc b1 (.cells #[.int .u64 (S1.wd (spU [(c, d)]) 0), .int .u64 (S1.wd (spU [(c, d)]) 1), .int .u64 (S1.wd (spU [(c, d)]) 2), .int .u64 (S1.wd (spU [(c, d)]) 3)] 24); replace hB := hB.alloc hB.size (.cells #[.int .u64 (S1.wd (spU [(c, d)]) 0), .int .u64 (S1.wd (spU [(c, d)]) 1), .int .u64 (S1.wd (spU [(c, d)]) 2), .int .u64 (S1.wd (spU [(c, d)]) 3)] 24); clear f0 f1 f2 f3 z0 z1 z2 z3 g0 g1 g2 g3 y0 y1 y2 y3; obtain ⟨⟨f0, f1, f2, f3⟩, z0, z1, z2, z3⟩ := S1.Blk4.facts b1; obtain ⟨⟨g0, g1, g2, g3⟩, y0, y1, y2, y3⟩ := b0.facts) | (go_at_call 34; (with_reducible refine (cO.out _).mono ?_); rintro e w2 ⟨rfl, h1⟩; replace b0 := b0.bel h1; replace b1 := S1.Blk4.bel b1 h1; replace hB := hB.trans (h1.mono hB.size); clear h1; clear f0 f1 f2 f3 z0 z1 z2 z3 g0 g1 g2 g3 y0 y1 y2 y3; obtain ⟨⟨f0, f1, f2, f3⟩, z0, z1, z2, z3⟩ := S1.Blk4.facts b1; obtain ⟨⟨g0, g1, g2, g3⟩, y0, y1, y2, y3⟩ := b0.facts))
        have hfin := below_set4' hB (b := w.heap.size + 1) (by omega) (.int .u64 (S1.wd (spU (acc ++ [(c, d)])) 0)) (.int .u64 (S1.wd (spU (acc ++ [(c, d)])) 1)) (.int .u64 (S1.wd (spU (acc ++ [(c, d)])) 2)) (.int .u64 (S1.wd (spU (acc ++ [(c, d)])) 3))
        have hbx : SetBox _ (w.heap.size + 1) 24 (spU (acc ++ [(c, d)])) := S1.Blk4.set b1 (.int .u64 (S1.wd (spU (acc ++ [(c, d)])) 0)) (.int .u64 (S1.wd (spU (acc ++ [(c, d)])) 1)) (.int .u64 (S1.wd (spU (acc ++ [(c, d)])) 2)) (.int .u64 (S1.wd (spU (acc ++ [(c, d)])) 3))
        have hb0 := b0.other (b' := w.heap.size + 1) (by omega) (.int .u64 (S1.wd (spU (acc ++ [(c, d)])) 0)) (.int .u64 (S1.wd (spU (acc ++ [(c, d)])) 1)) (.int .u64 (S1.wd (spU (acc ++ [(c, d)])) 2)) (.int .u64 (S1.wd (spU (acc ++ [(c, d)])) 3))
        go_roundw
        case rel => exact ⟨m, acc ++ [(c, d)], ps, rfl, hn8, by rw [hne]; exact hps, by rw [← hP]; simp, hok2, hb0, hbx, hfin⟩
        case measure => simp [intOf]; omega
end Go.Proofs.YtaahefhiiggagaaDoor
