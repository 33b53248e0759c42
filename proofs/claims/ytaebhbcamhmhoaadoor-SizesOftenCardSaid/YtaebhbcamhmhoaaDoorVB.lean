/- Texts merged: S9V5, S9V6. -/

import Derived.Test.YtaebhbcamhmhoaaDoorVA
namespace Go.Proofs.YtaebhbcamhmhoaaDoor
open Go.RowKit
open Go.Tree7
open S7
open S5 (nl nl_length nl_small at_nl nl_at Gives idx idx_at ix ix_no ix_yes)
theorem new_three (w : World) (c0 c1 c2 : Array Value) (t0 t1 t2 : TypeId) : (((w.alloc (.cells c0 t0)).alloc (.cells c1 t1)).alloc (.cells c2 t2)).heap[w.heap.size]? = some (.cells c0 t0 (0, 0)) ∧ (((w.alloc (.cells c0 t0)).alloc (.cells c1 t1)).alloc (.cells c2 t2)).heap[w.heap.size + 1]? = some (.cells c1 t1 (0, 0)) ∧
    (((w.alloc (.cells c0 t0)).alloc (.cells c1 t1)).alloc (.cells c2 t2)).heap[w.heap.size + 1 + 1]? = some (.cells c2 t2 (0, 0)) ∧ Below w.heap.size w (((w.alloc (.cells c0 t0)).alloc (.cells c1 t1)).alloc (.cells c2 t2)) := by
  obtain ⟨h0, h1, h3⟩ := two_new w c0 c1 t0 t1
  have h2 := World.alloc_heap_new ((w.alloc (.cells c0 t0)).alloc (.cells c1 t1)) (.cells c2 t2)
  rw [World.size_alloc, World.size_alloc] at h2
  exact ⟨kept_alloc9 h0 _, kept_alloc9 h1 _, h2, h3.alloc (by simp; omega) _⟩
set_option maxHeartbeats 4000000 in
theorem or_left {lo hi lo' hi' : Int} (F G H F' G' H' : Nat → Bool) (h : lo = -1) (w : World) : Calls Tryd.prog 61 #[.agg #[.int .i64 lo, .int .i64 hi, .int .u64 (S1.wd (F) 0), .int .u64 (S1.wd (F) 1), .int .u64 (S1.wd (F) 2), .int .u64 (S1.wd (F) 3), .int .u64 (S1.wd (G) 0), .int .u64 (S1.wd (G) 1), .int .u64 (S1.wd (G) 2), .int .u64 (S1.wd (G) 3), .int .u64 (S1.wd (H) 0), .int .u64 (S1.wd (H) 1), .int .u64 (S1.wd (H) 2), .int .u64 (S1.wd (H) 3)], .agg #[.int .i64 lo', .int .i64 hi', .int .u64 (S1.wd (F') 0), .int .u64 (S1.wd (F') 1), .int .u64 (S1.wd (F') 2), .int .u64 (S1.wd (F') 3), .int .u64 (S1.wd (G') 0), .int .u64 (S1.wd (G') 1), .int .u64 (S1.wd (G') 2), .int .u64 (S1.wd (G') 3), .int .u64 (S1.wd (H') 0), .int .u64 (S1.wd (H') 1), .int .u64 (S1.wd (H') 2), .int .u64 (S1.wd (H') 3)]] w fun e w' => e = .returned (.agg #[.int .i64 lo', .int .i64 hi', .int .u64 (S1.wd (F') 0), .int .u64 (S1.wd (F') 1), .int .u64 (S1.wd (F') 2), .int .u64 (S1.wd (F') 3), .int .u64 (S1.wd (G') 0), .int .u64 (S1.wd (G') 1), .int .u64 (S1.wd (G') 2), .int .u64 (S1.wd (G') 3), .int .u64 (S1.wd (H') 0), .int .u64 (S1.wd (H') 1), .int .u64 (S1.wd (H') 2), .int .u64 (S1.wd (H') 3)]) ∧ Below w.heap.size w w' := by
  have hV := fun w => lvoid_in ⟨lo, hi, F, G, H⟩ w
  simp only at hV
  rw [show (lo == -1) = true by rw [beq_iff_eq]; exact h] at hV
  obtain ⟨hx, hm, hr, hbel⟩ := new_three w #[.int .i64 lo, .int .i64 hi, .int .u64 (S1.wd (F) 0), .int .u64 (S1.wd (F) 1), .int .u64 (S1.wd (F) 2), .int .u64 (S1.wd (F) 3), .int .u64 (S1.wd (G) 0), .int .u64 (S1.wd (G) 1), .int .u64 (S1.wd (G) 2), .int .u64 (S1.wd (G) 3), .int .u64 (S1.wd (H) 0), .int .u64 (S1.wd (H) 1), .int .u64 (S1.wd (H) 2), .int .u64 (S1.wd (H) 3)] #[.int .i64 lo', .int .i64 hi', .int .u64 (S1.wd (F') 0), .int .u64 (S1.wd (F') 1), .int .u64 (S1.wd (F') 2), .int .u64 (S1.wd (F') 3), .int .u64 (S1.wd (G') 0), .int .u64 (S1.wd (G') 1), .int .u64 (S1.wd (G') 2), .int .u64 (S1.wd (G') 3), .int .u64 (S1.wd (H') 0), .int .u64 (S1.wd (H') 1), .int .u64 (S1.wd (H') 2), .int .u64 (S1.wd (H') 3)] #[.int .i64 0, .int .i64 0, .int .u64 0, .int .u64 0, .int .u64 0, .int .u64 0, .int .u64 0, .int .u64 0, .int .u64 0, .int .u64 0, .int .u64 0, .int .u64 0, .int .u64 0, .int .u64 0] 57 57 57
  replace hV := Lib.hid hV
  replace hbel := Lib.hid hbel
  replace hr := Lib.hid hr
  replace hx := Lib.hid hx
  replace hm := Lib.hid hm
  clear h
  go_enter Tryd.func61, Tryd.ntmps61
  go_wp2_with (go_at_call 32; (with_reducible refine (hV.out _).mono ?_); rintro e w1 ⟨rfl, hb1⟩; replace hx := Lib.hid (kept_row hx.out hb1); replace hm := Lib.hid (kept_row hm.out hb1); replace hr := Lib.hid (kept_row hr.out hb1); replace hbel := Lib.hid (hbel.out.trans (hb1.mono hbel.out.size)); clear hb1; (try (clear x0 x1 x2 x3 x4 x5 x6 x7 x8 x9 x10 x11 x12 x13)); (try (clear m0 m1 m2 m3 m4 m5 m6 m7 m8 m9 m10 m11 m12 m13)); (try (clear y0 y1 y2 y3 y4 y5 y6 y7 y8 y9 y10 y11 y12 y13 f0 f1 f2 f3 f4 f5 f6 f7 f8 f9 f10 f11 f12 f13)); obtain ⟨m0, m1, m2, m3, m4, m5, m6, m7, m8, m9, m10, m11, m12, m13⟩ := c14 hm.out; obtain ⟨y0, f0, y1, f1, y2, f2, y3, f3, y4, f4, y5, f5, y6, f6, y7, f7, y8, f8, y9, f9, y10, f10, y11, f11, y12, f12, y13, f13⟩ := d14 hr.out)
  clear y0 y1 y2 y3 y4 y5 y6 y7 y8 y9 y10 y11 y12 y13 f0 f1 f2 f3 f4 f5 f6 f7 f8 f9 f10 f11 f12 f13
  clear m0 m1 m2 m3 m4 m5 m6 m7 m8 m9 m10 m11 m12 m13
  obtain ⟨q1, q2, q3, q4⟩ := set14 (d0 := .int .i64 lo') (d1 := .int .i64 hi') (d2 := .int .u64 (S1.wd (F') 0)) (d3 := .int .u64 (S1.wd (F') 1)) (d4 := .int .u64 (S1.wd (F') 2)) (d5 := .int .u64 (S1.wd (F') 3)) (d6 := .int .u64 (S1.wd (G') 0)) (d7 := .int .u64 (S1.wd (G') 1)) (d8 := .int .u64 (S1.wd (G') 2)) (d9 := .int .u64 (S1.wd (G') 3)) (d10 := .int .u64 (S1.wd (H') 0)) (d11 := .int .u64 (S1.wd (H') 1)) (d12 := .int .u64 (S1.wd (H') 2)) (d13 := .int .u64 (S1.wd (H') 3)) hr.out _ rfl
  generalize hW : World.setCell _ (⟨w.heap.size + 1 + 1, 13, none⟩ : Addr) _ = W9 at *
  clear hW
  obtain ⟨o0, o1, o2, o3, o4, o5, o6, o7, o8, o9, o10, o11, o12, o13⟩ := c14 q1
  refine bodyPost_ret (v := .agg #[.int .i64 lo', .int .i64 hi', .int .u64 (S1.wd (F') 0), .int .u64 (S1.wd (F') 1), .int .u64 (S1.wd (F') 2), .int .u64 (S1.wd (F') 3), .int .u64 (S1.wd (G') 0), .int .u64 (S1.wd (G') 1), .int .u64 (S1.wd (G') 2), .int .u64 (S1.wd (G') 3), .int .u64 (S1.wd (H') 0), .int .u64 (S1.wd (H') 1), .int .u64 (S1.wd (H') 2), .int .u64 (S1.wd (H') 3)]) (by simp [results, Tryd.results61, go_sem, o0, o1, o2, o3, o4, o5, o6, o7, o8, o9, o10, o11, o12, o13]) rfl ?_
  exact ⟨rfl, hbel.out.trans (q4 _ (by omega))⟩
set_option maxHeartbeats 4000000 in
theorem or_right {lo hi lo' hi' : Int} (F G H F' G' H' : Nat → Bool) (h : 0 ≤ lo) (h' : lo' = -1) (w : World) : Calls Tryd.prog 61 #[.agg #[.int .i64 lo, .int .i64 hi, .int .u64 (S1.wd (F) 0), .int .u64 (S1.wd (F) 1), .int .u64 (S1.wd (F) 2), .int .u64 (S1.wd (F) 3), .int .u64 (S1.wd (G) 0), .int .u64 (S1.wd (G) 1), .int .u64 (S1.wd (G) 2), .int .u64 (S1.wd (G) 3), .int .u64 (S1.wd (H) 0), .int .u64 (S1.wd (H) 1), .int .u64 (S1.wd (H) 2), .int .u64 (S1.wd (H) 3)], .agg #[.int .i64 lo', .int .i64 hi', .int .u64 (S1.wd (F') 0), .int .u64 (S1.wd (F') 1), .int .u64 (S1.wd (F') 2), .int .u64 (S1.wd (F') 3), .int .u64 (S1.wd (G') 0), .int .u64 (S1.wd (G') 1), .int .u64 (S1.wd (G') 2), .int .u64 (S1.wd (G') 3), .int .u64 (S1.wd (H') 0), .int .u64 (S1.wd (H') 1), .int .u64 (S1.wd (H') 2), .int .u64 (S1.wd (H') 3)]] w fun e w' => e = .returned (.agg #[.int .i64 lo, .int .i64 hi, .int .u64 (S1.wd (F) 0), .int .u64 (S1.wd (F) 1), .int .u64 (S1.wd (F) 2), .int .u64 (S1.wd (F) 3), .int .u64 (S1.wd (G) 0), .int .u64 (S1.wd (G) 1), .int .u64 (S1.wd (G) 2), .int .u64 (S1.wd (G) 3), .int .u64 (S1.wd (H) 0), .int .u64 (S1.wd (H) 1), .int .u64 (S1.wd (H) 2), .int .u64 (S1.wd (H) 3)]) ∧ Below w.heap.size w w' := by
  have hV := fun w => lvoid_in ⟨lo, hi, F, G, H⟩ w
  have hV' := fun w => lvoid_in ⟨lo', hi', F', G', H'⟩ w
  simp only at hV hV'
  rw [show (lo == -1) = false by rw [beq_eq_false_iff_ne]; omega] at hV
  rw [show (lo' == -1) = true by rw [beq_iff_eq]; exact h'] at hV'
  obtain ⟨hx, hm, hr, hbel⟩ := new_three w #[.int .i64 lo, .int .i64 hi, .int .u64 (S1.wd (F) 0), .int .u64 (S1.wd (F) 1), .int .u64 (S1.wd (F) 2), .int .u64 (S1.wd (F) 3), .int .u64 (S1.wd (G) 0), .int .u64 (S1.wd (G) 1), .int .u64 (S1.wd (G) 2), .int .u64 (S1.wd (G) 3), .int .u64 (S1.wd (H) 0), .int .u64 (S1.wd (H) 1), .int .u64 (S1.wd (H) 2), .int .u64 (S1.wd (H) 3)] #[.int .i64 lo', .int .i64 hi', .int .u64 (S1.wd (F') 0), .int .u64 (S1.wd (F') 1), .int .u64 (S1.wd (F') 2), .int .u64 (S1.wd (F') 3), .int .u64 (S1.wd (G') 0), .int .u64 (S1.wd (G') 1), .int .u64 (S1.wd (G') 2), .int .u64 (S1.wd (G') 3), .int .u64 (S1.wd (H') 0), .int .u64 (S1.wd (H') 1), .int .u64 (S1.wd (H') 2), .int .u64 (S1.wd (H') 3)] #[.int .i64 0, .int .i64 0, .int .u64 0, .int .u64 0, .int .u64 0, .int .u64 0, .int .u64 0, .int .u64 0, .int .u64 0, .int .u64 0, .int .u64 0, .int .u64 0, .int .u64 0, .int .u64 0] 57 57 57
  replace hV := Lib.hid hV
  replace hV' := Lib.hid hV'
  replace hbel := Lib.hid hbel
  replace hr := Lib.hid hr
  replace hx := Lib.hid hx
  replace hm := Lib.hid hm
  clear h h'
  go_enter Tryd.func61, Tryd.ntmps61
  go_wp2_with (first | (go_at_call 32; (with_reducible refine (hV.out _).mono ?_); rintro e w1 ⟨rfl, hb1⟩; replace hx := Lib.hid (kept_row hx.out hb1); replace hm := Lib.hid (kept_row hm.out hb1); replace hr := Lib.hid (kept_row hr.out hb1); replace hbel := Lib.hid (hbel.out.trans (hb1.mono hbel.out.size)); clear hb1; (try (clear x0 x1 x2 x3 x4 x5 x6 x7 x8 x9 x10 x11 x12 x13)); (try (clear m0 m1 m2 m3 m4 m5 m6 m7 m8 m9 m10 m11 m12 m13)); (try (clear y0 y1 y2 y3 y4 y5 y6 y7 y8 y9 y10 y11 y12 y13 f0 f1 f2 f3 f4 f5 f6 f7 f8 f9 f10 f11 f12 f13)); obtain ⟨m0, m1, m2, m3, m4, m5, m6, m7, m8, m9, m10, m11, m12, m13⟩ := c14 hm.out) | (go_at_call 32; (with_reducible refine (hV'.out _).mono ?_); rintro e w1 ⟨rfl, hb1⟩; replace hx := Lib.hid (kept_row hx.out hb1); replace hm := Lib.hid (kept_row hm.out hb1); replace hr := Lib.hid (kept_row hr.out hb1); replace hbel := Lib.hid (hbel.out.trans (hb1.mono hbel.out.size)); clear hb1; (try (clear x0 x1 x2 x3 x4 x5 x6 x7 x8 x9 x10 x11 x12 x13)); (try (clear m0 m1 m2 m3 m4 m5 m6 m7 m8 m9 m10 m11 m12 m13)); (try (clear y0 y1 y2 y3 y4 y5 y6 y7 y8 y9 y10 y11 y12 y13 f0 f1 f2 f3 f4 f5 f6 f7 f8 f9 f10 f11 f12 f13)); obtain ⟨x0, x1, x2, x3, x4, x5, x6, x7, x8, x9, x10, x11, x12, x13⟩ := c14 hx.out; obtain ⟨y0, f0, y1, f1, y2, f2, y3, f3, y4, f4, y5, f5, y6, f6, y7, f7, y8, f8, y9, f9, y10, f10, y11, f11, y12, f12, y13, f13⟩ := d14 hr.out))
  clear y0 y1 y2 y3 y4 y5 y6 y7 y8 y9 y10 y11 y12 y13 f0 f1 f2 f3 f4 f5 f6 f7 f8 f9 f10 f11 f12 f13
  clear x0 x1 x2 x3 x4 x5 x6 x7 x8 x9 x10 x11 x12 x13
  obtain ⟨q1, q2, q3, q4⟩ := set14 (d0 := .int .i64 lo) (d1 := .int .i64 hi) (d2 := .int .u64 (S1.wd (F) 0)) (d3 := .int .u64 (S1.wd (F) 1)) (d4 := .int .u64 (S1.wd (F) 2)) (d5 := .int .u64 (S1.wd (F) 3)) (d6 := .int .u64 (S1.wd (G) 0)) (d7 := .int .u64 (S1.wd (G) 1)) (d8 := .int .u64 (S1.wd (G) 2)) (d9 := .int .u64 (S1.wd (G) 3)) (d10 := .int .u64 (S1.wd (H) 0)) (d11 := .int .u64 (S1.wd (H) 1)) (d12 := .int .u64 (S1.wd (H) 2)) (d13 := .int .u64 (S1.wd (H) 3)) hr.out _ rfl
  generalize hW : World.setCell _ (⟨w.heap.size + 1 + 1, 13, none⟩ : Addr) _ = W9 at *
  clear hW
  obtain ⟨o0, o1, o2, o3, o4, o5, o6, o7, o8, o9, o10, o11, o12, o13⟩ := c14 q1
  refine bodyPost_ret (v := .agg #[.int .i64 lo, .int .i64 hi, .int .u64 (S1.wd (F) 0), .int .u64 (S1.wd (F) 1), .int .u64 (S1.wd (F) 2), .int .u64 (S1.wd (F) 3), .int .u64 (S1.wd (G) 0), .int .u64 (S1.wd (G) 1), .int .u64 (S1.wd (G) 2), .int .u64 (S1.wd (G) 3), .int .u64 (S1.wd (H) 0), .int .u64 (S1.wd (H) 1), .int .u64 (S1.wd (H) 2), .int .u64 (S1.wd (H) 3)]) (by simp [results, Tryd.results61, go_sem, o0, o1, o2, o3, o4, o5, o6, o7, o8, o9, o10, o11, o12, o13]) rfl ?_
  exact ⟨rfl, hbel.out.trans (q4 _ (by omega))⟩
end Go.Proofs.YtaebhbcamhmhoaaDoor
namespace Go.Proofs.YtaebhbcamhmhoaaDoor
open Go.RowKit
open Go.Tree7
open S7
open S5 (nl nl_length nl_small at_nl nl_at Gives idx idx_at ix ix_no ix_yes)
theorem arr_fs {c0 c1 c2 c3 c4 c5 c6 c7 c8 c9 c10 c11 c12 c13 d0 d1 d2 d3 : Value} : ((((#[c0, c1, c2, c3, c4, c5, c6, c7, c8, c9, c10, c11, c12, c13].setIfInBounds 2 d0).setIfInBounds 3 d1).setIfInBounds 4 d2).setIfInBounds 5 d3) = #[c0, c1, d0, d1, d2, d3, c6, c7, c8, c9, c10, c11, c12, c13] := by simp only [List.setIfInBounds_toArray, List.set_cons_zero, List.set_cons_succ]
theorem set_fs {w : World} {b : Nat} {c0 c1 c2 c3 c4 c5 c6 c7 c8 c9 c10 c11 c12 c13 d0 d1 d2 d3 : Value} {t : TypeId} (h : w.heap[b]? = some (.cells #[c0, c1, c2, c3, c4, c5, c6, c7, c8, c9, c10, c11, c12, c13] t (0, 0))) (W : World) (hW : W = ((((w.setCell ⟨b, 2, none⟩ d0).setCell ⟨b, 3, none⟩ d1).setCell ⟨b, 4, none⟩ d2).setCell ⟨b, 5, none⟩ d3)) :
    W.heap[b]? = some (.cells #[c0, c1, d0, d1, d2, d3, c6, c7, c8, c9, c10, c11, c12, c13] t (0, 0)) ∧ W.heap.size = w.heap.size ∧ (∀ k, k ≠ b → W.heap[k]? = w.heap[k]?) ∧ ∀ n, n ≤ b → Below n w W := by
  have a0 := box_set h 2 d0
  have a1 := box_set a0 3 d1
  have a2 := box_set a1 4 d2
  have a3 := box_set a2 5 d3
  rw [arr_fs, ← hW] at a3
  refine ⟨a3, by rw [hW]; simp only [size_set], fun k hk => ?_, fun n hn => ?_⟩
  · rw [hW]
    iterate 4 rw [Below.heap_setCell _ _ _ _ hk]
  · rw [hW]
    have s0 := (Below.refl n w).setCell (p := ⟨b, 2, none⟩) hn d0
    have s1 := s0.setCell (p := ⟨b, 3, none⟩) hn d1
    have s2 := s1.setCell (p := ⟨b, 4, none⟩) hn d2
    exact s2.setCell (p := ⟨b, 5, none⟩) hn d3
theorem arr_ls {c0 c1 c2 c3 c4 c5 c6 c7 c8 c9 c10 c11 c12 c13 d0 d1 d2 d3 : Value} : ((((#[c0, c1, c2, c3, c4, c5, c6, c7, c8, c9, c10, c11, c12, c13].setIfInBounds 6 d0).setIfInBounds 7 d1).setIfInBounds 8 d2).setIfInBounds 9 d3) = #[c0, c1, c2, c3, c4, c5, d0, d1, d2, d3, c10, c11, c12, c13] := by simp only [List.setIfInBounds_toArray, List.set_cons_zero, List.set_cons_succ]
theorem set_ls {w : World} {b : Nat} {c0 c1 c2 c3 c4 c5 c6 c7 c8 c9 c10 c11 c12 c13 d0 d1 d2 d3 : Value} {t : TypeId} (h : w.heap[b]? = some (.cells #[c0, c1, c2, c3, c4, c5, c6, c7, c8, c9, c10, c11, c12, c13] t (0, 0))) (W : World) (hW : W = ((((w.setCell ⟨b, 6, none⟩ d0).setCell ⟨b, 7, none⟩ d1).setCell ⟨b, 8, none⟩ d2).setCell ⟨b, 9, none⟩ d3)) :
    W.heap[b]? = some (.cells #[c0, c1, c2, c3, c4, c5, d0, d1, d2, d3, c10, c11, c12, c13] t (0, 0)) ∧ W.heap.size = w.heap.size ∧ (∀ k, k ≠ b → W.heap[k]? = w.heap[k]?) ∧ ∀ n, n ≤ b → Below n w W := by
  have a0 := box_set h 6 d0
  have a1 := box_set a0 7 d1
  have a2 := box_set a1 8 d2
  have a3 := box_set a2 9 d3
  rw [arr_ls, ← hW] at a3
  refine ⟨a3, by rw [hW]; simp only [size_set], fun k hk => ?_, fun n hn => ?_⟩
  · rw [hW]
    iterate 4 rw [Below.heap_setCell _ _ _ _ hk]
  · rw [hW]
    have s0 := (Below.refl n w).setCell (p := ⟨b, 6, none⟩) hn d0
    have s1 := s0.setCell (p := ⟨b, 7, none⟩) hn d1
    have s2 := s1.setCell (p := ⟨b, 8, none⟩) hn d2
    exact s2.setCell (p := ⟨b, 9, none⟩) hn d3
set_option maxHeartbeats 4000000 in
theorem then_left {lo hi lo' hi' : Int} (F G H F' G' H' : Nat → Bool) (h : lo = -1) (w : World) : Calls Tryd.prog 60 #[.agg #[.int .i64 lo, .int .i64 hi, .int .u64 (S1.wd (F) 0), .int .u64 (S1.wd (F) 1), .int .u64 (S1.wd (F) 2), .int .u64 (S1.wd (F) 3), .int .u64 (S1.wd (G) 0), .int .u64 (S1.wd (G) 1), .int .u64 (S1.wd (G) 2), .int .u64 (S1.wd (G) 3), .int .u64 (S1.wd (H) 0), .int .u64 (S1.wd (H) 1), .int .u64 (S1.wd (H) 2), .int .u64 (S1.wd (H) 3)], .agg #[.int .i64 lo', .int .i64 hi', .int .u64 (S1.wd (F') 0), .int .u64 (S1.wd (F') 1), .int .u64 (S1.wd (F') 2), .int .u64 (S1.wd (F') 3), .int .u64 (S1.wd (G') 0), .int .u64 (S1.wd (G') 1), .int .u64 (S1.wd (G') 2), .int .u64 (S1.wd (G') 3), .int .u64 (S1.wd (H') 0), .int .u64 (S1.wd (H') 1), .int .u64 (S1.wd (H') 2), .int .u64 (S1.wd (H') 3)]] w fun e w' => e = .returned (.agg #[.int .i64 voidL.lo, .int .i64 voidL.hi, .int .u64 (S1.wd (voidL.fs) 0), .int .u64 (S1.wd (voidL.fs) 1), .int .u64 (S1.wd (voidL.fs) 2), .int .u64 (S1.wd (voidL.fs) 3), .int .u64 (S1.wd (voidL.ls) 0), .int .u64 (S1.wd (voidL.ls) 1), .int .u64 (S1.wd (voidL.ls) 2), .int .u64 (S1.wd (voidL.ls) 3), .int .u64 (S1.wd (voidL.al) 0), .int .u64 (S1.wd (voidL.al) 1), .int .u64 (S1.wd (voidL.al) 2), .int .u64 (S1.wd (voidL.al) 3)]) ∧ Below w.heap.size w w' := by
  have hV := fun w => lvoid_in ⟨lo, hi, F, G, H⟩ w
  simp only at hV
  rw [show (lo == -1) = true by rw [beq_iff_eq]; exact h] at hV
  have cE := fun w => void9_in w
  rw [voidL_v] at cE ⊢
  obtain ⟨hx, hm, hr, hbel⟩ := new_three w #[.int .i64 lo, .int .i64 hi, .int .u64 (S1.wd (F) 0), .int .u64 (S1.wd (F) 1), .int .u64 (S1.wd (F) 2), .int .u64 (S1.wd (F) 3), .int .u64 (S1.wd (G) 0), .int .u64 (S1.wd (G) 1), .int .u64 (S1.wd (G) 2), .int .u64 (S1.wd (G) 3), .int .u64 (S1.wd (H) 0), .int .u64 (S1.wd (H) 1), .int .u64 (S1.wd (H) 2), .int .u64 (S1.wd (H) 3)] #[.int .i64 lo', .int .i64 hi', .int .u64 (S1.wd (F') 0), .int .u64 (S1.wd (F') 1), .int .u64 (S1.wd (F') 2), .int .u64 (S1.wd (F') 3), .int .u64 (S1.wd (G') 0), .int .u64 (S1.wd (G') 1), .int .u64 (S1.wd (G') 2), .int .u64 (S1.wd (G') 3), .int .u64 (S1.wd (H') 0), .int .u64 (S1.wd (H') 1), .int .u64 (S1.wd (H') 2), .int .u64 (S1.wd (H') 3)] #[.int .i64 0, .int .i64 0, .int .u64 0, .int .u64 0, .int .u64 0, .int .u64 0, .int .u64 0, .int .u64 0, .int .u64 0, .int .u64 0, .int .u64 0, .int .u64 0, .int .u64 0, .int .u64 0] 57 57 57
  replace hV := Lib.hid hV
  replace cE := Lib.hid cE
  replace hbel := Lib.hid hbel
  replace hr := Lib.hid hr
  replace hx := Lib.hid hx
  replace hm := Lib.hid hm
  clear h
  go_enter Tryd.func60, Tryd.ntmps60
  go_wp2_with (first | (go_at_call 32; (with_reducible refine (hV.out _).mono ?_); rintro e w1 ⟨rfl, hb1⟩; replace hx := Lib.hid (kept_row hx.out hb1); replace hm := Lib.hid (kept_row hm.out hb1); replace hr := Lib.hid (kept_row hr.out hb1); replace hbel := Lib.hid (hbel.out.trans (hb1.mono hbel.out.size)); clear hb1; (try (clear x0 x1 x2 x3 x4 x5 x6 x7 x8 x9 x10 x11 x12 x13)); (try (clear m0 m1 m2 m3 m4 m5 m6 m7 m8 m9 m10 m11 m12 m13)); (try (clear y0 y1 y2 y3 y4 y5 y6 y7 y8 y9 y10 y11 y12 y13 f0 f1 f2 f3 f4 f5 f6 f7 f8 f9 f10 f11 f12 f13)); skip) | (go_at_call 42; (with_reducible refine (cE.out _).mono ?_); rintro e w2 ⟨rfl, hb2⟩; replace hx := Lib.hid (kept_row hx.out hb2); replace hm := Lib.hid (kept_row hm.out hb2); replace hr := Lib.hid (kept_row hr.out hb2); replace hbel := Lib.hid (hbel.out.trans (hb2.mono hbel.out.size)); clear hb2; obtain ⟨y0, f0, y1, f1, y2, f2, y3, f3, y4, f4, y5, f5, y6, f6, y7, f7, y8, f8, y9, f9, y10, f10, y11, f11, y12, f12, y13, f13⟩ := d14 hr.out))
  clear y0 y1 y2 y3 y4 y5 y6 y7 y8 y9 y10 y11 y12 y13 f0 f1 f2 f3 f4 f5 f6 f7 f8 f9 f10 f11 f12 f13
  obtain ⟨q1, q2, q3, q4⟩ := set14 (d0 := .int .i64 (-1)) (d1 := .int .i64 (-1)) (d2 := .int .u64 0) (d3 := .int .u64 0) (d4 := .int .u64 0) (d5 := .int .u64 0) (d6 := .int .u64 0) (d7 := .int .u64 0) (d8 := .int .u64 0) (d9 := .int .u64 0) (d10 := .int .u64 0) (d11 := .int .u64 0) (d12 := .int .u64 0) (d13 := .int .u64 0) hr.out _ rfl
  generalize hW : World.setCell _ (⟨w.heap.size + 1 + 1, 13, none⟩ : Addr) _ = W9 at *
  clear hW
  obtain ⟨o0, o1, o2, o3, o4, o5, o6, o7, o8, o9, o10, o11, o12, o13⟩ := c14 q1
  refine bodyPost_ret (v := .agg #[.int .i64 (-1), .int .i64 (-1), .int .u64 0, .int .u64 0, .int .u64 0, .int .u64 0, .int .u64 0, .int .u64 0, .int .u64 0, .int .u64 0, .int .u64 0, .int .u64 0, .int .u64 0, .int .u64 0]) (by simp [results, Tryd.results60, go_sem, o0, o1, o2, o3, o4, o5, o6, o7, o8, o9, o10, o11, o12, o13]) rfl ?_
  exact ⟨rfl, hbel.out.trans (q4 _ (by omega))⟩
set_option maxHeartbeats 4000000 in
theorem then_right {lo hi lo' hi' : Int} (F G H F' G' H' : Nat → Bool) (h : 0 ≤ lo) (h' : lo' = -1) (w : World) : Calls Tryd.prog 60 #[.agg #[.int .i64 lo, .int .i64 hi, .int .u64 (S1.wd (F) 0), .int .u64 (S1.wd (F) 1), .int .u64 (S1.wd (F) 2), .int .u64 (S1.wd (F) 3), .int .u64 (S1.wd (G) 0), .int .u64 (S1.wd (G) 1), .int .u64 (S1.wd (G) 2), .int .u64 (S1.wd (G) 3), .int .u64 (S1.wd (H) 0), .int .u64 (S1.wd (H) 1), .int .u64 (S1.wd (H) 2), .int .u64 (S1.wd (H) 3)], .agg #[.int .i64 lo', .int .i64 hi', .int .u64 (S1.wd (F') 0), .int .u64 (S1.wd (F') 1), .int .u64 (S1.wd (F') 2), .int .u64 (S1.wd (F') 3), .int .u64 (S1.wd (G') 0), .int .u64 (S1.wd (G') 1), .int .u64 (S1.wd (G') 2), .int .u64 (S1.wd (G') 3), .int .u64 (S1.wd (H') 0), .int .u64 (S1.wd (H') 1), .int .u64 (S1.wd (H') 2), .int .u64 (S1.wd (H') 3)]] w fun e w' => e = .returned (.agg #[.int .i64 voidL.lo, .int .i64 voidL.hi, .int .u64 (S1.wd (voidL.fs) 0), .int .u64 (S1.wd (voidL.fs) 1), .int .u64 (S1.wd (voidL.fs) 2), .int .u64 (S1.wd (voidL.fs) 3), .int .u64 (S1.wd (voidL.ls) 0), .int .u64 (S1.wd (voidL.ls) 1), .int .u64 (S1.wd (voidL.ls) 2), .int .u64 (S1.wd (voidL.ls) 3), .int .u64 (S1.wd (voidL.al) 0), .int .u64 (S1.wd (voidL.al) 1), .int .u64 (S1.wd (voidL.al) 2), .int .u64 (S1.wd (voidL.al) 3)]) ∧ Below w.heap.size w w' := by
  have hV := fun w => lvoid_in ⟨lo, hi, F, G, H⟩ w
  have hV' := fun w => lvoid_in ⟨lo', hi', F', G', H'⟩ w
  simp only at hV hV'
  rw [show (lo == -1) = false by rw [beq_eq_false_iff_ne]; omega] at hV
  rw [show (lo' == -1) = true by rw [beq_iff_eq]; exact h'] at hV'
  have cE := fun w => void9_in w
  rw [voidL_v] at cE ⊢
  obtain ⟨hx, hm, hr, hbel⟩ := new_three w #[.int .i64 lo, .int .i64 hi, .int .u64 (S1.wd (F) 0), .int .u64 (S1.wd (F) 1), .int .u64 (S1.wd (F) 2), .int .u64 (S1.wd (F) 3), .int .u64 (S1.wd (G) 0), .int .u64 (S1.wd (G) 1), .int .u64 (S1.wd (G) 2), .int .u64 (S1.wd (G) 3), .int .u64 (S1.wd (H) 0), .int .u64 (S1.wd (H) 1), .int .u64 (S1.wd (H) 2), .int .u64 (S1.wd (H) 3)] #[.int .i64 lo', .int .i64 hi', .int .u64 (S1.wd (F') 0), .int .u64 (S1.wd (F') 1), .int .u64 (S1.wd (F') 2), .int .u64 (S1.wd (F') 3), .int .u64 (S1.wd (G') 0), .int .u64 (S1.wd (G') 1), .int .u64 (S1.wd (G') 2), .int .u64 (S1.wd (G') 3), .int .u64 (S1.wd (H') 0), .int .u64 (S1.wd (H') 1), .int .u64 (S1.wd (H') 2), .int .u64 (S1.wd (H') 3)] #[.int .i64 0, .int .i64 0, .int .u64 0, .int .u64 0, .int .u64 0, .int .u64 0, .int .u64 0, .int .u64 0, .int .u64 0, .int .u64 0, .int .u64 0, .int .u64 0, .int .u64 0, .int .u64 0] 57 57 57
  replace hV := Lib.hid hV
  replace hV' := Lib.hid hV'
  replace cE := Lib.hid cE
  replace hbel := Lib.hid hbel
  replace hr := Lib.hid hr
  replace hx := Lib.hid hx
  replace hm := Lib.hid hm
  clear h h'
  go_enter Tryd.func60, Tryd.ntmps60
  go_wp2_with (first | (go_at_call 32; (with_reducible refine (hV.out _).mono ?_); rintro e w1 ⟨rfl, hb1⟩; replace hx := Lib.hid (kept_row hx.out hb1); replace hm := Lib.hid (kept_row hm.out hb1); replace hr := Lib.hid (kept_row hr.out hb1); replace hbel := Lib.hid (hbel.out.trans (hb1.mono hbel.out.size)); clear hb1; (try (clear x0 x1 x2 x3 x4 x5 x6 x7 x8 x9 x10 x11 x12 x13)); (try (clear m0 m1 m2 m3 m4 m5 m6 m7 m8 m9 m10 m11 m12 m13)); (try (clear y0 y1 y2 y3 y4 y5 y6 y7 y8 y9 y10 y11 y12 y13 f0 f1 f2 f3 f4 f5 f6 f7 f8 f9 f10 f11 f12 f13)); obtain ⟨m0, m1, m2, m3, m4, m5, m6, m7, m8, m9, m10, m11, m12, m13⟩ := c14 hm.out) | (go_at_call 32; (with_reducible refine (hV'.out _).mono ?_); rintro e w1 ⟨rfl, hb1⟩; replace hx := Lib.hid (kept_row hx.out hb1); replace hm := Lib.hid (kept_row hm.out hb1); replace hr := Lib.hid (kept_row hr.out hb1); replace hbel := Lib.hid (hbel.out.trans (hb1.mono hbel.out.size)); clear hb1; (try (clear x0 x1 x2 x3 x4 x5 x6 x7 x8 x9 x10 x11 x12 x13)); (try (clear m0 m1 m2 m3 m4 m5 m6 m7 m8 m9 m10 m11 m12 m13)); (try (clear y0 y1 y2 y3 y4 y5 y6 y7 y8 y9 y10 y11 y12 y13 f0 f1 f2 f3 f4 f5 f6 f7 f8 f9 f10 f11 f12 f13)); skip) | (go_at_call 42; (with_reducible refine (cE.out _).mono ?_); rintro e w2 ⟨rfl, hb2⟩; replace hx := Lib.hid (kept_row hx.out hb2); replace hm := Lib.hid (kept_row hm.out hb2); replace hr := Lib.hid (kept_row hr.out hb2); replace hbel := Lib.hid (hbel.out.trans (hb2.mono hbel.out.size)); clear hb2; obtain ⟨y0, f0, y1, f1, y2, f2, y3, f3, y4, f4, y5, f5, y6, f6, y7, f7, y8, f8, y9, f9, y10, f10, y11, f11, y12, f12, y13, f13⟩ := d14 hr.out))
  clear y0 y1 y2 y3 y4 y5 y6 y7 y8 y9 y10 y11 y12 y13 f0 f1 f2 f3 f4 f5 f6 f7 f8 f9 f10 f11 f12 f13
  obtain ⟨q1, q2, q3, q4⟩ := set14 (d0 := .int .i64 (-1)) (d1 := .int .i64 (-1)) (d2 := .int .u64 0) (d3 := .int .u64 0) (d4 := .int .u64 0) (d5 := .int .u64 0) (d6 := .int .u64 0) (d7 := .int .u64 0) (d8 := .int .u64 0) (d9 := .int .u64 0) (d10 := .int .u64 0) (d11 := .int .u64 0) (d12 := .int .u64 0) (d13 := .int .u64 0) hr.out _ rfl
  generalize hW : World.setCell _ (⟨w.heap.size + 1 + 1, 13, none⟩ : Addr) _ = W9 at *
  clear hW
  obtain ⟨o0, o1, o2, o3, o4, o5, o6, o7, o8, o9, o10, o11, o12, o13⟩ := c14 q1
  refine bodyPost_ret (v := .agg #[.int .i64 (-1), .int .i64 (-1), .int .u64 0, .int .u64 0, .int .u64 0, .int .u64 0, .int .u64 0, .int .u64 0, .int .u64 0, .int .u64 0, .int .u64 0, .int .u64 0, .int .u64 0, .int .u64 0]) (by simp [results, Tryd.results60, go_sem, o0, o1, o2, o3, o4, o5, o6, o7, o8, o9, o10, o11, o12, o13]) rfl ?_
  exact ⟨rfl, hbel.out.trans (q4 _ (by omega))⟩
end Go.Proofs.YtaebhbcamhmhoaaDoor
