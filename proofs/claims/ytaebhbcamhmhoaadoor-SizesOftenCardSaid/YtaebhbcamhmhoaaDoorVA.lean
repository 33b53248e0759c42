/- Texts merged: S9V3, S9V4. -/

import Derived.Test.YtaebhbcamhmhoaaDoorMB
namespace Go.Proofs.YtaebhbcamhmhoaaDoor
open Go.RowKit
open Go.Tree7
open S7
open S5 (nl nl_length nl_small at_nl nl_at Gives idx idx_at ix ix_no ix_yes)
set_option maxHeartbeats 1000000 in
theorem lvoid_in (L : Lg) (w : World) : Calls Tryd.prog 32 #[(.agg #[.int .i64 L.lo, .int .i64 L.hi, .int .u64 (S1.wd (L.fs) 0), .int .u64 (S1.wd (L.fs) 1), .int .u64 (S1.wd (L.fs) 2), .int .u64 (S1.wd (L.fs) 3), .int .u64 (S1.wd (L.ls) 0), .int .u64 (S1.wd (L.ls) 1), .int .u64 (S1.wd (L.ls) 2), .int .u64 (S1.wd (L.ls) 3), .int .u64 (S1.wd (L.al) 0), .int .u64 (S1.wd (L.al) 1), .int .u64 (S1.wd (L.al) 2), .int .u64 (S1.wd (L.al) 3)])] w fun e w' => e = .returned (.bool (L.lo == -1)) ∧ Below w.heap.size w w' := by
  go_enter Tryd.func32, Tryd.ntmps32
  go_wp2
  go_ret
  exact ⟨rfl, (Below.refl _ _).alloc (Nat.le_refl _) _⟩
set_option maxHeartbeats 1000000 in
theorem lnull_in (L : Lg) (w : World) : Calls Tryd.prog 33 #[(.agg #[.int .i64 L.lo, .int .i64 L.hi, .int .u64 (S1.wd (L.fs) 0), .int .u64 (S1.wd (L.fs) 1), .int .u64 (S1.wd (L.fs) 2), .int .u64 (S1.wd (L.fs) 3), .int .u64 (S1.wd (L.ls) 0), .int .u64 (S1.wd (L.ls) 1), .int .u64 (S1.wd (L.ls) 2), .int .u64 (S1.wd (L.ls) 3), .int .u64 (S1.wd (L.al) 0), .int .u64 (S1.wd (L.al) 1), .int .u64 (S1.wd (L.al) 2), .int .u64 (S1.wd (L.al) 3)])] w fun e w' => e = .returned (.bool (L.lo == 0)) ∧ Below w.heap.size w w' := by
  go_enter Tryd.func33, Tryd.ntmps33
  go_wp2
  go_ret
  exact ⟨rfl, (Below.refl _ _).alloc (Nat.le_refl _) _⟩
set_option maxHeartbeats 1000000 in
theorem lim_in (x : Int) (w : World) : Calls Tryd.prog 49 #[.int .i64 x] w fun e w' => e = .returned (.int .i64 (cut20 x)) ∧ Below w.heap.size w w' := by
  obtain ⟨Q, hQ⟩ : ∃ Q, (if (1048576 : Int) < x then 1048576 else x) = Q := ⟨_, rfl⟩
  have hc : Q = cut20 x := by rw [← hQ]; unfold cut20; rfl
  rw [← hc]
  clear hc
  go_enter Tryd.func49, Tryd.ntmps49
  go_wp2
  go_ret
  all_goals exact ⟨rfl, Below.refl _ _⟩
theorem voidL_v : (Value.agg #[.int .i64 voidL.lo, .int .i64 voidL.hi, .int .u64 (S1.wd (voidL.fs) 0), .int .u64 (S1.wd (voidL.fs) 1), .int .u64 (S1.wd (voidL.fs) 2), .int .u64 (S1.wd (voidL.fs) 3), .int .u64 (S1.wd (voidL.ls) 0), .int .u64 (S1.wd (voidL.ls) 1), .int .u64 (S1.wd (voidL.ls) 2), .int .u64 (S1.wd (voidL.ls) 3), .int .u64 (S1.wd (voidL.al) 0), .int .u64 (S1.wd (voidL.al) 1), .int .u64 (S1.wd (voidL.al) 2), .int .u64 (S1.wd (voidL.al) 3)]) = .agg #[.int .i64 (-1), .int .i64 (-1), .int .u64 0, .int .u64 0, .int .u64 0, .int .u64 0, .int .u64 0, .int .u64 0, .int .u64 0, .int .u64 0, .int .u64 0, .int .u64 0, .int .u64 0, .int .u64 0] := by
  have hz := fun k => S1.no_wd k
  unfold voidL
  simp only [hz]
  rfl
theorem zeroL_v : (Value.agg #[.int .i64 zeroL.lo, .int .i64 zeroL.hi, .int .u64 (S1.wd (zeroL.fs) 0), .int .u64 (S1.wd (zeroL.fs) 1), .int .u64 (S1.wd (zeroL.fs) 2), .int .u64 (S1.wd (zeroL.fs) 3), .int .u64 (S1.wd (zeroL.ls) 0), .int .u64 (S1.wd (zeroL.ls) 1), .int .u64 (S1.wd (zeroL.ls) 2), .int .u64 (S1.wd (zeroL.ls) 3), .int .u64 (S1.wd (zeroL.al) 0), .int .u64 (S1.wd (zeroL.al) 1), .int .u64 (S1.wd (zeroL.al) 2), .int .u64 (S1.wd (zeroL.al) 3)]) = .agg #[.int .i64 0, .int .i64 0, .int .u64 0, .int .u64 0, .int .u64 0, .int .u64 0, .int .u64 0, .int .u64 0, .int .u64 0, .int .u64 0, .int .u64 0, .int .u64 0, .int .u64 0, .int .u64 0] := by
  have hz := fun k => S1.no_wd k
  unfold zeroL
  simp only [hz]
  rfl
set_option maxHeartbeats 1000000 in
theorem void9_in (w : World) : Calls Tryd.prog 42 #[] w fun e w' => e = .returned (.agg #[.int .i64 voidL.lo, .int .i64 voidL.hi, .int .u64 (S1.wd (voidL.fs) 0), .int .u64 (S1.wd (voidL.fs) 1), .int .u64 (S1.wd (voidL.fs) 2), .int .u64 (S1.wd (voidL.fs) 3), .int .u64 (S1.wd (voidL.ls) 0), .int .u64 (S1.wd (voidL.ls) 1), .int .u64 (S1.wd (voidL.ls) 2), .int .u64 (S1.wd (voidL.ls) 3), .int .u64 (S1.wd (voidL.al) 0), .int .u64 (S1.wd (voidL.al) 1), .int .u64 (S1.wd (voidL.al) 2), .int .u64 (S1.wd (voidL.al) 3)]) ∧ Below w.heap.size w w' := by
  rw [voidL_v]
  go_enter Tryd.func42, Tryd.ntmps42
  go_wp2
  have hk := World.alloc_heap_new w (.cells #[.int .i64 (-1), .int .i64 (-1), .int .u64 0, .int .u64 0, .int .u64 0, .int .u64 0, .int .u64 0, .int .u64 0, .int .u64 0, .int .u64 0, .int .u64 0, .int .u64 0, .int .u64 0, .int .u64 0] 57)
  obtain ⟨o0, o1, o2, o3, o4, o5, o6, o7, o8, o9, o10, o11, o12, o13⟩ := c14 hk
  refine bodyPost_ret (v := .agg #[.int .i64 (-1), .int .i64 (-1), .int .u64 0, .int .u64 0, .int .u64 0, .int .u64 0, .int .u64 0, .int .u64 0, .int .u64 0, .int .u64 0, .int .u64 0, .int .u64 0, .int .u64 0, .int .u64 0]) (by simp [results, Tryd.results42, go_sem, o0, o1, o2, o3, o4, o5, o6, o7, o8, o9, o10, o11, o12, o13]) rfl ?_
  exact ⟨rfl, (Below.refl _ _).alloc (Nat.le_refl _) _⟩
/-- The language of one byte of a set. -/
noncomputable def oneL9 (f : Nat → Bool) : Lg := if S1.eqB f S1.noS = true then voidL else ⟨1, 1, f, f, f⟩
theorem two_new (w : World) (c0 c1 : Array Value) (t0 t1 : TypeId) : ((w.alloc (.cells c0 t0)).alloc (.cells c1 t1)).heap[w.heap.size]? = some (.cells c0 t0 (0, 0)) ∧ ((w.alloc (.cells c0 t0)).alloc (.cells c1 t1)).heap[w.heap.size + 1]? = some (.cells c1 t1 (0, 0)) ∧ Below w.heap.size w ((w.alloc (.cells c0 t0)).alloc (.cells c1 t1)) := by
  have h0 := World.alloc_heap_new w (.cells c0 t0)
  have h1 := World.alloc_heap_new (w.alloc (.cells c0 t0)) (.cells c1 t1)
  rw [World.size_alloc] at h1
  exact ⟨kept_alloc9 h0 _, h1, ((Below.refl _ _).alloc (Nat.le_refl _) _).alloc (by simp) _⟩
theorem arr14 {c0 c1 c2 c3 c4 c5 c6 c7 c8 c9 c10 c11 c12 c13 d0 d1 d2 d3 d4 d5 d6 d7 d8 d9 d10 d11 d12 d13 : Value} : ((((((((((((((#[c0, c1, c2, c3, c4, c5, c6, c7, c8, c9, c10, c11, c12, c13].setIfInBounds 0 d0).setIfInBounds 1 d1).setIfInBounds 2 d2).setIfInBounds 3 d3).setIfInBounds 4 d4).setIfInBounds 5 d5).setIfInBounds 6 d6).setIfInBounds 7 d7).setIfInBounds 8 d8).setIfInBounds 9 d9).setIfInBounds 10 d10).setIfInBounds 11 d11).setIfInBounds 12 d12).setIfInBounds 13 d13) = #[d0, d1, d2, d3, d4, d5, d6, d7, d8, d9, d10, d11, d12, d13] := by simp only [List.setIfInBounds_toArray, List.set_cons_zero, List.set_cons_succ]
/-- Fourteen cells set. -/
theorem set14 {w : World} {b : Nat} {c0 c1 c2 c3 c4 c5 c6 c7 c8 c9 c10 c11 c12 c13 d0 d1 d2 d3 d4 d5 d6 d7 d8 d9 d10 d11 d12 d13 : Value} {t : TypeId} (h : w.heap[b]? = some (.cells #[c0, c1, c2, c3, c4, c5, c6, c7, c8, c9, c10, c11, c12, c13] t (0, 0))) (W : World) (hW : W = ((((((((((((((w.setCell ⟨b, 0, none⟩ d0).setCell ⟨b, 1, none⟩ d1).setCell ⟨b, 2, none⟩ d2).setCell ⟨b, 3, none⟩ d3).setCell ⟨b, 4, none⟩ d4).setCell ⟨b, 5, none⟩ d5).setCell ⟨b, 6, none⟩ d6).setCell ⟨b, 7, none⟩ d7).setCell ⟨b, 8, none⟩ d8).setCell ⟨b, 9, none⟩ d9).setCell ⟨b, 10, none⟩ d10).setCell ⟨b, 11, none⟩ d11).setCell ⟨b, 12, none⟩ d12).setCell ⟨b, 13, none⟩ d13)) :
    W.heap[b]? = some (.cells #[d0, d1, d2, d3, d4, d5, d6, d7, d8, d9, d10, d11, d12, d13] t (0, 0)) ∧ W.heap.size = w.heap.size ∧ (∀ k, k ≠ b → W.heap[k]? = w.heap[k]?) ∧ ∀ n, n ≤ b → Below n w W := by
  have a0 := box_set h 0 d0
  have a1 := box_set a0 1 d1
  have a2 := box_set a1 2 d2
  have a3 := box_set a2 3 d3
  have a4 := box_set a3 4 d4
  have a5 := box_set a4 5 d5
  have a6 := box_set a5 6 d6
  have a7 := box_set a6 7 d7
  have a8 := box_set a7 8 d8
  have a9 := box_set a8 9 d9
  have a10 := box_set a9 10 d10
  have a11 := box_set a10 11 d11
  have a12 := box_set a11 12 d12
  have a13 := box_set a12 13 d13
  rw [arr14, ← hW] at a13
  refine ⟨a13, by rw [hW]; simp only [size_set], fun k hk => ?_, fun n hn => ?_⟩
  · rw [hW]
    iterate 14 rw [Below.heap_setCell _ _ _ _ hk]
  · rw [hW]
    have s0 := (Below.refl n w).setCell (p := ⟨b, 0, none⟩) hn d0
    have s1 := s0.setCell (p := ⟨b, 1, none⟩) hn d1
    have s2 := s1.setCell (p := ⟨b, 2, none⟩) hn d2
    have s3 := s2.setCell (p := ⟨b, 3, none⟩) hn d3
    have s4 := s3.setCell (p := ⟨b, 4, none⟩) hn d4
    have s5 := s4.setCell (p := ⟨b, 5, none⟩) hn d5
    have s6 := s5.setCell (p := ⟨b, 6, none⟩) hn d6
    have s7 := s6.setCell (p := ⟨b, 7, none⟩) hn d7
    have s8 := s7.setCell (p := ⟨b, 8, none⟩) hn d8
    have s9 := s8.setCell (p := ⟨b, 9, none⟩) hn d9
    have s10 := s9.setCell (p := ⟨b, 10, none⟩) hn d10
    have s11 := s10.setCell (p := ⟨b, 11, none⟩) hn d11
    have s12 := s11.setCell (p := ⟨b, 12, none⟩) hn d12
    exact s12.setCell (p := ⟨b, 13, none⟩) hn d13
set_option maxHeartbeats 2000000 in
theorem oneOf9_in (f : Nat → Bool) (w : World) : Calls Tryd.prog 59 #[.agg #[.int .u64 (S1.wd (f) 0), .int .u64 (S1.wd (f) 1), .int .u64 (S1.wd (f) 2), .int .u64 (S1.wd (f) 3)]] w fun e w' => e = .returned (.agg #[.int .i64 (oneL9 f).lo, .int .i64 (oneL9 f).hi, .int .u64 (S1.wd ((oneL9 f).fs) 0), .int .u64 (S1.wd ((oneL9 f).fs) 1), .int .u64 (S1.wd ((oneL9 f).fs) 2), .int .u64 (S1.wd ((oneL9 f).fs) 3), .int .u64 (S1.wd ((oneL9 f).ls) 0), .int .u64 (S1.wd ((oneL9 f).ls) 1), .int .u64 (S1.wd ((oneL9 f).ls) 2), .int .u64 (S1.wd ((oneL9 f).ls) 3), .int .u64 (S1.wd ((oneL9 f).al) 0), .int .u64 (S1.wd ((oneL9 f).al) 1), .int .u64 (S1.wd ((oneL9 f).al) 2), .int .u64 (S1.wd ((oneL9 f).al) 3)]) ∧ Below w.heap.size w w' := by
  have hE := fun w => S1.empty_in f w
  have hV := fun w => void9_in w
  rw [voidL_v] at hV
  obtain ⟨hx, hr, hbel⟩ := two_new w #[.int .u64 (S1.wd (f) 0), .int .u64 (S1.wd (f) 1), .int .u64 (S1.wd (f) 2), .int .u64 (S1.wd (f) 3)] #[.int .i64 0, .int .i64 0, .int .u64 0, .int .u64 0, .int .u64 0, .int .u64 0, .int .u64 0, .int .u64 0, .int .u64 0, .int .u64 0, .int .u64 0, .int .u64 0, .int .u64 0, .int .u64 0] 24 57
  cases hz : S1.eqB f S1.noS with
  | true =>
    rw [hz] at hE
    have e : oneL9 f = voidL := by unfold oneL9; rw [if_pos hz]
    rw [e, voidL_v]
    replace hE := Lib.hid hE
    replace hV := Lib.hid hV
    replace hbel := Lib.hid hbel
    replace hr := Lib.hid hr
    clear hz e hx
    go_enter Tryd.func59, Tryd.ntmps59
    go_wp2_with (first | (go_at_call 63; (with_reducible refine (hE.out _).mono ?_); rintro e w1 ⟨rfl, hb1⟩; replace hr := Lib.hid (kept_row hr.out hb1); replace hbel := Lib.hid (hbel.out.trans (hb1.mono (by simp; omega)))) | (go_at_call 42; (with_reducible refine (hV.out _).mono ?_); rintro e w2 ⟨rfl, hb2⟩; replace hr := Lib.hid (kept_row hr.out hb2); replace hbel := Lib.hid (hbel.out.trans (hb2.mono (hbel.out.size))); obtain ⟨y0, f0, y1, f1, y2, f2, y3, f3, y4, f4, y5, f5, y6, f6, y7, f7, y8, f8, y9, f9, y10, f10, y11, f11, y12, f12, y13, f13⟩ := d14 hr.out))
    clear y0 y1 y2 y3 y4 y5 y6 y7 y8 y9 y10 y11 y12 y13 f0 f1 f2 f3 f4 f5 f6 f7 f8 f9 f10 f11 f12 f13
    obtain ⟨q1, q2, q3, q4⟩ := set14 (d0 := .int .i64 (-1)) (d1 := .int .i64 (-1)) (d2 := .int .u64 0) (d3 := .int .u64 0) (d4 := .int .u64 0) (d5 := .int .u64 0) (d6 := .int .u64 0) (d7 := .int .u64 0) (d8 := .int .u64 0) (d9 := .int .u64 0) (d10 := .int .u64 0) (d11 := .int .u64 0) (d12 := .int .u64 0) (d13 := .int .u64 0) hr.out _ rfl
    generalize hW : World.setCell _ (⟨w.heap.size + 1, 13, none⟩ : Addr) _ = W9 at *
    clear hW
    obtain ⟨o0, o1, o2, o3, o4, o5, o6, o7, o8, o9, o10, o11, o12, o13⟩ := c14 q1
    refine bodyPost_ret (v := .agg #[.int .i64 (-1), .int .i64 (-1), .int .u64 0, .int .u64 0, .int .u64 0, .int .u64 0, .int .u64 0, .int .u64 0, .int .u64 0, .int .u64 0, .int .u64 0, .int .u64 0, .int .u64 0, .int .u64 0]) (by simp [results, Tryd.results59, go_sem, o0, o1, o2, o3, o4, o5, o6, o7, o8, o9, o10, o11, o12, o13]) rfl ?_
    exact ⟨rfl, hbel.out.trans (q4 _ (by omega))⟩
  | false =>
    rw [hz] at hE
    have e : oneL9 f = ⟨1, 1, f, f, f⟩ := by unfold oneL9; rw [if_neg (by rw [hz]; simp)]
    rw [e]
    simp only
    replace hE := Lib.hid hE
    clear hz e hV
    replace hbel := Lib.hid hbel
    replace hr := Lib.hid hr
    replace hx := Lib.hid hx
    go_enter Tryd.func59, Tryd.ntmps59
    go_wp2_with (go_at_call 63; (with_reducible refine (hE.out _).mono ?_); rintro e w1 ⟨rfl, hb1⟩; replace hr := Lib.hid (kept_row hr.out hb1); replace hx := Lib.hid (kept_row hx.out hb1); replace hbel := Lib.hid (hbel.out.trans (hb1.mono (by simp; omega))); obtain ⟨x0, x1, x2, x3⟩ := c4 hx.out; obtain ⟨y0, f0, y1, f1, y2, f2, y3, f3, y4, f4, y5, f5, y6, f6, y7, f7, y8, f8, y9, f9, y10, f10, y11, f11, y12, f12, y13, f13⟩ := d14 hr.out)
    clear y0 y1 y2 y3 y4 y5 y6 y7 y8 y9 y10 y11 y12 y13 f0 f1 f2 f3 f4 f5 f6 f7 f8 f9 f10 f11 f12 f13
    obtain ⟨q1, q2, q3, q4⟩ := set14 (d0 := .int .i64 1) (d1 := .int .i64 1) (d2 := .int .u64 (S1.wd (f) 0)) (d3 := .int .u64 (S1.wd (f) 1)) (d4 := .int .u64 (S1.wd (f) 2)) (d5 := .int .u64 (S1.wd (f) 3)) (d6 := .int .u64 (S1.wd (f) 0)) (d7 := .int .u64 (S1.wd (f) 1)) (d8 := .int .u64 (S1.wd (f) 2)) (d9 := .int .u64 (S1.wd (f) 3)) (d10 := .int .u64 (S1.wd (f) 0)) (d11 := .int .u64 (S1.wd (f) 1)) (d12 := .int .u64 (S1.wd (f) 2)) (d13 := .int .u64 (S1.wd (f) 3)) hr.out _ rfl
    generalize hW : World.setCell _ (⟨w.heap.size + 1, 13, none⟩ : Addr) _ = W9 at *
    clear hW
    obtain ⟨o0, o1, o2, o3, o4, o5, o6, o7, o8, o9, o10, o11, o12, o13⟩ := c14 q1
    refine bodyPost_ret (v := .agg #[.int .i64 1, .int .i64 1, .int .u64 (S1.wd (f) 0), .int .u64 (S1.wd (f) 1), .int .u64 (S1.wd (f) 2), .int .u64 (S1.wd (f) 3), .int .u64 (S1.wd (f) 0), .int .u64 (S1.wd (f) 1), .int .u64 (S1.wd (f) 2), .int .u64 (S1.wd (f) 3), .int .u64 (S1.wd (f) 0), .int .u64 (S1.wd (f) 1), .int .u64 (S1.wd (f) 2), .int .u64 (S1.wd (f) 3)]) (by simp [results, Tryd.results59, go_sem, o0, o1, o2, o3, o4, o5, o6, o7, o8, o9, o10, o11, o12, o13]) rfl ?_
    exact ⟨rfl, hbel.out.trans (q4 _ (by omega))⟩
end Go.Proofs.YtaebhbcamhmhoaaDoor
namespace Go.Proofs.YtaebhbcamhmhoaaDoor
open Go.RowKit
open Go.Tree7
open S7
open S5 (nl nl_length nl_small at_nl nl_at Gives idx idx_at ix ix_no ix_yes)
theorem mul_within {a b : Int} (h : Within a) (h0 : 0 ≤ b) (h1 : b ≤ 40) : 0 ≤ a * b ∧ a * b ≤ 1048576 * 40 := ⟨Int.mul_nonneg h.1 h0, Int.mul_le_mul h.2 h1 h0 (by decide)⟩
set_option maxHeartbeats 4000000 in
theorem times_void {mn : Int} (mx : Int) (w : World) : Calls Tryd.prog 62 #[(.agg #[.int .i64 voidL.lo, .int .i64 voidL.hi, .int .u64 (S1.wd (voidL.fs) 0), .int .u64 (S1.wd (voidL.fs) 1), .int .u64 (S1.wd (voidL.fs) 2), .int .u64 (S1.wd (voidL.fs) 3), .int .u64 (S1.wd (voidL.ls) 0), .int .u64 (S1.wd (voidL.ls) 1), .int .u64 (S1.wd (voidL.ls) 2), .int .u64 (S1.wd (voidL.ls) 3), .int .u64 (S1.wd (voidL.al) 0), .int .u64 (S1.wd (voidL.al) 1), .int .u64 (S1.wd (voidL.al) 2), .int .u64 (S1.wd (voidL.al) 3)]), .int .i64 mn, .int .i64 mx] w fun e w' => e = .returned (.agg #[.int .i64 (oftL voidL mn mx).lo, .int .i64 (oftL voidL mn mx).hi, .int .u64 (S1.wd ((oftL voidL mn mx).fs) 0), .int .u64 (S1.wd ((oftL voidL mn mx).fs) 1), .int .u64 (S1.wd ((oftL voidL mn mx).fs) 2), .int .u64 (S1.wd ((oftL voidL mn mx).fs) 3), .int .u64 (S1.wd ((oftL voidL mn mx).ls) 0), .int .u64 (S1.wd ((oftL voidL mn mx).ls) 1), .int .u64 (S1.wd ((oftL voidL mn mx).ls) 2), .int .u64 (S1.wd ((oftL voidL mn mx).ls) 3), .int .u64 (S1.wd ((oftL voidL mn mx).al) 0), .int .u64 (S1.wd ((oftL voidL mn mx).al) 1), .int .u64 (S1.wd ((oftL voidL mn mx).al) 2), .int .u64 (S1.wd ((oftL voidL mn mx).al) 3)]) ∧ Below w.heap.size w w' := by
  have hV := fun w => lvoid_in voidL w
  rw [voidL_v] at hV ⊢
  rw [show (voidL.lo == -1) = true by rfl] at hV
  obtain ⟨hx, hr, hbel⟩ := two_new w #[.int .i64 (-1), .int .i64 (-1), .int .u64 0, .int .u64 0, .int .u64 0, .int .u64 0, .int .u64 0, .int .u64 0, .int .u64 0, .int .u64 0, .int .u64 0, .int .u64 0, .int .u64 0, .int .u64 0] #[.int .i64 0, .int .i64 0, .int .u64 0, .int .u64 0, .int .u64 0, .int .u64 0, .int .u64 0, .int .u64 0, .int .u64 0, .int .u64 0, .int .u64 0, .int .u64 0, .int .u64 0, .int .u64 0] 57 57
  replace hV := Lib.hid hV
  replace hbel := Lib.hid hbel
  replace hr := Lib.hid hr
  replace hx := Lib.hid hx
  by_cases h0 : mn = 0
  · have e : oftL voidL mn mx = zeroL := by unfold oftL; rw [if_pos voidL_lo, if_pos h0]
    rw [e, zeroL_v]
    subst h0
    clear e
    go_enter Tryd.func62, Tryd.ntmps62
    go_wp2_with (go_at_call 32; (with_reducible refine (hV.out _).mono ?_); rintro e w1 ⟨rfl, hb1⟩; replace hx := Lib.hid (kept_row hx.out hb1); replace hr := Lib.hid (kept_row hr.out hb1); replace hbel := Lib.hid (hbel.out.trans (hb1.mono hbel.out.size)); clear hb1; (try (clear x0 x1 x2 x3 x4 x5 x6 x7 x8 x9 x10 x11 x12 x13 g0 g1 g2 g3 g4 g5 g6 g7 g8 g9 g10 g11 g12 g13)); (try (clear x0 x1 x2 x3 x4 x5 x6 x7 x8 x9 x10 x11 x12 x13)); obtain ⟨y0, f0, y1, f1, y2, f2, y3, f3, y4, f4, y5, f5, y6, f6, y7, f7, y8, f8, y9, f9, y10, f10, y11, f11, y12, f12, y13, f13⟩ := d14 hr.out)
    obtain ⟨q1, q2, q3, q4⟩ := set14 (d0 := .int .i64 0) (d1 := .int .i64 0) (d2 := .int .u64 0) (d3 := .int .u64 0) (d4 := .int .u64 0) (d5 := .int .u64 0) (d6 := .int .u64 0) (d7 := .int .u64 0) (d8 := .int .u64 0) (d9 := .int .u64 0) (d10 := .int .u64 0) (d11 := .int .u64 0) (d12 := .int .u64 0) (d13 := .int .u64 0) hr.out _ rfl
    generalize hW : World.setCell _ (⟨w.heap.size + 1, 13, none⟩ : Addr) _ = W9 at *
    clear hW
    obtain ⟨o0, o1, o2, o3, o4, o5, o6, o7, o8, o9, o10, o11, o12, o13⟩ := c14 q1
    refine bodyPost_ret (v := .agg #[.int .i64 0, .int .i64 0, .int .u64 0, .int .u64 0, .int .u64 0, .int .u64 0, .int .u64 0, .int .u64 0, .int .u64 0, .int .u64 0, .int .u64 0, .int .u64 0, .int .u64 0, .int .u64 0]) (by simp [results, Tryd.results62, go_sem, o0, o1, o2, o3, o4, o5, o6, o7, o8, o9, o10, o11, o12, o13]) rfl ?_
    exact ⟨rfl, hbel.out.trans (q4 _ (by omega))⟩
  · have e : oftL voidL mn mx = voidL := by unfold oftL; rw [if_pos voidL_lo, if_neg h0]
    rw [e, voidL_v]
    have g0 : (mn == 0) = false := by rw [beq_eq_false_iff_ne]; exact h0
    clear e h0
    go_enter Tryd.func62, Tryd.ntmps62
    go_wp2_with (go_at_call 32; (with_reducible refine (hV.out _).mono ?_); rintro e w1 ⟨rfl, hb1⟩; replace hx := Lib.hid (kept_row hx.out hb1); replace hr := Lib.hid (kept_row hr.out hb1); replace hbel := Lib.hid (hbel.out.trans (hb1.mono hbel.out.size)); clear hb1; (try (clear x0 x1 x2 x3 x4 x5 x6 x7 x8 x9 x10 x11 x12 x13 g0 g1 g2 g3 g4 g5 g6 g7 g8 g9 g10 g11 g12 g13)); (try (clear x0 x1 x2 x3 x4 x5 x6 x7 x8 x9 x10 x11 x12 x13)); obtain ⟨x0, x1, x2, x3, x4, x5, x6, x7, x8, x9, x10, x11, x12, x13⟩ := c14 hx.out; (try (clear y0 y1 y2 y3 y4 y5 y6 y7 y8 y9 y10 y11 y12 y13 f0 f1 f2 f3 f4 f5 f6 f7 f8 f9 f10 f11 f12 f13)); obtain ⟨y0, f0, y1, f1, y2, f2, y3, f3, y4, f4, y5, f5, y6, f6, y7, f7, y8, f8, y9, f9, y10, f10, y11, f11, y12, f12, y13, f13⟩ := d14 hr.out)
    obtain ⟨q1, q2, q3, q4⟩ := set14 (d0 := .int .i64 (-1)) (d1 := .int .i64 (-1)) (d2 := .int .u64 0) (d3 := .int .u64 0) (d4 := .int .u64 0) (d5 := .int .u64 0) (d6 := .int .u64 0) (d7 := .int .u64 0) (d8 := .int .u64 0) (d9 := .int .u64 0) (d10 := .int .u64 0) (d11 := .int .u64 0) (d12 := .int .u64 0) (d13 := .int .u64 0) hr.out _ rfl
    generalize hW : World.setCell _ (⟨w.heap.size + 1, 13, none⟩ : Addr) _ = W9 at *
    clear hW
    obtain ⟨o0, o1, o2, o3, o4, o5, o6, o7, o8, o9, o10, o11, o12, o13⟩ := c14 q1
    refine bodyPost_ret (v := .agg #[.int .i64 (-1), .int .i64 (-1), .int .u64 0, .int .u64 0, .int .u64 0, .int .u64 0, .int .u64 0, .int .u64 0, .int .u64 0, .int .u64 0, .int .u64 0, .int .u64 0, .int .u64 0, .int .u64 0]) (by simp [results, Tryd.results62, go_sem, o0, o1, o2, o3, o4, o5, o6, o7, o8, o9, o10, o11, o12, o13]) rfl ?_
    exact ⟨rfl, hbel.out.trans (q4 _ (by omega))⟩
theorem set1 {w : World} {b : Nat} {cs : Array Value} {t : TypeId} (h : w.heap[b]? = some (.cells cs t (0, 0))) (o : Nat) (d : Value) :
    (w.setCell ⟨b, o, none⟩ d).heap[b]? = some (.cells (cs.setIfInBounds o d) t (0, 0)) ∧ (∀ k, k ≠ b → (w.setCell ⟨b, o, none⟩ d).heap[k]? = w.heap[k]?) ∧ ∀ n, n ≤ b → Below n w (w.setCell ⟨b, o, none⟩ d) :=
  ⟨box_set h o d, fun _ hk => Below.heap_setCell _ _ _ _ hk, fun n hn => (Below.refl n w).setCell (p := ⟨b, o, none⟩) hn d⟩
set_option maxHeartbeats 8000000 in
theorem times_b {lo hi mn mx : Int} (F G H : Nat → Bool) (h0 : Within lo) (h1 : Within hi) (hb : 0 ≤ mn ∧ mn ≤ 40) (hm : 1 ≤ mx ∧ mx ≤ 40) (w : World) : Calls Tryd.prog 62 #[.agg #[.int .i64 lo, .int .i64 hi, .int .u64 (S1.wd (F) 0), .int .u64 (S1.wd (F) 1), .int .u64 (S1.wd (F) 2), .int .u64 (S1.wd (F) 3), .int .u64 (S1.wd (G) 0), .int .u64 (S1.wd (G) 1), .int .u64 (S1.wd (G) 2), .int .u64 (S1.wd (G) 3), .int .u64 (S1.wd (H) 0), .int .u64 (S1.wd (H) 1), .int .u64 (S1.wd (H) 2), .int .u64 (S1.wd (H) 3)], .int .i64 mn, .int .i64 mx] w fun e w' => e = .returned (.agg #[.int .i64 (cut20 (lo * mn)), .int .i64 (cut20 (hi * mx)), .int .u64 (S1.wd (F) 0), .int .u64 (S1.wd (F) 1), .int .u64 (S1.wd (F) 2), .int .u64 (S1.wd (F) 3), .int .u64 (S1.wd (G) 0), .int .u64 (S1.wd (G) 1), .int .u64 (S1.wd (G) 2), .int .u64 (S1.wd (G) 3), .int .u64 (S1.wd (H) 0), .int .u64 (S1.wd (H) 1), .int .u64 (S1.wd (H) 2), .int .u64 (S1.wd (H) 3)]) ∧ Below w.heap.size w w' := by
  have hV := fun w => lvoid_in ⟨lo, hi, F, G, H⟩ w
  simp only at hV
  rw [show (lo == -1) = false by rw [beq_eq_false_iff_ne]; have := h0.1; omega] at hV
  obtain ⟨P2, hP2⟩ : ∃ P2, lo * mn = P2 := ⟨_, rfl⟩
  have b2 := mul_within h0 hb.1 hb.2
  rw [hP2] at b2 ⊢
  have k2 : IntKind.i64.wrap P2 = P2 := IntWalk.i64_in P2 ⟨by omega, by omega⟩
  have c2 := Lib.hid fun w => lim_in P2 w
  obtain ⟨P, hP⟩ : ∃ P, hi * mx = P := ⟨_, rfl⟩
  have b1 := mul_within h1 (by omega) hm.2
  rw [hP] at b1 ⊢
  have k1 : IntKind.i64.wrap P = P := IntWalk.i64_in P ⟨by omega, by omega⟩
  have c1 := Lib.hid fun w => lim_in P w
  have g1 : (mx == -1) = false := by rw [beq_eq_false_iff_ne]; omega
  clear b1 hm
  obtain ⟨hx, hr, hbel⟩ := two_new w #[.int .i64 lo, .int .i64 hi, .int .u64 (S1.wd (F) 0), .int .u64 (S1.wd (F) 1), .int .u64 (S1.wd (F) 2), .int .u64 (S1.wd (F) 3), .int .u64 (S1.wd (G) 0), .int .u64 (S1.wd (G) 1), .int .u64 (S1.wd (G) 2), .int .u64 (S1.wd (G) 3), .int .u64 (S1.wd (H) 0), .int .u64 (S1.wd (H) 1), .int .u64 (S1.wd (H) 2), .int .u64 (S1.wd (H) 3)] #[.int .i64 0, .int .i64 0, .int .u64 0, .int .u64 0, .int .u64 0, .int .u64 0, .int .u64 0, .int .u64 0, .int .u64 0, .int .u64 0, .int .u64 0, .int .u64 0, .int .u64 0, .int .u64 0] 57 57
  replace hV := Lib.hid hV
  replace hbel := Lib.hid hbel
  replace hr := Lib.hid hr
  replace hx := Lib.hid hx
  clear h0 h1 hb b2
  go_enter Tryd.func62, Tryd.ntmps62
  go_wp2_with (first | (go_at_call 32; (with_reducible refine (hV.out _).mono ?_); rintro e w1 ⟨rfl, hb1⟩; replace hx := Lib.hid (kept_row hx.out hb1); replace hr := Lib.hid (kept_row hr.out hb1); replace hbel := Lib.hid (hbel.out.trans (hb1.mono hbel.out.size)); clear hb1; (try (clear x0 x1 x2 x3 x4 x5 x6 x7 x8 x9 x10 x11 x12 x13 g0 g1 g2 g3 g4 g5 g6 g7 g8 g9 g10 g11 g12 g13)); (try (clear x0 x1 x2 x3 x4 x5 x6 x7 x8 x9 x10 x11 x12 x13)); obtain ⟨x0, g0, x1, g1, x2, g2, x3, g3, x4, g4, x5, g5, x6, g6, x7, g7, x8, g8, x9, g9, x10, g10, x11, g11, x12, g12, x13, g13⟩ := d14 hx.out) | (go_at_call 49; (with_reducible refine (c1.out _).mono ?_); rintro e w1 ⟨rfl, hb1⟩; replace hx := Lib.hid (kept_row hx.out hb1); replace hr := Lib.hid (kept_row hr.out hb1); replace hbel := Lib.hid (hbel.out.trans (hb1.mono hbel.out.size)); clear hb1; (try (clear x0 x1 x2 x3 x4 x5 x6 x7 x8 x9 x10 x11 x12 x13 g0 g1 g2 g3 g4 g5 g6 g7 g8 g9 g10 g11 g12 g13)); (try (clear x0 x1 x2 x3 x4 x5 x6 x7 x8 x9 x10 x11 x12 x13)); obtain ⟨x0, g0, x1, g1, x2, g2, x3, g3, x4, g4, x5, g5, x6, g6, x7, g7, x8, g8, x9, g9, x10, g10, x11, g11, x12, g12, x13, g13⟩ := d14 hx.out) | (go_at_call 49; (with_reducible refine (c2.out _).mono ?_); rintro e w2 ⟨rfl, hb1⟩; (try (clear x0 x1 x2 x3 x4 x5 x6 x7 x8 x9 x10 x11 x12 x13 g0 g1 g2 g3 g4 g5 g6 g7 g8 g9 g10 g11 g12 g13)); (try (clear x0 x1 x2 x3 x4 x5 x6 x7 x8 x9 x10 x11 x12 x13)); have s9 := set1 hx.out 1 (.int .i64 (cut20 P)); have h9 := s9.1; simp only [List.setIfInBounds_toArray, List.set_cons_succ, List.set_cons_zero] at h9; replace hx := Lib.hid h9; replace hr := Lib.hid ((s9.2.1 _ (by omega)).trans hr.out); replace hbel := Lib.hid (hbel.out.trans (s9.2.2 _ (by omega))); clear s9 h9; replace hx := Lib.hid (kept_row hx.out hb1); replace hr := Lib.hid (kept_row hr.out hb1); replace hbel := Lib.hid (hbel.out.trans (hb1.mono hbel.out.size)); clear hb1; (try (clear x0 x1 x2 x3 x4 x5 x6 x7 x8 x9 x10 x11 x12 x13 g0 g1 g2 g3 g4 g5 g6 g7 g8 g9 g10 g11 g12 g13)); (try (clear x0 x1 x2 x3 x4 x5 x6 x7 x8 x9 x10 x11 x12 x13)); obtain ⟨x0, g0, x1, g1, x2, g2, x3, g3, x4, g4, x5, g5, x6, g6, x7, g7, x8, g8, x9, g9, x10, g10, x11, g11, x12, g12, x13, g13⟩ := d14 hx.out; obtain ⟨y0, f0, y1, f1, y2, f2, y3, f3, y4, f4, y5, f5, y6, f6, y7, f7, y8, f8, y9, f9, y10, f10, y11, f11, y12, f12, y13, f13⟩ := d14 hr.out))
  clear y0 y1 y2 y3 y4 y5 y6 y7 y8 y9 y10 y11 y12 y13 f0 f1 f2 f3 f4 f5 f6 f7 f8 f9 f10 f11 f12 f13
  clear x0 x1 x2 x3 x4 x5 x6 x7 x8 x9 x10 x11 x12 x13 g0 g1 g2 g3 g4 g5 g6 g7 g8 g9 g10 g11 g12 g13
  have s9 := set1 hx.out 0 (.int .i64 (cut20 P2))
  have h9 := s9.1
  simp only [List.setIfInBounds_toArray, List.set_cons_zero] at h9
  replace hx := Lib.hid h9
  replace hr := Lib.hid ((s9.2.1 _ (by omega)).trans hr.out)
  replace hbel := Lib.hid (hbel.out.trans (s9.2.2 _ (by omega)))
  clear s9 h9
  obtain ⟨q1, q2, q3, q4⟩ := set14 (d0 := .int .i64 (cut20 P2)) (d1 := .int .i64 (cut20 P)) (d2 := .int .u64 (S1.wd (F) 0)) (d3 := .int .u64 (S1.wd (F) 1)) (d4 := .int .u64 (S1.wd (F) 2)) (d5 := .int .u64 (S1.wd (F) 3)) (d6 := .int .u64 (S1.wd (G) 0)) (d7 := .int .u64 (S1.wd (G) 1)) (d8 := .int .u64 (S1.wd (G) 2)) (d9 := .int .u64 (S1.wd (G) 3)) (d10 := .int .u64 (S1.wd (H) 0)) (d11 := .int .u64 (S1.wd (H) 1)) (d12 := .int .u64 (S1.wd (H) 2)) (d13 := .int .u64 (S1.wd (H) 3)) hr.out _ rfl
  generalize hW : World.setCell _ (⟨w.heap.size + 1, 13, none⟩ : Addr) _ = W9 at *
  clear hW
  obtain ⟨o0, o1, o2, o3, o4, o5, o6, o7, o8, o9, o10, o11, o12, o13⟩ := c14 q1
  refine bodyPost_ret (v := .agg #[.int .i64 (cut20 P2), .int .i64 (cut20 P), .int .u64 (S1.wd (F) 0), .int .u64 (S1.wd (F) 1), .int .u64 (S1.wd (F) 2), .int .u64 (S1.wd (F) 3), .int .u64 (S1.wd (G) 0), .int .u64 (S1.wd (G) 1), .int .u64 (S1.wd (G) 2), .int .u64 (S1.wd (G) 3), .int .u64 (S1.wd (H) 0), .int .u64 (S1.wd (H) 1), .int .u64 (S1.wd (H) 2), .int .u64 (S1.wd (H) 3)]) (by simp [results, Tryd.results62, go_sem, o0, o1, o2, o3, o4, o5, o6, o7, o8, o9, o10, o11, o12, o13]) rfl ?_
  exact ⟨rfl, hbel.out.trans (q4 _ (by omega))⟩
set_option maxHeartbeats 8000000 in
theorem times_u {lo hi mn mx : Int} (F G H : Nat → Bool) (h0 : Within lo) (_h1 : Within hi) (hb : 0 ≤ mn ∧ mn ≤ 40) (hm : mx = -1) (hp : 0 < hi) (w : World) : Calls Tryd.prog 62 #[.agg #[.int .i64 lo, .int .i64 hi, .int .u64 (S1.wd (F) 0), .int .u64 (S1.wd (F) 1), .int .u64 (S1.wd (F) 2), .int .u64 (S1.wd (F) 3), .int .u64 (S1.wd (G) 0), .int .u64 (S1.wd (G) 1), .int .u64 (S1.wd (G) 2), .int .u64 (S1.wd (G) 3), .int .u64 (S1.wd (H) 0), .int .u64 (S1.wd (H) 1), .int .u64 (S1.wd (H) 2), .int .u64 (S1.wd (H) 3)], .int .i64 mn, .int .i64 mx] w fun e w' => e = .returned (.agg #[.int .i64 (cut20 (lo * mn)), .int .i64 1048576, .int .u64 (S1.wd (F) 0), .int .u64 (S1.wd (F) 1), .int .u64 (S1.wd (F) 2), .int .u64 (S1.wd (F) 3), .int .u64 (S1.wd (G) 0), .int .u64 (S1.wd (G) 1), .int .u64 (S1.wd (G) 2), .int .u64 (S1.wd (G) 3), .int .u64 (S1.wd (H) 0), .int .u64 (S1.wd (H) 1), .int .u64 (S1.wd (H) 2), .int .u64 (S1.wd (H) 3)]) ∧ Below w.heap.size w w' := by
  have hV := fun w => lvoid_in ⟨lo, hi, F, G, H⟩ w
  simp only at hV
  rw [show (lo == -1) = false by rw [beq_eq_false_iff_ne]; have := h0.1; omega] at hV
  obtain ⟨P2, hP2⟩ : ∃ P2, lo * mn = P2 := ⟨_, rfl⟩
  have b2 := mul_within h0 hb.1 hb.2
  rw [hP2] at b2 ⊢
  have k2 : IntKind.i64.wrap P2 = P2 := IntWalk.i64_in P2 ⟨by omega, by omega⟩
  have c2 := Lib.hid fun w => lim_in P2 w
  have c1 := c2
  have g1 : (mx == -1) = true := by rw [beq_iff_eq]; omega
  have g2 : decide (hi > 0) = true := by rw [decide_eq_true_eq]; exact hp
  have g3 : decide (0 < hi) = true := g2
  clear hp hm
  obtain ⟨hx, hr, hbel⟩ := two_new w #[.int .i64 lo, .int .i64 hi, .int .u64 (S1.wd (F) 0), .int .u64 (S1.wd (F) 1), .int .u64 (S1.wd (F) 2), .int .u64 (S1.wd (F) 3), .int .u64 (S1.wd (G) 0), .int .u64 (S1.wd (G) 1), .int .u64 (S1.wd (G) 2), .int .u64 (S1.wd (G) 3), .int .u64 (S1.wd (H) 0), .int .u64 (S1.wd (H) 1), .int .u64 (S1.wd (H) 2), .int .u64 (S1.wd (H) 3)] #[.int .i64 0, .int .i64 0, .int .u64 0, .int .u64 0, .int .u64 0, .int .u64 0, .int .u64 0, .int .u64 0, .int .u64 0, .int .u64 0, .int .u64 0, .int .u64 0, .int .u64 0, .int .u64 0] 57 57
  replace hV := Lib.hid hV
  replace hbel := Lib.hid hbel
  replace hr := Lib.hid hr
  replace hx := Lib.hid hx
  clear h0 hb b2
  go_enter Tryd.func62, Tryd.ntmps62
  go_wp2_with (first | (go_at_call 32; (with_reducible refine (hV.out _).mono ?_); rintro e w1 ⟨rfl, hb1⟩; replace hx := Lib.hid (kept_row hx.out hb1); replace hr := Lib.hid (kept_row hr.out hb1); replace hbel := Lib.hid (hbel.out.trans (hb1.mono hbel.out.size)); clear hb1; (try (clear x0 x1 x2 x3 x4 x5 x6 x7 x8 x9 x10 x11 x12 x13 g0 g1 g2 g3 g4 g5 g6 g7 g8 g9 g10 g11 g12 g13)); (try (clear x0 x1 x2 x3 x4 x5 x6 x7 x8 x9 x10 x11 x12 x13)); obtain ⟨x0, g0, x1, g1, x2, g2, x3, g3, x4, g4, x5, g5, x6, g6, x7, g7, x8, g8, x9, g9, x10, g10, x11, g11, x12, g12, x13, g13⟩ := d14 hx.out) | (fail) | (go_at_call 49; (with_reducible refine (c2.out _).mono ?_); rintro e w2 ⟨rfl, hb1⟩; (try (clear x0 x1 x2 x3 x4 x5 x6 x7 x8 x9 x10 x11 x12 x13 g0 g1 g2 g3 g4 g5 g6 g7 g8 g9 g10 g11 g12 g13)); (try (clear x0 x1 x2 x3 x4 x5 x6 x7 x8 x9 x10 x11 x12 x13)); have s9 := set1 hx.out 1 (.int .i64 1048576); have h9 := s9.1; simp only [List.setIfInBounds_toArray, List.set_cons_succ, List.set_cons_zero] at h9; replace hx := Lib.hid h9; replace hr := Lib.hid ((s9.2.1 _ (by omega)).trans hr.out); replace hbel := Lib.hid (hbel.out.trans (s9.2.2 _ (by omega))); clear s9 h9; replace hx := Lib.hid (kept_row hx.out hb1); replace hr := Lib.hid (kept_row hr.out hb1); replace hbel := Lib.hid (hbel.out.trans (hb1.mono hbel.out.size)); clear hb1; (try (clear x0 x1 x2 x3 x4 x5 x6 x7 x8 x9 x10 x11 x12 x13 g0 g1 g2 g3 g4 g5 g6 g7 g8 g9 g10 g11 g12 g13)); (try (clear x0 x1 x2 x3 x4 x5 x6 x7 x8 x9 x10 x11 x12 x13)); obtain ⟨x0, g0, x1, g1, x2, g2, x3, g3, x4, g4, x5, g5, x6, g6, x7, g7, x8, g8, x9, g9, x10, g10, x11, g11, x12, g12, x13, g13⟩ := d14 hx.out; obtain ⟨y0, f0, y1, f1, y2, f2, y3, f3, y4, f4, y5, f5, y6, f6, y7, f7, y8, f8, y9, f9, y10, f10, y11, f11, y12, f12, y13, f13⟩ := d14 hr.out))
  clear y0 y1 y2 y3 y4 y5 y6 y7 y8 y9 y10 y11 y12 y13 f0 f1 f2 f3 f4 f5 f6 f7 f8 f9 f10 f11 f12 f13
  clear x0 x1 x2 x3 x4 x5 x6 x7 x8 x9 x10 x11 x12 x13 g0 g1 g2 g3 g4 g5 g6 g7 g8 g9 g10 g11 g12 g13
  have s9 := set1 hx.out 0 (.int .i64 (cut20 P2))
  have h9 := s9.1
  simp only [List.setIfInBounds_toArray, List.set_cons_zero] at h9
  replace hx := Lib.hid h9
  replace hr := Lib.hid ((s9.2.1 _ (by omega)).trans hr.out)
  replace hbel := Lib.hid (hbel.out.trans (s9.2.2 _ (by omega)))
  clear s9 h9
  obtain ⟨q1, q2, q3, q4⟩ := set14 (d0 := .int .i64 (cut20 P2)) (d1 := .int .i64 1048576) (d2 := .int .u64 (S1.wd (F) 0)) (d3 := .int .u64 (S1.wd (F) 1)) (d4 := .int .u64 (S1.wd (F) 2)) (d5 := .int .u64 (S1.wd (F) 3)) (d6 := .int .u64 (S1.wd (G) 0)) (d7 := .int .u64 (S1.wd (G) 1)) (d8 := .int .u64 (S1.wd (G) 2)) (d9 := .int .u64 (S1.wd (G) 3)) (d10 := .int .u64 (S1.wd (H) 0)) (d11 := .int .u64 (S1.wd (H) 1)) (d12 := .int .u64 (S1.wd (H) 2)) (d13 := .int .u64 (S1.wd (H) 3)) hr.out _ rfl
  generalize hW : World.setCell _ (⟨w.heap.size + 1, 13, none⟩ : Addr) _ = W9 at *
  clear hW
  obtain ⟨o0, o1, o2, o3, o4, o5, o6, o7, o8, o9, o10, o11, o12, o13⟩ := c14 q1
  refine bodyPost_ret (v := .agg #[.int .i64 (cut20 P2), .int .i64 1048576, .int .u64 (S1.wd (F) 0), .int .u64 (S1.wd (F) 1), .int .u64 (S1.wd (F) 2), .int .u64 (S1.wd (F) 3), .int .u64 (S1.wd (G) 0), .int .u64 (S1.wd (G) 1), .int .u64 (S1.wd (G) 2), .int .u64 (S1.wd (G) 3), .int .u64 (S1.wd (H) 0), .int .u64 (S1.wd (H) 1), .int .u64 (S1.wd (H) 2), .int .u64 (S1.wd (H) 3)]) (by simp [results, Tryd.results62, go_sem, o0, o1, o2, o3, o4, o5, o6, o7, o8, o9, o10, o11, o12, o13]) rfl ?_
  exact ⟨rfl, hbel.out.trans (q4 _ (by omega))⟩
set_option maxHeartbeats 8000000 in
theorem times_z {lo hi mn mx : Int} (F G H : Nat → Bool) (h0 : Within lo) (_h1 : Within hi) (hb : 0 ≤ mn ∧ mn ≤ 40) (hm : mx = -1) (hp : hi = 0) (w : World) : Calls Tryd.prog 62 #[.agg #[.int .i64 lo, .int .i64 hi, .int .u64 (S1.wd (F) 0), .int .u64 (S1.wd (F) 1), .int .u64 (S1.wd (F) 2), .int .u64 (S1.wd (F) 3), .int .u64 (S1.wd (G) 0), .int .u64 (S1.wd (G) 1), .int .u64 (S1.wd (G) 2), .int .u64 (S1.wd (G) 3), .int .u64 (S1.wd (H) 0), .int .u64 (S1.wd (H) 1), .int .u64 (S1.wd (H) 2), .int .u64 (S1.wd (H) 3)], .int .i64 mn, .int .i64 mx] w fun e w' => e = .returned (.agg #[.int .i64 (cut20 (lo * mn)), .int .i64 hi, .int .u64 (S1.wd (F) 0), .int .u64 (S1.wd (F) 1), .int .u64 (S1.wd (F) 2), .int .u64 (S1.wd (F) 3), .int .u64 (S1.wd (G) 0), .int .u64 (S1.wd (G) 1), .int .u64 (S1.wd (G) 2), .int .u64 (S1.wd (G) 3), .int .u64 (S1.wd (H) 0), .int .u64 (S1.wd (H) 1), .int .u64 (S1.wd (H) 2), .int .u64 (S1.wd (H) 3)]) ∧ Below w.heap.size w w' := by
  have hV := fun w => lvoid_in ⟨lo, hi, F, G, H⟩ w
  simp only at hV
  rw [show (lo == -1) = false by rw [beq_eq_false_iff_ne]; have := h0.1; omega] at hV
  obtain ⟨P2, hP2⟩ : ∃ P2, lo * mn = P2 := ⟨_, rfl⟩
  have b2 := mul_within h0 hb.1 hb.2
  rw [hP2] at b2 ⊢
  have k2 : IntKind.i64.wrap P2 = P2 := IntWalk.i64_in P2 ⟨by omega, by omega⟩
  have c2 := Lib.hid fun w => lim_in P2 w
  have c1 := c2
  have g1 : (mx == -1) = true := by rw [beq_iff_eq]; omega
  have g2 : decide (hi > 0) = false := by rw [decide_eq_false_iff_not]; omega
  have g3 : decide (0 < hi) = false := g2
  clear hp hm
  obtain ⟨hx, hr, hbel⟩ := two_new w #[.int .i64 lo, .int .i64 hi, .int .u64 (S1.wd (F) 0), .int .u64 (S1.wd (F) 1), .int .u64 (S1.wd (F) 2), .int .u64 (S1.wd (F) 3), .int .u64 (S1.wd (G) 0), .int .u64 (S1.wd (G) 1), .int .u64 (S1.wd (G) 2), .int .u64 (S1.wd (G) 3), .int .u64 (S1.wd (H) 0), .int .u64 (S1.wd (H) 1), .int .u64 (S1.wd (H) 2), .int .u64 (S1.wd (H) 3)] #[.int .i64 0, .int .i64 0, .int .u64 0, .int .u64 0, .int .u64 0, .int .u64 0, .int .u64 0, .int .u64 0, .int .u64 0, .int .u64 0, .int .u64 0, .int .u64 0, .int .u64 0, .int .u64 0] 57 57
  replace hV := Lib.hid hV
  replace hbel := Lib.hid hbel
  replace hr := Lib.hid hr
  replace hx := Lib.hid hx
  clear h0 hb b2
  go_enter Tryd.func62, Tryd.ntmps62
  go_wp2_with (first | (go_at_call 32; (with_reducible refine (hV.out _).mono ?_); rintro e w1 ⟨rfl, hb1⟩; replace hx := Lib.hid (kept_row hx.out hb1); replace hr := Lib.hid (kept_row hr.out hb1); replace hbel := Lib.hid (hbel.out.trans (hb1.mono hbel.out.size)); clear hb1; (try (clear x0 x1 x2 x3 x4 x5 x6 x7 x8 x9 x10 x11 x12 x13 g0 g1 g2 g3 g4 g5 g6 g7 g8 g9 g10 g11 g12 g13)); (try (clear x0 x1 x2 x3 x4 x5 x6 x7 x8 x9 x10 x11 x12 x13)); obtain ⟨x0, g0, x1, g1, x2, g2, x3, g3, x4, g4, x5, g5, x6, g6, x7, g7, x8, g8, x9, g9, x10, g10, x11, g11, x12, g12, x13, g13⟩ := d14 hx.out) | (fail) | (go_at_call 49; (with_reducible refine (c2.out _).mono ?_); rintro e w2 ⟨rfl, hb1⟩; replace hx := Lib.hid (kept_row hx.out hb1); replace hr := Lib.hid (kept_row hr.out hb1); replace hbel := Lib.hid (hbel.out.trans (hb1.mono hbel.out.size)); clear hb1; (try (clear x0 x1 x2 x3 x4 x5 x6 x7 x8 x9 x10 x11 x12 x13 g0 g1 g2 g3 g4 g5 g6 g7 g8 g9 g10 g11 g12 g13)); (try (clear x0 x1 x2 x3 x4 x5 x6 x7 x8 x9 x10 x11 x12 x13)); obtain ⟨x0, g0, x1, g1, x2, g2, x3, g3, x4, g4, x5, g5, x6, g6, x7, g7, x8, g8, x9, g9, x10, g10, x11, g11, x12, g12, x13, g13⟩ := d14 hx.out; obtain ⟨y0, f0, y1, f1, y2, f2, y3, f3, y4, f4, y5, f5, y6, f6, y7, f7, y8, f8, y9, f9, y10, f10, y11, f11, y12, f12, y13, f13⟩ := d14 hr.out))
  clear y0 y1 y2 y3 y4 y5 y6 y7 y8 y9 y10 y11 y12 y13 f0 f1 f2 f3 f4 f5 f6 f7 f8 f9 f10 f11 f12 f13
  clear x0 x1 x2 x3 x4 x5 x6 x7 x8 x9 x10 x11 x12 x13 g0 g1 g2 g3 g4 g5 g6 g7 g8 g9 g10 g11 g12 g13
  have s9 := set1 hx.out 0 (.int .i64 (cut20 P2))
  have h9 := s9.1
  simp only [List.setIfInBounds_toArray, List.set_cons_zero] at h9
  replace hx := Lib.hid h9
  replace hr := Lib.hid ((s9.2.1 _ (by omega)).trans hr.out)
  replace hbel := Lib.hid (hbel.out.trans (s9.2.2 _ (by omega)))
  clear s9 h9
  obtain ⟨q1, q2, q3, q4⟩ := set14 (d0 := .int .i64 (cut20 P2)) (d1 := .int .i64 hi) (d2 := .int .u64 (S1.wd (F) 0)) (d3 := .int .u64 (S1.wd (F) 1)) (d4 := .int .u64 (S1.wd (F) 2)) (d5 := .int .u64 (S1.wd (F) 3)) (d6 := .int .u64 (S1.wd (G) 0)) (d7 := .int .u64 (S1.wd (G) 1)) (d8 := .int .u64 (S1.wd (G) 2)) (d9 := .int .u64 (S1.wd (G) 3)) (d10 := .int .u64 (S1.wd (H) 0)) (d11 := .int .u64 (S1.wd (H) 1)) (d12 := .int .u64 (S1.wd (H) 2)) (d13 := .int .u64 (S1.wd (H) 3)) hr.out _ rfl
  generalize hW : World.setCell _ (⟨w.heap.size + 1, 13, none⟩ : Addr) _ = W9 at *
  clear hW
  obtain ⟨o0, o1, o2, o3, o4, o5, o6, o7, o8, o9, o10, o11, o12, o13⟩ := c14 q1
  refine bodyPost_ret (v := .agg #[.int .i64 (cut20 P2), .int .i64 hi, .int .u64 (S1.wd (F) 0), .int .u64 (S1.wd (F) 1), .int .u64 (S1.wd (F) 2), .int .u64 (S1.wd (F) 3), .int .u64 (S1.wd (G) 0), .int .u64 (S1.wd (G) 1), .int .u64 (S1.wd (G) 2), .int .u64 (S1.wd (G) 3), .int .u64 (S1.wd (H) 0), .int .u64 (S1.wd (H) 1), .int .u64 (S1.wd (H) 2), .int .u64 (S1.wd (H) 3)]) (by simp [results, Tryd.results62, go_sem, o0, o1, o2, o3, o4, o5, o6, o7, o8, o9, o10, o11, o12, o13]) rfl ?_
  exact ⟨rfl, hbel.out.trans (q4 _ (by omega))⟩
end Go.Proofs.YtaebhbcamhmhoaaDoor
