/- The strings of both, where both have some. -/

import Derived.Test.YtaebhbcamhmhoaaDoorVB
import Derived.Test.YtaebhbcamhmhoaaDoorLL
namespace Go.Proofs.YtaebhbcamhmhoaaDoor
open Go.RowKit
open Go.Tree7
open S7
open S5 (nl nl_length nl_small at_nl nl_at Gives idx idx_at ix ix_no ix_yes)
set_option maxHeartbeats 8000000 in
theorem or_both {lo hi lo' hi' : Int} (F G H F' G' H' : Nat → Bool) (h : 0 ≤ lo) (h' : 0 ≤ lo') (w : World) : Calls Tryd.prog 61 #[.agg #[.int .i64 lo, .int .i64 hi, .int .u64 (S1.wd (F) 0), .int .u64 (S1.wd (F) 1), .int .u64 (S1.wd (F) 2), .int .u64 (S1.wd (F) 3), .int .u64 (S1.wd (G) 0), .int .u64 (S1.wd (G) 1), .int .u64 (S1.wd (G) 2), .int .u64 (S1.wd (G) 3), .int .u64 (S1.wd (H) 0), .int .u64 (S1.wd (H) 1), .int .u64 (S1.wd (H) 2), .int .u64 (S1.wd (H) 3)], .agg #[.int .i64 lo', .int .i64 hi', .int .u64 (S1.wd (F') 0), .int .u64 (S1.wd (F') 1), .int .u64 (S1.wd (F') 2), .int .u64 (S1.wd (F') 3), .int .u64 (S1.wd (G') 0), .int .u64 (S1.wd (G') 1), .int .u64 (S1.wd (G') 2), .int .u64 (S1.wd (G') 3), .int .u64 (S1.wd (H') 0), .int .u64 (S1.wd (H') 1), .int .u64 (S1.wd (H') 2), .int .u64 (S1.wd (H') 3)]] w fun e w' => e = .returned (.agg #[.int .i64 (min lo lo'), .int .i64 (max hi hi'), .int .u64 (S1.wd (S1.orS F F') 0), .int .u64 (S1.wd (S1.orS F F') 1), .int .u64 (S1.wd (S1.orS F F') 2), .int .u64 (S1.wd (S1.orS F F') 3), .int .u64 (S1.wd (S1.orS G G') 0), .int .u64 (S1.wd (S1.orS G G') 1), .int .u64 (S1.wd (S1.orS G G') 2), .int .u64 (S1.wd (S1.orS G G') 3), .int .u64 (S1.wd (S1.orS H H') 0), .int .u64 (S1.wd (S1.orS H H') 1), .int .u64 (S1.wd (S1.orS H H') 2), .int .u64 (S1.wd (S1.orS H H') 3)]) ∧ Below w.heap.size w w' := by
  have hV := fun w => lvoid_in ⟨lo, hi, F, G, H⟩ w
  have hV' := fun w => lvoid_in ⟨lo', hi', F', G', H'⟩ w
  simp only at hV hV'
  rw [show (lo == -1) = false by rw [beq_eq_false_iff_ne]; omega] at hV
  rw [show (lo' == -1) = false by rw [beq_eq_false_iff_ne]; omega] at hV'
  obtain ⟨Q1, hQ1⟩ : ∃ Q1, (if lo' < lo then lo' else lo) = Q1 := ⟨_, rfl⟩
  obtain ⟨Q2, hQ2⟩ : ∃ Q2, (if hi < hi' then hi' else hi) = Q2 := ⟨_, rfl⟩
  rw [show min lo lo' = Q1 by rw [← hQ1]; split <;> omega, show max hi hi' = Q2 by rw [← hQ2]; split <;> omega]
  have c1 := Lib.hid fun w => S1.or_in F F' w
  have c2 := Lib.hid fun w => S1.or_in G G' w
  have c3 := Lib.hid fun w => S1.or_in H H' w
  obtain ⟨hx, hm, hr, hbel⟩ := new_three w #[.int .i64 lo, .int .i64 hi, .int .u64 (S1.wd (F) 0), .int .u64 (S1.wd (F) 1), .int .u64 (S1.wd (F) 2), .int .u64 (S1.wd (F) 3), .int .u64 (S1.wd (G) 0), .int .u64 (S1.wd (G) 1), .int .u64 (S1.wd (G) 2), .int .u64 (S1.wd (G) 3), .int .u64 (S1.wd (H) 0), .int .u64 (S1.wd (H) 1), .int .u64 (S1.wd (H) 2), .int .u64 (S1.wd (H) 3)] #[.int .i64 lo', .int .i64 hi', .int .u64 (S1.wd (F') 0), .int .u64 (S1.wd (F') 1), .int .u64 (S1.wd (F') 2), .int .u64 (S1.wd (F') 3), .int .u64 (S1.wd (G') 0), .int .u64 (S1.wd (G') 1), .int .u64 (S1.wd (G') 2), .int .u64 (S1.wd (G') 3), .int .u64 (S1.wd (H') 0), .int .u64 (S1.wd (H') 1), .int .u64 (S1.wd (H') 2), .int .u64 (S1.wd (H') 3)] #[.int .i64 0, .int .i64 0, .int .u64 0, .int .u64 0, .int .u64 0, .int .u64 0, .int .u64 0, .int .u64 0, .int .u64 0, .int .u64 0, .int .u64 0, .int .u64 0, .int .u64 0, .int .u64 0] 57 57 57
  replace hV := Lib.hid hV
  replace hV' := Lib.hid hV'
  replace hbel := Lib.hid hbel
  replace hr := Lib.hid hr
  replace hx := Lib.hid hx
  replace hm := Lib.hid hm
  clear h h'
  go_enter Tryd.func61, Tryd.ntmps61
  go_wp2_with (first | (go_at_call 32; (with_reducible refine (hV.out _).mono ?_); rintro e w1 ⟨rfl, hb1⟩; replace hx := Lib.hid (kept_row hx.out hb1); replace hm := Lib.hid (kept_row hm.out hb1); replace hr := Lib.hid (kept_row hr.out hb1); replace hbel := Lib.hid (hbel.out.trans (hb1.mono hbel.out.size)); clear hb1; (try (clear x0 x1 x2 x3 x4 x5 x6 x7 x8 x9 x10 x11 x12 x13)); (try (clear m0 m1 m2 m3 m4 m5 m6 m7 m8 m9 m10 m11 m12 m13)); (try (clear y0 y1 y2 y3 y4 y5 y6 y7 y8 y9 y10 y11 y12 y13 f0 f1 f2 f3 f4 f5 f6 f7 f8 f9 f10 f11 f12 f13)); obtain ⟨m0, m1, m2, m3, m4, m5, m6, m7, m8, m9, m10, m11, m12, m13⟩ := c14 hm.out) | (go_at_call 32; (with_reducible refine (hV'.out _).mono ?_); rintro e w1 ⟨rfl, hb1⟩; replace hx := Lib.hid (kept_row hx.out hb1); replace hm := Lib.hid (kept_row hm.out hb1); replace hr := Lib.hid (kept_row hr.out hb1); replace hbel := Lib.hid (hbel.out.trans (hb1.mono hbel.out.size)); clear hb1; (try (clear x0 x1 x2 x3 x4 x5 x6 x7 x8 x9 x10 x11 x12 x13)); (try (clear m0 m1 m2 m3 m4 m5 m6 m7 m8 m9 m10 m11 m12 m13)); (try (clear y0 y1 y2 y3 y4 y5 y6 y7 y8 y9 y10 y11 y12 y13 f0 f1 f2 f3 f4 f5 f6 f7 f8 f9 f10 f11 f12 f13)); skip))
  have hS3 : w1.drew.heap[w.heap.size]? = some (.cells #[.int .i64 lo, .int .i64 hi, .int .u64 (S1.wd (F) 0), .int .u64 (S1.wd (F) 1), .int .u64 (S1.wd (F) 2), .int .u64 (S1.wd (F) 3), .int .u64 (S1.wd (G) 0), .int .u64 (S1.wd (G) 1), .int .u64 (S1.wd (G) 2), .int .u64 (S1.wd (G) 3), .int .u64 (S1.wd (H) 0), .int .u64 (S1.wd (H) 1), .int .u64 (S1.wd (H) 2), .int .u64 (S1.wd (H) 3)] 57 (0, 0)) ∧ w1.drew.heap[w.heap.size + 1]? = some (.cells #[.int .i64 lo', .int .i64 hi', .int .u64 (S1.wd (F') 0), .int .u64 (S1.wd (F') 1), .int .u64 (S1.wd (F') 2), .int .u64 (S1.wd (F') 3), .int .u64 (S1.wd (G') 0), .int .u64 (S1.wd (G') 1), .int .u64 (S1.wd (G') 2), .int .u64 (S1.wd (G') 3), .int .u64 (S1.wd (H') 0), .int .u64 (S1.wd (H') 1), .int .u64 (S1.wd (H') 2), .int .u64 (S1.wd (H') 3)] 57 (0, 0)) := ⟨hx.out, hm.out⟩
  replace hr := Lib.hid (show w1.drew.heap[w.heap.size + 1 + 1]? = some (.cells #[.int .i64 0, .int .i64 0, .int .u64 0, .int .u64 0, .int .u64 0, .int .u64 0, .int .u64 0, .int .u64 0, .int .u64 0, .int .u64 0, .int .u64 0, .int .u64 0, .int .u64 0, .int .u64 0] 57 (0, 0)) from hr.out)
  replace hbel := Lib.hid (show Below w.heap.size w w1.drew from hbel.out.trans (Below.refl _ _).drew)
  clear hx hm hV hV'
  refine Go.Last.start (S := fun W => W.heap[w.heap.size]? = some (.cells #[.int .i64 lo, .int .i64 hi, .int .u64 (S1.wd (F) 0), .int .u64 (S1.wd (F) 1), .int .u64 (S1.wd (F) 2), .int .u64 (S1.wd (F) 3), .int .u64 (S1.wd (G) 0), .int .u64 (S1.wd (G) 1), .int .u64 (S1.wd (G) 2), .int .u64 (S1.wd (G) 3), .int .u64 (S1.wd (H) 0), .int .u64 (S1.wd (H) 1), .int .u64 (S1.wd (H) 2), .int .u64 (S1.wd (H) 3)] 57 (0, 0)) ∧ W.heap[w.heap.size + 1]? = some (.cells #[.int .i64 lo', .int .i64 hi', .int .u64 (S1.wd (F') 0), .int .u64 (S1.wd (F') 1), .int .u64 (S1.wd (F') 2), .int .u64 (S1.wd (F') 3), .int .u64 (S1.wd (G') 0), .int .u64 (S1.wd (G') 1), .int .u64 (S1.wd (G') 2), .int .u64 (S1.wd (G') 3), .int .u64 (S1.wd (H') 0), .int .u64 (S1.wd (H') 1), .int .u64 (S1.wd (H') 2), .int .u64 (S1.wd (H') 3)] 57 (0, 0))) (z := 26) (by decide +kernel) hS3 (fun hHeld => ?_)
  clear hS3
  generalize w1.drew = wd at *
  refine Go.Last.take (i := 0) (v := ?v0u82) rfl (by decide +kernel) (by decide +kernel) (by decide +kernel) (fun _ _ _ h => h) (by decide +kernel) (Or.inl ⟨by rfl, ?h0u82⟩) hHeld ?r0u82
  case h0u82 => (intro wq9 hSw; go_simp <;> with_reducible rfl)
  try simp only [Go.Last.pt]
  refine Go.Last.take (i := 1) (v := ?v1u83) rfl (by decide +kernel) (by decide +kernel) (by decide +kernel) (fun _ _ _ h => h) (by decide +kernel) (Or.inl ⟨by rfl, ?h1u83⟩) hHeld ?r1u83
  case h1u83 => (intro wq9 hSw; have x0 := (cells_of hSw.1 0 _ rfl).1; go_simp <;> with_reducible rfl)
  try simp only [Go.Last.pt]
  refine Go.Last.take (i := 2) (v := ?v2u84) rfl (by decide +kernel) (by decide +kernel) (by decide +kernel) (fun _ _ _ h => h) (by decide +kernel) (Or.inl ⟨by rfl, ?h2u84⟩) hHeld ?r2u84
  case h2u84 => (intro wq9 hSw; go_simp <;> with_reducible rfl)
  try simp only [Go.Last.pt]
  refine Go.Last.take (i := 3) (v := ?v3u85) rfl (by decide +kernel) (by decide +kernel) (by decide +kernel) (fun _ _ _ h => h) (by decide +kernel) (Or.inl ⟨by rfl, ?h3u85⟩) hHeld ?r3u85
  case h3u85 => (intro wq9 hSw; have m0 := (cells_of hSw.2 0 _ rfl).1; go_simp <;> with_reducible rfl)
  try simp only [Go.Last.pt]
  refine Go.Last.take (i := 4) (v := ?v4u86) rfl (by decide +kernel) (by decide +kernel) (by decide +kernel) (fun _ _ _ h => h) (by decide +kernel) (Or.inl ⟨by rfl, ?h4u86⟩) hHeld ?r4u86
  case h4u86 => (intro wq9 hSw; go_simp <;> with_reducible rfl)
  try simp only [Go.Last.pt]
  refine Go.Last.take (i := 5) (v := ?v5u87) rfl (by decide +kernel) (by decide +kernel) (by decide +kernel) (fun _ _ _ h => h) (by decide +kernel) (Or.inl ⟨by rfl, ?h5u87⟩) hHeld ?r5u87
  case h5u87 => (intro wq9 hSw; go_simp <;> with_reducible rfl)
  try simp only [Go.Last.pt]
  refine Go.Last.take (i := 6) (v := ?v6u88) rfl (by decide +kernel) (by decide +kernel) (by decide +kernel) (fun _ _ _ h => h) (by decide +kernel) (Or.inl ⟨by rfl, ?h6u88⟩) hHeld ?r6u88
  case h6u88 => (intro wq9 hSw; have x1 := (cells_of hSw.1 1 _ rfl).1; go_simp <;> with_reducible rfl)
  try simp only [Go.Last.pt]
  refine Go.Last.take (i := 7) (v := ?v7u89) rfl (by decide +kernel) (by decide +kernel) (by decide +kernel) (fun _ _ _ h => h) (by decide +kernel) (Or.inl ⟨by rfl, ?h7u89⟩) hHeld ?r7u89
  case h7u89 => (intro wq9 hSw; go_simp <;> with_reducible rfl)
  try simp only [Go.Last.pt]
  refine Go.Last.take (i := 8) (v := ?v8u90) rfl (by decide +kernel) (by decide +kernel) (by decide +kernel) (fun _ _ _ h => h) (by decide +kernel) (Or.inl ⟨by rfl, ?h8u90⟩) hHeld ?r8u90
  case h8u90 => (intro wq9 hSw; have m1 := (cells_of hSw.2 1 _ rfl).1; go_simp <;> with_reducible rfl)
  try simp only [Go.Last.pt]
  refine Go.Last.take (i := 9) (v := ?v9u91) rfl (by decide +kernel) (by decide +kernel) (by decide +kernel) (fun _ _ _ h => h) (by decide +kernel) (Or.inl ⟨by rfl, ?h9u91⟩) hHeld ?r9u91
  case h9u91 => (intro wq9 hSw; go_simp <;> with_reducible rfl)
  try simp only [Go.Last.pt]
  refine Go.Last.take (i := 10) (v := ?v10u92) rfl (by decide +kernel) (by decide +kernel) (by decide +kernel) (fun _ _ _ h => h) (by decide +kernel) (Or.inl ⟨by rfl, ?h10u92⟩) hHeld ?r10u92
  case h10u92 => (intro wq9 hSw; go_simp <;> with_reducible rfl)
  try simp only [Go.Last.pt]
  refine Go.Last.take (i := 11) (v := ?v11u93) rfl (by decide +kernel) (by decide +kernel) (by decide +kernel) (fun _ _ _ h => h) (by decide +kernel) (Or.inl ⟨by rfl, ?h11u93⟩) hHeld ?r11u93
  case h11u93 => (intro wq9 hSw; have x2 := (cells_of hSw.1 2 _ rfl).1; have x3 := (cells_of hSw.1 3 _ rfl).1; have x4 := (cells_of hSw.1 4 _ rfl).1; have x5 := (cells_of hSw.1 5 _ rfl).1; go_simp <;> with_reducible rfl)
  try simp only [Go.Last.pt]
  refine Go.Last.take (i := 12) (v := ?v12u94) rfl (by decide +kernel) (by decide +kernel) (by decide +kernel) (fun _ _ _ h => h) (by decide +kernel) (Or.inl ⟨by rfl, ?h12u94⟩) hHeld ?r12u94
  case h12u94 => (intro wq9 hSw; go_simp <;> with_reducible rfl)
  try simp only [Go.Last.pt]
  refine Go.Last.take (i := 13) (v := ?v13u95) rfl (by decide +kernel) (by decide +kernel) (by decide +kernel) (fun _ _ _ h => h) (by decide +kernel) (Or.inl ⟨by rfl, ?h13u95⟩) hHeld ?r13u95
  case h13u95 => (intro wq9 hSw; have m2 := (cells_of hSw.2 2 _ rfl).1; have m3 := (cells_of hSw.2 3 _ rfl).1; have m4 := (cells_of hSw.2 4 _ rfl).1; have m5 := (cells_of hSw.2 5 _ rfl).1; go_simp <;> with_reducible rfl)
  try simp only [Go.Last.pt]
  refine Go.Last.take (i := 15) (v := ?v15u96) rfl (by decide +kernel) (by decide +kernel) (by decide +kernel) (fun _ _ _ h => h) (by decide +kernel) (Or.inl ⟨by rfl, ?h15u96⟩) hHeld ?r15u96
  case h15u96 => (intro wq9 hSw; go_simp <;> with_reducible rfl)
  try simp only [Go.Last.pt]
  refine Go.Last.take (i := 16) (v := ?v16u97) rfl (by decide +kernel) (by decide +kernel) (by decide +kernel) (fun _ _ _ h => h) (by decide +kernel) (Or.inl ⟨by rfl, ?h16u97⟩) hHeld ?r16u97
  case h16u97 => (intro wq9 hSw; have x6 := (cells_of hSw.1 6 _ rfl).1; have x7 := (cells_of hSw.1 7 _ rfl).1; have x8 := (cells_of hSw.1 8 _ rfl).1; have x9 := (cells_of hSw.1 9 _ rfl).1; go_simp <;> with_reducible rfl)
  try simp only [Go.Last.pt]
  refine Go.Last.take (i := 17) (v := ?v17u98) rfl (by decide +kernel) (by decide +kernel) (by decide +kernel) (fun _ _ _ h => h) (by decide +kernel) (Or.inl ⟨by rfl, ?h17u98⟩) hHeld ?r17u98
  case h17u98 => (intro wq9 hSw; go_simp <;> with_reducible rfl)
  try simp only [Go.Last.pt]
  refine Go.Last.take (i := 18) (v := ?v18u99) rfl (by decide +kernel) (by decide +kernel) (by decide +kernel) (fun _ _ _ h => h) (by decide +kernel) (Or.inl ⟨by rfl, ?h18u99⟩) hHeld ?r18u99
  case h18u99 => (intro wq9 hSw; have m6 := (cells_of hSw.2 6 _ rfl).1; have m7 := (cells_of hSw.2 7 _ rfl).1; have m8 := (cells_of hSw.2 8 _ rfl).1; have m9 := (cells_of hSw.2 9 _ rfl).1; go_simp <;> with_reducible rfl)
  try simp only [Go.Last.pt]
  refine Go.Last.take (i := 20) (v := ?v20u100) rfl (by decide +kernel) (by decide +kernel) (by decide +kernel) (fun _ _ _ h => h) (by decide +kernel) (Or.inl ⟨by rfl, ?h20u100⟩) hHeld ?r20u100
  case h20u100 => (intro wq9 hSw; go_simp <;> with_reducible rfl)
  try simp only [Go.Last.pt]
  refine Go.Last.take (i := 21) (v := ?v21u101) rfl (by decide +kernel) (by decide +kernel) (by decide +kernel) (fun _ _ _ h => h) (by decide +kernel) (Or.inl ⟨by rfl, ?h21u101⟩) hHeld ?r21u101
  case h21u101 => (intro wq9 hSw; have x10 := (cells_of hSw.1 10 _ rfl).1; have x11 := (cells_of hSw.1 11 _ rfl).1; have x12 := (cells_of hSw.1 12 _ rfl).1; have x13 := (cells_of hSw.1 13 _ rfl).1; go_simp <;> with_reducible rfl)
  try simp only [Go.Last.pt]
  refine Go.Last.take (i := 22) (v := ?v22u102) rfl (by decide +kernel) (by decide +kernel) (by decide +kernel) (fun _ _ _ h => h) (by decide +kernel) (Or.inl ⟨by rfl, ?h22u102⟩) hHeld ?r22u102
  case h22u102 => (intro wq9 hSw; go_simp <;> with_reducible rfl)
  try simp only [Go.Last.pt]
  refine Go.Last.take (i := 23) (v := ?v23u103) rfl (by decide +kernel) (by decide +kernel) (by decide +kernel) (fun _ _ _ h => h) (by decide +kernel) (Or.inl ⟨by rfl, ?h23u103⟩) hHeld ?r23u103
  case h23u103 => (intro wq9 hSw; have m10 := (cells_of hSw.2 10 _ rfl).1; have m11 := (cells_of hSw.2 11 _ rfl).1; have m12 := (cells_of hSw.2 12 _ rfl).1; have m13 := (cells_of hSw.2 13 _ rfl).1; go_simp <;> with_reducible rfl)
  try simp only [Go.Last.pt]
  refine Go.Last.one 14 (by decide +kernel) rfl (fun K hK => ?_)
  go_simp
  (go_at_call 18; (with_reducible refine (c1.out _).mono ?_); rintro e w14 ⟨rfl, hb14⟩; replace hr := Lib.hid (kept_row hr.out hb14); replace hbel := Lib.hid (hbel.out.trans (hb14.mono hbel.out.size)))
  try dsimp only
  refine hK.out _ _ (.of (⟨kept_row hHeld.1 hb14, kept_row hHeld.2 hb14⟩)) (fun hHeld2 => ?_)
  clear hK K hHeld
  have hHeld := hHeld2.resolve_left (by decide)
  clear hHeld2
  try simp only [Go.Last.pt]
  refine Go.Last.one 19 (by decide +kernel) rfl (fun K hK => ?_)
  go_simp
  (go_at_call 18; (with_reducible refine (c2.out _).mono ?_); rintro e w19 ⟨rfl, hb19⟩; replace hr := Lib.hid (kept_row hr.out hb19); replace hbel := Lib.hid (hbel.out.trans (hb19.mono hbel.out.size)))
  try dsimp only
  refine hK.out _ _ (.of (⟨kept_row hHeld.1 hb19, kept_row hHeld.2 hb19⟩)) (fun hHeld2 => ?_)
  clear hK K hHeld
  have hHeld := hHeld2.resolve_left (by decide)
  clear hHeld2
  try simp only [Go.Last.pt]
  refine Go.Last.one 24 (by decide +kernel) rfl (fun K hK => ?_)
  go_simp
  (go_at_call 18; (with_reducible refine (c3.out _).mono ?_); rintro e w24 ⟨rfl, hb24⟩; replace hr := Lib.hid (kept_row hr.out hb24); replace hbel := Lib.hid (hbel.out.trans (hb24.mono hbel.out.size)); obtain ⟨y0, f0, y1, f1, y2, f2, y3, f3, y4, f4, y5, f5, y6, f6, y7, f7, y8, f8, y9, f9, y10, f10, y11, f11, y12, f12, y13, f13⟩ := d14 hr.out)
  try dsimp only
  refine hK.out _ _ (.of (⟨kept_row hHeld.1 hb24, kept_row hHeld.2 hb24⟩)) (fun hHeld2 => ?_)
  clear hK K hHeld
  have hHeld := hHeld2.resolve_left (by decide)
  clear hHeld2
  try simp only [Go.Last.pt]
  refine Go.Last.one 25 (by decide +kernel) rfl (fun K hK => ?_)
  go_simp
  try dsimp only
  refine hK.out _ _ (.of (hHeld)) (fun hHeld2 => ?_)
  clear hK K hHeld
  have hHeld := hHeld2.resolve_left (by decide)
  clear hHeld2
  try simp only [Go.Last.pt]
  refine Go.Last.one 26 (by decide +kernel) rfl (fun K hK => ?_)
  go_simp
  try dsimp only
  refine hK.out _ _ .last (fun _ => ?_)
  clear hK K hHeld
  try simp only [Go.Last.pt]
  refine Go.Last.done (by decide +kernel) ?_ _
  clear y0 y1 y2 y3 y4 y5 y6 y7 y8 y9 y10 y11 y12 y13 f0 f1 f2 f3 f4 f5 f6 f7 f8 f9 f10 f11 f12 f13
  obtain ⟨q1, q2, q3, q4⟩ := set14 (d0 := .int .i64 Q1) (d1 := .int .i64 Q2) (d2 := .int .u64 (S1.wd (S1.orS F F') 0)) (d3 := .int .u64 (S1.wd (S1.orS F F') 1)) (d4 := .int .u64 (S1.wd (S1.orS F F') 2)) (d5 := .int .u64 (S1.wd (S1.orS F F') 3)) (d6 := .int .u64 (S1.wd (S1.orS G G') 0)) (d7 := .int .u64 (S1.wd (S1.orS G G') 1)) (d8 := .int .u64 (S1.wd (S1.orS G G') 2)) (d9 := .int .u64 (S1.wd (S1.orS G G') 3)) (d10 := .int .u64 (S1.wd (S1.orS H H') 0)) (d11 := .int .u64 (S1.wd (S1.orS H H') 1)) (d12 := .int .u64 (S1.wd (S1.orS H H') 2)) (d13 := .int .u64 (S1.wd (S1.orS H H') 3)) hr.out _ rfl
  generalize hW : World.setCell _ (⟨w.heap.size + 1 + 1, 13, none⟩ : Addr) _ = W9 at *
  clear hW
  go_wp2
  obtain ⟨o0, o1, o2, o3, o4, o5, o6, o7, o8, o9, o10, o11, o12, o13⟩ := c14 q1
  refine bodyPost_ret (v := .agg #[.int .i64 Q1, .int .i64 Q2, .int .u64 (S1.wd (S1.orS F F') 0), .int .u64 (S1.wd (S1.orS F F') 1), .int .u64 (S1.wd (S1.orS F F') 2), .int .u64 (S1.wd (S1.orS F F') 3), .int .u64 (S1.wd (S1.orS G G') 0), .int .u64 (S1.wd (S1.orS G G') 1), .int .u64 (S1.wd (S1.orS G G') 2), .int .u64 (S1.wd (S1.orS G G') 3), .int .u64 (S1.wd (S1.orS H H') 0), .int .u64 (S1.wd (S1.orS H H') 1), .int .u64 (S1.wd (S1.orS H H') 2), .int .u64 (S1.wd (S1.orS H H') 3)]) (by simp [results, Tryd.results61, go_sem, o0, o1, o2, o3, o4, o5, o6, o7, o8, o9, o10, o11, o12, o13]) rfl ?_
  exact ⟨rfl, hbel.out.trans (q4 _ (by omega))⟩
end Go.Proofs.YtaebhbcamhmhoaaDoor
