/- A string of the one and then one of the other: then, where both have some; both have the empty one. -/
import Derived.Deep.CutBlock
import Derived.Deep.DeepCutAuto
import Derived.Test.YtaebhbcamhmhoaaDoorVB
import Derived.Test.YtaebhbcamhmhoaaDoorLL
namespace Go.Proofs.YtaebhbcamhmhoaaDoor
open Go.RowKit
open Go.Tree7
open S7
open S5 (nl nl_length nl_small at_nl nl_at Gives idx idx_at ix ix_no ix_yes)
set_option maxHeartbeats 16000000 in
theorem then_tt {lo hi lo' hi' : Int} (F G H F' G' H' : Nat → Bool) (h : Within lo) (h' : Within lo') (k : Within hi) (k' : Within hi') (e1 : (lo == 0) = true) (e2 : (lo' == 0) = true) (w : World) : Calls Tryd.prog 60 #[.agg #[.int .i64 lo, .int .i64 hi, .int .u64 (S1.wd (F) 0), .int .u64 (S1.wd (F) 1), .int .u64 (S1.wd (F) 2), .int .u64 (S1.wd (F) 3), .int .u64 (S1.wd (G) 0), .int .u64 (S1.wd (G) 1), .int .u64 (S1.wd (G) 2), .int .u64 (S1.wd (G) 3), .int .u64 (S1.wd (H) 0), .int .u64 (S1.wd (H) 1), .int .u64 (S1.wd (H) 2), .int .u64 (S1.wd (H) 3)], .agg #[.int .i64 lo', .int .i64 hi', .int .u64 (S1.wd (F') 0), .int .u64 (S1.wd (F') 1), .int .u64 (S1.wd (F') 2), .int .u64 (S1.wd (F') 3), .int .u64 (S1.wd (G') 0), .int .u64 (S1.wd (G') 1), .int .u64 (S1.wd (G') 2), .int .u64 (S1.wd (G') 3), .int .u64 (S1.wd (H') 0), .int .u64 (S1.wd (H') 1), .int .u64 (S1.wd (H') 2), .int .u64 (S1.wd (H') 3)]] w fun e w' => e = .returned (.agg #[.int .i64 (cut20 (lo + lo')), .int .i64 (cut20 (hi + hi')), .int .u64 (S1.wd (S1.orS F F') 0), .int .u64 (S1.wd (S1.orS F F') 1), .int .u64 (S1.wd (S1.orS F F') 2), .int .u64 (S1.wd (S1.orS F F') 3), .int .u64 (S1.wd (S1.orS G' G) 0), .int .u64 (S1.wd (S1.orS G' G) 1), .int .u64 (S1.wd (S1.orS G' G) 2), .int .u64 (S1.wd (S1.orS G' G) 3), .int .u64 (S1.wd (S1.orS H H') 0), .int .u64 (S1.wd (S1.orS H H') 1), .int .u64 (S1.wd (S1.orS H H') 2), .int .u64 (S1.wd (S1.orS H H') 3)]) ∧ Below w.heap.size w w' := by
  have hV := fun w => lvoid_in ⟨lo, hi, F, G, H⟩ w
  have hV' := fun w => lvoid_in ⟨lo', hi', F', G', H'⟩ w
  simp only at hV hV'
  rw [show (lo == -1) = false by rw [beq_eq_false_iff_ne]; have := h.1; omega] at hV
  rw [show (lo' == -1) = false by rw [beq_eq_false_iff_ne]; have := h'.1; omega] at hV'
  obtain ⟨P1, hP1⟩ : ∃ P1, lo + lo' = P1 := ⟨_, rfl⟩
  obtain ⟨P2, hP2⟩ : ∃ P2, hi + hi' = P2 := ⟨_, rfl⟩
  rw [hP1, hP2]
  have k1 : IntKind.i64.wrap P1 = P1 := IntWalk.i64_in P1 (by obtain ⟨a, b⟩ := h; obtain ⟨c, d⟩ := h'; omega)
  have k2 : IntKind.i64.wrap P2 = P2 := IntWalk.i64_in P2 (by obtain ⟨a, b⟩ := k; obtain ⟨c, d⟩ := k'; omega)
  have c1 := Lib.hid fun w => lim_in P1 w
  have c2 := Lib.hid fun w => lim_in P2 w
  have c3 := Lib.hid fun w => S1.or_in H H' w
  have c4 := Lib.hid fun w => S1.or_in F F' w
  have c5 := Lib.hid fun w => S1.or_in G' G w
  have hN := fun w => lnull_in ⟨lo, hi, F, G, H⟩ w
  have hN' := fun w => lnull_in ⟨lo', hi', F', G', H'⟩ w
  simp only at hN hN'
  rw [e1] at hN
  rw [e2] at hN'
  clear e1 e2 h h' k k'
  obtain ⟨hx, hm, hr, hbel⟩ := new_three w #[.int .i64 lo, .int .i64 hi, .int .u64 (S1.wd (F) 0), .int .u64 (S1.wd (F) 1), .int .u64 (S1.wd (F) 2), .int .u64 (S1.wd (F) 3), .int .u64 (S1.wd (G) 0), .int .u64 (S1.wd (G) 1), .int .u64 (S1.wd (G) 2), .int .u64 (S1.wd (G) 3), .int .u64 (S1.wd (H) 0), .int .u64 (S1.wd (H) 1), .int .u64 (S1.wd (H) 2), .int .u64 (S1.wd (H) 3)] #[.int .i64 lo', .int .i64 hi', .int .u64 (S1.wd (F') 0), .int .u64 (S1.wd (F') 1), .int .u64 (S1.wd (F') 2), .int .u64 (S1.wd (F') 3), .int .u64 (S1.wd (G') 0), .int .u64 (S1.wd (G') 1), .int .u64 (S1.wd (G') 2), .int .u64 (S1.wd (G') 3), .int .u64 (S1.wd (H') 0), .int .u64 (S1.wd (H') 1), .int .u64 (S1.wd (H') 2), .int .u64 (S1.wd (H') 3)] #[.int .i64 0, .int .i64 0, .int .u64 0, .int .u64 0, .int .u64 0, .int .u64 0, .int .u64 0, .int .u64 0, .int .u64 0, .int .u64 0, .int .u64 0, .int .u64 0, .int .u64 0, .int .u64 0] 57 57 57
  replace hV := Lib.hid hV
  replace hV' := Lib.hid hV'
  replace hN := Lib.hid hN
  replace hN' := Lib.hid hN'
  replace hbel := Lib.hid hbel
  replace hr := Lib.hid hr
  replace hx := Lib.hid hx
  replace hm := Lib.hid hm
  go_enter Tryd.func60, Tryd.ntmps60
  go_upto_region 3 with (first | (go_at_call 32; (with_reducible refine (hV.out _).mono ?_); rintro e w1 ⟨rfl, hb1⟩; replace hx := Lib.hid (kept_row hx.out hb1); replace hm := Lib.hid (kept_row hm.out hb1); replace hr := Lib.hid (kept_row hr.out hb1); replace hbel := Lib.hid (hbel.out.trans (hb1.mono hbel.out.size)); clear hb1; (try (clear x0 x1 x2 x3 x4 x5 x6 x7 x8 x9 x10 x11 x12 x13)); (try (clear m0 m1 m2 m3 m4 m5 m6 m7 m8 m9 m10 m11 m12 m13)); (try (clear y0 y1 y2 y3 y4 y5 y6 y7 y8 y9 y10 y11 y12 y13 f0 f1 f2 f3 f4 f5 f6 f7 f8 f9 f10 f11 f12 f13)); obtain ⟨m0, m1, m2, m3, m4, m5, m6, m7, m8, m9, m10, m11, m12, m13⟩ := c14 hm.out) | (go_at_call 32; (with_reducible refine (hV'.out _).mono ?_); rintro e w1 ⟨rfl, hb1⟩; replace hx := Lib.hid (kept_row hx.out hb1); replace hm := Lib.hid (kept_row hm.out hb1); replace hr := Lib.hid (kept_row hr.out hb1); replace hbel := Lib.hid (hbel.out.trans (hb1.mono hbel.out.size)); clear hb1; (try (clear x0 x1 x2 x3 x4 x5 x6 x7 x8 x9 x10 x11 x12 x13)); (try (clear m0 m1 m2 m3 m4 m5 m6 m7 m8 m9 m10 m11 m12 m13)); (try (clear y0 y1 y2 y3 y4 y5 y6 y7 y8 y9 y10 y11 y12 y13 f0 f1 f2 f3 f4 f5 f6 f7 f8 f9 f10 f11 f12 f13)); skip))
  go_cut [5] (fun s5 wx => ∃ b, s5 = .pointer (some ⟨b, 0, none⟩) ∧ Hid (wx.heap[b]? = some (.cells #[.int .i64 (cut20 P1), .int .i64 (cut20 P2), .int .u64 (S1.wd (F) 0), .int .u64 (S1.wd (F) 1), .int .u64 (S1.wd (F) 2), .int .u64 (S1.wd (F) 3), .int .u64 (S1.wd (G') 0), .int .u64 (S1.wd (G') 1), .int .u64 (S1.wd (G') 2), .int .u64 (S1.wd (G') 3), .int .u64 (S1.wd (S1.orS H H') 0), .int .u64 (S1.wd (S1.orS H H') 1), .int .u64 (S1.wd (S1.orS H H') 2), .int .u64 (S1.wd (S1.orS H H') 3)] 57 (0, 0)) ∧ wx.heap[w.heap.size]? = some (.cells #[.int .i64 lo, .int .i64 hi, .int .u64 (S1.wd (F) 0), .int .u64 (S1.wd (F) 1), .int .u64 (S1.wd (F) 2), .int .u64 (S1.wd (F) 3), .int .u64 (S1.wd (G) 0), .int .u64 (S1.wd (G) 1), .int .u64 (S1.wd (G) 2), .int .u64 (S1.wd (G) 3), .int .u64 (S1.wd (H) 0), .int .u64 (S1.wd (H) 1), .int .u64 (S1.wd (H) 2), .int .u64 (S1.wd (H) 3)] 57 (0, 0)) ∧ wx.heap[w.heap.size + 1]? = some (.cells #[.int .i64 lo', .int .i64 hi', .int .u64 (S1.wd (F') 0), .int .u64 (S1.wd (F') 1), .int .u64 (S1.wd (F') 2), .int .u64 (S1.wd (F') 3), .int .u64 (S1.wd (G') 0), .int .u64 (S1.wd (G') 1), .int .u64 (S1.wd (G') 2), .int .u64 (S1.wd (G') 3), .int .u64 (S1.wd (H') 0), .int .u64 (S1.wd (H') 1), .int .u64 (S1.wd (H') 2), .int .u64 (S1.wd (H') 3)] 57 (0, 0)) ∧ wx.heap[w.heap.size + 1 + 1]? = some (.cells #[.int .i64 0, .int .i64 0, .int .u64 0, .int .u64 0, .int .u64 0, .int .u64 0, .int .u64 0, .int .u64 0, .int .u64 0, .int .u64 0, .int .u64 0, .int .u64 0, .int .u64 0, .int .u64 0] 57 (0, 0)) ∧ Below w.heap.size w wx ∧ w.heap.size + 1 + 1 < b))
  case first =>
    have hS3 : w1.drew.heap[w.heap.size]? = some (.cells #[.int .i64 lo, .int .i64 hi, .int .u64 (S1.wd (F) 0), .int .u64 (S1.wd (F) 1), .int .u64 (S1.wd (F) 2), .int .u64 (S1.wd (F) 3), .int .u64 (S1.wd (G) 0), .int .u64 (S1.wd (G) 1), .int .u64 (S1.wd (G) 2), .int .u64 (S1.wd (G) 3), .int .u64 (S1.wd (H) 0), .int .u64 (S1.wd (H) 1), .int .u64 (S1.wd (H) 2), .int .u64 (S1.wd (H) 3)] 57 (0, 0)) ∧ w1.drew.heap[w.heap.size + 1]? = some (.cells #[.int .i64 lo', .int .i64 hi', .int .u64 (S1.wd (F') 0), .int .u64 (S1.wd (F') 1), .int .u64 (S1.wd (F') 2), .int .u64 (S1.wd (F') 3), .int .u64 (S1.wd (G') 0), .int .u64 (S1.wd (G') 1), .int .u64 (S1.wd (G') 2), .int .u64 (S1.wd (G') 3), .int .u64 (S1.wd (H') 0), .int .u64 (S1.wd (H') 1), .int .u64 (S1.wd (H') 2), .int .u64 (S1.wd (H') 3)] 57 (0, 0)) := ⟨hx.out, hm.out⟩
    replace hr := Lib.hid (show w1.drew.heap[w.heap.size + 1 + 1]? = some (.cells #[.int .i64 0, .int .i64 0, .int .u64 0, .int .u64 0, .int .u64 0, .int .u64 0, .int .u64 0, .int .u64 0, .int .u64 0, .int .u64 0, .int .u64 0, .int .u64 0, .int .u64 0, .int .u64 0] 57 (0, 0)) from hr.out)
    replace hbel := Lib.hid (show Below w.heap.size w w1.drew from hbel.out.trans (Below.refl _ _).drew)
    clear hx hm hV hV' hN hN' c4 c5
    refine Go.Last.start (S := fun W => W.heap[w.heap.size]? = some (.cells #[.int .i64 lo, .int .i64 hi, .int .u64 (S1.wd (F) 0), .int .u64 (S1.wd (F) 1), .int .u64 (S1.wd (F) 2), .int .u64 (S1.wd (F) 3), .int .u64 (S1.wd (G) 0), .int .u64 (S1.wd (G) 1), .int .u64 (S1.wd (G) 2), .int .u64 (S1.wd (G) 3), .int .u64 (S1.wd (H) 0), .int .u64 (S1.wd (H) 1), .int .u64 (S1.wd (H) 2), .int .u64 (S1.wd (H) 3)] 57 (0, 0)) ∧ W.heap[w.heap.size + 1]? = some (.cells #[.int .i64 lo', .int .i64 hi', .int .u64 (S1.wd (F') 0), .int .u64 (S1.wd (F') 1), .int .u64 (S1.wd (F') 2), .int .u64 (S1.wd (F') 3), .int .u64 (S1.wd (G') 0), .int .u64 (S1.wd (G') 1), .int .u64 (S1.wd (G') 2), .int .u64 (S1.wd (G') 3), .int .u64 (S1.wd (H') 0), .int .u64 (S1.wd (H') 1), .int .u64 (S1.wd (H') 2), .int .u64 (S1.wd (H') 3)] 57 (0, 0))) (z := 23) (by decide +kernel) hS3 (fun hHeld => ?_)
    clear hS3
    generalize w1.drew = wd at *
    refine Go.Last.take (i := 0) (v := ?v0u104) rfl (by decide +kernel) (by decide +kernel) (by decide +kernel) (fun _ _ _ h => h) (by decide +kernel) (Or.inl ⟨by rfl, ?h0u104⟩) hHeld ?r0u104
    case h0u104 => (intro wq9 hSw; go_simp <;> with_reducible rfl)
    try simp only [Go.Last.pt]
    refine Go.Last.take (i := 1) (v := ?v1u105) rfl (by decide +kernel) (by decide +kernel) (by decide +kernel) (fun _ _ _ h => h) (by decide +kernel) (Or.inl ⟨by rfl, ?h1u105⟩) hHeld ?r1u105
    case h1u105 => (intro wq9 hSw; have x0 := (cells_of hSw.1 0 _ rfl).1; go_simp <;> with_reducible rfl)
    try simp only [Go.Last.pt]
    refine Go.Last.take (i := 2) (v := ?v2u106) rfl (by decide +kernel) (by decide +kernel) (by decide +kernel) (fun _ _ _ h => h) (by decide +kernel) (Or.inl ⟨by rfl, ?h2u106⟩) hHeld ?r2u106
    case h2u106 => (intro wq9 hSw; go_simp <;> with_reducible rfl)
    try simp only [Go.Last.pt]
    refine Go.Last.take (i := 3) (v := ?v3u107) rfl (by decide +kernel) (by decide +kernel) (by decide +kernel) (fun _ _ _ h => h) (by decide +kernel) (Or.inl ⟨by rfl, ?h3u107⟩) hHeld ?r3u107
    case h3u107 => (intro wq9 hSw; have m0 := (cells_of hSw.2 0 _ rfl).1; go_simp <;> with_reducible rfl)
    try simp only [Go.Last.pt]
    refine Go.Last.take (i := 4) (v := ?v4u108) rfl (by decide +kernel) (by decide +kernel) (by decide +kernel) (fun _ _ _ h => h) (by decide +kernel) (Or.inl ⟨by rfl, ?h4u108⟩) hHeld ?r4u108
    case h4u108 => (intro wq9 hSw; go_simp <;> with_reducible rfl)
    try simp only [Go.Last.pt]
    refine Go.Last.take (i := 6) (v := ?v6u109) rfl (by decide +kernel) (by decide +kernel) (by decide +kernel) (fun _ _ _ h => h) (by decide +kernel) (Or.inl ⟨by rfl, ?h6u109⟩) hHeld ?r6u109
    case h6u109 => (intro wq9 hSw; go_simp <;> with_reducible rfl)
    try simp only [Go.Last.pt]
    refine Go.Last.take (i := 7) (v := ?v7u110) rfl (by decide +kernel) (by decide +kernel) (by decide +kernel) (fun _ _ _ h => h) (by decide +kernel) (Or.inl ⟨by rfl, ?h7u110⟩) hHeld ?r7u110
    case h7u110 => (intro wq9 hSw; have x1 := (cells_of hSw.1 1 _ rfl).1; go_simp <;> with_reducible rfl)
    try simp only [Go.Last.pt]
    refine Go.Last.take (i := 8) (v := ?v8u111) rfl (by decide +kernel) (by decide +kernel) (by decide +kernel) (fun _ _ _ h => h) (by decide +kernel) (Or.inl ⟨by rfl, ?h8u111⟩) hHeld ?r8u111
    case h8u111 => (intro wq9 hSw; go_simp <;> with_reducible rfl)
    try simp only [Go.Last.pt]
    refine Go.Last.take (i := 9) (v := ?v9u112) rfl (by decide +kernel) (by decide +kernel) (by decide +kernel) (fun _ _ _ h => h) (by decide +kernel) (Or.inl ⟨by rfl, ?h9u112⟩) hHeld ?r9u112
    case h9u112 => (intro wq9 hSw; have m1 := (cells_of hSw.2 1 _ rfl).1; go_simp <;> with_reducible rfl)
    try simp only [Go.Last.pt]
    refine Go.Last.take (i := 10) (v := ?v10u113) rfl (by decide +kernel) (by decide +kernel) (by decide +kernel) (fun _ _ _ h => h) (by decide +kernel) (Or.inl ⟨by rfl, ?h10u113⟩) hHeld ?r10u113
    case h10u113 => (intro wq9 hSw; go_simp <;> with_reducible rfl)
    try simp only [Go.Last.pt]
    refine Go.Last.take (i := 12) (v := ?v12u114) rfl (by decide +kernel) (by decide +kernel) (by decide +kernel) (fun _ _ _ h => h) (by decide +kernel) (Or.inl ⟨by rfl, ?h12u114⟩) hHeld ?r12u114
    case h12u114 => (intro wq9 hSw; go_simp <;> with_reducible rfl)
    try simp only [Go.Last.pt]
    refine Go.Last.take (i := 13) (v := ?v13u115) rfl (by decide +kernel) (by decide +kernel) (by decide +kernel) (fun _ _ _ h => h) (by decide +kernel) (Or.inl ⟨by rfl, ?h13u115⟩) hHeld ?r13u115
    case h13u115 => (intro wq9 hSw; have x2 := (cells_of hSw.1 2 _ rfl).1; have x3 := (cells_of hSw.1 3 _ rfl).1; have x4 := (cells_of hSw.1 4 _ rfl).1; have x5 := (cells_of hSw.1 5 _ rfl).1; go_simp <;> with_reducible rfl)
    try simp only [Go.Last.pt]
    refine Go.Last.take (i := 14) (v := ?v14u116) rfl (by decide +kernel) (by decide +kernel) (by decide +kernel) (fun _ _ _ h => h) (by decide +kernel) (Or.inl ⟨by rfl, ?h14u116⟩) hHeld ?r14u116
    case h14u116 => (intro wq9 hSw; go_simp <;> with_reducible rfl)
    try simp only [Go.Last.pt]
    refine Go.Last.take (i := 15) (v := ?v15u117) rfl (by decide +kernel) (by decide +kernel) (by decide +kernel) (fun _ _ _ h => h) (by decide +kernel) (Or.inl ⟨by rfl, ?h15u117⟩) hHeld ?r15u117
    case h15u117 => (intro wq9 hSw; have m6 := (cells_of hSw.2 6 _ rfl).1; have m7 := (cells_of hSw.2 7 _ rfl).1; have m8 := (cells_of hSw.2 8 _ rfl).1; have m9 := (cells_of hSw.2 9 _ rfl).1; go_simp <;> with_reducible rfl)
    try simp only [Go.Last.pt]
    refine Go.Last.take (i := 16) (v := ?v16u118) rfl (by decide +kernel) (by decide +kernel) (by decide +kernel) (fun _ _ _ h => h) (by decide +kernel) (Or.inl ⟨by rfl, ?h16u118⟩) hHeld ?r16u118
    case h16u118 => (intro wq9 hSw; go_simp <;> with_reducible rfl)
    try simp only [Go.Last.pt]
    refine Go.Last.take (i := 17) (v := ?v17u119) rfl (by decide +kernel) (by decide +kernel) (by decide +kernel) (fun _ _ _ h => h) (by decide +kernel) (Or.inl ⟨by rfl, ?h17u119⟩) hHeld ?r17u119
    case h17u119 => (intro wq9 hSw; have x10 := (cells_of hSw.1 10 _ rfl).1; have x11 := (cells_of hSw.1 11 _ rfl).1; have x12 := (cells_of hSw.1 12 _ rfl).1; have x13 := (cells_of hSw.1 13 _ rfl).1; go_simp <;> with_reducible rfl)
    try simp only [Go.Last.pt]
    refine Go.Last.take (i := 18) (v := ?v18u120) rfl (by decide +kernel) (by decide +kernel) (by decide +kernel) (fun _ _ _ h => h) (by decide +kernel) (Or.inl ⟨by rfl, ?h18u120⟩) hHeld ?r18u120
    case h18u120 => (intro wq9 hSw; go_simp <;> with_reducible rfl)
    try simp only [Go.Last.pt]
    refine Go.Last.take (i := 19) (v := ?v19u121) rfl (by decide +kernel) (by decide +kernel) (by decide +kernel) (fun _ _ _ h => h) (by decide +kernel) (Or.inl ⟨by rfl, ?h19u121⟩) hHeld ?r19u121
    case h19u121 => (intro wq9 hSw; have m10 := (cells_of hSw.2 10 _ rfl).1; have m11 := (cells_of hSw.2 11 _ rfl).1; have m12 := (cells_of hSw.2 12 _ rfl).1; have m13 := (cells_of hSw.2 13 _ rfl).1; go_simp <;> with_reducible rfl)
    try simp only [Go.Last.pt]
    refine Go.Last.ready (rs := [5, 22]) (by decide +kernel) (by simp) ?_
    refine (Go.Last.Next.cons (o := _) rfl (fun K hK => ?_) (Go.Last.Next.cons (o := _) rfl (fun K hK => ?_) Go.Last.Next.nil))
    · go_simp
      (go_at_call 49; (with_reducible refine (c1.out _).mono ?_); rintro e w5 ⟨rfl, hb5⟩; replace hr := Lib.hid (kept_row hr.out hb5); replace hbel := Lib.hid (hbel.out.trans (hb5.mono hbel.out.size)))
      try dsimp only
      refine hK.out _ _ (.of (⟨kept_row hHeld.1 hb5, kept_row hHeld.2 hb5⟩)) (fun hHeld2 => ?_)
      clear hK K hHeld
      have hHeld := hHeld2.resolve_left (by decide)
      clear hHeld2
      try simp only [Go.Last.pt]
      refine Go.Last.ready (rs := [11, 22]) (by decide +kernel) (by simp) ?_
      refine (Go.Last.Next.cons (o := _) rfl (fun K hK => ?_) (Go.Last.Next.cons (o := _) rfl (fun K hK => ?_) Go.Last.Next.nil))
      · go_simp
        (go_at_call 49; (with_reducible refine (c2.out _).mono ?_); rintro e w11 ⟨rfl, hb11⟩; replace hr := Lib.hid (kept_row hr.out hb11); replace hbel := Lib.hid (hbel.out.trans (hb11.mono hbel.out.size)))
        try dsimp only
        refine hK.out _ _ (.of (⟨kept_row hHeld.1 hb11, kept_row hHeld.2 hb11⟩)) (fun hHeld2 => ?_)
        clear hK K hHeld
        have hHeld := hHeld2.resolve_left (by decide)
        clear hHeld2
        try simp only [Go.Last.pt]
        refine Go.Last.ready (rs := [20, 22]) (by decide +kernel) (by simp) ?_
        refine (Go.Last.Next.cons (o := _) rfl (fun K hK => ?_) (Go.Last.Next.cons (o := _) rfl (fun K hK => ?_) Go.Last.Next.nil))
        · go_simp
          (go_at_call 18; (with_reducible refine (c3.out _).mono ?_); rintro e w20 ⟨rfl, hb20⟩; replace hr := Lib.hid (kept_row hr.out hb20); replace hbel := Lib.hid (hbel.out.trans (hb20.mono hbel.out.size)))
          try dsimp only
          refine hK.out _ _ (.of (⟨kept_row hHeld.1 hb20, kept_row hHeld.2 hb20⟩)) (fun hHeld2 => ?_)
          clear hK K hHeld
          have hHeld := hHeld2.resolve_left (by decide)
          clear hHeld2
          try simp only [Go.Last.pt]
          refine Go.Last.ready (rs := [21, 22]) (by decide +kernel) (by simp) ?_
          refine (Go.Last.Next.cons (o := _) rfl (fun K hK => ?_) (Go.Last.Next.cons (o := _) rfl (fun K hK => ?_) Go.Last.Next.nil))
          · go_simp
            try dsimp only
            refine hK.out _ _ (.of (hHeld)) (fun hHeld2 => ?_)
            clear hK K hHeld
            have hHeld := hHeld2.resolve_left (by decide)
            clear hHeld2
            try simp only [Go.Last.pt]
            refine Go.Last.one 22 (by decide +kernel) rfl (fun K hK => ?_)
            go_simp
            have hx := Lib.hid hHeld.1; have hm := Lib.hid hHeld.2
            try dsimp only
            refine hK.out _ _ (.of (⟨kept_alloc9 hHeld.1 _, kept_alloc9 hHeld.2 _⟩)) (fun hHeld2 => ?_)
            clear hK K hHeld
            have hHeld := hHeld2.resolve_left (by decide)
            clear hHeld2
            try simp only [Go.Last.pt]
            refine Go.Last.one 23 (by decide +kernel) rfl (fun K hK => ?_)
            go_simp
            try dsimp only
            refine hK.out _ _ .last (fun _ => ?_)
            clear hK K hHeld
            try simp only [Go.Last.pt]
            refine Go.Last.done (by decide +kernel) ?_ _
            go_wp2
            go_meet
            exact ⟨_, rfl, Lib.hid ⟨World.alloc_heap_new _ _, kept_alloc9 hx.out _, kept_alloc9 hm.out _, kept_alloc9 hr.out _, hbel.out.alloc hbel.out.size _, lt_box hr.out⟩⟩
          · go_simp
            have hx := Lib.hid hHeld.1; have hm := Lib.hid hHeld.2
            try dsimp only
            refine hK.out _ _ (.of (⟨kept_alloc9 hHeld.1 _, kept_alloc9 hHeld.2 _⟩)) (fun hHeld2 => ?_)
            clear hK K hHeld
            have hHeld := hHeld2.resolve_left (by decide)
            clear hHeld2
            try simp only [Go.Last.pt]
            refine Go.Last.one 21 (by decide +kernel) rfl (fun K hK => ?_)
            go_simp
            try dsimp only
            refine hK.out _ _ (.of (hHeld)) (fun hHeld2 => ?_)
            clear hK K hHeld
            have hHeld := hHeld2.resolve_left (by decide)
            clear hHeld2
            try simp only [Go.Last.pt]
            refine Go.Last.one 23 (by decide +kernel) rfl (fun K hK => ?_)
            go_simp
            try dsimp only
            refine hK.out _ _ .last (fun _ => ?_)
            clear hK K hHeld
            try simp only [Go.Last.pt]
            refine Go.Last.done (by decide +kernel) ?_ _
            go_wp2
            go_meet
            exact ⟨_, rfl, Lib.hid ⟨World.alloc_heap_new _ _, kept_alloc9 hx.out _, kept_alloc9 hm.out _, kept_alloc9 hr.out _, hbel.out.alloc hbel.out.size _, lt_box hr.out⟩⟩
        · go_simp
          have hlt := lt_box hr.out; have hn := Lib.hid (World.alloc_heap_new w11 (.cells #[.int .i64 0, .int .i64 0, .int .u64 0, .int .u64 0, .int .u64 0, .int .u64 0, .int .u64 0, .int .u64 0, .int .u64 0, .int .u64 0, .int .u64 0, .int .u64 0, .int .u64 0, .int .u64 0] 57)); replace hr := Lib.hid (kept_alloc9 hr.out (.cells #[.int .i64 0, .int .i64 0, .int .u64 0, .int .u64 0, .int .u64 0, .int .u64 0, .int .u64 0, .int .u64 0, .int .u64 0, .int .u64 0, .int .u64 0, .int .u64 0, .int .u64 0, .int .u64 0] 57)); replace hbel := Lib.hid (hbel.out.alloc hbel.out.size (.cells #[.int .i64 0, .int .i64 0, .int .u64 0, .int .u64 0, .int .u64 0, .int .u64 0, .int .u64 0, .int .u64 0, .int .u64 0, .int .u64 0, .int .u64 0, .int .u64 0, .int .u64 0, .int .u64 0] 57))
          try dsimp only
          refine hK.out _ _ (.of (⟨kept_alloc9 hHeld.1 _, kept_alloc9 hHeld.2 _⟩)) (fun hHeld2 => ?_)
          clear hK K hHeld
          have hHeld := hHeld2.resolve_left (by decide)
          clear hHeld2
          try simp only [Go.Last.pt]
          refine Go.Last.one 20 (by decide +kernel) rfl (fun K hK => ?_)
          go_simp
          (go_at_call 18; (with_reducible refine (c3.out _).mono ?_); rintro e w20 ⟨rfl, hb20⟩; replace hr := Lib.hid (kept_row hr.out hb20); replace hbel := Lib.hid (hbel.out.trans (hb20.mono hbel.out.size)); replace hn := Lib.hid (kept_row hn.out hb20))
          try dsimp only
          refine hK.out _ _ (.of (⟨kept_row hHeld.1 hb20, kept_row hHeld.2 hb20⟩)) (fun hHeld2 => ?_)
          clear hK K hHeld
          have hHeld := hHeld2.resolve_left (by decide)
          clear hHeld2
          try simp only [Go.Last.pt]
          refine Go.Last.one 21 (by decide +kernel) rfl (fun K hK => ?_)
          go_simp
          have hx := Lib.hid hHeld.1; have hm := Lib.hid hHeld.2; obtain ⟨y0, f0, y1, f1, y2, f2, y3, f3, y4, f4, y5, f5, y6, f6, y7, f7, y8, f8, y9, f9, y10, f10, y11, f11, y12, f12, y13, f13⟩ := d14 hn.out
          try dsimp only
          refine hK.out _ _ (.of (hHeld)) (fun hHeld2 => ?_)
          clear hK K hHeld
          have hHeld := hHeld2.resolve_left (by decide)
          clear hHeld2
          try simp only [Go.Last.pt]
          refine Go.Last.one 23 (by decide +kernel) rfl (fun K hK => ?_)
          go_simp
          try dsimp only
          refine hK.out _ _ .last (fun _ => ?_)
          clear hK K hHeld
          try simp only [Go.Last.pt]
          refine Go.Last.done (by decide +kernel) ?_ _
          clear y0 y1 y2 y3 y4 y5 y6 y7 y8 y9 y10 y11 y12 y13 f0 f1 f2 f3 f4 f5 f6 f7 f8 f9 f10 f11 f12 f13
          obtain ⟨q1, q2, q3, q4⟩ := set14 (d0 := .int .i64 (cut20 P1)) (d1 := .int .i64 (cut20 P2)) (d2 := .int .u64 (S1.wd (F) 0)) (d3 := .int .u64 (S1.wd (F) 1)) (d4 := .int .u64 (S1.wd (F) 2)) (d5 := .int .u64 (S1.wd (F) 3)) (d6 := .int .u64 (S1.wd (G') 0)) (d7 := .int .u64 (S1.wd (G') 1)) (d8 := .int .u64 (S1.wd (G') 2)) (d9 := .int .u64 (S1.wd (G') 3)) (d10 := .int .u64 (S1.wd (S1.orS H H') 0)) (d11 := .int .u64 (S1.wd (S1.orS H H') 1)) (d12 := .int .u64 (S1.wd (S1.orS H H') 2)) (d13 := .int .u64 (S1.wd (S1.orS H H') 3)) hn.out _ rfl
          generalize hW : World.setCell _ (⟨w11.heap.size, 13, none⟩ : Addr) _ = W9 at *
          clear hW
          go_wp2
          go_meet
          exact ⟨_, rfl, Lib.hid ⟨q1, (q3 _ (by omega)).trans hx.out, (q3 _ (by omega)).trans hm.out, (q3 _ (by omega)).trans hr.out, hbel.out.trans (q4 _ (by omega)), by omega⟩⟩
      · go_simp
        have hlt := lt_box hr.out; have hn := Lib.hid (World.alloc_heap_new w5 (.cells #[.int .i64 0, .int .i64 0, .int .u64 0, .int .u64 0, .int .u64 0, .int .u64 0, .int .u64 0, .int .u64 0, .int .u64 0, .int .u64 0, .int .u64 0, .int .u64 0, .int .u64 0, .int .u64 0] 57)); replace hr := Lib.hid (kept_alloc9 hr.out (.cells #[.int .i64 0, .int .i64 0, .int .u64 0, .int .u64 0, .int .u64 0, .int .u64 0, .int .u64 0, .int .u64 0, .int .u64 0, .int .u64 0, .int .u64 0, .int .u64 0, .int .u64 0, .int .u64 0] 57)); replace hbel := Lib.hid (hbel.out.alloc hbel.out.size (.cells #[.int .i64 0, .int .i64 0, .int .u64 0, .int .u64 0, .int .u64 0, .int .u64 0, .int .u64 0, .int .u64 0, .int .u64 0, .int .u64 0, .int .u64 0, .int .u64 0, .int .u64 0, .int .u64 0] 57))
        try dsimp only
        refine hK.out _ _ (.of (⟨kept_alloc9 hHeld.1 _, kept_alloc9 hHeld.2 _⟩)) (fun hHeld2 => ?_)
        clear hK K hHeld
        have hHeld := hHeld2.resolve_left (by decide)
        clear hHeld2
        try simp only [Go.Last.pt]
        refine Go.Last.one 11 (by decide +kernel) rfl (fun K hK => ?_)
        go_simp
        (go_at_call 49; (with_reducible refine (c2.out _).mono ?_); rintro e w11 ⟨rfl, hb11⟩; replace hr := Lib.hid (kept_row hr.out hb11); replace hbel := Lib.hid (hbel.out.trans (hb11.mono hbel.out.size)); replace hn := Lib.hid (kept_row hn.out hb11))
        try dsimp only
        refine hK.out _ _ (.of (⟨kept_row hHeld.1 hb11, kept_row hHeld.2 hb11⟩)) (fun hHeld2 => ?_)
        clear hK K hHeld
        have hHeld := hHeld2.resolve_left (by decide)
        clear hHeld2
        try simp only [Go.Last.pt]
        refine Go.Last.one 20 (by decide +kernel) rfl (fun K hK => ?_)
        go_simp
        (go_at_call 18; (with_reducible refine (c3.out _).mono ?_); rintro e w20 ⟨rfl, hb20⟩; replace hr := Lib.hid (kept_row hr.out hb20); replace hbel := Lib.hid (hbel.out.trans (hb20.mono hbel.out.size)); replace hn := Lib.hid (kept_row hn.out hb20))
        try dsimp only
        refine hK.out _ _ (.of (⟨kept_row hHeld.1 hb20, kept_row hHeld.2 hb20⟩)) (fun hHeld2 => ?_)
        clear hK K hHeld
        have hHeld := hHeld2.resolve_left (by decide)
        clear hHeld2
        try simp only [Go.Last.pt]
        refine Go.Last.one 21 (by decide +kernel) rfl (fun K hK => ?_)
        go_simp
        have hx := Lib.hid hHeld.1; have hm := Lib.hid hHeld.2; obtain ⟨y0, f0, y1, f1, y2, f2, y3, f3, y4, f4, y5, f5, y6, f6, y7, f7, y8, f8, y9, f9, y10, f10, y11, f11, y12, f12, y13, f13⟩ := d14 hn.out
        try dsimp only
        refine hK.out _ _ (.of (hHeld)) (fun hHeld2 => ?_)
        clear hK K hHeld
        have hHeld := hHeld2.resolve_left (by decide)
        clear hHeld2
        try simp only [Go.Last.pt]
        refine Go.Last.one 23 (by decide +kernel) rfl (fun K hK => ?_)
        go_simp
        try dsimp only
        refine hK.out _ _ .last (fun _ => ?_)
        clear hK K hHeld
        try simp only [Go.Last.pt]
        refine Go.Last.done (by decide +kernel) ?_ _
        clear y0 y1 y2 y3 y4 y5 y6 y7 y8 y9 y10 y11 y12 y13 f0 f1 f2 f3 f4 f5 f6 f7 f8 f9 f10 f11 f12 f13
        obtain ⟨q1, q2, q3, q4⟩ := set14 (d0 := .int .i64 (cut20 P1)) (d1 := .int .i64 (cut20 P2)) (d2 := .int .u64 (S1.wd (F) 0)) (d3 := .int .u64 (S1.wd (F) 1)) (d4 := .int .u64 (S1.wd (F) 2)) (d5 := .int .u64 (S1.wd (F) 3)) (d6 := .int .u64 (S1.wd (G') 0)) (d7 := .int .u64 (S1.wd (G') 1)) (d8 := .int .u64 (S1.wd (G') 2)) (d9 := .int .u64 (S1.wd (G') 3)) (d10 := .int .u64 (S1.wd (S1.orS H H') 0)) (d11 := .int .u64 (S1.wd (S1.orS H H') 1)) (d12 := .int .u64 (S1.wd (S1.orS H H') 2)) (d13 := .int .u64 (S1.wd (S1.orS H H') 3)) hn.out _ rfl
        generalize hW : World.setCell _ (⟨w5.heap.size, 13, none⟩ : Addr) _ = W9 at *
        clear hW
        go_wp2
        go_meet
        exact ⟨_, rfl, Lib.hid ⟨q1, (q3 _ (by omega)).trans hx.out, (q3 _ (by omega)).trans hm.out, (q3 _ (by omega)).trans hr.out, hbel.out.trans (q4 _ (by omega)), by omega⟩⟩
    · go_simp
      have hlt := lt_box hr.out; have hn := Lib.hid (World.alloc_heap_new wd (.cells #[.int .i64 0, .int .i64 0, .int .u64 0, .int .u64 0, .int .u64 0, .int .u64 0, .int .u64 0, .int .u64 0, .int .u64 0, .int .u64 0, .int .u64 0, .int .u64 0, .int .u64 0, .int .u64 0] 57)); replace hr := Lib.hid (kept_alloc9 hr.out (.cells #[.int .i64 0, .int .i64 0, .int .u64 0, .int .u64 0, .int .u64 0, .int .u64 0, .int .u64 0, .int .u64 0, .int .u64 0, .int .u64 0, .int .u64 0, .int .u64 0, .int .u64 0, .int .u64 0] 57)); replace hbel := Lib.hid (hbel.out.alloc hbel.out.size (.cells #[.int .i64 0, .int .i64 0, .int .u64 0, .int .u64 0, .int .u64 0, .int .u64 0, .int .u64 0, .int .u64 0, .int .u64 0, .int .u64 0, .int .u64 0, .int .u64 0, .int .u64 0, .int .u64 0] 57))
      try dsimp only
      refine hK.out _ _ (.of (⟨kept_alloc9 hHeld.1 _, kept_alloc9 hHeld.2 _⟩)) (fun hHeld2 => ?_)
      clear hK K hHeld
      have hHeld := hHeld2.resolve_left (by decide)
      clear hHeld2
      try simp only [Go.Last.pt]
      refine Go.Last.one 5 (by decide +kernel) rfl (fun K hK => ?_)
      go_simp
      (go_at_call 49; (with_reducible refine (c1.out _).mono ?_); rintro e w5 ⟨rfl, hb5⟩; replace hr := Lib.hid (kept_row hr.out hb5); replace hbel := Lib.hid (hbel.out.trans (hb5.mono hbel.out.size)); replace hn := Lib.hid (kept_row hn.out hb5))
      try dsimp only
      refine hK.out _ _ (.of (⟨kept_row hHeld.1 hb5, kept_row hHeld.2 hb5⟩)) (fun hHeld2 => ?_)
      clear hK K hHeld
      have hHeld := hHeld2.resolve_left (by decide)
      clear hHeld2
      try simp only [Go.Last.pt]
      refine Go.Last.one 11 (by decide +kernel) rfl (fun K hK => ?_)
      go_simp
      (go_at_call 49; (with_reducible refine (c2.out _).mono ?_); rintro e w11 ⟨rfl, hb11⟩; replace hr := Lib.hid (kept_row hr.out hb11); replace hbel := Lib.hid (hbel.out.trans (hb11.mono hbel.out.size)); replace hn := Lib.hid (kept_row hn.out hb11))
      try dsimp only
      refine hK.out _ _ (.of (⟨kept_row hHeld.1 hb11, kept_row hHeld.2 hb11⟩)) (fun hHeld2 => ?_)
      clear hK K hHeld
      have hHeld := hHeld2.resolve_left (by decide)
      clear hHeld2
      try simp only [Go.Last.pt]
      refine Go.Last.one 20 (by decide +kernel) rfl (fun K hK => ?_)
      go_simp
      (go_at_call 18; (with_reducible refine (c3.out _).mono ?_); rintro e w20 ⟨rfl, hb20⟩; replace hr := Lib.hid (kept_row hr.out hb20); replace hbel := Lib.hid (hbel.out.trans (hb20.mono hbel.out.size)); replace hn := Lib.hid (kept_row hn.out hb20))
      try dsimp only
      refine hK.out _ _ (.of (⟨kept_row hHeld.1 hb20, kept_row hHeld.2 hb20⟩)) (fun hHeld2 => ?_)
      clear hK K hHeld
      have hHeld := hHeld2.resolve_left (by decide)
      clear hHeld2
      try simp only [Go.Last.pt]
      refine Go.Last.one 21 (by decide +kernel) rfl (fun K hK => ?_)
      go_simp
      have hx := Lib.hid hHeld.1; have hm := Lib.hid hHeld.2; obtain ⟨y0, f0, y1, f1, y2, f2, y3, f3, y4, f4, y5, f5, y6, f6, y7, f7, y8, f8, y9, f9, y10, f10, y11, f11, y12, f12, y13, f13⟩ := d14 hn.out
      try dsimp only
      refine hK.out _ _ (.of (hHeld)) (fun hHeld2 => ?_)
      clear hK K hHeld
      have hHeld := hHeld2.resolve_left (by decide)
      clear hHeld2
      try simp only [Go.Last.pt]
      refine Go.Last.one 23 (by decide +kernel) rfl (fun K hK => ?_)
      go_simp
      try dsimp only
      refine hK.out _ _ .last (fun _ => ?_)
      clear hK K hHeld
      try simp only [Go.Last.pt]
      refine Go.Last.done (by decide +kernel) ?_ _
      clear y0 y1 y2 y3 y4 y5 y6 y7 y8 y9 y10 y11 y12 y13 f0 f1 f2 f3 f4 f5 f6 f7 f8 f9 f10 f11 f12 f13
      obtain ⟨q1, q2, q3, q4⟩ := set14 (d0 := .int .i64 (cut20 P1)) (d1 := .int .i64 (cut20 P2)) (d2 := .int .u64 (S1.wd (F) 0)) (d3 := .int .u64 (S1.wd (F) 1)) (d4 := .int .u64 (S1.wd (F) 2)) (d5 := .int .u64 (S1.wd (F) 3)) (d6 := .int .u64 (S1.wd (G') 0)) (d7 := .int .u64 (S1.wd (G') 1)) (d8 := .int .u64 (S1.wd (G') 2)) (d9 := .int .u64 (S1.wd (G') 3)) (d10 := .int .u64 (S1.wd (S1.orS H H') 0)) (d11 := .int .u64 (S1.wd (S1.orS H H') 1)) (d12 := .int .u64 (S1.wd (S1.orS H H') 2)) (d13 := .int .u64 (S1.wd (S1.orS H H') 3)) hn.out _ rfl
      generalize hW : World.setCell _ (⟨wd.heap.size, 13, none⟩ : Addr) _ = W9 at *
      clear hW
      go_wp2
      go_meet
      exact ⟨_, rfl, Lib.hid ⟨q1, (q3 _ (by omega)).trans hx.out, (q3 _ (by omega)).trans hm.out, (q3 _ (by omega)).trans hr.out, hbel.out.trans (q4 _ (by omega)), by omega⟩⟩
  case rest =>
    clear hx hm hr hbel hV hV' c1 c2 c3 k1 k2
    obtain ⟨b, rfl, hf⟩ := hcut
    obtain ⟨f0, f1, f2, f3, f4, hlt⟩ := hf.out
    have hk := Lib.hid f0
    have hx := Lib.hid f1
    have hm := Lib.hid f2
    have hr := Lib.hid f3
    have hbel := Lib.hid f4
    clear hf f0 f1 f2 f3 f4
    obtain ⟨x0, x1, x2, x3, x4, x5, x6, x7, x8, x9, x10, x11, x12, x13⟩ := c14 hx.out
    go_upto_region 6 with (first | (go_at_call 33; (with_reducible refine (hN.out _).mono ?_); rintro e w1 ⟨rfl, hb1⟩; replace hx := Lib.hid (kept_row hx.out hb1); replace hm := Lib.hid (kept_row hm.out hb1); replace hr := Lib.hid (kept_row hr.out hb1); replace hbel := Lib.hid (hbel.out.trans (hb1.mono hbel.out.size)); replace hk := Lib.hid (kept_row hk.out hb1); clear hb1; (try clear x0 x1 x2 x3 x4 x5 x6 x7 x8 x9 x10 x11 x12 x13); obtain ⟨m2, -⟩ := cells_of hm.out 2 _ rfl; obtain ⟨m3, -⟩ := cells_of hm.out 3 _ rfl; obtain ⟨m4, -⟩ := cells_of hm.out 4 _ rfl; obtain ⟨m5, -⟩ := cells_of hm.out 5 _ rfl; obtain ⟨k2, -⟩ := cells_of hk.out 2 _ rfl; obtain ⟨k3, -⟩ := cells_of hk.out 3 _ rfl; obtain ⟨k4, -⟩ := cells_of hk.out 4 _ rfl; obtain ⟨k5, -⟩ := cells_of hk.out 5 _ rfl) | (go_at_call 18; (with_reducible refine (c4.out _).mono ?_); rintro e w1 ⟨rfl, hb1⟩; replace hx := Lib.hid (kept_row hx.out hb1); replace hm := Lib.hid (kept_row hm.out hb1); replace hr := Lib.hid (kept_row hr.out hb1); replace hbel := Lib.hid (hbel.out.trans (hb1.mono hbel.out.size)); replace hk := Lib.hid (kept_row hk.out hb1); clear hb1; (try clear m2 m3 m4 m5); (try clear k2 k3 k4 k5); obtain ⟨k2, g2⟩ := cells_of hk.out 2 _ rfl; obtain ⟨k3, g3⟩ := cells_of hk.out 3 _ rfl; obtain ⟨k4, g4⟩ := cells_of hk.out 4 _ rfl; obtain ⟨k5, g5⟩ := cells_of hk.out 5 _ rfl))
    (try clear k2 k3 k4 k5); (try clear g2 g3 g4 g5)
    obtain ⟨q1, q2, q3, q4⟩ := set_fs (d0 := .int .u64 (S1.wd (S1.orS F F') 0)) (d1 := .int .u64 (S1.wd (S1.orS F F') 1)) (d2 := .int .u64 (S1.wd (S1.orS F F') 2)) (d3 := .int .u64 (S1.wd (S1.orS F F') 3)) hk.out _ rfl
    generalize hW : World.setCell _ (⟨b, 5, none⟩ : Addr) _ = W8 at *
    clear hW
    replace hk := Lib.hid q1
    replace hx := Lib.hid ((q3 _ (by omega)).trans hx.out)
    replace hm := Lib.hid ((q3 _ (by omega)).trans hm.out)
    replace hr := Lib.hid ((q3 _ (by omega)).trans hr.out)
    replace hbel := Lib.hid (hbel.out.trans (q4 _ (by omega)))
    clear q1 q2 q3 q4
    obtain ⟨m0, m1, m2, m3, m4, m5, m6, m7, m8, m9, m10, m11, m12, m13⟩ := c14 hm.out
    go_upto_region 8 with (first | (go_at_call 33; (with_reducible refine (hN'.out _).mono ?_); rintro e w1 ⟨rfl, hb1⟩; replace hx := Lib.hid (kept_row hx.out hb1); replace hm := Lib.hid (kept_row hm.out hb1); replace hr := Lib.hid (kept_row hr.out hb1); replace hbel := Lib.hid (hbel.out.trans (hb1.mono hbel.out.size)); replace hk := Lib.hid (kept_row hk.out hb1); clear hb1; (try clear m0 m1 m2 m3 m4 m5 m6 m7 m8 m9 m10 m11 m12 m13); obtain ⟨x6, -⟩ := cells_of hx.out 6 _ rfl; obtain ⟨x7, -⟩ := cells_of hx.out 7 _ rfl; obtain ⟨x8, -⟩ := cells_of hx.out 8 _ rfl; obtain ⟨x9, -⟩ := cells_of hx.out 9 _ rfl; obtain ⟨k6, -⟩ := cells_of hk.out 6 _ rfl; obtain ⟨k7, -⟩ := cells_of hk.out 7 _ rfl; obtain ⟨k8, -⟩ := cells_of hk.out 8 _ rfl; obtain ⟨k9, -⟩ := cells_of hk.out 9 _ rfl) | (go_at_call 18; (with_reducible refine (c5.out _).mono ?_); rintro e w1 ⟨rfl, hb1⟩; replace hx := Lib.hid (kept_row hx.out hb1); replace hm := Lib.hid (kept_row hm.out hb1); replace hr := Lib.hid (kept_row hr.out hb1); replace hbel := Lib.hid (hbel.out.trans (hb1.mono hbel.out.size)); replace hk := Lib.hid (kept_row hk.out hb1); clear hb1; (try clear x6 x7 x8 x9); (try clear k6 k7 k8 k9); obtain ⟨k6, g6⟩ := cells_of hk.out 6 _ rfl; obtain ⟨k7, g7⟩ := cells_of hk.out 7 _ rfl; obtain ⟨k8, g8⟩ := cells_of hk.out 8 _ rfl; obtain ⟨k9, g9⟩ := cells_of hk.out 9 _ rfl))
    (try clear k6 k7 k8 k9); (try clear g6 g7 g8 g9)
    obtain ⟨q1, q2, q3, q4⟩ := set_ls (d0 := .int .u64 (S1.wd (S1.orS G' G) 0)) (d1 := .int .u64 (S1.wd (S1.orS G' G) 1)) (d2 := .int .u64 (S1.wd (S1.orS G' G) 2)) (d3 := .int .u64 (S1.wd (S1.orS G' G) 3)) hk.out _ rfl
    generalize hW : World.setCell _ (⟨b, 9, none⟩ : Addr) _ = W8 at *
    clear hW
    replace hk := Lib.hid q1
    replace hx := Lib.hid ((q3 _ (by omega)).trans hx.out)
    replace hm := Lib.hid ((q3 _ (by omega)).trans hm.out)
    replace hr := Lib.hid ((q3 _ (by omega)).trans hr.out)
    replace hbel := Lib.hid (hbel.out.trans (q4 _ (by omega)))
    clear q1 q2 q3 q4
    obtain ⟨k0, k1, k2, k3, k4, k5, k6, k7, k8, k9, k10, k11, k12, k13⟩ := c14 hk.out
    obtain ⟨y0, f0, y1, f1, y2, f2, y3, f3, y4, f4, y5, f5, y6, f6, y7, f7, y8, f8, y9, f9, y10, f10, y11, f11, y12, f12, y13, f13⟩ := d14 hr.out
    go_wp2
    clear y0 y1 y2 y3 y4 y5 y6 y7 y8 y9 y10 y11 y12 y13 f0 f1 f2 f3 f4 f5 f6 f7 f8 f9 f10 f11 f12 f13
    clear k0 k1 k2 k3 k4 k5 k6 k7 k8 k9 k10 k11 k12 k13
    obtain ⟨q1, q2, q3, q4⟩ := set14 (d0 := .int .i64 (cut20 P1)) (d1 := .int .i64 (cut20 P2)) (d2 := .int .u64 (S1.wd (S1.orS F F') 0)) (d3 := .int .u64 (S1.wd (S1.orS F F') 1)) (d4 := .int .u64 (S1.wd (S1.orS F F') 2)) (d5 := .int .u64 (S1.wd (S1.orS F F') 3)) (d6 := .int .u64 (S1.wd (S1.orS G' G) 0)) (d7 := .int .u64 (S1.wd (S1.orS G' G) 1)) (d8 := .int .u64 (S1.wd (S1.orS G' G) 2)) (d9 := .int .u64 (S1.wd (S1.orS G' G) 3)) (d10 := .int .u64 (S1.wd (S1.orS H H') 0)) (d11 := .int .u64 (S1.wd (S1.orS H H') 1)) (d12 := .int .u64 (S1.wd (S1.orS H H') 2)) (d13 := .int .u64 (S1.wd (S1.orS H H') 3)) hr.out _ rfl
    generalize hW : World.setCell _ (⟨w.heap.size + 1 + 1, 13, none⟩ : Addr) _ = W9 at *
    clear hW
    obtain ⟨o0, o1, o2, o3, o4, o5, o6, o7, o8, o9, o10, o11, o12, o13⟩ := c14 q1
    refine bodyPost_ret (v := .agg #[.int .i64 (cut20 P1), .int .i64 (cut20 P2), .int .u64 (S1.wd (S1.orS F F') 0), .int .u64 (S1.wd (S1.orS F F') 1), .int .u64 (S1.wd (S1.orS F F') 2), .int .u64 (S1.wd (S1.orS F F') 3), .int .u64 (S1.wd (S1.orS G' G) 0), .int .u64 (S1.wd (S1.orS G' G) 1), .int .u64 (S1.wd (S1.orS G' G) 2), .int .u64 (S1.wd (S1.orS G' G) 3), .int .u64 (S1.wd (S1.orS H H') 0), .int .u64 (S1.wd (S1.orS H H') 1), .int .u64 (S1.wd (S1.orS H H') 2), .int .u64 (S1.wd (S1.orS H H') 3)]) (by simp [results, Tryd.results60, go_sem, o0, o1, o2, o3, o4, o5, o6, o7, o8, o9, o10, o11, o12, o13]) rfl ?_
    exact ⟨rfl, hbel.out.trans (q4 _ (by omega))⟩
end Go.Proofs.YtaebhbcamhmhoaaDoor
